import PyProof.Rows.All
import Wide.All
import OpenK.AllK
import Wide.FinOn
import Lean
import PyProof.EqAt
import PyProof.EqKinds
import PyProof.TupleCall
import PyProof.WalksEnum
import PyProof.EnumMake
import PyProof.ZipIter
import PyProof.ReprStr
import PyProof.StrBlockG
import PyProof.StrWalks
import PyProof.FString5
import PyProof.ConsumeWalk
import PyProof.SumAny
import PyProof.StrCalls2
import KE.KDictList
import PyProof.Draws
import PyProof.StrBlock2
import PyProof.DictIter
import PyProof.ExcInit
import PyProof.ExcClass3
import PyProof.FString
import PyProof.FitsInt
import PyProof.StrLawsRepr
import PyProof.Rows.Range3
import PyProof.StrCalls
import PyProof.ListRange
import PyProof.AttrMissHeap
import KE.KDictOf
import PyProof.StrCalls3
import PyProof.FactsAll.dict_2
import PyProof.MeetsIn
import PyProof.Cells
import KE.KDictSum
import PyProof.DictWalks
import KE.KRevIter
import PyProof.FactsAll.subtypes_3
import PyProof.Rows.SortWalk
import KE.KSortedM
import PyProof.Rows.SortStr
import PyProof.MinMaxWalk
import PyProof.WalkInts
import PyProof.SeqI3
import PyProof.Rows.CallKwBuiltin
import KE.KUnpack
import PyProof.Rows.SeqMore2
import PySem.Challenge.RW_strokegrow_k51_whole_letter_by_its_word
theorem AA3 {a b:Nat}(h:Nat.ble a b=true:=by rfl):a<=b:=Nat.le_of_ble_eq_true h
set_option Elab.async false
set_option linter.all false
set_option maxRecDepth 100000
namespace L2
open PySem PySem.Spec PyProof.Rows
noncomputable abbrev Key:=Sum Int Str
noncomputable def wq:Key->Value->Bool
 | .inl k,v=>Value.isInt k v
 | .inr x,v=>Value.isStrOf x v
noncomputable def Uo (w:World):Key->Int
 | .inl k=>hashInt k
 | .inr x=>hashStr w x
theorem cE:∀ {k:Key} {v:Value},wq k v=true->(∃ i t,k=Sum.inl i/\v=Value.int i t)\/(∃ x t,k=Sum.inr x/\v=Value.str x t)
 | .inl i,v,h=>by
   obtain⟨t,e⟩:=Value.isInt_shape (k:=i) (v:=v) h
   exact .inl ⟨i,t,rfl,e⟩
 | .inr x,v,h=>by
   obtain⟨t,e⟩:=Value.isStrOf_shape (x:=x) (v:=v) h
   exact .inr ⟨x,t,rfl,e⟩
theorem DG (i:Int)(t:Tok):wq (.inl i) (.int i t)=true:=by simp[wq,Value.isInt]
theorem DH (x:Str)(t:Tok):wq (.inr x) (.str x t)=true:=by simp[wq,Value.isStrOf]
theorem MD (a b:Int):decide ((Sum.inl a:Key)=Sum.inl b)=(a == b):=by
 by_cases e:a=b
 . subst e;simp
 . have h:¬ (Sum.inl a:Key)=Sum.inl b:=fun q=>e (Sum.inl.inj q)
   rw[decide_eq_false h]
   exact(beq_eq_false_iff_ne.mpr e).symm
theorem ME (a b:Str):decide ((Sum.inr a:Key)=Sum.inr b)=decide (a=b):=by
 by_cases e:a=b
 . subst e;simp
 . have h:¬ (Sum.inr a:Key)=Sum.inr b:=fun q=>e (Sum.inr.inj q)
   rw[decide_eq_false h,decide_eq_false e]
theorem MG (a:Int)(b:Str):decide ((Sum.inl a:Key)=Sum.inr b)=false:=decide_eq_false (fun q=>nomatch q)
theorem MH (a:Str)(b:Int):decide ((Sum.inr a:Key)=Sum.inl b)=false:=decide_eq_false (fun q=>nomatch q)
noncomputable def cA (prog:Program)(w:World):PySem.KeyKind prog w Key where
 is:=wq
 hash:=Uo w
 inj:=fun v a b ha hb=>by
   rcases cE ha with⟨i,t,rfl,rfl⟩ | ⟨x,t,rfl,rfl⟩
   . rcases cE hb with⟨j,u,rfl,e⟩ | ⟨y,u,rfl,e⟩
     . injection e with e1 _;rw[e1]
     . exact nomatch e
   . rcases cE hb with⟨j,u,rfl,e⟩ | ⟨y,u,rfl,e⟩
     . exact nomatch e
     . injection e with e1 _;rw[e1]
 byValue:=fun k v h=>by
   rcases cE h with⟨i,t,rfl,rfl⟩ | ⟨x,t,rfl,rfl⟩ <;> rfl
 pyHash:=fun hv h=>by
   rcases cE hv with⟨i,t,rfl,rfl⟩ | ⟨x,t,rfl,rfl⟩
   . exact wpAny_pyHash_int h
   . exact wpAny_pyHash_str h
 eqBool:=fun hu hv h=>by
   rcases cE hu with⟨i,t,rfl,rfl⟩ | ⟨x,t,rfl,rfl⟩
   . rcases cE hv with⟨j,u,rfl,rfl⟩ | ⟨y,u,rfl,rfl⟩
     . rw[MD] at h;exact wpAny_eqBool_int h
     . rw[MG] at h;exact SeqAt.EqAt.int_str i t y u _ _ _ _ h
   . rcases cE hv with⟨j,u,rfl,rfl⟩ | ⟨y,u,rfl,rfl⟩
     . rw[MH] at h;exact SeqAt.EqAt.str_int x t j u _ _ _ _ h
     . rw[ME] at h;exact wpAny_eqBool_str h
 «strs»:=fun k x t v h=>by
   rcases cE h with⟨i,u,rfl,e⟩ | ⟨y,u,rfl,e⟩
   . exact nomatch e
   . injection e with e1 _
     subst e1
     cases v <;> rfl
theorem ze (prog:Program)(w:World)(i:Int)(t:Tok):(cA prog w).is (.inl i) (.int i t)=true:=DG i t
theorem zf (prog:Program)(w:World)(x:Str)(t:Tok):(cA prog w).is (.inr x) (.str x t)=true:=DH x t
inductive V where
 | cF | bl (b:Bool) | int (i:Int) | str (x:Str) | EY (b:Array UInt8) | MI (b:UInt64) | ref (a:Addr) | ty (n:String)
 deriving DecidableEq
noncomputable def RelV:V->Value->Prop
 | .cF,u=>u=Value.none
 | .bl b,u=>u=Value.bool b
 | .int i,u=>∃ t,u=Value.int i t
 | .str x,u=>∃ t,u=Value.str x t
 | .EY b,u=>∃ t,u=Value.bytes b t
 | .MI b,u=>∃ t,u=Value.float b t
 | .ref a,u=>u=Value.ref a
 | .ty n,u=>u=Value.type n
noncomputable abbrev Vals:List V->List Value->Prop:=Paired RelV
theorem Vals.length {xs:List V}{us:List Value}(r:Vals xs us):xs.length=us.length:=Paired.length r
theorem Vals.get:∀ {xs:List V} {us:List Value} {i:Nat} {x:V},Vals xs us->xs[i]?=some x->∃ u,us[i]?=some u/\RelV x u
 | _,_,_,_,.nil,e=>by simp at e
 | _,_,0,_,.cons r _,e=>by simp at e;subst e;exact⟨_,rfl,r⟩
 | _,_,i+1,x,.cons _ t,e=>by
   obtain⟨u,h1,h2⟩:=Vals.get (i:=i) (x:=x) t (by simpa using e)
   exact⟨u,by simpa using h1,h2⟩
theorem Vals.set {x:V}{u:Value}(r:RelV x u):∀ {xs:List V} {us:List Value} (i:Nat),Vals xs us->Vals (xs.set i x) (us.set i u)
 | _,_,_,.nil=>.nil
 | _,_,0,.cons _ t=>.cons r t
 | _,_,i+1,.cons q t=>.cons q (Vals.set r i t)
theorem Vals.append:∀ {xs ys:List V} {us ws:List Value},Vals xs us->Vals ys ws->Vals (xs ++ ys) (us ++ ws)
 | _,_,_,_,.nil,s=>s
 | _,_,_,_,.cons r t,s=>.cons r (Vals.append t s)
theorem Vals.take:∀ {xs:List V} {us:List Value} (n:Nat),Vals xs us->Vals (xs.take n) (us.take n)
 | _,_,0,_=>.nil
 | _,_,_+1,.nil=>.nil
 | _,_,n+1,.cons r t=>.cons r (Vals.take n t)
theorem Vals.drop:∀ {xs:List V} {us:List Value} (n:Nat),Vals xs us->Vals (xs.drop n) (us.drop n)
 | _,_,0,r=>r
 | _,_,_+1,.nil=>.nil
 | _,_,n+1,.cons _ t=>Vals.drop n t
noncomputable def oe:Option V->Option Value->Prop
 | some v,some u=>RelV v u
 | none,none=>True
 | _,_=>False
noncomputable def KV {κ:Type}:List (κ×V)->List (κ×Value)->Prop:=Paired fun(p:κ×V) (q:κ×Value)=>p.1=q.1/\RelV p.2 q.2
noncomputable def kV:Key->V
 | .inl i=>.int i
 | .inr x=>.str x
inductive FD where
 | int (i:Int)
 | dZ (kds:List (Key×Int))
 | lst (ns:List Int)
 | tup (K:W.Frag) (ns:List Int)
 | obj (C:Addr) (fs:List (Str×FD))
noncomputable abbrev iK:=List (Addr×(Nat->List (Key×FD)))
inductive HO where
   | lst (xs:List V)
   | tup (xs:List V)
   | dK (kvs:List (Key×V)) | dT (kvs:List (List Key×V))
   | set (S:Int->Bool) (n:Nat)
   | ins (C dx:Addr) (fs:List (Str×V))
   | own (x:Addr)
   | xd (fs:List (Str×V))
   | met (f x:Addr)
   | Up (lo hi:Int)
   | aW (o:Obj) (u:HO)
   | MJ (ps:Array Value)
   | ext (φ:Heap->Prop)
   | memo (ls:iK)
 | bw (ls:iK) (ns:List Nat)
   | part (p:Addr)
   | kd (tg:Option (Addr×Nat)) (o:Obj) (kvs:List (Key×V))
   | kx (o:Obj) (u:HO)
noncomputable abbrev Hp:=Addr->Option HO
noncomputable def upd (H:Hp)(a:Addr)(o:HO):Hp:=fun b=>if b=a then some o else H b
theorem aj {H:Hp}{a:Addr}{o:HO}:upd H a o a=some o:=by unfold upd;rw[if_pos rfl]
theorem ag {H:Hp}{a b:Addr}{o:HO}(h:b≠a):upd H a o b=H b:=by unfold upd;rw[if_neg h]
theorem sy {H:Hp}{a:Addr}{o u:HO}:upd (upd H a o) a u=upd H a u:=by
 funext b;unfold upd;split <;> rfl
theorem Ql {H:Hp}{a b:Addr}{o u:HO}(h:H a=some o)(h':H b=some u)(d:o≠u):a≠b:=by
 intro e;subst e;rw[h] at h';exact d (Option.some.inj h')
theorem aw {H:Hp}{a b:Addr}{o:HO}(h:H a=some o)(h':H b=none):a≠b:=by
 intro e;subst e;rw[h] at h';cases h'
noncomputable def kT:Option HO->Prop
 | some (.memo _)=>True
 | some (.bw _ _)=>True
 | some (.part _)=>True
 | _=>False
noncomputable def Kept:HO->Prop
 | .kd _ _ _=>True
 | .kx _ _=>True
 | .tup _=>True
 | _=>False
noncomputable def TupAt (K:W.Frag)(H:Hp)(a:Addr)(xs:List V):Prop:=
 H a=some (.tup xs) \/
   ∃ (o:Obj) (aH:Array Value) (n:Nat),K.lookup a=some o/\o.cls=.type "tuple"/\o.data=.seq aH n/\aH.size<=sizeLine/\Vals xs aH.toList
mutual
inductive Fz (H:Hp):V->FD->Prop
 | int (i:Int):Fz H (.int i) (.int i)
 | dZ {a:Addr} {tg:Option (Addr×Nat)} {o:Obj} {kds:List (Key×Int)}:H a=some (.kd tg o (kds.map fun kd=>(kd.1,V.int kd.2)))->Fz H (.ref a) (.dZ kds)
 | lst {a:Addr} {o:Obj} {ns:List Int}:H a=some (.kx o (.lst (ns.map V.int)))->Fz H (.ref a) (.lst ns)
 | tup {a:Addr} {K:W.Frag} {ns:List Int}:TupAt K H a (ns.map V.int)->Fz H (.ref a) (.tup K ns)
 | obj {a C dx:Addr} {o:Obj} {fv:List (Str×V)} {fs:List (Str×FD)}:H a=some (.kx o (.ins C dx fv))->Fc H fv fs->Fz H (.ref a) (.obj C fs)
inductive Fc (H:Hp):List (Str×V)->List (Str×FD)->Prop
 | nil:Fc H [] []
 | cons {k:Str} {v:V} {d:FD} {vs:List (Str×V)} {ds:List (Str×FD)}:Fz H v d->Fc H vs ds->Fc H ((k,v)::vs) ((k,d)::ds)
end
inductive qm (H:Hp):List (Key×V)->List (Key×FD)->Prop
 | nil:qm H [] []
 | cons {k:Key} {v:V} {d:FD} {kvs:List (Key×V)} {kds:List (Key×FD)}:Fz H v d->qm H kvs kds->qm H ((k,v)::kvs) ((k,d)::kds)
noncomputable def MK (H:Hp)(p:Addr)(i:Nat)(aH:List Value)(fd:List (Key×FD)):Prop:=∃ q o kvs,aH[i]?=some (.ref q)/\H q=some (.kd (some (p,i)) o kvs)/\qm H kvs fd
noncomputable def Cf (H:Hp)(h:Heap)(p:Addr)(f:Nat->List (Key×FD))(n:Nat):Prop:=∃ aH c,h.get? p=some { cls:=.type "list",data:=.seq (aH:List Value).toArray c}/\aH.length=n/\∀ i,i < n->MK H p i aH (f i)
noncomputable def tU (H:Hp)(h:Heap)(a:Addr)(ls:iK)(ns:List Nat):Prop:=(∃ f,ls[0]?=some (a,f))/\ls.length=ns.length/\(∀ (j:Nat) (p:Addr) (f:Nat->List (Key×FD)),ls[j]?=some (p,f)->(p=a\/H p=some (.part a)))/\(ls.map (·.1)).Nodup/\(∀ n∈ns,n<=10000)/\∀ (j:Nat) (p:Addr) (f:Nat->List (Key×FD)) (n:Nat),ls[j]?=some (p,f)->ns[j]?=some n->Cf H h p f n
section
variable (P:Program)(w:World)
noncomputable def aK (H:Hp)(h:Heap)(a:Addr):HO->Prop
 | .lst xs=>xs.length<=sizeLine/\∃ (aH:List Value) (n:Nat),Vals xs aH/\h.get? a=some { cls:=.type "list",data:=.seq aH.toArray n}
 | .tup xs=>xs.length<=sizeLine/\∃ aH:List Value,Vals xs aH/\IsTup h a aH.toArray
 | .dK kvs=>kvs.length<=sizeLine/\(a == sysModules)=false/\∃ vs,KV kvs vs/\h.DictOf (cA P w) a vs
 | .dT kvs=>kvs.length<=sizeLine/\(a == sysModules)=false/\∃ xs:List (List Key×Addr×Value),
     Paired (fun(p:List Key×V) (q:List Key×Addr×Value)=>p.1=q.1/\H q.2.1=some (.tup (p.1.map kV))/\RelV p.2 q.2.2) kvs xs /\
     ∃ o es ep,h.get? a=some o/\o.ExactDict/\o.data=.dict es ep/\es.toList=xs.map (entryOfKey (tupleKind (cA P w)))/\(xs.map (·.1)).Nodup
 | .set S n=>h.SetOf (intKind P w) a S n
 | .ins C dx fs=>H dx=some (.own a)/\fs.length<=1000/\dx≠a/\h.get? a=some (W.instObj C dx) /\
     ∃ mA,h.Ns1 dx mA/\(∀ f,oe (fs.lookup f) (mA f))/\PySem.Within mA (fs.map (·.1))
 | .own _=>∃ o,h.get? a=some o
 | .xd fs=>∃ mA,h.Ns1 a mA/\∀ f,oe (fs.lookup f) (mA f)
 | .Up lo hi=>∃ t u v,h.get? a=some { cls:=.type "range",data:=.fields #[.int lo t,.int hi u,.int 1 v]}
 | .aW o u=>h.get? a=some o/\aK H h a u
 | .MJ ps=>h.get? a=some { cls:=.none,data:=.fields ps}
 | .met f x=>h.get? a=some (W.methodObj (.ref f) (.ref x))
 | .ext φ=>φ h/\(∃ o,h.get? a=some o)/\∀ h1 h2:Heap,φ h1->(∀ o,h1.get? a=some o->h2.get? a=some o)->φ h2
 | .memo ls=>(∃ o,h.get? a=some o)/\∃ n,0 < n/\tU H h a ls (List.replicate ls.length n)
 | .bw ls ns=>(∃ o,h.get? a=some o)/\tU H h a ls ns
 | .part _=>∃ o,h.get? a=some o
 | .kd tg o kvs=>h.get? a=some o/\(kvs.length<=sizeLine/\(a == sysModules)=false/\∃ vs,KV kvs vs/\h.DictOf (cA P w) a vs) /\
     ∀ p i,tg=some (p,i)->kT (H p)/\∃ aH c,h.get? p=some { cls:=.type "list",data:=.seq (aH:List Value).toArray c}/\aH[i]?=some (.ref a)
 | .kx o u=>h.get? a=some o/\aK H h a u
noncomputable def o9 (H:Hp)(h:Heap):Prop:=∀ a o,H a=some o->aK P w H h a o
end
section
variable {P:Program}{w:World}{H H':Hp}{h h':Heap}{a:Addr}{o:HO}
theorem aK.lt (x:aK P w H h a o):a < h.objs.size:=by
 cases o with
 | lst xs=>obtain⟨_,_,_,_,e⟩:=x;exact Heap.lt_size e
 | tup xs=>obtain⟨_,_,_,p⟩:=x;exact p.lt
 | dK kvs=>obtain⟨_,_,_,_,o,_,_,e,_⟩:=x;exact Heap.lt_size e
 | dT kvs=>obtain⟨_,_,_,_,o,_,_,e,_⟩:=x;exact Heap.lt_size e
 | set S n=>obtain⟨o,_,_,_,e,_⟩:=x;exact Heap.lt_size e
 | ins C dx fs=>obtain⟨_,_,_,e,_⟩:=x;exact Heap.lt_size e
 | own y=>obtain⟨_,e⟩:=x;exact Heap.lt_size e
 | xd fs=>obtain⟨_,⟨_,_,_,e,_⟩,_⟩:=x;exact Heap.lt_size e
 | Up lo hi=>obtain⟨_,_,_,e⟩:=x;exact Heap.lt_size e
 | aW ob u=>obtain⟨e,_⟩:=x;exact Heap.lt_size e
 | MJ ps=>exact Heap.lt_size (show h.get? a=some _ from x)
 | met f y=>exact Heap.lt_size (show h.get? a=some _ from x)
 | ext φ=>obtain⟨_,⟨_,e⟩,_⟩:=x;exact Heap.lt_size e
 | memo ls=>obtain⟨⟨_,e⟩,_⟩:=x;exact Heap.lt_size e
 | bw ls ns=>obtain⟨⟨_,e⟩,_⟩:=x;exact Heap.lt_size e
 | part y=>obtain⟨_,e⟩:=x;exact Heap.lt_size e
 | kd tg ob kvs=>exact Heap.lt_size x.1
 | kx ob u=>exact Heap.lt_size x.1
theorem Paired.ML {α β:Type}{F G:α->β->Prop}:∀ {l₁:List α} {l₂:List β},Paired F l₁ l₂->(∀ a b,F a b->G a b)->Paired G l₁ l₂
 | _,_,.nil,_=>.nil
 | _,_,.cons r t,f=>.cons (f _ _ r) (Paired.ML t f)
structure Kp (H H':Hp):Prop where
 st:∀ b u,H b=some u->Kept u->H' b=some u
 mem:∀ b,kT (H b)->kT (H' b)
 part:∀ b x,H b=some (.part x)->H' b=some (.part x)
theorem Kp.kd (kp:Kp H H')(b:Addr)(tg:Option (Addr×Nat))(o:Obj)(kvs:List (Key×V))(e:H b=some (.kd tg o kvs)):H' b=some (.kd tg o kvs):=kp.st b _ e trivial
theorem Kp.refl:Kp H H:=⟨fun _ _ e _=>e,fun _ e=>e,fun _ _ e=>e⟩
theorem Kp.of (s:∀ b u,H b=some u->H' b=some u):Kp H H':=⟨fun _ _ e _=>s _ _ e,fun b e=>by
 cases q:H b with
 | none=>rw[q] at e;exact e.elim
 | some u=>rw[s b u q,<- q];exact e,fun _ _ e=>s _ _ e⟩
theorem TupAt.kp {K:W.Frag}{xs:List V}(k:∀ b u,H b=some u->Kept u->H' b=some u)(h:TupAt K H a xs):TupAt K H' a xs:=h.imp (fun e=>k _ _ e trivial) id
mutual
theorem Fz.st (k:∀ b u,H b=some u->Kept u->H' b=some u):∀ {v:V} {d:FD},Fz H v d->Fz H' v d
 | _,_,.int i=>.int i
 | _,_,.dZ e=>.dZ (k _ _ e trivial)
 | _,_,.lst e=>.lst (k _ _ e trivial)
 | _,_,.tup e=>.tup (e.kp k)
 | _,_,.obj e f=>.obj (k _ _ e trivial) (Fc.st k f)
theorem Fc.st (k:∀ b u,H b=some u->Kept u->H' b=some u):∀ {v:List (Str×V)} {d:List (Str×FD)},Fc H v d->Fc H' v d
 | _,_,.nil=>.nil
 | _,_,.cons h t=>.cons (Fz.st k h) (Fc.st k t)
end
theorem Fz.kp (kp:Kp H H'){v:V}{d:FD}(h:Fz H v d):Fz H' v d:=h.st kp.st
theorem qm.kp (kp:Kp H H'):∀ {kvs:List (Key×V)} {kds:List (Key×FD)},qm H kvs kds->qm H' kvs kds
 | _,_,.nil=>.nil
 | _,_,.cons h t=>.cons (h.kp kp) (qm.kp kp t)
theorem Cf.kp {p:Addr}{f:Nat->List (Key×FD)}{n:Nat}(kp:Kp H H')(x:Cf H h p f n)(k:∀ u,h.get? p=some u->h'.get? p=some u):Cf H' h' p f n:=by
 obtain⟨aH,c,e,hl,hi⟩:=x
 exact⟨aH,c,k _ e,hl,fun i hn=>let ⟨q,o,kvs,h1,h2,h3⟩:=hi i hn;⟨q,o,kvs,h1,kp.kd _ _ _ _ h2,h3.kp kp⟩⟩
theorem tU.kp {ls:iK}{ns:List Nat}(kp:Kp H H')(x:tU H h a ls ns)(k:∀ b u,b=a\/H b=some (.part a)->h.get? b=some u->h'.get? b=some u):tU H' h' a ls ns:=by
 obtain⟨h1,h2,h3,h4,h5,h6⟩:=x
 exact⟨h1,h2,fun j p f e=>(h3 j p f e).imp id fun z=>kp.part _ _ z,h4,h5,fun j p f n e1 e2=>(h6 j p f n e1 e2).kp kp fun u e=>k p u (h3 j p f e1) e⟩
noncomputable def Qm (h:Heap)(p:Addr)(i:Nat)(c:Addr):Prop:=∃ aH n,h.get? p=some { cls:=.type "list",data:=.seq (aH:List Value).toArray n}/\aH[i]?=some (.ref c)
theorem aK.LC (x:aK P w H h a o)(k:∀ b u,(b=a\/H b=some (.own a)\/H b=some (.part a))->h.get? b=some u->h'.get? b=some u)(ho:∀ b,H b=some (.own a)->H' b=some (.own a))(ht:∀ b xs,H b=some (.tup xs)->H' b=some (.tup xs))(kp:Kp H H')(hl:∀ p i c,kT (H p)->Qm h p i c->Qm h' p i c):aK P w H' h' a o:=by
 induction o with
 | lst xs=>obtain⟨z,aH,n,r,e⟩:=x;exact⟨z,aH,n,r,k _ _ (.inl rfl) e⟩
 | tup xs=>obtain⟨z,aH,r,ob,e,c⟩:=x;exact⟨z,aH,r,ob,k _ _ (.inl rfl) e,c⟩
 | dK kvs=>obtain⟨z,y,vs,r,ob,es,ep,e,c⟩:=x;exact⟨z,y,vs,r,ob,es,ep,k _ _ (.inl rfl) e,c⟩
 | dT kvs=>
   obtain⟨z,y,xs,r,ob,es,ep,e,c⟩:=x
   exact⟨z,y,xs,Paired.ML r fun p q z=>⟨z.1,ht _ _ z.2.1,z.2.2⟩,ob,es,ep,k _ _ (.inl rfl) e,c⟩
 | set S n=>obtain⟨ob,es,ep,t,e,c⟩:=x;exact⟨ob,es,ep,t,k _ _ (.inl rfl) e,c⟩
 | ins C dx fs=>
   obtain⟨d,z,ne,e,mA,⟨od,es,ep,e2,c⟩,r⟩:=x
   exact⟨ho _ d,z,ne,k _ _ (.inl rfl) e,mA,⟨od,es,ep,k _ _ (.inr (.inl d)) e2,c⟩,r⟩
 | own y=>obtain⟨ob,e⟩:=x;exact⟨ob,k _ _ (.inl rfl) e⟩
 | xd fs=>obtain⟨mA,⟨od,es,ep,e,c⟩,r⟩:=x;exact⟨mA,⟨od,es,ep,k _ _ (.inl rfl) e,c⟩,r⟩
 | Up lo hi=>obtain⟨t,u,v,e⟩:=x;exact⟨t,u,v,k _ _ (.inl rfl) e⟩
 | aW ob u ih=>obtain⟨e,q⟩:=x;exact⟨k _ _ (.inl rfl) e,ih q⟩
 | MJ ps=>
   have e:h.get? a=some { cls:=.none,data:=.fields ps}:=x
   show h'.get? a=some { cls:=.none,data:=.fields ps}
   exact k a _ (.inl rfl) e
 | met f y=>
   have e:h.get? a=some (W.methodObj (.ref f) (.ref y)):=x
   show h'.get? a=some (W.methodObj (.ref f) (.ref y))
   exact k a _ (.inl rfl) e
 | ext φ=>obtain⟨p,⟨o,e⟩,st⟩:=x;exact⟨st _ _ p fun o q=>k _ _ (.inl rfl) q,⟨o,k _ _ (.inl rfl) e⟩,st⟩
 | memo ls=>
   obtain⟨⟨o,e⟩,n,hn,q⟩:=x
   refine⟨⟨o,k _ _ (.inl rfl) e⟩,n,hn,q.kp kp fun b u hb=>k b u ?_⟩
   rcases hb with z | z
   . exact .inl z
   . exact .inr (.inr z)
 | bw ls ns=>
   obtain⟨⟨o,e⟩,q⟩:=x
   refine⟨⟨o,k _ _ (.inl rfl) e⟩,q.kp kp fun b u hb=>k b u ?_⟩
   rcases hb with z | z
   . exact .inl z
   . exact .inr (.inr z)
 | part y=>obtain⟨o,e⟩:=x;exact⟨o,k _ _ (.inl rfl) e⟩
 | kd tg ob kvs=>
   obtain⟨e,⟨z,y,vs,r,YF,es,ep,e',c⟩,q⟩:=x
   refine⟨k _ _ (.inl rfl) e,⟨z,y,vs,r,YF,es,ep,k _ _ (.inl rfl) e',c⟩,fun p i ht=>?_⟩
   obtain⟨q1,q2⟩:=q p i ht
   exact⟨kp.mem _ q1,hl p i _ q1 q2⟩
 | kx ob u ih=>obtain⟨e,q⟩:=x;exact⟨k _ _ (.inl rfl) e,ih q⟩
theorem aK.xj (x:aK P w H h a o)(k:∀ b u,(b=a\/H b=some (.own a)\/kT (H b))->h.get? b=some u->h'.get? b=some u)(ho:∀ b,H b=some (.own a)->H' b=some (.own a))(ht:∀ b xs,H b=some (.tup xs)->H' b=some (.tup xs))(kp:Kp H H'):aK P w H' h' a o:=
 x.LC (fun b u hb=>k b u (by
   rcases hb with z | z | z
   . exact .inl z
   . exact .inr (.inl z)
   . exact .inr (.inr (by rw[z];trivial)))) ho ht kp fun p i c hm ⟨aH,n,e,q⟩=>⟨aH,n,k p _ (.inr (.inr hm)) e,q⟩
theorem o9.lt (x:o9 P w H h)(e:H a=some o):a < h.objs.size:=(x a o e).lt
theorem o9.fresh (x:o9 P w H h)(e:h.objs.size<=a):H a=none:=by
 cases q:H a with
 | none=>rfl
 | some u=>exact absurd (Nat.lt_of_lt_of_le (x.lt q) e) (Nat.lt_irrefl _)
theorem o9.kept (x:o9 P w H h)(k:∀ b u,h.get? b=some u->h'.get? b=some u):o9 P w H h':=fun a o e=>
 (x a o e).xj (fun b u _ q=>k b u q) (fun _ q=>q) (fun _ _ q=>q) .refl
theorem o9.laid (x:o9 P w H h)(k:∀ b u,h.get? b=some u->h'.get? b=some u)(hp:h.objs.size<=a)(new:aK P w (upd H a o) h' a o):o9 P w (upd H a o) h':=fun b u e=>by
 have hn:=x.fresh hp
 by_cases hb:b=a
 . subst hb;rw[aj] at e;cases e;exact new
 . rw[ag hb] at e
   exact(x b u e).xj (fun c v _ q=>k c v q) (fun c q=>by rw[ag (aw q hn)];exact q) (fun c xs q=>by rw[ag (aw q hn)];exact q) (.of fun c u q=>by rw[ag (aw q hn)];exact q)
end
noncomputable def Rd (H:Hp)(a:Addr)(u:HO):Prop:=H a=some u\/(∃ o,H a=some (.aW o u))\/(∃ tg o kvs,H a=some (.kd tg o kvs)/\u=.dK kvs)\/∃ o,H a=some (.kx o u)
theorem Rd.of {H:Hp}{a:Addr}{u:HO}(h:H a=some u):Rd H a u:=.inl h
theorem Rd.ok {P:Program}{w:World}{H:Hp}{h:Heap}{a:Addr}{u:HO}(r:Rd H a u)(x:o9 P w H h):aK P w H h a u:=by
 rcases r with r | ⟨o,r⟩ | ⟨tg,o,kvs,r,rfl⟩ | ⟨o,r⟩
 . exact x a u r
 . obtain⟨_,q⟩:=x a _ r
   exact q
 . obtain⟨_,q,_⟩:=x a _ r
   exact q
 . obtain⟨_,q⟩:=x a _ r
   exact q
noncomputable def PV:Option HO->Prop
 | some (.lst _)=>True
 | some (.dK _)=>True
 | some (.dT _)=>True
 | some (.set _ _)=>True
 | some (.ins _ _ _)=>True
 | some (.ext _)=>True
 | _=>False
section
variable {P:Program}{w:World}{H:Hp}{h h':Heap}{x e:Addr}{o':HO}
theorem o9.write (ok:o9 P w H h)(mu:PV (H x))(he:e=x\/H e=some (.own x))(k:∀ b u,b≠e->h.get? b=some u->h'.get? b=some u)(PX:∃ u,h'.get? e=some u)(new:aK P w (upd H x o') h' x o'):o9 P w (upd H x o') h':=fun b u q=>by
 have xk:∀ c y,H c=some (.own y)->c≠x:=fun c y r z=>by subst z;rw[r] at mu;exact mu
 have Uq:∀ c xs,H c=some (.tup xs)->c≠x:=fun c xs r z=>by subst z;rw[r] at mu;exact mu
 by_cases hb:b=x
 . subst hb;rw[aj] at q;cases q;exact new
 . rw[ag hb] at q
   by_cases Jg:b=e
   . have q':H b=some (.own x):=by
       rcases he with z | z
       . exact absurd (Jg.trans z) hb
       . rw[Jg];exact z
     rw[q] at q';cases q'
     obtain⟨v,hv⟩:=PX
     exact⟨v,by rw[Jg];exact hv⟩
   . have W8:∀ c u,H c=some u->¬ PV (some u)->c≠x:=fun c u r nm z=>by subst z;rw[r] at mu;exact nm mu
     have W9:∀ c,kT (H c)->c≠x:=fun c r z=>by
       subst z
       cases qq:H c with
       | none=>rw[qq] at r;exact r
       | some u=>rw[qq] at r mu;cases u <;> first | exact mu | exact r
     refine(ok b u q).xj (fun c v hc r=>k c v ?_ r) (fun c r=>by rw[ag (xk c b r)];exact r) (fun c xs r=>by rw[ag (Uq c xs r)];exact r) ⟨fun c u r kq=>by rw[ag (W8 c _ r (by cases u <;> first | exact(show False from kq).elim | exact fun z=>z))];exact r,fun c r=>by rw[ag (W9 c r)];exact r,fun c y r=>by rw[ag (W8 c _ r fun z=>z)];exact r⟩
     rcases hc with rfl | hc | hc
     . exact Jg
     . rintro rfl
       rcases he with z | z
       . exact xk c b hc z
       . rw[hc] at z;cases z;exact hb rfl
     . rintro rfl
       rcases he with z | z
       . exact W9 c hc z
       . rw[z] at hc;exact hc
end
structure Un (fs ex:List Addr)(H H':Hp)(h h':Heap):Prop where
 keep:∀ b o,h.get? b=some o->H b=none->b ∉ fs->b ∉ ex->h'.get? b=some o
 slot:∀ b o,h.get? b=some o->H b=none->b∈fs->b ∉ ex->∃ sl,h'.get? b=some { o with slots:=sl}
 free:∀ b o,h.get? b=some o->H b=none->b ∉ ex->H' b=none
 there:∀ b o,h.get? b=some o->b ∉ ex->∃ o',h'.get? b=some o'
 zg:∀ b xs,H b=some (.tup xs)->H' b=some (.tup xs)
 xl:∀ b o u,H b=some (.aW o u)->H' b=some (.aW o u)
 zh:∀ b ps,H b=some (.MJ ps)->∃ more,H' b=some (.MJ (ps ++ more))
section
variable {fs ex:List Addr}{H H1:Hp}{h h1 h':Heap}{a x e:Addr}{o:HO}
theorem Un.any (u:Un fs ex H H1 h h1){b:Addr}{ob:Obj}(q:h.get? b=some ob)(n:H b=none)(hx:b ∉ ex):∃ sl,h1.get? b=some { ob with slots:=sl}:=by
 by_cases hb:b∈fs
 . exact u.slot b ob q n hb hx
 . exact⟨ob.slots,u.keep b ob q n hb hx⟩
theorem Un.kept (k:∀ b u,h.get? b=some u->h'.get? b=some u):Un fs ex H H h h':=
 ⟨fun b ob q _ _ _=>k b ob q,fun b ob q _ _ _=>⟨ob.slots,k b ob q⟩,fun _ _ _ n _=>n,fun b ob q _=>⟨ob,k b ob q⟩,fun _ _ q=>q,fun _ _ _ q=>q,fun _ ps q=>⟨#[],by rw[q];simp⟩⟩
theorem Un.refl:Un fs ex H H h h:=Un.kept fun _ _ q=>q
theorem Un.laid (k:∀ b u,h.get? b=some u->h'.get? b=some u)(hp:h.objs.size<=a)(hn:H a=none):Un fs ex H (upd H a o) h h' where
 keep:=fun b u q _ _ _=>k b u q
 slot:=fun b u q _ _ _=>⟨u.slots,k b u q⟩
 free:=fun b u q n _=>by rw[ag (Nat.ne_of_lt (Nat.lt_of_lt_of_le (Heap.lt_size q) hp))];exact n
 there:=fun b u q _=>⟨u,k b u q⟩
 zg:=fun b xs q=>by rw[ag (aw q hn)];exact q
 xl:=fun b u xs q=>by rw[ag (aw q hn)];exact q
 zh:=fun b ps q=>⟨#[],by rw[ag (aw q hn),q];simp⟩
theorem Un.write (mu:PV (H x))(he:e=x\/H e=some (.own x))(k:∀ b u,b≠e->h.get? b=some u->h'.get? b=some u)(PX:∃ u,h'.get? e=some u):Un fs ex H (upd H x o) h h':=by
 have hx:∀ b,H b=none->b≠x:=fun b n z=>by subst z;rw[n] at mu;exact mu
 have hb:∀ b,H b=none->b≠e:=fun b n z=>by
   subst z
   rcases he with r | r
   . exact hx b n r
   . rw[n] at r;cases r
 have hm:∀ b u,H b=some u->¬ PV (some u)->b≠x:=fun b u q nm z=>by subst z;rw[q] at mu;exact nm mu
 refine⟨fun b u q n _ _=>k b u (hb b n) q,fun b u q n _ _=>⟨u.slots,k b u (hb b n) q⟩,fun b u q n _=>by rw[ag (hx b n)];exact n,fun b u q _=>?_,
   fun b xs q=>by rw[ag (hm b _ q fun z=>z)];exact q,fun b u xs q=>by rw[ag (hm b _ q fun z=>z)];exact q,fun b ps q=>⟨#[],by rw[ag (hm b _ q fun z=>z),q];simp⟩⟩
 by_cases Jg:b=e
 . subst Jg;exact PX
 . exact⟨u,k b u Jg q⟩
end
noncomputable def b0 (h:Heap)(H:Hp):List Addr:=(List.range h.objs.size).filter fun a=>(H a).isSome
noncomputable def xm (h:Heap)(H:Hp):Heap:=PySem.W.hideAll h (b0 h H)
theorem DI (h:Heap)(H:Hp):(xm h H).objs.size=h.objs.size:=W.hideAll_size _ _
theorem Fd {h:Heap}{H:Hp}{b:Addr}{o:Obj}(e:h.get? b=some o)(n:H b=none):(xm h H).get? b=some o:=
 W.hideAll_get _ e fun hm=>by
   have q:(H b).isSome=true:=(List.mem_filter.mp hm).2
   rw[n] at q;simp at q
theorem Jh {h:Heap}{H:Hp}{b:Addr}{o:Obj}(e:(xm h H).get? b=some o):h.get? b=some o/\H b=none:=by
 have e':h.get? b=some o:=W.of_hideAll (b0 h H) e
 refine⟨e',?_⟩
 cases q:H b with
 | none=>rfl
 | some x=>
   have hm:b∈b0 h H:=List.mem_filter.mpr ⟨List.mem_range.mpr (Heap.lt_size e'),by simp[q]⟩
   have z:(xm h H).get? b=none:=W.hideAll_none (b0 h H) hm
   rw[z] at e;cases e
noncomputable def Ji (g h:Heap)(L:Addr):List (Addr×Obj):=(List.range h.objs.size).filterMap fun a=>if a=L\/(g.get? a).isSome=true then none else (h.get? a).map fun o=>(a,o)
noncomputable def rest (g h:Heap)(L d:Addr):List (Addr×Obj):=(Ji g h L).filter fun p=>decide (p.1≠d)
structure Mod (K:W.Frag)(mg:Str->Option Value)(base:Heap):Prop where
 Qn:K.In base
 glob:base.Ns mainGlobals mg
 blt:∃ mb,base.Ns builtinsNs mb/\∀ x:Str,x≠"__name__"->mb x=bootBuiltins x
 nolimit:base.NoLimit
structure Cx where
 prog:Program
 w:World
 K:W.Frag
 mg:Str->Option Value
 base:Heap
 A:Around
 N:List Str
 s₀:Shared
 H₀:Hp
 env:Env
 outer:List Env
 stack:List Env
 ex:List Addr
 fn:Str->Bool
 calm:Bool
 pn:List (Addr×Obj)
 xe:Value->Shared->Prop
noncomputable def Fe (l:List Env):List Addr:=l.filterMap (·.frame)
noncomputable abbrev Cx.fs (X:Cx):List Addr:=Fe X.outer
noncomputable def vH (sc:Scope)(x:Str):Prop:=sc.names.lookup x=some .local\/sc.names.lookup x=some .cell\/sc.names.lookup x=some .free
noncomputable def Loc (sc:Scope)(x:Str):Prop:=sc.names.lookup x=some .local\/sc.names.lookup x=some .cell
noncomputable def Look (env:Env)(h:Heap)(m:Str->Option Value)(x:Str)(u:Value):Prop:=
 (env.kindOf x=some .local/\m x=some u)\/((env.kindOf x=some .cell\/env.kindOf x=some .free)/\∃ c,env.cells.lookup x=some c/\h.IsCell c (some u))
structure Cx.Ok (X:Cx):Prop where
 mod:Mod X.K X.mg X.base
 kind:X.env.scope.kind=.function
 glob:X.env.globals=mainGlobals
 blt:X.env.builtins=builtinsNs
 above:X.s₀.heap.objs.size<=X.env.locals
 inj:∀ x y c,X.env.cells.lookup x=some c->X.env.cells.lookup y=some c->x=y
 has:∀ x,(X.env.kindOf x=some .cell\/X.env.kindOf x=some .free)->∃ c,X.env.cells.lookup x=some c
 PY:∀ x c,X.fn x=true->X.env.cells.lookup x=some c->X.s₀.heap.objs.size<=c
 hd:X.calm=true->X.A.handled=none
 frames:X.A.frames=some X.stack
 Qo:X.stack=X.outer\/(X.stack=X.env::X.outer/\X.env.frame=some X.env.locals)
 Jj:∀ b∈X.ex,b≠X.env.locals/\∀ x c,X.env.cells.lookup x=some c->c≠b
 bs:∀ b o,X.base.get? b=some o->X.s₀.heap.get? b=some o/\X.H₀ b=none
 Cg:X.base.objs.size<=X.s₀.heap.objs.size
 zi:∀ b o,X.base.get? b=some o->b ∉ X.ex
 zj:∀ b∈X.ex,b ∉ X.fs
 qo:X.s₀.heap.FunFrames X.base X.outer
 LD:∀ b∈X.fs,X.H₀ b=none
structure Inv (X:Cx)(pins:List (Addr×Obj))(σ:List (Option V))(H:Hp)(s:Shared):Prop where
 ok:X.Ok
 os:s.os=X.s₀.os
 bare:AllBare s.gens
 base:Un X.fs X.ex X.H₀ H X.s₀.heap s.heap
 loc:∃ m,s.heap.Ns X.env.locals m/\∀ (i:Nat) (x:Str) (v:V),X.N[i]?=some x->σ[i]?=some (some v)->vH X.env.scope x->∃ u,RelV v u/\Look X.env s.heap m x u
 cell:∀ x c,X.env.cells.lookup x=some c->∃ v,s.heap.IsCell c v
 free:H X.env.locals=none
 ow:∀ x c,X.env.cells.lookup x=some c->H c=none
 pin:∀ p∈X.pn ++ pins,s.heap.get? p.1=some p.2/\H p.1=none/\p.1≠X.env.locals/\p.1 ∉ X.fs/\∀ v,p.2.data≠.cell v
 bb:o9 X.prog X.w H s.heap
 len:σ.length=X.N.length
section
variable {X:Cx}{pins:List (Addr×Obj)}{σ:List (Option V)}{H H':Hp}{s:Shared}{h':Heap}
theorem Cx.Ok.MN (ok:X.Ok){b:Addr}{o:Obj}(e:X.base.get? b=some o):b ∉ X.fs:=fun hb=>by
 have:=(ok.qo.mem hb).1
 rw[e] at this;cases this
theorem Inv.bs (I:Inv X pins σ H s):∀ b o,X.base.get? b=some o->s.heap.get? b=some o/\H b=none:=fun b o e=>
 ⟨I.base.keep b o (I.ok.bs b o e).1 (I.ok.bs b o e).2 (I.ok.MN e) (I.ok.zi b o e),I.base.free b o (I.ok.bs b o e).1 (I.ok.bs b o e).2 (I.ok.zi b o e)⟩
theorem Inv.bk (I:Inv X pins σ H s):∀ b o,X.base.get? b=some o->s.heap.get? b=some o:=fun b o e=>(I.bs b o e).1
theorem Inv.mod (I:Inv X pins σ H s):Mod X.K X.mg X.base:=I.ok.mod
theorem Inv.lO (I:Inv X pins σ H s):X.K.In s.heap:=I.ok.mod.Qn.keeps I.bk
theorem Inv.lt (I:Inv X pins σ H s):X.env.locals < s.heap.objs.size:=let ⟨_,hn,_⟩:=I.loc;hn.lt
theorem Inv.sz (I:Inv X pins σ H s):X.s₀.heap.objs.size<=s.heap.objs.size:=Nat.le_trans I.ok.above (Nat.le_of_lt I.lt)
theorem Inv.Ur (I:Inv X pins σ H s){a:Addr}(h:s.heap.objs.size<=a):a ∉ X.fs:=fun hb=>by
 obtain⟨_,o,ho,_⟩:=I.ok.qo.mem hb
 exact absurd (Nat.lt_of_lt_of_le (Heap.lt_size ho) (Nat.le_trans I.sz h)) (Nat.lt_irrefl _)
theorem Inv.A0 (I:Inv X pins σ H s):∀ x c,X.env.cells.lookup x=some c->c≠X.env.locals:=fun x c e z=>by
 obtain⟨v,o,ho,hd⟩:=I.cell x c e
 obtain⟨m,⟨o',es,ep,Ff,PZ,_⟩,_⟩:=I.loc
 rw[z,Ff] at ho;cases ho;rw[PZ] at hd;cases hd
theorem Inv.qo (I:Inv X pins σ H s):s.heap.FunFrames X.base X.outer:=by
 have all:∀ (l:List Env),(∀ b∈Fe l,b∈X.fs)->X.s₀.heap.FunFrames X.base l->s.heap.FunFrames X.base l:=by
   intro l
   induction l with
   | nil=>intro _ _;trivial
   | cons env r ih=>
     intro hs hl
     obtain⟨hk,⟨L,o,hf,hn,ho,hd⟩,hr⟩:=hl
     have hL:L∈X.fs:=hs L (by unfold Fe;rw[List.filterMap_cons,hf];exact List.mem_cons_self)
     obtain⟨sl,e⟩:=I.base.slot L o ho (I.ok.LD L hL) hL fun z=>I.ok.zj L z hL
     exact⟨hk,⟨L,_,hf,hn,e,hd⟩,ih (fun b hb=>hs b (by unfold Fe;rw[List.filterMap_cons,hf];exact List.mem_cons_of_mem _ hb)) hr⟩
 exact all X.outer (fun _ hb=>hb) I.ok.qo
theorem Inv.stack (I:Inv X pins σ H s):s.heap.FunFrames X.base X.stack:=by
 rcases I.ok.Qo with e | ⟨e,hf⟩
 . rw[e];exact I.qo
 . rw[e]
   obtain⟨m,hn,_⟩:=I.loc
   refine .cons (by rw[I.ok.kind];decide) hf hn ?_ I.qo
   exact Heap.get?_none_of_le (Nat.le_trans I.ok.Cg I.ok.above)
theorem Inv.tV (I:Inv X pins σ H s):∀ b∈Fe X.stack,b∈X.env.locals::X.fs:=fun b hb=>by
 rcases I.ok.Qo with e | ⟨e,hf⟩
 . rw[e] at hb;exact List.mem_cons_of_mem _ hb
 . rw[e] at hb
   unfold Fe at hb
   rw[List.filterMap_cons,hf] at hb
   exact hb
theorem Inv.sA (I:Inv X pins σ H s):∀ b∈Fe X.stack,H b=none:=fun b hb=>by
 rcases List.mem_cons.mp (I.tV b hb) with e | hb
 . rw[e];exact I.free
 . obtain⟨_,o,ho,_⟩:=I.ok.qo.mem hb
   exact I.base.free b o ho (I.ok.LD b hb) fun z=>I.ok.zj b z hb
theorem Inv.step {g':Array GenState}{t':Nat}{d':Drawn}{ch:List Addr}(I:Inv X pins σ H s)(yY:∀ b∈ch,(b∈X.ex\/X.s₀.heap.objs.size<=b)/\b≠X.env.locals/\(∀ x c,X.env.cells.lookup x=some c->c≠b)/\∀ p∈X.pn ++ pins,p.1≠b)(keep:∀ b o,b≠X.env.locals->b ∉ X.fs->b ∉ ch->s.heap.get? b=some o->H b=none->h'.get? b=some o)(slot:∀ b o,b≠X.env.locals->b∈X.fs->b ∉ ch->s.heap.get? b=some o->H b=none->∃ sl,h'.get? b=some { o with slots:=sl})(free:∀ b o,b ∉ ch->s.heap.get? b=some o->H b=none->H' b=none)(there:∀ b o,b ∉ ch->s.heap.get? b=some o->∃ o',h'.get? b=some o')(zg:∀ b xs,H b=some (.tup xs)->H' b=some (.tup xs))(xl:∀ b o u,H b=some (.aW o u)->H' b=some (.aW o u))(zh:∀ b ps,H b=some (.MJ ps)->∃ more,H' b=some (.MJ (ps ++ more)))(ns:∀ m,s.heap.Ns X.env.locals m->h'.Ns X.env.locals m)(bb:o9 X.prog X.w H' h')(hg:AllBare g'):Inv X pins σ H' { s with heap:=h',gens:=g',drawn:=d',toks:=t'}:=by
 have Xa:∀ b o,X.s₀.heap.get? b=some o->b≠X.env.locals:=fun b o e=>Nat.ne_of_lt (Nat.lt_of_lt_of_le (Heap.lt_size e) I.ok.above)
 have Tj:∀ b o,X.s₀.heap.get? b=some o->b ∉ X.ex->b ∉ ch:=fun b o e hx hb=>by
   rcases (yY b hb).1 with z | z
   . exact hx z
   . exact absurd (Nat.lt_of_lt_of_le (Heap.lt_size e) z) (Nat.lt_irrefl _)
 have cellK:∀ x c,X.env.cells.lookup x=some c->∀ v,s.heap.IsCell c v->h'.IsCell c v:=fun x c e v ⟨o,ho,hd⟩=>by
   have Qp:c ∉ ch:=fun z=>(yY c z).2.2.1 x c e rfl
   by_cases hc:c∈X.fs
   . obtain⟨sl,q⟩:=slot c o (I.A0 x c e) hc Qp ho (I.ow x c e)
     exact⟨_,q,hd⟩
   . exact⟨o,keep c o (I.A0 x c e) hc Qp ho (I.ow x c e),hd⟩
 refine⟨I.ok,I.os,hg,⟨fun b o e n hb hx=>?_,fun b o e n hb hx=>?_,fun b o e n hx=>?_,fun b o e hx=>?_,fun b xs e=>zg b xs (I.base.zg b xs e),fun b o xs e=>xl b o xs (I.base.xl b o xs e),fun b ps e=>?_⟩,?_,fun x c e=>?_,?_,fun x c e=>?_,fun p hp=>?_,bb,I.len⟩
 . exact keep b o (Xa b o e) hb (Tj b o e hx) (I.base.keep b o e n hb hx) (I.base.free b o e n hx)
 . obtain⟨sl,e1⟩:=I.base.slot b o e n hb hx
   obtain⟨YG,e2⟩:=slot b _ (Xa b o e) hb (Tj b o e hx) e1 (I.base.free b o e n hx)
   exact⟨YG,e2⟩
 . obtain⟨o',e1⟩:=I.base.there b o e hx
   exact free b o' (Tj b o e hx) e1 (I.base.free b o e n hx)
 . obtain⟨o',e1⟩:=I.base.there b o e hx
   exact there b o' (Tj b o e hx) e1
 . obtain⟨m1,e1⟩:=I.base.zh b ps e
   obtain⟨m2,e2⟩:=zh b _ e1
   exact⟨m1 ++ m2,by rw[e2,Array.append_assoc]⟩
 . obtain⟨m,hn,hl⟩:=I.loc
   refine⟨m,ns m hn,fun i x v e1 e2 e3=>?_⟩
   obtain⟨u,r,l⟩:=hl i x v e1 e2 e3
   refine⟨u,r,?_⟩
   rcases l with l | ⟨k,c,e,z⟩
   . exact .inl l
   . exact .inr ⟨k,c,e,cellK x c e _ z⟩
 . obtain⟨v,z⟩:=I.cell x c e
   exact⟨v,cellK x c e v z⟩
 . obtain⟨m,⟨o,_,_,ho,_⟩,_⟩:=I.loc
   exact free _ o (fun z=>(yY _ z).2.1 rfl) ho I.free
 . obtain⟨v,o,ho,hd⟩:=I.cell x c e
   exact free c o (fun z=>(yY c z).2.2.1 x c e rfl) ho (I.ow x c e)
 . obtain⟨e,n,ne,nf,d⟩:=I.pin p hp
   have Qp:p.1 ∉ ch:=fun z=>(yY p.1 z).2.2.2 p hp rfl
   exact⟨keep p.1 p.2 ne nf Qp e n,free p.1 p.2 Qp e n,ne,nf,d⟩
theorem Inv.un {t':Nat}(I:Inv X pins σ H s)(u:Un X.fs [] H H' s.heap h')(bb:o9 X.prog X.w H' h'):Inv X pins σ H' { s with heap:=h',toks:=t'}:=by
 obtain⟨m,⟨o,es,ep,ho,r⟩,_⟩:=id I.loc
 obtain⟨sl,hL⟩:=u.any ho I.free (by simp)
 exact I.step (g':=s.gens) (d':=s.drawn) (ch:=[]) (fun _ z=>nomatch z) (fun b o _ hb _ e n=>u.keep b o e n hb (by simp)) (fun b o _ hb _ e n=>u.slot b o e n hb (by simp)) (fun b o _ e n=>u.free b o e n (by simp)) (fun b o _ e=>u.there b o e (by simp)) u.zg u.xl u.zh (fun m' hm=>by
   obtain⟨o',Us,Ut,Ff,r'⟩:=hm
   rw[ho] at Ff;cases Ff
   exact⟨_,Us,Ut,hL,r'⟩) bb I.bare
theorem Inv.call {g':Array GenState}{t':Nat}{d':Drawn}{ch:List Addr}(I:Inv X pins σ H s)(u:Un (Fe X.stack) ch H H' s.heap h')(bb:o9 X.prog X.w H' h')(hg:AllBare g')(yY:∀ b∈ch,(b∈X.ex\/X.s₀.heap.objs.size<=b)/\b≠X.env.locals/\(∀ x c,X.env.cells.lookup x=some c->c≠b)/\∀ p∈X.pn ++ pins,p.1≠b):Inv X pins σ H' { s with heap:=h',gens:=g',drawn:=d',toks:=t'}:=by
 obtain⟨m,⟨o,es,ep,ho,r⟩,_⟩:=id I.loc
 obtain⟨sl,hL⟩:=u.any ho I.free fun z=>(yY _ z).2.1 rfl
 exact I.step (ch:=ch) yY (fun b o hL hb hc e n=>u.keep b o e n (fun z=>(List.mem_cons.mp (I.tV b z)).elim hL hb) hc) (fun b o _ _ hc e n=>u.any e n hc) (fun b o hc e n=>u.free b o e n hc) (fun b o hc e=>u.there b o e hc) u.zg u.xl u.zh (fun m' hm=>by
   obtain⟨o',Us,Ut,Ff,r'⟩:=hm
   rw[ho] at Ff;cases Ff
   exact⟨_,Us,Ut,hL,r'⟩) bb hg
theorem Inv.turned {t':Nat}{it:Addr}(I:Inv X pins σ H s)(k:∀ b o,b≠it->s.heap.get? b=some o->h'.get? b=some o)(hn:H it=none)(hL:it≠X.env.locals)(h1:it∈X.ex\/X.s₀.heap.objs.size<=it)(h2:∀ x c,X.env.cells.lookup x=some c->c≠it)(h3:∀ p∈X.pn ++ pins,p.1≠it):Inv X pins σ H { s with heap:=h',toks:=t'}:=by
 have Qq:∀ b u,H b=some u->b≠it:=fun b u e z=>by rw[z,hn] at e;cases e
 refine I.step (g':=s.gens) (d':=s.drawn) (ch:=[it]) (fun b hb=>?_) (fun b o _ _ hc e _=>k b o (fun z=>hc (by simp[z])) e) (fun b o _ _ hc e _=>⟨o.slots,k b o (fun z=>hc (by simp[z])) e⟩) (fun _ _ _ _ n=>n)
   (fun b o hc e=>⟨o,k b o (fun z=>hc (by simp[z])) e⟩) (fun _ _ e=>e) (fun _ _ _ e=>e) (fun b ps e=>⟨#[],by rw[e];simp⟩) (fun m hm=>?_) (fun b u e=>?_) I.bare
 . have e:b=it:=by simpa using hb
   subst e
   exact⟨h1,hL,h2,h3⟩
 . obtain⟨o,es,ep,ho,r⟩:=hm
   exact⟨o,es,ep,k _ o (Ne.symm hL) ho,r⟩
 . refine(I.bb b u e).xj (fun c v hc q=>k c v ?_ q) (fun _ q=>q) (fun _ _ q=>q) .refl
   rcases hc with z | z | z
   . rw[z];exact Qq b u e
   . exact Qq c _ z
   . exact fun z'=>by rw[z',hn] at z;exact z
theorem Inv.tok (I:Inv X pins σ H s)(t:Nat):Inv X pins σ H { s with toks:=t}:=I.un (h':=s.heap) (t':=t) Un.refl I.bb
theorem Inv.kept {t':Nat}(I:Inv X pins σ H s)(k:∀ b u,s.heap.get? b=some u->h'.get? b=some u):Inv X pins σ H { s with heap:=h',toks:=t'}:=I.un (Un.kept k) (I.bb.kept k)
theorem Inv.laid {a:Addr}{o:HO}{t':Nat}(I:Inv X pins σ H s)(k:∀ b u,s.heap.get? b=some u->h'.get? b=some u)(hp:s.heap.objs.size<=a)(new:aK X.prog X.w (upd H a o) h' a o):Inv X pins σ (upd H a o) { s with heap:=h',toks:=t'}:=I.un (Un.laid k hp (I.bb.fresh hp)) (I.bb.laid k hp new)
theorem Inv.write {x e:Addr}{o:HO}{t':Nat}(I:Inv X pins σ H s)(mu:PV (H x))(he:e=x\/H e=some (.own x))(k:∀ b u,b≠e->s.heap.get? b=some u->h'.get? b=some u)(PX:∃ u,h'.get? e=some u)(new:aK X.prog X.w (upd H x o) h' x o):Inv X pins σ (upd H x o) { s with heap:=h',toks:=t'}:=I.un (Un.write mu he k PX) (I.bb.write mu he k PX new)
theorem Inv.Ci {Fg:List (Addr×Obj)}(I:Inv X pins σ H s)(h:∀ p∈Fg,s.heap.get? p.1=some p.2/\H p.1=none/\p.1≠X.env.locals/\p.1 ∉ X.fs/\∀ v,p.2.data≠.cell v):Inv X Fg σ H s:=
 ⟨I.ok,I.os,I.bare,I.base,I.loc,I.cell,I.free,I.ow,fun p hp=>(List.mem_append.mp hp).elim (fun z=>I.pin p (List.mem_append_left _ z)) (h p),I.bb,I.len⟩
theorem zk {N:List Str}(hN:N.Nodup){i j:Nat}{x:Str}(a:N[i]?=some x)(b:N[j]?=some x):i=j:=by
 obtain⟨h1,e1⟩:=List.getElem?_eq_some_iff.mp a
 obtain⟨h2,e2⟩:=List.getElem?_eq_some_iff.mp b
 exact(List.getElem_inj hN).mp (e1.trans e2.symm)
theorem qp {M:Model}{A:Around}{E:Value->Shared->Prop}{i:Nat}{x:Str}{v:V}{u:Value}{Q:Unit->Shared->Prop}(I:Inv X pins σ H s)(hN:X.N.Nodup)(hi:X.N[i]?=some x)(hx:Loc X.env.scope x)(r:RelV v u)(h:∀ s',Inv X pins (σ.set i (some v)) H s'->(∃ a,Heap.SameBut a s.heap s'.heap/\(a=X.env.locals\/X.env.cells.lookup x=some a))->Q () s')(hf:X.fn x=true\/X.env.scope.names.lookup x=some .local:=by first | exact .inl rfl | exact .inr rfl | assumption):wpAny M A (storeName X.env x u) Q E s:=by
 obtain⟨m,hn,hl⟩:=id I.loc
 have Uu:(X.env.scope.kind == .class || (X.env.scope.kind == .module && X.env.locals != X.env.globals))=false:=by rw[I.ok.kind];rfl
 have Xb:i < σ.length:=by rw[I.len];exact(List.getElem?_eq_some_iff.mp hi).1
 have A0:=I.A0
 have tracked:∀ {a:Addr} {h':Heap},(∃ o,s.heap.get? a=some o/\H a=none)->Heap.SameBut a s.heap h'->o9 X.prog X.w H h':=fun {a h'} ha hs b ob e=>by
   obtain⟨_,_,Fh⟩:=ha
   refine(I.bb b ob e).xj (fun c w' hc q=>(hs.2 c ?_).trans q) (fun _ q=>q) (fun _ _ q=>q) .refl
   rintro rfl
   rcases hc with rfl | hc | hc
   . rw[Fh] at e;cases e
   . rw[Fh] at hc;cases hc
   . rw[Fh] at hc;exact hc
 rcases hx with hk | hk
 . refine wpAny_storeName_local hk hn (fun h' P0 hs=>?_) Uu
   obtain⟨oL,_,_,YH,_⟩:=id hn
   refine h _ ⟨I.ok,I.os,I.bare,⟨fun b o e n hb hx=>?_,fun b o e n hb hx=>?_,I.base.free,fun b o e hx=>?_,I.base.zg,I.base.xl,I.base.zh⟩,⟨_,P0,fun j y v' e1 e2 e3=>?_⟩,fun y c e=>?_,I.free,I.ow,fun p hp=>?_,tracked ⟨oL,YH,I.free⟩ hs,by simpa using I.len⟩ ⟨_,hs,.inl rfl⟩
   . exact(hs.2 b (Nat.ne_of_lt (Nat.lt_of_lt_of_le (Heap.lt_size e) I.ok.above))).trans (I.base.keep b o e n hb hx)
   . obtain⟨sl,e1⟩:=I.base.slot b o e n hb hx
     exact⟨sl,(hs.2 b (Nat.ne_of_lt (Nat.lt_of_lt_of_le (Heap.lt_size e) I.ok.above))).trans e1⟩
   . obtain⟨o',e1⟩:=I.base.there b o e hx
     exact⟨o',(hs.2 b (Nat.ne_of_lt (Nat.lt_of_lt_of_le (Heap.lt_size e) I.ok.above))).trans e1⟩
   . by_cases hj:j=i
     . subst hj
       rw[hi] at e1;cases e1
       rw[List.getElem?_set_self Xb] at e2
       cases e2
       exact⟨u,r,.inl ⟨hk,by simp⟩⟩
     . rw[List.getElem?_set_ne (Ne.symm hj)] at e2
       obtain⟨u',r',q⟩:=hl j y v' e1 e2 e3
       refine⟨u',r',?_⟩
       rcases q with⟨k,e⟩ | ⟨k,c,e,z⟩
       . refine .inl ⟨k,?_⟩
         have:y≠x:=fun e=>hj (zk hN e1 (e ▸ hi))
         simp[this,e]
       . exact .inr ⟨k,c,e,z.sameBut hs (A0 y c e)⟩
   . obtain⟨w',z⟩:=I.cell y c e
     exact⟨w',z.sameBut hs (A0 y c e)⟩
   . obtain⟨e,n,ne,nf,d⟩:=I.pin p hp
     exact⟨(hs.2 p.1 ne).trans e,n,ne,nf,d⟩
 . have Uv:X.fn x=true:=by
     rcases hf with z | z
     . exact z
     . rw[z] at hk;cases hk
   obtain⟨c,hc⟩:=I.ok.has x (.inl hk)
   obtain⟨w',z⟩:=I.cell x c hc
   refine wpAny_storeName_cell I.ok.kind hk hc z (fun h' A1 hs=>?_)
   obtain⟨oc,Cj,Uw⟩:=id z
   refine h { s with heap:=h'} ⟨I.ok,I.os,I.bare,⟨fun b o e n hb hx=>?_,fun b o e n hb hx=>?_,I.base.free,fun b o e hx=>?_,I.base.zg,I.base.xl,I.base.zh⟩,⟨m,hn.sameBut hs (Ne.symm (A0 x c hc)),fun j y v' e1 e2 e3=>?_⟩,fun y c' e=>?_,I.free,I.ow,fun p hp=>?_,tracked ⟨oc,Cj,I.ow x c hc⟩ hs,by simpa using I.len⟩ ⟨c,hs,.inr hc⟩
   . exact(hs.2 b (Nat.ne_of_lt (Nat.lt_of_lt_of_le (Heap.lt_size e) (I.ok.PY x c Uv hc)))).trans (I.base.keep b o e n hb hx)
   . obtain⟨sl,e1⟩:=I.base.slot b o e n hb hx
     exact⟨sl,(hs.2 b (Nat.ne_of_lt (Nat.lt_of_lt_of_le (Heap.lt_size e) (I.ok.PY x c Uv hc)))).trans e1⟩
   . obtain⟨o',e1⟩:=I.base.there b o e hx
     exact⟨o',(hs.2 b (Nat.ne_of_lt (Nat.lt_of_lt_of_le (Heap.lt_size e) (I.ok.PY x c Uv hc)))).trans e1⟩
   . by_cases hj:j=i
     . subst hj
       rw[hi] at e1;cases e1
       rw[List.getElem?_set_self Xb] at e2
       cases e2
       exact⟨u,r,.inr ⟨.inl hk,c,hc,A1⟩⟩
     . rw[List.getElem?_set_ne (Ne.symm hj)] at e2
       obtain⟨u',r',q⟩:=hl j y v' e1 e2 e3
       refine⟨u',r',?_⟩
       rcases q with q | ⟨k,c',e,z'⟩
       . exact .inl q
       . refine .inr ⟨k,c',e,z'.sameBut hs ?_⟩
         rintro rfl
         exact hj (zk hN e1 (I.ok.inj _ _ _ e hc ▸ hi))
   . by_cases Qr:c'=c
     . subst Qr;exact⟨_,A1⟩
     . obtain⟨w2,z2⟩:=I.cell y c' e
       exact⟨w2,z2.sameBut hs Qr⟩
   . obtain⟨e,n,ne,nf,d⟩:=I.pin p hp
     refine⟨(hs.2 p.1 ?_).trans e,n,ne,nf,d⟩
     intro q
     rw[q,Cj] at e
     have q':oc=p.2:=Option.some.inj e
     exact d w' (by rw[<- q'];exact Uw)
theorem pk {M:Model}{A:Around}{E:Value->Shared->Prop}{i:Nat}{x:Str}{v:V}{u:Value}{Q:Unit->Shared->Prop}(I:Inv X pins σ H s)(hN:X.N.Nodup)(hi:X.N[i]?=some x)(hx:Loc X.env.scope x)(r:RelV v u)(h:∀ s',Inv X pins (σ.set i (some v)) H s'->Q () s')(hf:X.fn x=true\/X.env.scope.names.lookup x=some .local:=by first | exact .inl rfl | exact .inr rfl | assumption):wpAny M A (storeName X.env x u) Q E s:=
 qp I hN hi hx r (fun s' I' _=>h s' I') hf
theorem Inv.Fi {s':Shared}{ch:List Addr}(I:Inv X pins σ H s)(ho:s'.os=s.os)(u:Un (Fe X.stack) ch H H' s.heap s'.heap)(bb:o9 X.prog X.w H' s'.heap)(hg:AllBare s'.gens)(yY:∀ b∈ch,(b∈X.ex\/X.s₀.heap.objs.size<=b)/\b≠X.env.locals/\(∀ x c,X.env.cells.lookup x=some c->c≠b)/\∀ p∈X.pn ++ pins,p.1≠b):Inv X pins σ H' s':=by
 obtain⟨h',g',d',t',o'⟩:=s'
 have e:o'=s.os:=ho
 subst e
 exact I.call (g':=g') (t':=t') (d':=d') u bb hg yY
end
noncomputable abbrev XK:=Value->Option Addr->Hp->Prop
noncomputable abbrev St:=List (Option V)
noncomputable abbrev VK:=V->Hp->Prop
noncomputable abbrev TE:=St->Hp->VK->Prop
noncomputable abbrev TT:=St->Hp->(Bool->Hp->Prop)->Prop
noncomputable abbrev TA:=St->Hp->(List V->Hp->Prop)->Prop
structure Ends where
 nx:St->Hp->Prop
 rt:VK
 bk:St->Hp->Prop:=fun _ _=>False
 ct:St->Hp->Prop:=fun _ _=>False
noncomputable abbrev TS:=Ends->St->Hp->Prop
noncomputable def EP (X:Cx)(pins:List (Addr×Obj))(σ:St)(Q:VK)(u:Value)(s':Shared):Prop:=∃ v H',Inv X pins σ H' s'/\RelV v u/\Q v H'
noncomputable def TP (X:Cx)(pins:List (Addr×Obj))(σ:St)(Q:Bool->Hp->Prop)(b:Bool)(s':Shared):Prop:=∃ H',Inv X pins σ H' s'/\Q b H'
noncomputable def AP (X:Cx)(pins:List (Addr×Obj))(σ:St)(Q:List V->Hp->Prop)(us:List Value)(s':Shared):Prop:=∃ vs H',Inv X pins σ H' s'/\Vals vs us/\Q vs H'
noncomputable def SP (X:Cx)(pins:List (Addr×Obj))(D:Ends)(f:Flow)(s':Shared):Prop:=
 match f with
 | .next=>∃ σ' H',Inv X pins σ' H' s'/\D.nx σ' H'
 | .brk=>∃ σ' H',Inv X pins σ' H' s'/\D.bk σ' H'
 | .cont=>∃ σ' H',Inv X pins σ' H' s'/\D.ct σ' H'
 | .ret u=>∃ v σ' H',Inv X pins σ' H' s'/\RelV v u/\D.rt v H'
noncomputable def PE (X:Cx)(e:Expr)(t:TE):Prop:=
 ∀ (pins:List (Addr×Obj)) (s:Shared) (σ:St) (H:Hp) (Q:VK),Inv X pins σ H s->t σ H Q->wpAny (model X.prog X.w) X.A (eval e X.env) (EP X pins σ Q) X.xe s
noncomputable def PT (X:Cx)(e:Expr)(t:TT):Prop:=
 ∀ (pins:List (Addr×Obj)) (s:Shared) (σ:St) (H:Hp) (Q:Bool->Hp->Prop),Inv X pins σ H s->t σ H Q->wpAny (model X.prog X.w) X.A (isTrue e X.env (eval e X.env)) (TP X pins σ Q) X.xe s
noncomputable def PW (X:Cx)(e:Expr)(t:TT):Prop:=
 ∀ (whole:Sem Value) (pins:List (Addr×Obj)) (s:Shared) (σ:St) (H:Hp) (Q:Bool->Hp->Prop),Inv X pins σ H s->t σ H Q->wpAny (model X.prog X.w) X.A (isTrue e X.env whole) (TP X pins σ Q) X.xe s
theorem PW.pt {X:Cx}{e:Expr}{t:TT}(h:PW X e t):PT X e t:=h _
noncomputable def PA (X:Cx)(es:List Expr)(t:TA):Prop:=
 ∀ (pos:Pos) (pins:List (Addr×Obj)) (s:Shared) (σ:St) (H:Hp) (Q:List V->Hp->Prop),Inv X pins σ H s->t σ H Q->wpAny (model X.prog X.w) X.A (spliced (backTo pos (starEach es X.env))) (AP X pins σ Q) X.xe s
noncomputable def PS (X:Cx)(st:Stmt)(t:TS):Prop:=
 ∀ (pins:List (Addr×Obj)) (s:Shared) (σ:St) (H:Hp) (D:Ends),Inv X pins σ H s->t D σ H->wpAny (model X.prog X.w) X.A (exec st X.env) (SP X pins D) X.xe s
noncomputable def tW (X:Cx)(st:List Stmt)(t:TS):Prop:=
 ∀ (pins:List (Addr×Obj)) (s:Shared) (σ:St) (H:Hp) (D:Ends),Inv X pins σ H s->t D σ H->wpAny (model X.prog X.w) X.A (execs st X.env) (SP X pins D) X.xe s
theorem bQ {α:Type}{t:Sem α}{Q Q':α->Shared->Prop}{M:Model}{A:Around}{E:Value->Shared->Prop}{s:Shared}(h:wpAny M A t Q E s)(hQ:∀ a s,Q a s->Q' a s):wpAny M A t Q' E s:=wpAny_mono h hQ fun _ _ x=>x
section
variable {X:Cx}
noncomputable def Ux (i:Nat):TE:=fun σ H Q=>∃ v,σ[i]?=some (some v)/\Q v H
noncomputable def tC (v:V):TE:=fun _ H Q=>Q v H
theorem iO {i:Nat}{x:Str}{pos:Pos}(hN:X.N[i]?=some x)(hv:vH X.env.scope x)(hd:(x == ("__debug__":Str))=false:=by decide)(lP:(x == ("__classdict__":Str))=false:=by decide):PE X (.Name x pos) (Ux i):=by
 intro pins s σ H Q I h
 obtain⟨v,e,h⟩:=h
 obtain⟨m,hn,hl⟩:=I.loc
 obtain⟨u,r,l⟩:=hl i x v hN e hv
 have fin:EP X pins σ Q u s:=⟨v,H,I,r,h⟩
 rcases l with⟨hk,hm⟩ | ⟨hk,c,hc,LF⟩
 . exact wpAny_Name (wpAny_loadName_local I.ok.kind hk hn hm fin) hd
 . rcases hk with hk | hk
   . exact wpAny_Name (wpAny_loadName_cell I.ok.kind hk hc LF fin) hd
   . exact wpAny_Name (wpAny_loadName_free I.ok.kind hk hc LF fin lP) hd
theorem Fj {i j pos}:PE X (.Constant (.int i) j pos) (tC (.int i)):=fun _ _ _ H _ I h=>wpAny_Constant_int ⟨.int i,H,I.tok _,⟨_,rfl⟩,h⟩
theorem MO {x j pos}:PE X (.Constant (.str x) j pos) (tC (.str x)):=fun _ _ _ H _ I h=>Calls.Constant_str ⟨.str x,H,I.tok _,⟨_,rfl⟩,h⟩
noncomputable def Gl (X:Cx)(x:Str):Prop:=X.env.kindOf x=some .globalImplicit
theorem sC {E:Value->Shared->Prop}{pins:List (Addr×Obj)}{s:Shared}{σ:St}{H:Hp}{x:Str}{u:Value}{pos:Pos}{Q:Value->Shared->Prop}(I:Inv X pins σ H s)(hg:Gl X x)(hm:X.mg x=some u)(h:Q u s)(hd:(x == ("__debug__":Str))=false:=by decide):wpAny (model X.prog X.w) X.A (eval (.Name x pos) X.env) Q E s:=
 Calls.Name_function_global I.ok.kind hg (Calls.loadGlobal_global (by rw[I.ok.glob];exact I.mod.glob.keeps I.bk) hm h) hd
theorem qr {E:Value->Shared->Prop}{pins:List (Addr×Obj)}{s:Shared}{σ:St}{H:Hp}{x:Str}{u:Value}{pos:Pos}{Q:Value->Shared->Prop}(I:Inv X pins σ H s)(hg:Gl X x)(hm:X.mg x=none)(hv:bootBuiltins x=some u)(h:Q u s)(hn:x≠"__name__":=by decide)(hd:(x == ("__debug__":Str))=false:=by decide):wpAny (model X.prog X.w) X.A (eval (.Name x pos) X.env) Q E s:=by
 obtain⟨mb,h1,h2⟩:=I.mod.blt
 exact Calls.Name_function_global I.ok.kind hg (Calls.loadGlobal_builtin (by rw[I.ok.glob];exact I.mod.glob.keeps I.bk) hm (by rw[I.ok.blt];exact h1.keeps I.bk) ((h2 x hn).trans hv) h) hd
theorem Jk {x:Str}{v:V}{u:Value}{pos:Pos}(hg:Gl X x)(hm:X.mg x=some u)(r:RelV v u)(hd:(x == ("__debug__":Str))=false:=by decide):PE X (.Name x pos) (tC v):=
 fun _ _ _ H _ I h=>sC I hg hm ⟨v,H,I,r,h⟩ hd
theorem Jl {x:Str}{v:V}{u:Value}{pos:Pos}(hg:Gl X x)(hm:X.mg x=none)(hv:bootBuiltins x=some u)(r:RelV v u)(hn:x≠"__name__":=by decide)(hd:(x == ("__debug__":Str))=false:=by decide):PE X (.Name x pos) (tC v):=
 fun _ _ _ H _ I h=>qr I hg hm hv ⟨v,H,I,r,h⟩ hn hd
variable {a b:Expr}{ta tb:TE}{pos:Pos}
noncomputable def PC (X:Cx)(op:CmpOp)(a b:Expr)(t:TE):Prop:=
 ∀ (pins:List (Addr×Obj)) (s:Shared) (σ:St) (H:Hp) (Q:VK),Inv X pins σ H s->t σ H Q ->
   wpAny (model X.prog X.w) X.A (eval a X.env) (fun v s₁=>wpAny (model X.prog X.w) X.A (eval b X.env) (fun u s₂=>wpAny (model X.prog X.w) X.A (compareOp op v u) (EP X pins σ Q) X.xe s₂) X.xe s₁) X.xe s
noncomputable def tB (t:TE):TT:=fun σ H Q=>t σ H fun x H1=>∃ c,x=.bl c/\Q c H1
theorem Fl {op:CmpOp}{t:TE}(h:PC X op a b t)(h1:behindInMarks op b=false:=by first | exact Qs _ (by decide) (by decide) | rfl):PT X (.Compare a [op] [b] pos) (tB t):=by
 intro pins s σ H Q I hw
 refine wpAny_isTrue_Compare1 (bQ (h pins s σ H _ I hw) fun v s1 h1=>bQ h1 fun u s2 h2=>bQ h2 fun c s3 ⟨x,H1,I1,r1,q1⟩=>?_) h1
 obtain⟨d,rfl,q⟩:=q1
 cases r1
 exact wpAny_truthy_bool ⟨H1,I1,q⟩
theorem MP {e:Expr}{t:TE}(h:PE X e t)(he:∀ whole,isTrue e X.env whole=(do let v <- whole;standAt e.pos;holding [v] (truthy v)):=by intro _;rfl):PT X e (tB t):=by
 intro pins s σ H Q I hw
 refine isTrue_plain (bQ (h pins s σ H _ I hw) fun v s1 ⟨x,H1,I1,r1,q1⟩=>?_) (he _)
 obtain⟨d,rfl,q⟩:=q1
 cases r1
 exact wpAny_truthy_bool ⟨H1,I1,q⟩
variable {tA Tn:TT}{rest:List Expr}
noncomputable def Uy (t u:TT):TT:=fun σ H Q=>t σ H fun c H1=>if c=true then u σ H1 Q else Q false H1
noncomputable def YI (t u:TT):TT:=fun σ H Q=>t σ H fun c H1=>if c=true then Q true H1 else u σ H1 Q
noncomputable def Uz (t:TT):TT:=fun σ H Q=>t σ H fun c H1=>Q (!c) H1
theorem pw_and1 (ha:PT X a tA):PW X (.BoolOp .And [a] pos) tA:=by
 intro wh pins s σ H Q I h
 refine isTrue_and (bQ (ha pins s σ H Q I h) fun c s1 e=>?_)
 cases c with
 | true=>exact isTrue_and_nil e
 | false=>exact e
theorem pw_or1 (ha:PT X a tA):PW X (.BoolOp .Or [a] pos) tA:=by
 intro wh pins s σ H Q I h
 refine isTrue_or (bQ (ha pins s σ H Q I h) fun c s1 e=>?_)
 cases c with
 | false=>exact isTrue_or_nil e
 | true=>exact e
theorem pw_and (ha:PT X a tA)(hb:PW X (.BoolOp .And (b::rest) pos) Tn):PW X (.BoolOp .And (a::b::rest) pos) (Uy tA Tn):=by
 intro wh pins s σ H Q I h
 refine isTrue_and (bQ (ha pins s σ H _ I h) fun c s1 ⟨H1,I1,q1⟩=>?_)
 cases c with
 | true=>exact hb wh pins s1 σ H1 Q I1 q1
 | false=>exact⟨H1,I1,q1⟩
theorem pw_or (ha:PT X a tA)(hb:PW X (.BoolOp .Or (b::rest) pos) Tn):PW X (.BoolOp .Or (a::b::rest) pos) (YI tA Tn):=by
 intro wh pins s σ H Q I h
 refine isTrue_or (bQ (ha pins s σ H _ I h) fun c s1 ⟨H1,I1,q1⟩=>?_)
 cases c with
 | true=>exact⟨H1,I1,q1⟩
 | false=>exact hb wh pins s1 σ H1 Q I1 q1
theorem MQ (ha:PT X a tA):PT X (.UnaryOp .Not a pos) (Uz tA):=by
 intro pins s σ H Q I h
 exact isTrue_not (ha pins s σ H (fun c H1=>Q (!c) H1) I h)
noncomputable def Qt (ta tb:TE):TE:=fun σ H Q=>ta σ H fun x H1=>∃ c,x=.bl c/\if c=true then tb σ H1 Q else Q (.bl false) H1
noncomputable def Qu (ta:TE):TE:=fun σ H Q=>ta σ H fun x H1=>∃ c,x=.bl c/\Q (.bl (!c)) H1
theorem MR {op}{t:TE}(h:PE X a t):PE X (.BoolOp op [a] pos) t:=fun pins s σ H Q I hw=>BoolOp_one (h pins s σ H Q I hw)
theorem Fm (ha:PE X a ta)(hb:PE X (.BoolOp .And (b::rest) pos) tb):PE X (.BoolOp .And (a::b::rest) pos) (Qt ta tb):=by
 intro pins s σ H Q I h
 refine BoolOp_and (bQ (ha pins s σ H _ I h) fun v s1 ⟨x,H1,I1,r1,q1⟩=>?_)
 obtain⟨c,rfl,q1⟩:=q1
 cases r1
 refine wpAny_truthy_bool ?_
 cases c with
 | true=>exact hb pins s1 σ H1 Q I1 q1
 | false=>exact⟨.bl false,H1,I1,rfl,q1⟩
theorem MS (ha:PE X a ta):PE X (.UnaryOp .Not a pos) (Qu ta):=by
 intro pins s σ H Q I h
 refine UnaryOp_ (bQ (ha pins s σ H _ I h) fun v s1 ⟨x,H1,I1,r1,q1⟩=>?_)
 obtain⟨c,rfl,q1⟩:=q1
 cases r1
 exact not_of (wpAny_truthy_bool ⟨.bl (!c),H1,I1,rfl,q1⟩)
noncomputable def YJ (t:TT)(ta tb:TE):TE:=fun σ H Q=>t σ H fun c H1=>if c=true then ta σ H1 Q else tb σ H1 Q
theorem zl {c:Expr}(hc:PT X c tA)(ha:PE X a ta)(hb:PE X b tb):PE X (.IfExp c a b pos) (YJ tA ta tb):=by
 intro pins s σ H Q I h
 refine wpAny_IfExp (bQ (hc pins s σ H _ I h) fun d s1 ⟨H1,I1,q1⟩=>?_)
 cases d with
 | true=>exact ha pins s1 σ H1 Q I1 q1
 | false=>exact hb pins s1 σ H1 Q I1 q1
end
noncomputable def mK (K:PySem.W.Frag)(H:Hp)(a:Addr)(xs:List V):Prop:=
 Rd H a (.lst xs) \/
   ∃ (o:Obj) (aH:Array Value) (n:Nat),K.lookup a=some o/\o.cls=.type "list"/\o.dict=none/\o.data=.seq aH n/\aH.size<=sizeLine/\Vals xs aH.toList
noncomputable abbrev sD (K:PySem.W.Frag)(H:Hp)(a:Addr)(xs:List V):Prop:=TupAt K H a xs
noncomputable def UA:Value->Option V
 | .none=>some .cF
 | .bool b=>some (.bl b)
 | .int i _=>some (.int i)
 | .str x _=>some (.str x)
 | .bytes b _=>some (.EY b)
 | .float b _=>some (.MI b)
 | .ref a=>some (.ref a)
 | .type n=>some (.ty n)
 | _=>none
theorem RelV.abs {x:V}{u:Value}(r:RelV x u):UA u=some x:=by
 cases x with
 | cF=>cases r;rfl
 | bl _=>cases r;rfl
 | int _=>obtain⟨t,rfl⟩:=r;rfl
 | str _=>obtain⟨t,rfl⟩:=r;rfl
 | EY _=>obtain⟨t,rfl⟩:=r;rfl
 | MI _=>obtain⟨t,rfl⟩:=r;rfl
 | ref _=>cases r;rfl
 | ty _=>cases r;rfl
theorem RelV.inj {x y:V}{u:Value}(r:RelV x u)(q:RelV y u):x=y:=Option.some.inj (r.abs.symm.trans q.abs)
theorem Vals.inj:∀ {xs ys:List V} {us:List Value},Vals xs us->Vals ys us->xs=ys
 | _,_,_,.nil,.nil=>rfl
 | _,_,_,.cons r t,.cons r' t'=>by rw[r.inj r',Vals.inj t t']
section
variable {X:Cx}{pins:List (Addr×Obj)}{σ:St}{H:Hp}{s:Shared}{a:Addr}{xs ys:List V}
theorem mK.of {K:W.Frag}(h:H a=some (.lst xs)):mK K H a xs:=.inl (.inl h)
theorem sD.of {K:W.Frag}(h:H a=some (.tup xs)):sD K H a xs:=.inl h
theorem Inv.list (I:Inv X pins σ H s)(h:mK X.K H a xs):∃ aH:List Value,Vals xs aH/\PlainL s.heap a aH.toArray/\xs.length<=sizeLine:=by
 rcases h with h | ⟨o,aH,n,hk,hc,hd,hs,hz,r⟩
 . obtain⟨z,aH,n,r,e⟩:=h.ok I.bb
   exact⟨aH,r,⟨_,n,e,rfl,rfl,rfl⟩,z⟩
 . refine⟨aH.toList,r,⟨o,n,I.lO a o hk,hc,hd,by simpa using hs⟩,?_⟩
   have e:=r.length
   simp only[Array.length_toList] at e
   omega
theorem Inv.tuple (I:Inv X pins σ H s)(h:sD X.K H a xs):∃ aH:List Value,Vals xs aH/\IsTup s.heap a aH.toArray/\xs.length<=sizeLine:=by
 rcases h with h | ⟨o,aH,n,hk,hc,hs,hz,r⟩
 . obtain⟨z,aH,r,p⟩:=(show aK X.prog X.w H s.heap a (.tup xs) from I.bb a _ h)
   exact⟨aH,r,p,z⟩
 . refine⟨aH.toList,r,⟨o,I.lO a o hk,hc,n,by simpa using hs⟩,?_⟩
   have e:=r.length
   simp only[Array.length_toList] at e
   omega
theorem Inv.zm (I:Inv X pins σ H s)(h:mK X.K H a xs)(h':mK X.K H a ys):xs=ys:=by
 obtain⟨aH,r,⟨o,n,e,_,_,d⟩,_⟩:=I.list h
 obtain⟨its',r',⟨o',n',e',_,_,d'⟩,_⟩:=I.list h'
 rw[e] at e';cases e'
 rw[d] at d'
 injection d' with d1 _
 have:aH=its':=by simpa using congrArg Array.toList d1
 subst this
 exact r.inj r'
theorem Inv.DJ (I:Inv X pins σ H s)(h:sD X.K H a xs)(h':sD X.K H a ys):xs=ys:=by
 obtain⟨aH,r,⟨o,e,_,n,d⟩,_⟩:=I.tuple h
 obtain⟨its',r',⟨o',e',_,n',d'⟩,_⟩:=I.tuple h'
 rw[e] at e';cases e'
 rw[d] at d'
 injection d' with d1 _
 have:aH=its':=by simpa using congrArg Array.toList d1
 subst this
 exact r.inj r'
end
section
variable {X:Cx}{st:Stmt}{rest:List Stmt}{t u:TS}{e:Expr}{te:TE}{pos:Pos}
noncomputable def Qv:TS:=fun D σ H=>D.nx σ H
noncomputable def UB (t u:TS):TS:=fun D σ H=>t { D with nx:=u D} σ H
theorem Ck:tW X [] Qv:=fun _ _ σ H _ I h=>wpAny_execs_nil ⟨σ,H,I,h⟩
theorem gb (h1:PS X st t)(h2:tW X rest u):tW X (st::rest) (UB t u):=by
 intro pins s σ H D I h
 refine wpAny_execs_cons (bQ (h1 pins s σ H { D with nx:=u D} I h) fun f s1 q=>?_)
 cases f with
 | next=>
   obtain⟨σ',H',I',q⟩:=q
   exact h2 pins s1 σ' H' D I' q
 | ret v=>exact q
 | brk=>exact q
 | cont=>exact q
theorem kL (h1:PS X st t):tW X [st] t:=by
 intro pins s σ H D I h
 refine wpAny_execs_cons (bQ (h1 pins s σ H D I h) fun f s1 q=>?_)
 cases f with
 | next=>exact wpAny_execs_nil q
 | ret v=>exact q
 | brk=>exact q
 | cont=>exact q
theorem Inv.quiet {pins:List (Addr×Obj)}{σ:St}{H:Hp}{s:Shared}(I:Inv X pins σ H s):interactive X.env=false:=by simp[interactive,I.ok.kind]
noncomputable def Qw (te:TE):TS:=fun D σ H=>te σ H fun _ H1=>D.nx σ H1
theorem lQ (he:PE X e te)(hs:swapsWith e none pos.line X.env=pure false:=by rfl):PS X (.Expr e pos) (Qw te):=by
 intro pins s σ H D I h
 exact wpAny_Expr_any (bQ (he pins s σ H _ I h) fun v s1 ⟨x,H1,I1,r1,q1⟩=>⟨σ,H1,I1,q1⟩) I.quiet hs
noncomputable def UC (te:TE):TS:=fun D σ H=>te σ H D.rt
theorem A5 (he:PE X e te):PS X (.Return (some e) pos) (UC te):=by
 intro pins s σ H D I h
 exact wpAny_Return_some (bQ (he pins s σ H _ I h) fun v s1 ⟨x,H1,I1,r1,q1⟩=>⟨x,σ,H1,I1,r1,q1⟩)
noncomputable def UD (c:TT)(t u:TS):TS:=fun D σ H=>c σ H fun b H1=>if b=true then t D σ H1 else u D σ H1
theorem Fn {c:Expr}{a b:List Stmt}{tc:TT}(hc:PT X c tc)(ha:tW X a t)(hb:tW X b u):PS X (.If c a b pos) (UD tc t u):=by
 intro pins s σ H D I h
 refine wpAny_If (bQ (hc pins s σ H _ I h) fun d s1 ⟨H1,I1,q1⟩=>?_)
 cases d with
 | true=>exact ha pins s1 σ H1 D I1 q1
 | false=>exact hb pins s1 σ H1 D I1 q1
noncomputable def MT:TS:=fun _ _ _=>False
theorem nB {sts:List Stmt}:tW X sts MT:=fun _ _ _ _ _ _ h=>h.elim
end
noncomputable abbrev TG:=V->St->Hp->(St->Hp->Prop)->Prop
noncomputable abbrev MU:=List V->St->Hp->(St->Hp->Prop)->Prop
noncomputable def PG (X:Cx)(target:Expr)(t:TG):Prop:=
 ∀ (pins:List (Addr×Obj)) (s:Shared) (σ:St) (H:Hp) (v:V) (u:Value) (Q:St->Hp->Prop),Inv X pins σ H s->RelV v u->t v σ H Q ->
   wpAny (model X.prog X.w) X.A (assign target X.env u) (fun _ s'=>∃ σ' H',Inv X pins σ' H' s'/\Q σ' H') X.xe s
noncomputable def To (X:Cx)(ts:List Expr)(t:MU):Prop:=
 ∀ (pins:List (Addr×Obj)) (s:Shared) (σ:St) (H:Hp) (vs:List V) (us:List Value) (Q:St->Hp->Prop),Inv X pins σ H s->Vals vs us->t vs σ H Q ->
   wpAny (model X.prog X.w) X.A (assignInOrder ((assignEach ts X.env).map (·.2)) us) (fun _ s'=>∃ σ' H',Inv X pins σ' H' s'/\Q σ' H') X.xe s
noncomputable abbrev MV:=V->V->V->Hp->(Hp->Prop)->Prop
noncomputable def Qx (X:Cx)(t:MV):Prop:=
 ∀ (pins:List (Addr×Obj)) (s:Shared) (σ:St) (H:Hp) (o i v:V) (ov iv u:Value) (Q:Hp->Prop),Inv X pins σ H s->RelV o ov->RelV i iv->RelV v u->t o i v H Q ->
   wpAny (model X.prog X.w) X.A (setItem ov iv u) (fun _ s'=>∃ H',Inv X pins σ H' s'/\Q H') X.xe s
section
variable {X:Cx}{pos:Pos}
noncomputable def rE (i:Nat):TG:=fun v σ H Q=>Q (σ.set i (some v)) H
theorem ck {i:Nat}{x:Str}(hN:X.N.Nodup)(hi:X.N[i]?=some x)(hx:Loc X.env.scope x)(hf:X.fn x=true\/X.env.scope.names.lookup x=some .local:=by first | exact .inl rfl | exact .inr rfl | assumption):PG X (.Name x pos) (rE i):=by
 intro pins s σ H v u Q I r h
 exact wpAny_assign_Name (pk I hN hi hx r (fun s' I'=>⟨_,H,I',h⟩) hf)
noncomputable def Qy:MU:=fun vs σ H Q=>vs=[]/\Q σ H
noncomputable def Fp (t:TG)(u:MU):MU:=fun vs σ H Q=>∃ v r,vs=v::r/\t v σ H fun σ' H'=>u r σ' H' Q
theorem sE:To X [] Qy:=by
 intro pins s σ H vs us Q I r h
 obtain⟨e,h⟩:=h
 subst e
 cases r
 exact assignInOrder_nil ⟨σ,H,I,h⟩
theorem gc {e:Expr}{es:List Expr}{t:TG}{u:MU}(h1:PG X e t)(h2:To X es u)(hs:(assignEach (e::es) X.env).map (·.2)=assign e X.env::(assignEach es X.env).map (·.2):=by rfl):To X (e::es) (Fp t u):=by
 intro pins s σ H vs us Q I r h
 obtain⟨v,vr,e1,h⟩:=h
 subst e1
 cases r with
 | cons r rr=>
   rw[hs]
   refine assignInOrder_cons (bQ (h1 pins s σ H _ _ _ I r h) fun _ s1 ⟨σ1,H1,I1,q1⟩=>?_)
   exact h2 pins s1 σ1 H1 _ _ Q I1 rr q1
noncomputable def Qz (K:W.Frag)(n:Nat)(t:MU):TG:=fun v σ H Q=>∃ a xs,v=.ref a/\sD K H a xs/\xs.length=n/\t xs σ H Q
theorem xn {es:List Expr}{k:Nat}{t:MU}{n:Nat}(hc:X.calm=true)(h:To X es t)(hn:(assignEach es X.env).length=n:=by rfl)(oM:(assignEach es X.env).findIdx? (·.1)=none:=by rfl):PG X (.Tuple es k pos) (Qz X.K n t):=by
 intro pins s σ H v u Q I r hw
 obtain⟨a,xs,e1,hq,hl,hw⟩:=hw
 subst e1
 cases r
 obtain⟨aH,rv,ht,hz⟩:=I.tuple hq
 refine assign_Tuple_tuple (I.ok.hd hc) ht (by simp[hn,<- hl,rv.length]) oM fun h' hx=>?_
 have I1:Inv X pins σ H { s with heap:=h'}:=I.kept (t':=s.toks) fun b o e=>hx b o (Nat.ne_of_lt (Heap.lt_size e)) e
 exact h pins _ σ H xs _ Q I1 (by simpa using rv) hw
noncomputable def UE (to ti:TE)(t:MV):TG:=fun v σ H Q=>to σ H fun o H1=>ti σ H1 fun i H2=>t o i v H2 fun H3=>Q σ H3
theorem MW {o i:Expr}{to ti:TE}{t:MV}(ho:PE X o to)(hi:PE X i ti)(hs:Qx X t)
   (ha:∀ v,assign (.Subscript o i pos) X.env v=(do
     let ov <- holding [v] (eval o X.env)
     let iv <- holding [v,ov] (eval i X.env)
     standAt pos
     holding [v,ov,iv] (setItem ov iv v)
     release [v,ov,iv] []):=by intro _;rfl):PG X (.Subscript o i pos) (UE to ti t):=by
 intro pins s σ H v u Q I r h
 rw[ha]
 refine wpAny_bind (wpAny_holding (bQ (ho pins s σ H _ I h) fun ov s1 ⟨x,H1,I1,r1,q1⟩=>?_))
 refine wpAny_bind (wpAny_holding (bQ (hi pins s1 σ H1 _ I1 q1) fun iv s2 ⟨y,H2,I2,r2,q2⟩=>?_))
 refine wpAny_bind (wpAny_standAt (wpAny_bind (wpAny_holding (bQ (hs pins s2 σ H2 x y v ov iv u _ I2 r1 r2 r q2) fun _ s3 ⟨H3,I3,q3⟩=>?_))))
 exact wpAny_release ⟨σ,H3,I3,q3⟩
noncomputable def QA (te:TE)(g:TG):TS:=fun D σ H=>te σ H fun x H1=>g x σ H1 D.nx
theorem A6 {tg e:Expr}{te:TE}{g:TG}(he:PE X e te)(hg:PG X tg g)(hs:swapsWithSole [tg] e pos.line X.env=pure false:=by rfl)(hw:swappedStores [tg] e X.env=pure none:=by rfl)(h1:(assignEach [tg] X.env).map (·.2)=[assign tg X.env]:=by rfl):PS X (.Assign [tg] e pos) (QA te g):=by
 intro pins s σ H D I h
 refine wpAny_Assign_stores (bQ (he pins s σ H _ I h) fun v s1 ⟨x,H1,I1,r1,q1⟩=>?_) hs hw
 rw[h1]
 exact bQ (hg pins s1 σ H1 x v _ I1 r1 q1) fun _ s2 q=>q
theorem xp {i:Nat}{x:Str}{e:Expr}{te:TE}{pos':Pos}(hN:X.N.Nodup)(hi:X.N[i]?=some x)(hx:Loc X.env.scope x)(he:PE X e te)(hs:swapsWith e (some (.Name x pos')) pos.line X.env=pure false:=by rfl)(hf:X.fn x=true\/X.env.scope.names.lookup x=some .local:=by first | exact .inl rfl | exact .inr rfl | assumption):PS X (.Assign [.Name x pos'] e pos) (QA te (rE i)):=by
 intro pins s σ H D I h
 refine wpAny_Assign_Name (bQ (he pins s σ H _ I h) fun v s1 ⟨y,H1,I1,r1,q1⟩=>?_) hs
 exact pk I1 hN hi hx r1 (fun s2 I2=>⟨_,H1,I2,q1⟩) hf
noncomputable def UG (i j:Nat)(ta:TA):TS:=fun D σ H=>ta σ H fun vs H1=>∃ v w,vs=[v,w]/\D.nx ((σ.set i (some v)).set j (some w)) H1
theorem MX {i j:Nat}{x y:Str}{a b:Expr}{ta:TA}{px py pt:Pos}{kt k2 MY}(hc:X.calm=true)(hN:X.N.Nodup)(hi:X.N[i]?=some x)(hj:X.N[j]?=some y)(QB:i≠j)(hx:X.env.scope.names.lookup x=some .local)(hy:X.env.scope.names.lookup y=some .local)(ha:PA X [a,b] ta)(hw:swappedStores [.Tuple [.Name x px,.Name y py] kt pt] (.Tuple [a,b] k2 MY) X.env=pure (some [x,y]))(hs:swapsWithSole [.Tuple [.Name x px,.Name y py] kt pt] (.Tuple [a,b] k2 MY) pos.line X.env=pure false:=by rfl):PS X (.Assign [.Tuple [.Name x px,.Name y py] kt pt] (.Tuple [a,b] k2 MY) pos) (UG i j ta):=by
 intro pins s σ H D I h
 rw[exec_Assign_arm]
 refine wpAny_bind (wpAny_standAt ?_)
 rw[hs]
 refine wpAny_bind (wpAny_pure ?_)
 rw[if_neg (by decide)]
 refine wpAny_bind (Tuple_ (bQ (ha _ pins s σ H _ I h) fun us s1 ⟨vs,H1,I1,r1,q1⟩=>?_))
 obtain⟨v,w,e1,q1⟩:=q1
 subst e1
 obtain⟨u1,u2,rfl,rv,Fq⟩:∃ u1 u2,us=[u1,u2]/\RelV v u1/\RelV w u2:=by
   cases r1 with
   | cons p q=>
     cases q with
     | cons p' q'=>
       cases q'
       exact⟨_,_,rfl,p,p'⟩
 refine wpAny_newObj_type ?_ (by show 2<=sizeLine;decide)
 have I2:Inv X pins σ H1 { s1 with heap:=s1.heap.push { cls:=.type "tuple",data:=.seq [u1,u2].toArray}}:=I1.kept (t':=s1.toks) fun b o e=>Heap.get?_push_of_some _ e
 rw[hw]
 refine wpAny_bind (wpAny_pure ?_)
 show wpAny (model X.prog X.w) X.A (do rule "assign.swapped-stores";let items <- unpackItems (.ref s1.heap.objs.size) 2 none;assignInOrder [fun v=>bindName X.env y v,fun v=>bindName X.env x v] items.reverse;pure Flow.next) _ _ _
 refine wpAny_bind (wpAny_rule (wpAny_bind (unpackItems_tuple (items:=#[u1,u2]) (I.ok.hd hc) (IsTup.new s1.heap _) fun h' zo=>?_)))
 have I3:=I2.kept (h':=h') (t':=s1.toks) fun b o e=>zo b o (Nat.ne_of_lt (Heap.lt_size e)) e
 show wpAny _ _ (assignInOrder [fun v=>bindName X.env y v,fun v=>bindName X.env x v] [u2,u1] >>= fun _=>pure Flow.next) _ _ _
 refine wpAny_bind (assignInOrder_cons (wpAny_bindName (pk I3 hN hj (.inl hy) Fq (fun s2 I4=>?_) (.inr hy))))
 refine assignInOrder_cons (wpAny_bindName (pk I4 hN hi (.inl hx) rv (fun s3 I5=>assignInOrder_nil (wpAny_pure ?_)) (.inr hx)))
 rw[List.set_comm _ _ (Ne.symm QB)] at I5
 exact⟨_,H1,I5,q1⟩
end
section
variable {X:Cx}{pos:Pos}
noncomputable def MZ (c:TT)(tb:TS):TS:=fun D σ H=>∃ W:Nat->St->Hp->Prop,(∃ m,W m σ H)/\∀ m σ H,W m σ H ->
 c σ H fun b H1=>if b=true then ∃ N:St->Hp->Prop,(∀ σ' H',N σ' H'->∃ m',m' < m/\W m' σ' H')/\tb { D with nx:=N,ct:=N,bk:=D.nx} σ H1 else D.nx σ H1
theorem Fs {c:Expr}{body:List Stmt}{tc:TT}{tb:TS}(hp:PassesOwn (model X.prog X.w) X.A X.env X.xe)(hc:PT X c tc)(hb:tW X body tb):PS X (.While c body [] pos) (MZ tc tb):=by
 intro pins s σ H D I h
 obtain⟨W,⟨m0,w0⟩,turn⟩:=h
 refine wpAny_While (codeAny_whileLoop (fun n s'=>∃ σ' H',Inv X pins σ' H' s'/\W n σ' H') ?_ m0 ⟨σ,H,I,w0⟩)
 rintro n s1 ⟨σ1,H1,I1,w1⟩
 refine wpAny_passesOwn hp (bQ (hc pins s1 σ1 H1 _ I1 (turn n σ1 H1 w1)) fun b s2 ⟨H2,I2,q2⟩=>?_)
 cases b with
 | true=>
   obtain⟨N,hN,q2⟩:=q2
   rw[if_pos rfl]
   refine wpAny_passesOwn hp (bQ (hb pins s2 σ1 H2 _ I2 q2) fun f s3 q3=>?_)
   cases f with
   | next=>
     obtain⟨σ3,H3,I3,n3⟩:=q3
     obtain⟨m',hm,w3⟩:=hN σ3 H3 n3
     exact⟨m',hm,σ3,H3,I3,w3⟩
   | cont=>
     obtain⟨σ3,H3,I3,n3⟩:=q3
     obtain⟨m',hm,w3⟩:=hN σ3 H3 n3
     exact⟨m',hm,σ3,H3,I3,w3⟩
   | brk=>exact q3
   | ret v=>exact q3
 | false=>
   rw[if_neg Bool.false_ne_true]
   exact wpAny_execs_nil ⟨σ1,H2,I2,q2⟩
end
structure It where
 go:Nat->Hp->Prop
 IT:Nat->Hp->V->Hp->Prop
 stop:Nat->Hp->Prop
noncomputable def kj (X:Cx)(pins:List (Addr×Obj))(H:Hp)(b:Addr):Prop:=
 H b=none/\b≠X.env.locals/\b ∉ X.fs/\(b∈X.ex\/X.s₀.heap.objs.size<=b)/\(∀ x c,X.env.cells.lookup x=some c->c≠b)/\∀ p∈X.pn ++ pins,p.1≠b
theorem Inv.vI {X:Cx}{pins:List (Addr×Obj)}{σ:St}{H H':Hp}{s:Shared}{b:Addr}(I:Inv X pins σ H s)(hb:s.heap.objs.size<=b)(hn:H' b=none):kj X pins H' b:=by
 refine⟨hn,Nat.ne_of_gt (Nat.lt_of_lt_of_le I.lt hb),I.Ur hb,.inr (Nat.le_trans I.sz hb),fun x c e z=>?_,fun p hp z=>?_⟩
 . obtain⟨v,q⟩:=I.cell x c e
   exact absurd (Nat.lt_of_lt_of_le q.lt (by rw[z];exact hb)) (Nat.lt_irrefl _)
 . exact absurd (Nat.lt_of_lt_of_le (Heap.lt_size (I.pin p hp).1) (by rw[z];exact hb)) (Nat.lt_irrefl _)
structure Turn (P:Program)(w:World)(K:W.Frag)(tg:Expr)(J:It)(fp:List Addr)(it:Addr)(tn:Nat->Heap->Prop):Prop where
 mem:it∈fp
 obj:∀ i h,tn i h->∀ b∈fp,∃ o,h.get? b=some o/\∀ v,o.data≠.cell v
 keep:∀ i h h',tn i h->(∀ b∈fp,∀ o,h.get? b=some o->h'.get? b=some o)->tn i h'
 item:∀ (X:Cx),X.prog=P->X.w=w->X.K=K->X.calm=true->∀ (i:Nat) (pins:List (Addr×Obj)) (s:Shared) (σ:St) (H:Hp) (E:Value->Shared->Prop),Inv X pins σ H s->(∀ b∈fp,kj X pins H b)->tn i s.heap->J.go i H ->
   wpAny (model P w) X.A (pyNext (.ref it)) (fun r s1=>∃ u,r=some u /\
     wpAny (model P w) X.A (letOwnedTupleGo tg (.ref it) u) (fun _ s2=>∃ x H',Inv X pins σ H' s2/\RelV x u/\J.IT i H x H'/\tn (i+1) s2.heap/\∀ b∈fp,H' b=none) E s1) E s
 done:∀ (X:Cx),X.prog=P->X.w=w->X.K=K->X.calm=true->∀ (i:Nat) (pins:List (Addr×Obj)) (s:Shared) (σ:St) (H:Hp) (E:Value->Shared->Prop),Inv X pins σ H s->(∀ b∈fp,kj X pins H b)->tn i s.heap->J.stop i H ->
   wpAny (model P w) X.A (pyNext (.ref it)) (fun r s1=>r=none/\Inv X pins σ H s1) E s
 self:∀ (A:Around) (i:Nat) (s:Shared) (Q:Value->Shared->Prop) (E:Value->Shared->Prop),tn i s.heap->Q (.ref it) s->wpAny (model P w) A (pyIter (.ref it)) Q E s
noncomputable abbrev TI:=St->Hp->(It->Hp->Prop)->Prop
noncomputable def Xc (X:Cx)(pins:List (Addr×Obj))(σ:St)(tg:Expr)(R:It->Hp->Prop)(M0:Value)(s2:Shared):Prop:=
 ∃ (it:Addr) (fp:List Addr) (tn:Nat->Heap->Prop) (J:It) (H':Hp),M0=.ref it/\Inv X pins σ H' s2/\Turn X.prog X.w X.K tg J fp it tn/\tn 0 s2.heap/\(∀ b∈fp,kj X pins H' b)/\R J H'
noncomputable def PI (X:Cx)(tg iter:Expr)(wi:TI):Prop:=
 ∀ (pins:List (Addr×Obj)) (s:Shared) (σ:St) (H:Hp) (R:It->Hp->Prop),Inv X pins σ H s->wi σ H R ->
   wpAny (model X.prog X.w) X.A (eval iter X.env) (fun v s1=>wpAny (model X.prog X.w) X.A (pyIter v) (Xc X pins σ tg R) X.xe s1) X.xe s
theorem Cm {M:Model}{A:Around}{E:Value->Shared->Prop}{s:Shared}{tg:Expr}{it:Addr}{u:Value}{o:Obj}{n:String}{vs:Array Value}{Q:Unit->Shared->Prop}(ho:s.heap.get? it=some o)(hc:o.cls=.type n)(hd:o.data=.fields vs)(hn:["enumerate","zip","dict_itemiterator","dict_reverseitemiterator","odict_iterator","itertools.zip_longest","itertools.pairwise"].contains n=false)(hQ:Q () s):wpAny M A (letOwnedTupleGo tg (.ref it) u) Q E s:=by
 unfold letOwnedTupleGo
 cases tg <;> first
   | exact wpAny_pure hQ
   | (cases u <;> first
       | exact wpAny_pure hQ
       | (refine wpAny_bind (wpAny_load ho ?_)
          rw[hc,hd]
          show wpAny M A (if (["enumerate","zip","dict_itemiterator","dict_reverseitemiterator","odict_iterator","itertools.zip_longest","itertools.pairwise"].contains n && vs[0]? == some (rawInt _))=true then _ else _) Q E s
          rw[if_neg (by intro h;rw[hn,Bool.false_and] at h;cases h)]
          exact wpAny_pure hQ))
noncomputable def QC (K:W.Frag)(a:Addr):It:=
 ⟨fun i H=>∃ xs x,mK K H a xs/\xs[i]?=some x,fun i H x H'=>H'=H/\∀ xs,mK K H a xs->xs[i]?=some x,fun i H=>∃ xs,mK K H a xs/\xs.length<=i⟩
noncomputable def Xd (K:W.Frag)(a:Addr):It:=
 ⟨fun i H=>∃ xs x,sD K H a xs/\xs[i]?=some x,fun i H x H'=>H'=H/\∀ xs,sD K H a xs->xs[i]?=some x,fun i H=>∃ xs,sD K H a xs/\xs.length<=i⟩
noncomputable def M3 (lo:Int)(n:Nat):It:=⟨fun i _=>i < n,fun i H x H'=>H'=H/\x=.int (lo+i),fun i _=>n<=i⟩
theorem DK {P:Program}{w:World}{K:W.Frag}{tg:Expr}(a it:Addr):Turn P w K tg (QC K a) [it] it (fun i h=>h.IsListIter it a i) where
 mem:=by simp
 obj:=fun i h st b hb=>by
   have e:b=it:=by simpa using hb
   subst e
   obtain⟨o,e,c,d⟩:=st
   exact⟨o,e,fun v z=>by rw[d] at z;cases z⟩
 keep:=fun i h h' st k=>st.at fun o e=>k it (by simp) o e
 item:=by
   intro X hP hw hK hc i pins s σ H E I hf st hg
   subst hP hw hK
   obtain⟨xs,x,hq,hx⟩:=hg
   obtain⟨aH,rv,p,hz⟩:=I.list hq
   obtain⟨u,hu,ru⟩:=rv.get hx
   obtain⟨f0,f1,f2,f3,f4,f5⟩:=hf it (by simp)
   refine wpAny_pyNext_list_item st p.isList (x:=u) (by simpa using hu) fun h' jr sb=>?_
   have I1:Inv X pins σ H { s with heap:=h'}:=I.turned (t':=s.toks) (fun b o hb e=>(sb.2 b hb).trans e) f0 f1 f3 f4 f5
   obtain⟨o,e,c,d⟩:=id jr
   exact⟨u,rfl,Cm (s:={ s with heap:=h'}) e c d (by decide) ⟨x,H,I1,ru,⟨rfl,fun ys hy=>by rw[I.zm hy hq];exact hx⟩,jr,fun b hb=>(hf b hb).1⟩⟩
 done:=by
   intro X hP hw hK hc i pins s σ H E I hf st hg
   subst hP hw hK
   obtain⟨xs,hq,hx⟩:=hg
   obtain⟨aH,rv,p,hz⟩:=I.list hq
   obtain⟨f0,f1,f2,f3,f4,f5⟩:=hf it (by simp)
   have hl:=rv.length
   exact wpAny_pyNext_list_end (I.ok.hd hc) st p.isList (by simp;omega) fun h' eb=>⟨rfl,I.turned (t':=s.toks) (fun b o hb e=>eb b o hb e) f0 f1 f3 f4 f5⟩
 self:=fun _ _ _ _ _ st h=>wpAny_pyIter_listiter st h
theorem A7 {P:Program}{w:World}{K:W.Frag}{tg:Expr}(a it:Addr):Turn P w K tg (Xd K a) [it] it (fun i h=>h.IsTupleIter it a i) where
 mem:=by simp
 obj:=fun i h st b hb=>by
   have e:b=it:=by simpa using hb
   subst e
   obtain⟨o,e,c,d⟩:=st
   exact⟨o,e,fun v z=>by rw[d] at z;cases z⟩
 keep:=fun i h h' st k=>st.at fun o e=>k it (by simp) o e
 item:=by
   intro X hP hw hK hc i pins s σ H E I hf st hg
   subst hP hw hK
   obtain⟨xs,x,hq,hx⟩:=hg
   obtain⟨aH,rv,p,hz⟩:=I.tuple hq
   obtain⟨u,hu,ru⟩:=rv.get hx
   obtain⟨f0,f1,f2,f3,f4,f5⟩:=hf it (by simp)
   refine wpAny_pyNext_tuple_item st (show s.heap.IsTuple a aH.toArray from p) (x:=u) (by simpa using hu) fun h' jr sb=>?_
   have I1:Inv X pins σ H { s with heap:=h'}:=I.turned (t':=s.toks) (fun b o hb e=>(sb.2 b hb).trans e) f0 f1 f3 f4 f5
   obtain⟨o,e,c,d⟩:=id jr
   exact⟨u,rfl,Cm (s:={ s with heap:=h'}) e c d (by decide) ⟨x,H,I1,ru,⟨rfl,fun ys hy=>by rw[I.DJ hy hq];exact hx⟩,jr,fun b hb=>(hf b hb).1⟩⟩
 done:=by
   intro X hP hw hK hc i pins s σ H E I hf st hg
   subst hP hw hK
   obtain⟨xs,hq,hx⟩:=hg
   obtain⟨aH,rv,p,hz⟩:=I.tuple hq
   obtain⟨f0,f1,f2,f3,f4,f5⟩:=hf it (by simp)
   have hl:=rv.length
   exact wpAny_pyNext_tuple_end (I.ok.hd hc) st (show s.heap.IsTuple a aH.toArray from p) (by simp;omega) fun h' eb=>⟨rfl,I.turned (t':=s.toks) (fun b o hb e=>eb b o hb e) f0 f1 f3 f4 f5⟩
 self:=fun _ _ _ _ _ st h=>wpAny_pyIter_tupleiter st h
theorem A8 {P:Program}{w:World}{K:PySem.W.Frag}{tg:Expr}(it:Addr)(lo:Int)(n:Nat):Turn P w K tg (M3 lo n) [it] it (fun i h=>IsRangeIter h it (lo+(i:Nat) * 1) ((n:Int) - (i:Nat)) 1) where
 mem:=by simp
 obj:=fun i h st b hb=>by
   have e:b=it:=by simpa using hb
   subst e
   exact⟨_,st,fun v z=>by
     have z':Data.fields _=Data.cell v:=z
     cases z'⟩
 keep:=fun i h h' st k=>k it (by simp) _ st
 item:=by
   intro X hP hw hK hc i pins s σ H E I hf st hg
   subst hP hw hK
   obtain⟨f0,f1,f2,f3,f4,f5⟩:=hf it (by simp)
   have W:=Walks.range (prog:=X.prog) (w:=X.w) (I.ok.hd hc) it lo 1 n
   refine W.item i s _ _ hg st fun v h' tk hv jr kk=>?_
   obtain⟨t,rfl⟩:=hv
   have I1:Inv X pins σ H { s with heap:=h',toks:=tk}:=I.turned (fun b o hb e=>kk b o (by simpa using hb) e) f0 f1 f3 f4 f5
   refine⟨_,rfl,Cm (s:={ s with heap:=h',toks:=tk}) (n:="range_iterator") jr rfl rfl (by decide) ⟨.int (lo+i),H,I1,⟨t,?_⟩,⟨rfl,rfl⟩,jr,fun b hb=>(hf b hb).1⟩⟩
   rw[Int.mul_one]
 done:=by
   intro X hP hw hK hc i pins s σ H E I hf st hg
   subst hP hw hK
   obtain⟨f0,f1,f2,f3,f4,f5⟩:=hf it (by simp)
   exact wpAny_pyNext_range_end (I.ok.hd hc) st (by have:n<=i:=hg;omega) fun h' eb=>⟨rfl,I.turned (t':=s.toks) (fun b o hb e=>eb b o hb e) f0 f1 f3 f4 f5⟩
 self:=fun _ _ _ _ _ st h=>wpAny_pyIter_rangeiter st h
section
variable {X:Cx}{tg:Expr}
noncomputable def Ft (K:W.Frag)(tl:TE):TI:=fun σ H R=>tl σ H fun x H1=>∃ a,x=.ref a/\(∃ xs,mK K H1 a xs)/\R (QC K a) H1
noncomputable def QD (K:W.Frag)(tl:TE):TI:=fun σ H R=>tl σ H fun x H1=>∃ a,x=.ref a/\(∃ xs,sD K H1 a xs)/\R (Xd K a) H1
theorem jI {l:Expr}{tl:TE}(hl:PE X l tl):PI X tg l (Ft X.K tl):=by
 intro pins s σ H R I h
 refine bQ (hl pins s σ H _ I h) fun v s1 ⟨x,H1,I1,r1,q1⟩=>?_
 obtain⟨a,e,⟨xs,hq⟩,q⟩:=q1
 subst e
 cases r1
 obtain⟨aH,rv,p,hz⟩:=I1.list hq
 refine wpAny_pyIter_list p.isList ?_
 refine⟨s1.heap.objs.size,[s1.heap.objs.size],_,_,H1,rfl,I1.kept (t':=s1.toks) fun b o e=>Heap.get?_push_of_some _ e,DK a _,⟨_,Heap.get?_push_size _ rfl,rfl,rfl⟩,fun b hb=>?_,q⟩
 have e:b=s1.heap.objs.size:=by simpa using hb
 subst e
 exact I1.vI (Nat.le_refl _) (I1.bb.fresh (Nat.le_refl _))
theorem M4 {l:Expr}{tl:TE}(hl:PE X l tl):PI X tg l (QD X.K tl):=by
 intro pins s σ H R I h
 refine bQ (hl pins s σ H _ I h) fun v s1 ⟨x,H1,I1,r1,q1⟩=>?_
 obtain⟨a,e,⟨xs,hq⟩,q⟩:=q1
 subst e
 cases r1
 obtain⟨aH,rv,p,hz⟩:=I1.tuple hq
 refine wpAny_pyIter_tuple (show s1.heap.IsTuple a aH.toArray from p) ?_
 refine⟨s1.heap.objs.size,[s1.heap.objs.size],_,_,H1,rfl,I1.kept (t':=s1.toks) fun b o e=>Heap.get?_push_of_some _ e,A7 a _,⟨_,Heap.get?_push_size _ rfl,rfl,rfl⟩,fun b hb=>?_,q⟩
 have e:b=s1.heap.objs.size:=by simpa using hb
 subst e
 exact I1.vI (Nat.le_refl _) (I1.bb.fresh (Nat.le_refl _))
theorem Fu {pins:List (Addr×Obj)}{σ:St}{H:Hp}{s:Shared}{R:It->Hp->Prop}{E:Value->Shared->Prop}{lo hi:Int}{t u v:Tok}{tk:Nat}(I:Inv X pins σ H s)(h1:-(2 ^ 62)<=lo)(h2:lo < 2 ^ 62)(h3:-(2 ^ 62)<=hi)(h4:hi < 2 ^ 62)(q:R (M3 lo (hi - lo).toNat) H):wpAny (model X.prog X.w) X.A (pyIter (.ref s.heap.objs.size)) (Xc X pins σ tg R) E { s with heap:=s.heap.push { cls:=.type "range",data:=.fields #[.int lo t,.int hi u,.int 1 v]},toks:=tk}:=by
 refine wpAny_pyIter_range (IsRange.new ..) (small_one h1 h2 h3 h4) ?_
 have I1:Inv X pins σ H { s with heap:=s.heap.push { cls:=.type "range",data:=.fields #[.int lo t,.int hi u,.int 1 v]},toks:=tk}:=I.kept fun b o e=>Heap.get?_push_of_some _ e
 refine⟨(s.heap.push { cls:=.type "range",data:=.fields #[.int lo t,.int hi u,.int 1 v]}).objs.size,[(s.heap.push { cls:=.type "range",data:=.fields #[.int lo t,.int hi u,.int 1 v]}).objs.size],_,_,H,rfl,
   I1.kept (t':=tk) fun b o e=>Heap.get?_push_of_some _ e,A8 _ lo (hi - lo).toNat,?_,fun b hb=>?_,q⟩
 . have e1:lo+((0:Nat):Int) * 1=lo:=by simp
   have e2:(((hi - lo).toNat:Nat):Int) - ((0:Nat):Int)=Builtin.Range.rangeSize lo hi 1:=by rw[rangeSize_one];split <;> omega
   show IsRangeIter _ _ (lo+((0:Nat):Int) * 1) ((((hi - lo).toNat:Nat):Int) - ((0:Nat):Int)) 1
   rw[e1,e2]
   exact Heap.get?_push_size _ rfl
 . have e:b=(s.heap.push { cls:=.type "range",data:=.fields #[.int lo t,.int hi u,.int 1 v]}).objs.size:=by simpa using hb
   subst e
   exact I1.vI (Nat.le_refl _) (I1.bb.fresh (Nat.le_refl _))
noncomputable def LG (ta:TA):TI:=fun σ H R=>ta σ H fun vs H1=>∃ j:Int,vs=[.int j]/\-(2 ^ 62)<=j/\j < 2 ^ 62/\R (M3 0 j.toNat) H1
theorem qt {a:Expr}{ta:TA}{p pos:Pos}(hg:Gl X "range")(hm:X.mg "range"=none)(ha:PA X [a] ta)(hs:starEach [a] X.env=[(false,eval a X.env)]:=by rfl):PI X tg (.Call (.Name "range" p) [a] [] pos) (LG ta):=by
 intro pins s σ H R I h
 refine Call_ (qr I hg hm boot_range (PyProof.Rows.callWith_type1 (bQ (ha pos pins s σ H _ I h) fun us s1 ⟨vs,H1,I1,r1,q1⟩=>?_) hs rfl))
 obtain⟨j,e,q1,q2,q⟩:=q1
 subst e
 cases r1 with
 | cons r rr=>
   cases rr
   obtain⟨t,rfl⟩:=r
   exact call_range_1 (Fu I1 (by omega) (by omega) q1 q2 (by simpa using q))
noncomputable def UH (wi:TI)(g:TG)(tb:TS):TS:=fun D σ H=>wi σ H fun J H1=>∃ W:Nat->Nat->St->Hp->Prop,(∃ m,W 0 m σ H1)/\∀ i m σ H,W i m σ H ->
 (J.stop i H/\D.nx σ H)\/(J.go i H/\∃ N:St->Hp->Prop,(∀ σ' H',N σ' H'->∃ m',m' < m/\W (i+1) m' σ' H')/\∀ x H',J.IT i H x H'->g x σ H' fun σ2 H2=>tb { D with nx:=N,ct:=N,bk:=D.nx} σ2 H2)
noncomputable def qu (fp:List Addr)(h:Heap):List (Addr×Obj):=fp.filterMap fun b=>(h.get? b).map fun o=>(b,o)
theorem fk {fp:List Addr}{h:Heap}{b:Addr}{o:Obj}(hb:b∈fp)(e:h.get? b=some o):(b,o)∈qu fp h:=List.mem_filterMap.mpr ⟨b,hb,by rw[e];rfl⟩
theorem DL {fp:List Addr}{h:Heap}{p:Addr×Obj}(hp:p∈qu fp h):p.1∈fp/\h.get? p.1=some p.2:=by
 obtain⟨b,hb,e⟩:=List.mem_filterMap.mp hp
 cases q:h.get? b with
 | none=>rw[q] at e;cases e
 | some o=>
   rw[q] at e
   have e':(b,o)=p:=Option.some.inj e
   subst e'
   exact⟨hb,q⟩
theorem Inv.pinned {pins:List (Addr×Obj)}{σ:St}{H:Hp}{s:Shared}{fp:List Addr}(I:Inv X pins σ H s)(hf:∀ b∈fp,kj X pins H b)(ho:∀ b∈fp,∃ o,s.heap.get? b=some o/\∀ v,o.data≠.cell v):Inv X (pins ++ qu fp s.heap) σ H s:=
 I.Ci fun p hp=>(List.mem_append.mp hp).elim (fun z=>I.pin p (List.mem_append_right _ z)) fun z=>by
   obtain⟨hb,e⟩:=DL z
   obtain⟨f0,f1,f2,_⟩:=hf p.1 hb
   obtain⟨o,e',d⟩:=ho p.1 hb
   rw[e] at e';cases e'
   exact⟨e,f0,f1,f2,d⟩
theorem Inv.jf {pins pl:List (Addr×Obj)}{σ:St}{H:Hp}{s:Shared}(I:Inv X (pins ++ pl) σ H s):Inv X pins σ H s:=I.Ci fun p hp=>I.pin p (List.mem_append_right _ (List.mem_append_left _ hp))
theorem xq {iter:Expr}{body:List Stmt}{wi:TI}{g:TG}{tb:TS}{pos:Pos}(hp:PassesOwn (model X.prog X.w) X.A X.env X.xe)(hc:X.calm=true)(hi:PI X tg iter wi)(hg:PG X tg g)(hb:tW X body tb)(hs:∀ x,foldedSetIterable iter X.env x=pure x:=by intro _;rfl):PS X (.For tg iter body [] pos) (UH wi g tb):=by
 intro pins s σ H D I h
 refine wpAny_For (bQ (hi pins s σ H _ I h) fun v s1 h1=>bQ h1 fun M0 s2 h2=>?_) hs
 obtain⟨it,fp,tn,J,H2,e,I2,T,EZ,f2,W,⟨m0,w0⟩,turn⟩:=h2
 subst e
 have oN:∀ {H':Hp},(∀ b∈fp,H' b=none)->∀ b∈fp,kj X pins H' b:=fun hn b hb=>⟨hn b hb,(f2 b hb).2⟩
 refine codeAny_forLoop_any (fun n s'=>∃ i σ' H',Inv X pins σ' H' s'/\tn i s'.heap/\(∀ b∈fp,H' b=none)/\W i n σ' H') ?_ m0 ⟨0,σ,H2,I2,EZ,fun b hb=>(f2 b hb).1,w0⟩
 rintro n s3 ⟨i,σ3,H3,I3,Xe,Xf,w3⟩
 rcases turn i n σ3 H3 w3 with⟨stop,qn⟩ | ⟨go,N,hN,step⟩
 . refine wpAny_passesOwn hp (bQ (T.done X rfl rfl rfl hc i pins s3 σ3 H3 X.xe I3 (oN Xf) Xe stop) fun r s4 ⟨hr,I4⟩=>?_)
   subst hr
   exact wpAny_execs_nil ⟨σ3,H3,I4,qn⟩
 . refine wpAny_passesOwn hp (bQ (T.item X rfl rfl rfl hc i pins s3 σ3 H3 X.xe I3 (oN Xf) Xe go) fun r s4 ⟨u,hr,h4⟩=>?_)
   subst hr
   refine wpAny_passesOwn hp (bQ h4 fun _ s5 ⟨x,H5,I5,r5,y5,E1,IU⟩=>?_)
   have YK:=I5.pinned (oN IU) (T.obj _ _ E1)
   refine wpAny_passesOwn hp (bQ (hg _ s5 σ3 H5 x u _ YK r5 (step x H5 y5)) fun _ s6 ⟨σ6,H6,I6,q6⟩=>?_)
   refine wpAny_passesOwn hp (bQ (hb _ s6 σ6 H6 _ I6 q6) fun f s7 q7=>?_)
   have again:∀ {σ7:St} {H7:Hp},Inv X (pins ++ qu fp s5.heap) σ7 H7 s7->N σ7 H7->∃ m,m < n/\∃ i σ' H',Inv X pins σ' H' s7/\tn i s7.heap/\(∀ b∈fp,H' b=none)/\W i m σ' H':=fun {σ7 H7} I7 n7=>by
     obtain⟨m',hm,w7⟩:=hN σ7 H7 n7
     refine⟨m',hm,i+1,σ7,H7,I7.jf,T.keep _ _ _ E1 fun b hb o e=>(I7.pin (b,o) (List.mem_append_right _ (List.mem_append_right _ (fk hb e)))).1,fun b hb=>?_,w7⟩
     obtain⟨o,e,d⟩:=T.obj _ _ E1 b hb
     exact(I7.pin (b,o) (List.mem_append_right _ (List.mem_append_right _ (fk hb e)))).2.1
   cases f with
   | next=>obtain⟨σ7,H7,I7,n7⟩:=q7;exact again I7 n7
   | cont=>obtain⟨σ7,H7,I7,n7⟩:=q7;exact again I7 n7
   | brk=>obtain⟨σ7,H7,I7,q7⟩:=q7;exact⟨σ7,H7,I7.jf,q7⟩
   | ret v=>obtain⟨x7,σ7,H7,I7,r7,q7⟩:=q7;exact⟨x7,σ7,H7,I7.jf,r7,q7⟩
end
theorem zp {K:PySem.W.Frag}{a:Addr}{xs:List V}{g:TG}{tb:TS}{D:Ends}{σ:St}{H:Hp}(Pv:Nat->St->Hp->Prop)(h0:Pv 0 σ H)(hl:∀ i σ H,i<=xs.length->Pv i σ H->mK K H a xs)(hs:∀ i x σ H,xs[i]?=some x->Pv i σ H->g x σ H fun σ2 H2=>tb { D with nx:=Pv (i+1),ct:=Pv (i+1),bk:=D.nx} σ2 H2)(hd:∀ σ H,Pv xs.length σ H->D.nx σ H):∃ W:Nat->Nat->St->Hp->Prop,(∃ m,W 0 m σ H)/\∀ i m σ H,W i m σ H->((QC K a).stop i H/\D.nx σ H)\/((QC K a).go i H/\∃ N:St->Hp->Prop,(∀ σ' H',N σ' H'->∃ m',m' < m/\W (i+1) m' σ' H')/\∀ x H',(QC K a).IT i H x H'->g x σ H' fun σ2 H2=>tb { D with nx:=N,ct:=N,bk:=D.nx} σ2 H2):=by
 refine⟨fun i m σ H=>m=xs.length - i/\i<=xs.length/\Pv i σ H,⟨xs.length,by simp,Nat.zero_le _,h0⟩,?_⟩
 rintro i m σ H ⟨rfl,hi,p⟩
 have q:=hl i σ H hi p
 by_cases d5:i < xs.length
 . refine .inr ⟨⟨xs,xs[i],q,by simp[d5]⟩,Pv (i+1),fun σ' H' p'=>⟨xs.length - (i+1),by omega,rfl,d5,p'⟩,fun x H' y=>?_⟩
   obtain⟨e,y⟩:=y
   subst e
   exact hs i x σ _ (y xs q) p
 . have e:i=xs.length:=by omega
   subst e
   exact .inl ⟨⟨xs,q,Nat.le_refl _⟩,hd σ H p⟩
theorem DM {lo:Int}{n:Nat}{g:TG}{tb:TS}{D:Ends}{σ:St}{H:Hp}(Pv:Nat->St->Hp->Prop)(h0:Pv 0 σ H)(hs:∀ i σ H,i < n->Pv i σ H->g (.int (lo+i)) σ H fun σ2 H2=>tb { D with nx:=Pv (i+1),ct:=Pv (i+1),bk:=D.nx} σ2 H2)(hd:∀ σ H,Pv n σ H->D.nx σ H):∃ W:Nat->Nat->St->Hp->Prop,(∃ m,W 0 m σ H)/\∀ i m σ H,W i m σ H->((M3 lo n).stop i H/\D.nx σ H)\/((M3 lo n).go i H/\∃ N:St->Hp->Prop,(∀ σ' H',N σ' H'->∃ m',m' < m/\W (i+1) m' σ' H')/\∀ x H',(M3 lo n).IT i H x H'->g x σ H' fun σ2 H2=>tb { D with nx:=N,ct:=N,bk:=D.nx} σ2 H2):=by
 refine⟨fun i m σ H=>m=n - i/\i<=n/\Pv i σ H,⟨n,by simp,Nat.zero_le _,h0⟩,?_⟩
 rintro i m σ H ⟨rfl,hi,p⟩
 by_cases d5:i < n
 . refine .inr ⟨d5,Pv (i+1),fun σ' H' p'=>⟨n - (i+1),by omega,rfl,d5,p'⟩,fun x H' y=>?_⟩
   obtain⟨e,y⟩:=y
   subst e y
   exact hs i σ _ d5 p
 . have e:i=n:=by omega
   subst e
   exact .inl ⟨Nat.le_refl _,hd σ H p⟩
noncomputable abbrev R2:=V->V->Hp->VK->Prop
noncomputable def nC (X:Cx)(f:Value->Value->Sem Value)(r:R2):Prop:=
 ∀ (pins:List (Addr×Obj)) (s:Shared) (σ:St) (H:Hp) (x y:V) (v u:Value) (Q:VK),Inv X pins σ H s->RelV x v->RelV y u->r x y H Q ->
   wpAny (model X.prog X.w) X.A (f v u) (EP X pins σ Q) X.xe s
noncomputable def UI (X:Cx)(f:Value->Sem Value)(r:V->Hp->VK->Prop):Prop:=
 ∀ (pins:List (Addr×Obj)) (s:Shared) (σ:St) (H:Hp) (x:V) (v:Value) (Q:VK),Inv X pins σ H s->RelV x v->r x H Q ->
   wpAny (model X.prog X.w) X.A (f v) (EP X pins σ Q) X.xe s
noncomputable def jE (X:Cx)(f:Value)(r:List V->Hp->VK->Prop):Prop:=
 ∀ (pins:List (Addr×Obj)) (s:Shared) (σ:St) (H:Hp) (xs:List V) (us:List Value) (Q:VK),Inv X pins σ H s->Vals xs us->r xs H Q ->
   wpAny (model X.prog X.w) X.A (call f us) (EP X pins σ Q) X.xe s
noncomputable def QE (r:R2)(ta tb:TE):TE:=fun σ H Q=>ta σ H fun x H1=>tb σ H1 fun y H2=>r x y H2 Q
noncomputable def YL (r:V->Hp->VK->Prop)(ta:TE):TE:=fun σ H Q=>ta σ H fun x H1=>r x H1 Q
noncomputable def rI (C:Int->Int->Prop)(g:Int->Int->V):R2:=fun x y H Q=>∃ i j,x=.int i/\y=.int j/\C i j/\Q (g i j) H
noncomputable def Jm (g:Int->Int->V):R2:=fun x y H Q=>∃ i j,x=.int i/\y=.int j/\Q (g i j) H
noncomputable def rU (g:Int->V):V->Hp->VK->Prop:=fun x H Q=>∃ i,x=.int i/\Q (g i) H
section
variable {X:Cx}{a b:Expr}{ta tb:TE}{pos:Pos}
theorem M5 (ha:PE X a ta)(hb:PE X b tb){pins:List (Addr×Obj)}{s:Shared}{σ:St}{H:Hp}{R:V->V->Hp->Prop}(I:Inv X pins σ H s)(h:ta σ H fun x H1=>tb σ H1 fun y H2=>R x y H2){Q:Value->Shared->Prop}{f:Value->Value->Sem Value}(hf:∀ v u s2 x y H2,Inv X pins σ H2 s2->RelV x v->RelV y u->R x y H2->wpAny (model X.prog X.w) X.A (f v u) Q X.xe s2):wpAny (model X.prog X.w) X.A (eval a X.env) (fun v s₁=>wpAny (model X.prog X.w) X.A (eval b X.env) (fun u s₂=>wpAny (model X.prog X.w) X.A (f v u) Q X.xe s₂) X.xe s₁) X.xe s:=by
 refine bQ (ha pins s σ H _ I h) fun v s1 ⟨x,H1,I1,r1,q1⟩=>?_
 refine bQ (hb pins s1 σ H1 _ I1 q1) fun u s2 ⟨y,H2,I2,r2,q2⟩=>?_
 exact hf v u s2 x y H2 I2 r1 r2 q2
theorem LH {op:Operator}{r:R2}(ho:nC X (binaryOp op) r)(ha:PE X a ta)(hb:PE X b tb):PE X (.BinOp a op b pos) (QE r ta tb):=by
 intro pins s σ H Q I h
 exact wpAny_BinOp (M5 ha hb I h fun v u s2 x y H2 I2 rx ry q=>ho pins s2 σ H2 x y v u Q I2 rx ry q)
theorem QF {op:UnaryOp}{r:V->Hp->VK->Prop}(ho:UI X (unaryOp op) r)(ha:PE X a ta):PE X (.UnaryOp op a pos) (YL r ta):=by
 intro pins s σ H Q I h
 exact UnaryOp_ (bQ (ha pins s σ H _ I h) fun v s1 ⟨x,H1,I1,r1,q1⟩=>ho pins s1 σ H1 x v Q I1 r1 q1)
theorem Tp {f:Value->Value->Sem Value}{C:Int->Int->Prop}{g:Int->Int->Int}(rule:∀ (i j:Int) (t u:Tok) (s:Shared) (Q:Value->Shared->Prop) (E:Value->Shared->Prop),C i j->Q (.int (g i j) s.toks) { s with toks:=s.toks+1}->wpAny (model X.prog X.w) X.A (f (.int i t) (.int j u)) Q E s):nC X f (rI C fun i j=>.int (g i j)):=by
 intro pins s σ H x y v u Q I rx ry h
 obtain⟨i,j,rfl,rfl,hc,q⟩:=h
 obtain⟨t,rfl⟩:=rx
 obtain⟨t',rfl⟩:=ry
 exact rule i j t t' s _ _ hc ⟨.int (g i j),H,I.tok _,⟨_,rfl⟩,q⟩
theorem QG {f:Value->Value->Sem Value}{g:Int->Int->Int}(rule:∀ (i j:Int) (t u:Tok) (s:Shared) (Q:Value->Shared->Prop) (E:Value->Shared->Prop),Q (.int (g i j) s.toks) { s with toks:=s.toks+1}->wpAny (model X.prog X.w) X.A (f (.int i t) (.int j u)) Q E s):nC X f (Jm fun i j=>.int (g i j)):=by
 intro pins s σ H x y v u Q I rx ry h
 obtain⟨i,j,rfl,rfl,q⟩:=h
 obtain⟨t,rfl⟩:=rx
 obtain⟨t',rfl⟩:=ry
 exact rule i j t t' s _ _ ⟨.int (g i j),H,I.tok _,⟨_,rfl⟩,q⟩
theorem Jn {f:Value->Value->Sem Value}{g:Int->Int->Bool}(rule:∀ (i j:Int) (t u:Tok) (s:Shared) (Q:Value->Shared->Prop) (E:Value->Shared->Prop),Q (.bool (g i j)) s->wpAny (model X.prog X.w) X.A (f (.int i t) (.int j u)) Q E s):nC X f (Jm fun i j=>.bl (g i j)):=by
 intro pins s σ H x y v u Q I rx ry h
 obtain⟨i,j,rfl,rfl,q⟩:=h
 obtain⟨t,rfl⟩:=rx
 obtain⟨t',rfl⟩:=ry
 exact rule i j t t' s _ _ ⟨.bl (g i j),H,I,rfl,q⟩
noncomputable def QH (i j:Int):Prop:=0<=j/\j<=1000000/\i.natAbs < 2 ^ 64
noncomputable def pv (i j:Int):Prop:=(-(2 ^ 64) < i/\i < 2 ^ 64)\/(-(2 ^ 64) < j/\j < 2 ^ 64)
theorem pv.ok {i j:Int}(h:pv i j):IntMulOk i j:=by
 rcases h with⟨h1,h2⟩ | ⟨h1,h2⟩
 . exact .of_left (intBits_le_64 h1 h2)
 . exact .of_right (intBits_le_64 h1 h2)
theorem M6:nC X (binaryOp .Add) (Jm fun i j=>.int (i+j)):=QG fun _ _ _ _ _ _ _ q=>add_int q
theorem M7:nC X (binaryOp .Sub) (Jm fun i j=>.int (i - j)):=QG fun _ _ _ _ _ _ _ q=>sub_int q
theorem M8:nC X (binaryOp .Mod) (rI (fun _ j=>0 < j) fun i j=>.int (i % j)):=Tp fun i j _ _ _ _ _ hc q=>by
 have h1:(0:Int) < j:=hc
 exact mod_int' (by omega) (by rw[Int.fmod_eq_emod_of_nonneg i (by omega)];exact q)
theorem M9:nC X (binaryOp .Pow) (rI QH fun i j=>.int (i ^ j.toNat)):=Tp fun _ _ _ _ _ _ _ hc q=>pow_int_small hc.1 hc.2.1 hc.2.2 q
theorem YM {f:Value->Sem Value}{g:Int->Int}(rule:∀ (i:Int) (t:Tok) (s:Shared) (Q:Value->Shared->Prop) (E:Value->Shared->Prop),Q (.int (g i) s.toks) { s with toks:=s.toks+1}->wpAny (model X.prog X.w) X.A (f (.int i t)) Q E s):UI X f (rU fun i=>.int (g i)):=by
 intro pins s σ H x v Q I rx h
 obtain⟨i,rfl,q⟩:=h
 obtain⟨t,rfl⟩:=rx
 exact rule i t s _ _ ⟨.int (g i),H,I.tok _,⟨_,rfl⟩,q⟩
theorem Na:UI X (unaryOp .USub) (rU fun i=>.int (-i)):=YM fun _ _ _ _ _ q=>neg_int q
end
noncomputable def Jo:V->V->Bool
 | .cF,.cF=>true | .cF,.int _=>true | .int _,.cF=>true | .cF,.bl _=>true | .bl _,.cF=>true | .cF,.str _=>true | .str _,.cF=>true
 | .int _,.int _=>true | .bl _,.bl _=>true | .str _,.str _=>true | .EY _,.EY _=>true
 | .int _,.str _=>true | .str _,.int _=>true | .bl _,.str _=>true | .str _,.bl _=>true
 | _,_=>false
noncomputable def YN:R2:=fun x y H Q=>Jo x y=true/\Q (.bl (decide (x=y))) H
noncomputable def YO:R2:=fun x y H Q=>Jo x y=true/\Q (.bl (!decide (x=y))) H
theorem nE {i j:Int}:decide (V.int i=V.int j)=(i == j):=by
 rw[Bool.eq_iff_iff]
 simp
theorem Fv {i j:Bool}:decide (V.bl i=V.bl j)=(i == j):=by
 rw[Bool.eq_iff_iff]
 simp
theorem pz {i j:Str}:decide (V.str i=V.str j)=(i == j):=by
 rw[Bool.eq_iff_iff]
 simp
theorem Cn {i j:Array UInt8}:decide (V.EY i=V.EY j)=(i.toList == j.toList):=by
 rw[Bool.eq_iff_iff]
 cases i
 cases j
 simp
section
variable {X:Cx}{a b c:Expr}{ta tb tc:TE}{pos:Pos}
theorem bA {pins:List (Addr×Obj)}{σ:St}{H:Hp}{s:Shared}{Q:VK}{k k':Bool}(I:Inv X pins σ H s)(q:Q (.bl k) H)(e:k=k'):EP X pins σ Q (.bool k') s:=by
 subst e
 exact⟨.bl k,H,I,rfl,q⟩
theorem Co:nC X (compareOp .Eq) YN:=by
 intro pins s σ H x y v u Q I rx ry h
 obtain⟨hs,q⟩:=h
 cases x with
 | cF=>
   cases rx
   cases y with
   | cF=>cases ry;exact PySem.EqNone.eq_none_none (bA I q (by simp))
   | bl j=>cases ry;exact PySem.EqNone.eq_none_bool (bA I q (by simp))
   | int j=>obtain⟨t',rfl⟩:=ry;exact PySem.EqNone.eq_none_int (bA I q (by simp))
   | str j=>obtain⟨t',rfl⟩:=ry;exact PySem.EqNone.eq_none_str (bA I q (by simp))
   | _=>exact absurd (show false=true from hs) Bool.false_ne_true
 | bl i=>
   cases rx
   cases y with
   | cF=>cases ry;exact PySem.EqNone.eq_bool_none (bA I q (by simp))
   | bl j=>cases ry;exact eq_bool (bA I q Fv)
   | str j=>obtain⟨t',rfl⟩:=ry;exact PySem.EqMixed.eq_bool_str (bA I q (by simp))
   | _=>exact absurd (show false=true from hs) Bool.false_ne_true
 | int i=>
   obtain⟨t,rfl⟩:=rx
   cases y with
   | cF=>cases ry;exact PySem.EqNone.eq_int_none (bA I q (by simp))
   | int j=>obtain⟨t',rfl⟩:=ry;exact eq_int (bA I q nE)
   | str j=>obtain⟨t',rfl⟩:=ry;exact PySem.EqMixed.eq_int_str (bA I q (by simp))
   | _=>exact absurd (show false=true from hs) Bool.false_ne_true
 | str i=>
   obtain⟨t,rfl⟩:=rx
   cases y with
   | cF=>cases ry;exact PySem.EqNone.eq_str_none (bA I q (by simp))
   | bl j=>cases ry;exact PySem.EqMixed.eq_str_bool (bA I q (by simp))
   | int j=>obtain⟨t',rfl⟩:=ry;exact PySem.EqMixed.eq_str_int (bA I q (by simp))
   | str j=>obtain⟨t',rfl⟩:=ry;exact eq_str (bA I q pz)
   | _=>exact absurd (show false=true from hs) Bool.false_ne_true
 | EY i=>
   obtain⟨t,rfl⟩:=rx
   cases y with
   | EY j=>obtain⟨t',rfl⟩:=ry;exact W.eq_bytes (bA I q Cn)
   | _=>exact absurd (show false=true from hs) Bool.false_ne_true
 | _=>cases y <;> exact absurd (show false=true from hs) Bool.false_ne_true
theorem QI:nC X (compareOp .NotEq) YO:=by
 intro pins s σ H x y v u Q I rx ry h
 obtain⟨hs,q⟩:=h
 cases x with
 | cF=>
   cases rx
   cases y with
   | cF=>cases ry;exact PySem.EqNone.ne_none_none (bA I q (by simp))
   | bl j=>cases ry;exact PySem.EqNone.ne_none_bool (bA I q (by simp))
   | int j=>obtain⟨t',rfl⟩:=ry;exact PySem.EqNone.ne_none_int (bA I q (by simp))
   | str j=>obtain⟨t',rfl⟩:=ry;exact PySem.EqNone.ne_none_str (bA I q (by simp))
   | _=>exact absurd (show false=true from hs) Bool.false_ne_true
 | bl i=>
   cases rx
   cases y with
   | cF=>cases ry;exact PySem.EqNone.ne_bool_none (bA I q (by simp))
   | bl j=>cases ry;exact ne_bool (bA I q (congrArg not Fv))
   | str j=>obtain⟨t',rfl⟩:=ry;exact PySem.EqMixed.ne_bool_str (bA I q (by simp))
   | _=>exact absurd (show false=true from hs) Bool.false_ne_true
 | int i=>
   obtain⟨t,rfl⟩:=rx
   cases y with
   | cF=>cases ry;exact PySem.EqNone.ne_int_none (bA I q (by simp))
   | int j=>obtain⟨t',rfl⟩:=ry;exact ne_int (bA I q (congrArg not nE))
   | str j=>obtain⟨t',rfl⟩:=ry;exact PySem.EqMixed.ne_int_str (bA I q (by simp))
   | _=>exact absurd (show false=true from hs) Bool.false_ne_true
 | str i=>
   obtain⟨t,rfl⟩:=rx
   cases y with
   | cF=>cases ry;exact PySem.EqNone.ne_str_none (bA I q (by simp))
   | bl j=>cases ry;exact PySem.EqMixed.ne_str_bool (bA I q (by simp))
   | int j=>obtain⟨t',rfl⟩:=ry;exact PySem.EqMixed.ne_str_int (bA I q (by simp))
   | str j=>obtain⟨t',rfl⟩:=ry;exact ne_str (bA I q (congrArg not pz))
   | _=>exact absurd (show false=true from hs) Bool.false_ne_true
 | EY i=>
   obtain⟨t,rfl⟩:=rx
   cases y with
   | EY j=>obtain⟨t',rfl⟩:=ry;exact W.ne_bytes (bA I q (congrArg not Cn))
   | _=>exact absurd (show false=true from hs) Bool.false_ne_true
 | _=>cases y <;> exact absurd (show false=true from hs) Bool.false_ne_true
theorem QJ:nC X (compareOp .Lt) (Jm fun i j=>.bl (decide (i < j))):=Jn fun _ _ _ _ _ _ _ q=>lt_int q
theorem Fw:nC X (compareOp .LtE) (Jm fun i j=>.bl (decide (i<=j))):=Jn fun _ _ _ _ _ _ _ q=>le_int q
theorem LI:nC X (compareOp .Gt) (Jm fun i j=>.bl (decide (j < i))):=Jn fun _ _ _ _ _ _ _ q=>gt_int q
theorem QK:nC X (compareOp .GtE) (Jm fun i j=>.bl (decide (j<=i))):=Jn fun _ _ _ _ _ _ _ q=>ge_int q
theorem jt (b:Expr){op:CmpOp}(h:op≠.In:=by decide)(h2:op≠.NotIn:=by decide):behindInMarks op b=false:=by
 have e1:(op == CmpOp.In)=false:=by cases op <;> first | rfl | exact absurd rfl h
 have e2:(op == CmpOp.NotIn)=false:=by cases op <;> first | rfl | exact absurd rfl h2
 cases b <;> simp[behindInMarks,e1,e2]
theorem Jp {op:CmpOp}{r:R2}(ho:nC X (compareOp op) r)(ha:PE X a ta)(hb:PE X b tb)(hm:behindInMarks op b=false):PE X (.Compare a [op] [b] pos) (QE r ta tb):=by
 intro pins s σ H Q I h
 exact wpAny_Compare1 (M5 ha hb I h fun v u s2 x y H2 I2 rx ry q=>ho pins s2 σ H2 x y v u Q I2 rx ry q) hm
noncomputable def QL (t:TE):TT:=fun σ H Q=>t σ H fun x H'=>∃ k,x=.bl k/\Q k H'
theorem Jq {op:CmpOp}{r:R2}(ho:nC X (compareOp op) r)(ha:PE X a ta)(hb:PE X b tb)(hm:behindInMarks op b=false):PT X (.Compare a [op] [b] pos) (QL (QE r ta tb)):=by
 intro pins s σ H Q I h
 refine wpAny_isTrue_Compare1 (bQ (ha pins s σ H _ I h) fun v s1 ⟨x,H1,I1,r1,q1⟩=>bQ (hb pins s1 σ H1 _ I1 q1) fun u s2 ⟨y,H2,I2,r2,q2⟩=>
   bQ (ho pins s2 σ H2 x y v u _ I2 r1 r2 q2) fun c s3 ⟨z,H3,I3,r3,k,e,q3⟩=>?_) hm
 subst e
 cases r3
 exact wpAny_truthy_bool ⟨H3,I3,q3⟩
noncomputable def Nb (r r':R2)(ta tb tc:TE):TE:=fun σ H Q=>ta σ H fun x H1=>tb σ H1 fun y H2=>r x y H2 fun z H3=>∃ k,z=.bl k /\
 (if k=true then tc σ H3 fun w' H4=>r' y w' H4 Q else Q (.bl false) H3)
theorem Fx {op Nc:CmpOp}{r r':R2}(ho:nC X (compareOp op) r)(Ff:nC X (compareOp Nc) r')(ha:PE X a ta)(hb:PE X b tb)(hc:PE X c tc)(hm:lastMarks [op,Nc] [b,c]=false:=by with_unfolding_all rfl):PE X (.Compare a [op,Nc] [b,c] pos) (Nb r r' ta tb tc):=by
 intro pins s σ H Q I h
 refine Compare_chain (bQ (ha pins s σ H _ I h) fun v s1 ⟨x,H1,I1,r1,q1⟩=>chain_link (bQ (hb pins s1 σ H1 _ I1 q1) fun u s2 ⟨y,H2,I2,r2,q2⟩=>
   bQ (ho pins s2 σ H2 x y v u _ I2 r1 r2 q2) fun d s3 ⟨z,H3,I3,r3,k,e,q3⟩=>?_)) hm
 subst e
 cases r3
 refine wpAny_truthy_bool ?_
 cases k with
 | false=>exact ite_ff ⟨.bl false,H3,I3,rfl,q3⟩
 | true=>exact ite_tt (chain_last (bQ (hc pins s3 σ H3 _ I3 q3) fun w' s4 ⟨z',H4,I4,r4,q4⟩=>Ff pins s4 σ H4 y z' u w' Q I4 r2 r4 q4))
theorem kU:(sizeLine:Nat) < 2 ^ 63:=by rw[sizeLine_eq];decide
theorem A9:nC X (binaryOp .Add) (fun x y H Q=>∃ i j,x=.str i/\y=.str j/\i.length+j.length<=sizeLine/\Q (.str (i ++ j)) H):=by
 intro pins s σ H x y v u Q I rx ry h
 obtain⟨i,j,rfl,rfl,hz,q⟩:=h
 obtain⟨t,rfl⟩:=rx
 obtain⟨t',rfl⟩:=ry
 exact add_str (fun t' tk=>⟨.str (i ++ j),H,I.tok _,⟨_,rfl⟩,q⟩) hz
theorem vals1 {x:V}{us:List Value}(r:Vals [x] us):∃ u,us=[u]/\RelV x u:=by
 cases r with
 | cons r1 r2=>cases r2;exact⟨_,rfl,r1⟩
theorem vals2 {x y:V}{us:List Value}(r:Vals [x,y] us):∃ u w',us=[u,w']/\RelV x u/\RelV y w':=by
 cases r with
 | cons r1 r2=>
   cases r2 with
   | cons r3 r4=>cases r4;exact⟨_,_,rfl,r1,r3⟩
theorem DN (hc:X.calm=true):jE X (.builtin "max") (fun xs H Q=>∃ i j,xs=[.int i,.int j]/\Q (.int (if j > i then j else i)) H):=by
 intro pins s σ H xs us Q I r h
 obtain⟨i,j,rfl,q⟩:=h
 obtain⟨u,w',rfl,⟨t,rfl⟩,⟨t',rfl⟩⟩:=vals2 r
 refine max_two_ints (I.ok.hd hc) fun h' tk k=>⟨_,H,I.kept k,?_,q⟩
 by_cases hj:j > i
 . rw[if_pos hj,if_pos hj];exact⟨_,rfl⟩
 . rw[if_neg hj,if_neg hj];exact⟨_,rfl⟩
theorem DO (hc:X.calm=true):jE X (.builtin "min") (fun xs H Q=>∃ i j,xs=[.int i,.int j]/\Q (.int (if j < i then j else i)) H):=by
 intro pins s σ H xs us Q I r h
 obtain⟨i,j,rfl,q⟩:=h
 obtain⟨u,w',rfl,⟨t,rfl⟩,⟨t',rfl⟩⟩:=vals2 r
 refine min_two_ints (I.ok.hd hc) fun h' tk k=>⟨_,H,I.kept k,?_,q⟩
 by_cases hj:j < i
 . rw[if_pos hj,if_pos hj];exact⟨_,rfl⟩
 . rw[if_neg hj,if_neg hj];exact⟨_,rfl⟩
theorem DP:jE X (.type "int") (fun xs H Q=>(∃ i,xs=[.int i]/\Q (.int i) H)\/∃ k,xs=[.bl k]/\Q (.int (if k then 1 else 0)) H):=by
 intro pins s σ H xs us Q I r h
 rcases h with⟨i,rfl,q⟩ | ⟨k,rfl,q⟩
 . obtain⟨u,rfl,t,rfl⟩:=vals1 r
   exact call_int_int ⟨.int i,H,I,⟨_,rfl⟩,q⟩
 . obtain⟨u,rfl,r1⟩:=vals1 r
   cases r1
   exact call_int_bool ⟨.int (if k then 1 else 0),H,I.tok _,⟨_,rfl⟩,q⟩
end
structure Ba (h:Heap)(x dx C:Addr)(mA:Str->Option Value):Prop where
 obj:h.get? x=some (W.instObj C dx)
 ns:h.Ns1 dx mA
 ne:dx≠x
theorem DQ {h:Heap}{dx:Addr}{mA:Str->Option Value}(n:h.Ns1 dx mA):∃ od,h.get? dx=some od/\∀ name,W.lookIn name od=some (mA name):=by
 obtain⟨o,es,ep,ho,hd,hk,_,hm⟩:=n
 refine⟨o,ho,fun name=>?_⟩
 have e:=hm name
 unfold nsFind findBy at e
 rw[<- Array.find?_toList] at e
 unfold W.lookIn
 rw[hd]
 dsimp only
 split
 . rename_i y q
   rw[q] at e
   exact congrArg some e
 . rename_i q
   rw[q] at e
   have a:es.toList.any (·.refKey)=false:=by
     rw[List.any_eq_false]
     intro y hy
     obtain⟨z,t,UJ⟩:=hk y (Array.mem_toList_iff.mp hy)
     simp[DictEntry.refKey,UJ]
   have a':¬ es.toList.any (·.refKey)=true:=by rw[a];exact Bool.false_ne_true
   rw[if_neg a']
   exact congrArg some e
theorem Ba.look {h:Heap}{x dx C:Addr}{mA:Str->Option Value}(I:Ba h x dx C mA):∃ od,W.InstAt h x (W.instObj C dx) C (some od)/\∀ name,W.lookIn name od=some (mA name):=
 let ⟨od,ho,hl⟩:=DQ I.ns
 ⟨od,⟨I.obj,rfl,rfl,ho⟩,hl⟩
section
variable {prog:Program}{w:World}{A:Around}{E:Value->Shared->Prop}{s:Shared}{K:W.Frag}{x dx C f:Addr}{mA:Str->Option Value}{name:Str}{v:Value}
theorem get_map {expr:Bool}{Q:Value->Shared->Prop}(X:K.In s.heap)(I:Ba s.heap x dx C mA)(hg:W.plainGet K C name=true)(hh:W.hasDictIn K C=true)(ha:W.findIn K (.ref C) name=some none)(hv:mA name=some v)(Nd:W.handedIn v=true)(h:Q v { s with toks:=s.toks+1}):wpAny (model prog w) A (getAttr (.ref x) name expr) Q E s:=by
 obtain⟨od,J,hl⟩:=I.look
 exact W.get_value X J (W.plainGet_of hg).1 (W.findObj_own hh ha rfl (by rw[hl,hv])) Nd h
theorem Fy {pl:Sem Bool}{Q:Value×List Value->Shared->Prop}(X:K.In s.heap)(I:Ba s.heap x dx C mA)(hg:W.plainGet K C name=true)(hf:W.findIn K (.ref C) name=some (some (.ref f)))(ht:W.isFn K (.ref f)=true)(hv:mA name=none)(h:Q (.ref f,[.ref x]) s):wpAny (model prog w) A (getMethod (.ref x) name pl) Q E s:=by
 obtain⟨od,J,hl⟩:=I.look
 exact W.method_fn X J (W.plainGet_of hg).1 (W.plainGet_of hg).2 hf (beq_iff_eq.mp ht) (by show(W.lookIn name od).map (·.isSome)=some false;rw[hl,hv];rfl) h
theorem Jr {ns:List Str}{Q:Unit->Shared->Prop}(X:K.In s.heap)(I:Ba s.heap x dx C mA)
   (hs:W.findIn K (.ref C) "__setattr__"=some (some (.builtin "object.__setattr__"))) (hp:W.plainOver K C=true) (ht:W.takerIn K C name=some none) (hh:W.hasDictIn K C=true)
   (hw:PySem.Within mA ns) (hsz:ns.length<=sizeLine)
   (h:∀ h',Ba h' x dx C (fun y=>if y=name then some v else mA y)->Heap.SameBut dx s.heap h'->Q () { s with heap:=h',toks:=s.toks+2}) :
   wpAny (model prog w) A (setAttr (.ref x) name v) Q E s:=by
 obtain⟨od,J,hl⟩:=I.look
 refine W.set_plain X J hs (W.osa_open (s:={ s with toks:=s.toks+1}) (r:=none) X J hp ht fun b=>?_)
 obtain⟨cd,hc,PZ⟩:=W.any_some hh
 have hx:s.heap.get? x=some ⟨.ref C,some dx,.plain,#[]⟩:=I.obj
 refine wpAny_bind (wpAny_pure (wpAny_bind (wpAny_bind (wpAny_loadPart hx (wpAny_bind (W.Looks.here (s:={ s with toks:=s.toks+1}) (W.looks_clsIn X hc) ?_))))))
 rw[PZ]
 refine wpAny_pure (a:=some dx) (wpAny_bind (wpAny_pure (wpAny_bind ?_)))
 refine wpAny_nsSet1 (s:={ s with toks:=s.toks+1}) I.ns fun h' P1 A2=>?_
 obtain⟨oD,esD,epD,YQ,YR,Js⟩:=P1.count (PySem.Within.cons name v hw)
 refine wpAny_bind (wpAny_lookBehind YQ (by rw[YR];exact pastItsLine_dict (Nat.le_trans Js (by rw[List.length_cons];omega))) ?_)
 exact wpAny_pure (h _ ⟨(A2.2 _ (Ne.symm I.ne)).trans I.obj,P1,I.ne⟩ A2)
theorem FA {R:Result->Shared->Prop}{vs:List Value}{kw:List (Str×Value)}(X:K.In s.heap)(hm:W.makesIn K C=true)(hi:W.findIn K (.ref C) "__init__"=some (some (.ref f)))(hf:W.typeIn K (.ref f)=some (.type "function"))(h:codeAny (model prog w) (A.under (.builtin "type.__call__" ⟨.ref C::vs,kw⟩)) (.call (.ref f) ⟨.ref (s.heap.objs.size+1)::vs,kw⟩) (W.InitBack (s.heap.objs.size+1) R) { s with heap:=(s.heap.push W.emptyDict).push (W.instObj C s.heap.objs.size)}):codeAny (model prog w) A (.call (.ref C) ⟨vs,kw⟩) R s:=by
 obtain⟨hh,g,d,t,os⟩:=s
 exact W.make_core (W.makes_of X hm) (W.looks_findIn X hi) (fun self=>W.bind_fn X self hf) (.inl rfl) h
theorem DR {R:Result->Shared->Prop}(X:K.In s.heap)(hm:W.makesIn K C=true)(hi:W.findIn K (.ref C) "__init__"=some (some (.builtin "object.__init__")))(hb:∀ self,W.Looks (model prog w) s.heap (bindSpecial (.builtin "object.__init__") self) (.builtin "object.__init__",[self]))(h:codeAny (model prog w) (A.under (.builtin "type.__call__" ⟨[.ref C],[]⟩)) (.call (.builtin "object.__init__") ⟨[.ref (s.heap.objs.size+1)],[]⟩) (W.InitBack (s.heap.objs.size+1) R) { s with heap:=(s.heap.push W.emptyDict).push (W.instObj C s.heap.objs.size)}):codeAny (model prog w) A (.call (.ref C) ⟨[],[]⟩) R s:=by
 obtain⟨hh,g,d,t,os⟩:=s
 exact W.make_core (W.makes_of X hm) (W.looks_findIn X hi) hb (.inr ⟨rfl,rfl⟩) h
end
noncomputable def eO (f:Str)(v:V):List (Str×V)->List (Str×V)
 | []=>[(f,v)]
 | (g,x)::r=>if g=f then (g,v)::r else (g,x)::eO f v r
theorem mQ (f g:Str)(v:V):∀ fs:List (Str×V),(eO f v fs).lookup g=if g=f then some v else fs.lookup g
 | []=>by
   show List.lookup g [(f,v)]=_
   by_cases h:g=f
   . have hb:(g == f)=true:=beq_iff_eq.mpr h
     simp only[List.lookup,hb,if_pos h]
   . have hb:(g == f)=false:=beq_eq_false_iff_ne.mpr h
     simp only[List.lookup,hb,if_neg h]
 | (k,x)::r=>by
   have ih:=mQ f g v r
   rw[show eO f v ((k,x)::r)=(if k=f then (k,v)::r else (k,x)::eO f v r) from rfl]
   by_cases hk:k=f
   . rw[if_pos hk]
     by_cases h:g=k
     . have hb:(g == k)=true:=beq_iff_eq.mpr h
       simp only[List.lookup,hb,if_pos (h.trans hk)]
     . have hb:(g == k)=false:=beq_eq_false_iff_ne.mpr h
       simp only[List.lookup,hb,if_neg (fun e:g=f=>h (e.trans hk.symm))]
   . rw[if_neg hk]
     by_cases h:g=k
     . have hb:(g == k)=true:=beq_iff_eq.mpr h
       simp only[List.lookup,hb,if_neg (fun e:g=f=>hk (h.symm.trans e))]
     . have hb:(g == k)=false:=beq_eq_false_iff_ne.mpr h
       simp only[List.lookup,hb]
       exact ih
theorem qv (f:Str)(v:V):∀ fs:List (Str×V),f∈(eO f v fs).map (·.1)/\∀ g,g∈fs.map (·.1)->g∈(eO f v fs).map (·.1)
 | []=>⟨by simp[eO],fun g h=>by simp at h⟩
 | (k,x)::r=>by
   obtain⟨i1,i2⟩:=qv f v r
   rw[show eO f v ((k,x)::r)=(if k=f then (k,v)::r else (k,x)::eO f v r) from rfl]
   by_cases hk:k=f
   . rw[if_pos hk]
     subst hk
     exact⟨by simp,fun g h=>by simpa using h⟩
   . rw[if_neg hk]
     refine⟨?_,fun g h=>?_⟩
     . rw[List.map_cons]
       exact List.mem_cons_of_mem _ i1
     . rw[List.map_cons] at h ⊢
       rcases List.mem_cons.mp h with e | e
       . exact List.mem_cons.mpr (.inl e)
       . exact List.mem_cons_of_mem _ (i2 g e)
theorem rF (f:Str)(v:V):∀ fs:List (Str×V),(eO f v fs).length<=fs.length+1
 | []=>by simp[eO]
 | (k,x)::r=>by
   have ih:=rF f v r
   rw[show eO f v ((k,x)::r)=(if k=f then (k,v)::r else (k,x)::eO f v r) from rfl]
   by_cases hk:k=f
   . rw[if_pos hk,List.length_cons,List.length_cons];omega
   . rw[if_neg hk,List.length_cons,List.length_cons];omega
theorem oe.some_of {v:V}{o:Option Value}(r:oe (some v) o):∃ u,o=some u/\RelV v u:=by
 cases o with
 | none=>exact(show False from r).elim
 | some u=>exact⟨u,rfl,r⟩
theorem oe.none_of {o:Option Value}(r:oe none o):o=none:=by
 cases o with
 | none=>rfl
 | some u=>exact(show False from r).elim
theorem DS {v:V}{u:Value}(r:RelV v u):W.handedIn u=true:=by
 cases v with
 | cF=>cases (show u=Value.none from r);rfl
 | bl b=>cases (show u=Value.bool b from r);rfl
 | int i=>obtain⟨t,e⟩:=(show ∃ t,u=Value.int i t from r);cases e;rfl
 | str x=>obtain⟨t,e⟩:=(show ∃ t,u=Value.str x t from r);cases e;rfl
 | EY b=>obtain⟨t,e⟩:=(show ∃ t,u=Value.bytes b t from r);cases e;rfl
 | MI b=>obtain⟨t,e⟩:=(show ∃ t,u=Value.float b t from r);cases e;rfl
 | ref a=>cases (show u=Value.ref a from r);rfl
 | ty n=>cases (show u=Value.type n from r);rfl
section
variable {P:Program}{w:World}{H:Hp}{h:Heap}{a C dx:Addr}{fs:List (Str×V)}
theorem sF (bb:o9 P w H h)(e:Rd H a (.ins C dx fs)):∃ mA,Ba h a dx C mA/\(∀ f,oe (fs.lookup f) (mA f))/\PySem.Within mA (fs.map (·.1))/\fs.length<=1000/\H dx=some (.own a):=by
 obtain⟨d,z,ne,ob,mA,n,r,q⟩:=(show aK P w H h a (.ins C dx fs) from e.ok bb)
 exact⟨mA,⟨ob,n,ne⟩,r,q,z,d⟩
end
structure rP (K:W.Frag)(C:Addr):Prop where
 pg:W.plainGet K C Str.empty=true
 hd:W.hasDictIn K C=true
 po:W.plainOver K C=true
 sa:W.findIn K (.ref C) "__setattr__"=some (some (.builtin "object.__setattr__"))
theorem rP.get {K:W.Frag}{C:Addr}(c:rP K C)(f:Str):W.plainGet K C f=true:=c.pg
noncomputable def bB (K:W.Frag)(C:Addr)(f:Str):Prop:=W.findIn K (.ref C) f=some none
theorem bB.QM {K:W.Frag}{C:Addr}{f:Str}(n:bB K C f):W.takerIn K C f=some none:=by
 unfold W.takerIn
 rw[show W.findIn K (.ref C) f=some none from n]
 rfl
structure Con (K:W.Frag)(C:Addr)(f:Str)(v:V)(u:Value):Prop where
 at_:W.findIn K (.ref C) f=some (some u)
 rel:RelV v u
 get:W.specialIn K u "__get__"=some none
 cp:W.copiedNames.contains f=false
structure Meth (K:W.Frag)(C:Addr)(m:Str)(f:Addr):Prop where
 at_:W.findIn K (.ref C) m=some (some (.ref f))
 fn:W.isFn K (.ref f)=true
 kp:W.keepIn K (.ref f)=true
section
variable {X:Cx}{pins:List (Addr×Obj)}{σ:St}{H:Hp}{s:Shared}{a C dx:Addr}{fs:List (Str×V)}{f:Str}{v:V}{A:Around}{E:Value->Shared->Prop}
theorem Bb {b:Bool}{Q:Value->Shared->Prop}(I:Inv X pins σ H s)(e:Rd H a (.ins C dx fs))(c:rP X.K C)(n:bB X.K C f)(l:fs.lookup f=some v)(h:∀ u s',Inv X pins σ H s'->RelV v u->Q u s'):wpAny (model X.prog X.w) A (getAttr (.ref a) f b) Q E s:=by
 obtain⟨mA,O,r,_,_,_⟩:=sF I.bb e
 obtain⟨u,hu,ru⟩:=oe.some_of (v:=v) (o:=mA f) (by rw[<- l];exact r f)
 exact get_map I.lO O (c.get f) c.hd n hu (DS ru) (h u _ (I.tok _) ru)
theorem tX {m:Str}{g:Addr}{pl:Sem Bool}{Q:Value×List Value->Shared->Prop}(I:Inv X pins σ H s)(e:Rd H a (.ins C dx fs))(c:rP X.K C)(k:Meth X.K C m g)(l:fs.lookup m=none)(h:Q (.ref g,[.ref a]) s):wpAny (model X.prog X.w) A (getMethod (.ref a) m pl) Q E s:=by
 obtain⟨mA,O,r,_,_,_⟩:=sF I.bb e
 have hn:mA m=none:=oe.none_of (by rw[<- l];exact r m)
 exact Fy I.lO O (c.get m) k.at_ k.fn hn h
theorem Bc {y:V}{u:Value}{Q:Unit->Shared->Prop}(I:Inv X pins σ H s)(e:H a=some (.ins C dx fs))(c:rP X.K C)(n:bB X.K C f)(hl:fs.length < 1000)(ry:RelV y u)(h:∀ s',Inv X pins σ (upd H a (.ins C dx (eO f y fs))) s'->Q () s'):wpAny (model X.prog X.w) A (setAttr (.ref a) f u) Q E s:=by
 obtain⟨mA,O,r,wi,_,ho⟩:=sF I.bb (.of e)
 have hz:(fs.map (·.1)).length<=sizeLine:=by rw[List.length_map,sizeLine_eq];omega
 refine Jr I.lO O c.sa c.po n.QM c.hd wi hz fun h' O' sb=>h _ ?_
 have hd:∃ o,h'.get? dx=some o:=let ⟨o,_,_,e',_⟩:=O'.ns;⟨o,e'⟩
 refine I.write (x:=a) (e:=dx) (by rw[e];exact True.intro) (.inr ho) (fun b q hb z=>(sb.2 b hb).trans z) hd ?_
 refine⟨by rw[ag O.ne];exact ho,?_,O.ne,O'.obj,_,O'.ns,fun g=>?_,fun g hg=>?_⟩
 . have:=rF f y fs;omega
 . show oe ((eO f y fs).lookup g) (if g=f then some u else mA g)
   rw[mQ]
   by_cases q:g=f
   . rw[if_pos q,if_pos q];exact ry
   . rw[if_neg q,if_neg q];exact r g
 . by_cases q:g=f
   . rw[q];exact(qv f y fs).1
   . refine(qv f y fs).2 g (wi g fun z=>hg ?_)
     show(if g=f then some u else mA g)=none
     rw[if_neg q];exact z
theorem Inv.made (I:Inv X pins σ H s):Inv X pins σ (upd (upd H s.heap.objs.size (.own (s.heap.objs.size+1))) (s.heap.objs.size+1) (.ins C s.heap.objs.size [])) { s with heap:=(s.heap.push W.emptyDict).push (W.instObj C s.heap.objs.size)}:=by
 have e1:(s.heap.push W.emptyDict).get? s.heap.objs.size=some W.emptyDict:=Heap.get?_push_size s.heap rfl
 have e2:((s.heap.push W.emptyDict).push (W.instObj C s.heap.objs.size)).get? (s.heap.objs.size+1)=some (W.instObj C s.heap.objs.size):=by
   have:=Heap.get?_push_size (s.heap.push W.emptyDict) (o:=W.instObj C s.heap.objs.size) rfl
   rwa [Heap.size_push] at this
 have e3:(s.heap.push W.emptyDict).Ns s.heap.objs.size (fun _=>none):=⟨W.emptyDict,#[],_,e1,rfl,(fun e he=>absurd he (by simp)),fun _=>rfl⟩
 have I1:=I.laid (a:=s.heap.objs.size) (o:=.own (s.heap.objs.size+1)) (h':=s.heap.push W.emptyDict) (t':=s.toks) (fun b u q=>Heap.get?_push_of_some _ q) (Nat.le_refl _) ⟨_,e1⟩
 refine I1.laid (a:=s.heap.objs.size+1) (o:=.ins C s.heap.objs.size []) (t':=s.toks) (fun b u q=>Heap.get?_push_of_some _ q) (Nat.le_of_eq (Heap.size_push _ _)) ?_
 have ne:s.heap.objs.size≠s.heap.objs.size+1:=Nat.ne_of_lt (Nat.lt_succ_self _)
 refine⟨by rw[ag ne,aj],Nat.zero_le _,ne,e2,fun _=>none,(Heap.Ns1.of_empty e3).at fun o q=>Heap.get?_push_of_some _ q,fun _=>True.intro,fun y hy=>absurd rfl hy⟩
theorem Jt {prog:Program}{w:World}{env:Env}{e:Expr}{f:Str}{pos:Pos}{s:Shared}{Q:Value->Shared->Prop}(hb:attributeBase e f env (eval e env)=eval e env)(h:wpAny (model prog w) A (eval e env) (fun o s₁=>wpAny (model prog w) A (getAttr o f true) Q E s₁) E s):wpAny (model prog w) A (eval (.Attribute e f pos) env) Q E s:=
 Attribute_any_ h (by rw[arm_eval_Attribute,hb])
end
noncomputable def UK (K:PySem.W.Frag)(ta:TE)(f:Str):TE:=fun σ H Q=>ta σ H fun x H1=>∃ a C dx fs v,x=.ref a/\Rd H1 a (.ins C dx fs)/\rP K C/\bB K C f/\fs.lookup f=some v/\Q v H1
noncomputable def UL (K:PySem.W.Frag)(ta tv:TE)(f:Str):TS:=fun D σ H=>tv σ H fun y H1=>ta σ H1 fun x H2=>∃ a C dx fs,x=.ref a/\H2 a=some (.ins C dx fs)/\rP K C/\bB K C f/\fs.length < 1000 /\
 D.nx σ (upd H2 a (.ins C dx (eO f y fs)))
section
variable {X:Cx}{o e value:Expr}{f:Str}{pos pos':Pos}{ta tv:TE}
theorem tY (he:PE X e ta)(hb:attributeBase e f X.env (eval e X.env)=eval e X.env):PE X (.Attribute e f pos) (UK X.K ta f):=by
 intro pins s σ H Q I h
 refine Jt hb (bQ (he pins s σ H _ I h) fun u s1 ⟨x,H1,I1,rx,a,C,dx,fs,v,ex,ea,c,n,l,q⟩=>?_)
 subst ex
 obtain rfl:u=Value.ref a:=rx
 exact Bb I1 ea c n l fun u' s2 I2 ru=>⟨v,H1,I2,ru,q⟩
theorem tZ (ha:PE X o ta)(hv:PE X value tv)(hs:swapsWith value (some (.Attribute o f pos')) pos.line X.env=pure false):PS X (.Assign [.Attribute o f pos'] value pos) (UL X.K ta tv f):=by
 intro pins s σ H D I h
 refine plainObj_wpAny_Assign_Attribute (bQ (hv pins s σ H _ I h) fun u s1 ⟨y,H1,I1,ry,q⟩=>bQ (ha pins s1 σ H1 _ I1 q) fun ov s2 ⟨x,H2,I2,rx,a,C,dx,fs,ex,ea,c,n,l,q2⟩=>?_) hs
 subst ex
 obtain rfl:ov=Value.ref a:=rx
 exact Bc I2 ea c n l ry fun s3 I3=>⟨σ,_,I3,q2⟩
end
section
variable {X:Cx}{pins:List (Addr×Obj)}{σ:St}{H:Hp}{s:Shared}{A:Around}{E:Value->Shared->Prop}{Q:Value->Shared->Prop}{c:Value}{b:Bool}
inductive rQ (K:W.Frag)(H:Hp):V->Value->Prop where
 | cF:rQ K H .cF (.type "NoneType")
 | bl (x:Bool):rQ K H (.bl x) (.type "bool")
 | int (i:Int):rQ K H (.int i) (.type "int")
 | str (x:Str):rQ K H (.str x) (.type "str")
 | MI (x:UInt64):rQ K H (.MI x) (.type "float")
 | lst {a:Addr} {xs:List V} (e:H a=some (.lst xs)):rQ K H (.ref a) (.type "list")
 | aW {a:Addr} {o:Obj} {xs:List V} (e:H a=some (.aW o (.lst xs))):rQ K H (.ref a) (.type "list")
 | tup {a:Addr} {xs:List V} (e:H a=some (.tup xs)):rQ K H (.ref a) (.type "tuple")
 | dK {a:Addr} {kvs:List (Key×V)} (e:H a=some (.dK kvs)):rQ K H (.ref a) (.type "dict")
 | dT {a:Addr} {kvs:List (List Key×V)} (e:H a=some (.dT kvs)):rQ K H (.ref a) (.type "dict")
 | ins {a C dx:Addr} {fs:List (Str×V)} (e:Rd H a (.ins C dx fs)) (cl:rP K C) (ha:W.findIn K (.ref C) "__class__"=some (some (.builtin "object.__class__")))
     (hn:W.specialIn K (.builtin "object.__class__") "__get__"=some (some (.builtin "getset_descriptor.__get__"))) (Nf:W.takesIn K (.builtin "object.__class__")=some true)
     (hm:W.mroIn K C (.type "object")=some true):rQ K H (.ref a) (.ref C)
theorem qw {x:V}{u t:Value}(I:Inv X pins σ H s)(rx:RelV x u)(ty:rQ X.K H x t)(e:W.kitOne X.K t c=some b)(h:∀ tk,Q (.bool b) { s with toks:=tk}):wpAny (model X.prog X.w) A (call (.builtin "isinstance") [u,c]) Q E s:=by
 cases ty with
 | cF=>cases (show u=Value.none from rx);exact W.kia_one W.kitx_none I.lO True.intro e (fun z=>nomatch z) h
 | bl y=>cases (show u=Value.bool y from rx);exact W.kia_one W.kitx_bool I.lO True.intro e (fun z=>nomatch z) h
 | int i=>obtain⟨t,q⟩:=(show ∃ t,u=Value.int i t from rx);cases q;exact W.kia_one W.kitx_int I.lO True.intro e (fun z=>nomatch z) h
 | str y=>obtain⟨t,q⟩:=(show ∃ t,u=Value.str y t from rx);cases q;exact W.kia_one W.kitx_str I.lO True.intro e (fun z=>nomatch z) h
 | MI y=>obtain⟨t,q⟩:=(show ∃ t,u=Value.float y t from rx);cases q;exact W.kia_one W.kitx_float I.lO True.intro e (fun z=>nomatch z) h
 | @lst a xs ea=>
   cases (show u=Value.ref a from rx)
   obtain⟨_,_,n,_,h1⟩:=(show aK X.prog X.w H s.heap a (.lst xs) from I.bb a _ ea)
   exact W.kia_one W.kitx_list I.lO ⟨_,h1,rfl⟩ e (fun z=>nomatch z) h
 | @aW a ob xs ea=>
   cases (show u=Value.ref a from rx)
   obtain⟨_,_,_,n,_,h1⟩:=(show aK X.prog X.w H s.heap a (.aW ob (.lst xs)) from I.bb a _ ea)
   exact W.kia_one W.kitx_list I.lO ⟨_,h1,rfl⟩ e (fun z=>nomatch z) h
 | @tup a xs ea=>
   cases (show u=Value.ref a from rx)
   obtain⟨_,_,_,p⟩:=(show aK X.prog X.w H s.heap a (.tup xs) from I.bb a _ ea)
   obtain⟨o,h1,h2,_⟩:=p
   exact W.kia_one W.kitx_tuple I.lO ⟨o,h1,h2⟩ e (fun z=>nomatch z) h
 | @dK a kvs ea=>
   cases (show u=Value.ref a from rx)
   obtain⟨_,_,vs,_,p⟩:=(show aK X.prog X.w H s.heap a (.dK kvs) from I.bb a _ ea)
   obtain⟨o,es,ep,h1,h2,_⟩:=p
   exact W.kia_one W.kitx_dict I.lO ⟨o,h1,h2.1⟩ e (fun z=>nomatch z) h
 | @dT a kvs ea=>
   cases (show u=Value.ref a from rx)
   obtain⟨_,_,xs,_,o,es,ep,h1,h2,_⟩:=(show aK X.prog X.w H s.heap a (.dT kvs) from I.bb a _ ea)
   exact W.kia_one W.kitx_dict I.lO ⟨o,h1,h2.1⟩ e (fun z=>nomatch z) h
 | @ins a C dx fs ea cl ha hn Nf hm=>
   cases (show u=Value.ref a from rx)
   obtain⟨mA,O,_⟩:=sF I.bb ea
   obtain⟨od,J,_⟩:=O.look
   exact W.kia_one (W.kitx_own (cl.get _) cl.hd ha hn Nf hm) I.lO J e (fun z=>nomatch z) h
end
structure di (k:Nat)(A:Around):Prop where
 hd:A.handled=none
 dp:A.depth+3 * k+5 < recursionLimit
 un:A.units+16 * k+200 < cLine
theorem di.mono {j k:Nat}{A:Around}(r:di k A)(h:j<=k):di j A:=⟨r.hd,by have:=r.dp;omega,by have:=r.un;omega⟩
theorem di.deeper {k:Nat}{A:Around}(r:di (k+1) A)(env:Env):di k (A.deeper env):=
 ⟨r.hd,by have:=r.dp;show A.depth+1+3 * k+5 < _;omega,by have:=r.un;show A.units+3+16 * k+200 < _;omega⟩
theorem Bd {A:Around}{C:Addr}{us:List Value}{kw:List (Str×Value)}:(A.under (.builtin "type.__call__" ⟨.ref C::us,kw⟩)).depth=A.depth+1:=by
 first | rfl | simp[Around.under,Code.weight,Code.isCreation,Code.isGuard,Code.isCaller,Code.frames,Code.isFrame,guardIds]
theorem Be {A:Around}{C:Addr}{us:List Value}{kw:List (Str×Value)}:(A.under (.builtin "type.__call__" ⟨.ref C::us,kw⟩)).units=A.units+1:=by
 first | rfl | simp[Around.under,Code.cUnits,Code.frames,Code.isFrame]
theorem di.make {k:Nat}{A:Around}(r:di (k+1) A)(C:Addr)(us:List Value)(kw:List (Str×Value)):di k (A.under (.builtin "type.__call__" ⟨.ref C::us,kw⟩)):=
 ⟨r.hd,by have:=r.dp;rw[Bd];omega,by have:=r.un;rw[Be];omega⟩
theorem di.depth {k:Nat}{A:Around}(r:di k A):A.depth < recursionLimit:=by have:=r.dp;omega
theorem di.units {k:Nat}{A:Around}(r:di k A):A.units+64 < cLine:=by have:=r.un;omega
noncomputable def QN:TA:=fun _ H Q=>Q [] H
noncomputable def QO (ta:TE)(tr:TA):TA:=fun σ H Q=>ta σ H fun x H1=>tr σ H1 fun xs H2=>Q (x::xs) H2
section
variable {X:Cx}{e:Expr}{es:List Expr}{te:TE}{t:TA}{pos:Pos}
theorem lS:PA X [] QN:=fun _ _ _ _ H Q I h=>Calls.spliced_nil ⟨[],H,I,.nil,h⟩
theorem d7 (ha:PE X e te)(hr:PA X es t)(hs:starEach (e::es) X.env=(false,eval e X.env)::starEach es X.env:=by rfl):PA X (e::es) (QO te t):=by
 intro pos pins s σ H Q I h
 rw[hs]
 show wpAny _ _ (spliced ((false,eval e X.env)::backTo pos (starEach es X.env))) _ _ s
 refine Calls.spliced_cons (bQ (ha pins s σ H _ I h) fun u s1 ⟨x,H1,I1,r1,q1⟩=>?_)
 exact bQ (hr pos pins s1 σ H1 _ I1 q1) fun us s2 ⟨xs,H2,I2,r2,q2⟩=>⟨x::xs,H2,I2,.cons r1 r2,q2⟩
noncomputable def UM (t:TA):TE:=fun σ H Q=>t σ H fun xs H1=>xs.length<=sizeLine/\∀ p,H1 p=none->Q (.ref p) (upd H1 p (.tup xs))
noncomputable def UN (t:TA):TE:=fun σ H Q=>t σ H fun xs H1=>xs.length<=sizeLine/\∀ p,H1 p=none->Q (.ref p) (upd H1 p (.lst xs))
theorem FC {x1}(h:PA X es t):PE X (.Tuple es x1 pos) (UM t):=by
 intro pins s σ H Q I hq
 refine wpAny_Tuple_spliced (bQ (h pos pins s σ H _ I hq) fun us s1 ⟨xs,H1,I1,r,z,q⟩=>⟨by rw[<- r.length];exact z,?_⟩)
 have hf:H1 s1.heap.objs.size=none:=I1.bb.fresh (Nat.le_refl _)
 refine⟨.ref s1.heap.objs.size,upd H1 s1.heap.objs.size (.tup xs),I1.laid (t':=s1.toks) (fun b u e=>Heap.get?_push_of_some _ e) (Nat.le_refl _) ?_,rfl,q _ hf⟩
 exact⟨z,us,r,⟨_,Heap.get?_push_size _ rfl,rfl,_,rfl⟩⟩
theorem t5 (h:PA X es t):PE X (.List es pos) (UN t):=by
 intro pins s σ H Q I hq
 refine wpAny_List_spliced (bQ (h pos pins s σ H _ I hq) fun us s1 ⟨xs,H1,I1,r,z,q⟩=>⟨by rw[<- r.length];exact z,?_⟩)
 have hf:H1 s1.heap.objs.size=none:=I1.bb.fresh (Nat.le_refl _)
 refine⟨.ref s1.heap.objs.size,upd H1 s1.heap.objs.size (.lst xs),I1.laid (t':=s1.toks) (fun b u e=>Heap.get?_push_of_some _ e) (Nat.le_refl _) ?_,rfl,q _ hf⟩
 exact⟨z,us,0,r,Heap.get?_push_size _ rfl⟩
end
noncomputable abbrev Sp:=List V->Hp->VK->XK->Prop
noncomputable abbrev pA:=List Env->Hp->Shared->XK->Value->Shared->Prop
structure zq (P:Program)(w:World)(K:W.Frag)(mg:Str->Option Value)(base:Heap)(A:Around)(outer:List Env)(s:Shared)(H:Hp):Prop where
 frames:A.frames=some outer
 mod:Mod K mg base
 bs:∀ b o,base.get? b=some o->s.heap.get? b=some o/\H b=none
 Cg:base.objs.size<=s.heap.objs.size
 qo:s.heap.FunFrames base outer
 LD:∀ b∈Fe outer,H b=none
 bb:o9 P w H s.heap
 bare:AllBare s.gens
noncomputable def CE (outer:List Env)(P:Program)(w:World)(H:Hp)(s:Shared)(Q:VK)(u:Value)(s':Shared):Prop:=
 ∃ v H',s'.os=s.os/\AllBare s'.gens/\Un (Fe outer) [] H H' s.heap s'.heap/\o9 P w H' s'.heap/\RelV v u/\Q v H'
noncomputable def CR (CX:pA)(outer:List Env)(P:Program)(w:World)(H:Hp)(s:Shared)(Q:VK)(E:XK)(r:Result)(s':Shared):Prop:=
 match r with
 | .ok (.ret u)=>CE outer P w H s Q u s'
 | .ok _=>False
 | .error e=>CX outer H s E e s'
structure iL (P:Program)(w:World)(K:W.Frag)(mg:Str->Option Value)(base:Heap)(CX:pA)(k:Nat)(f:Addr)(fd:FuncData)(ps:List Str)(sp:Sp):Prop where
 len:∀ vs H Q E,sp vs H Q E->vs.length=ps.length
 run:∀ (A:Around) (outer:List Env) (s:Shared) (H:Hp) (args:Args) (us:List Value) (vs:List V) (Q:VK) (E:XK),di k A->zq P w K mg base A outer s H->BindsTo s fd args (ps.zip us)->Vals vs us->sp vs H Q E ->
   codeAny (model P w) A (.call (.ref f) args) (CR CX outer P w H s Q E) s
theorem zq.make {P:Program}{w:World}{K:W.Frag}{mg:Str->Option Value}{base:Heap}{A:Around}{outer:List Env}{s:Shared}{H:Hp}(e:zq P w K mg base A outer s H)(C:Addr)(us:List Value)(kw:List (Str×Value)):zq P w K mg base (A.under (.builtin "type.__call__" ⟨.ref C::us,kw⟩)) outer s H:=⟨by first | exact e.frames | (simpa [Around.under,Code.envs,Code.isFrame,pushEnvs] using e.frames),e.mod,e.bs,e.Cg,e.qo,e.LD,e.bb,e.bare⟩
section
variable {X:Cx}{pins:List (Addr×Obj)}{σ:St}{H:Hp}{s s':Shared}
theorem Inv.QP (I:Inv X pins σ H s):zq X.prog X.w X.K X.mg X.base X.A X.stack s H:=
 ⟨I.ok.frames,I.ok.mod,I.bs,Nat.le_trans I.ok.Cg I.sz,I.stack,I.sA,I.bb,I.bare⟩
theorem Inv.after {Q:VK}{u:Value}(I:Inv X pins σ H s)(h:CE X.stack X.prog X.w H s Q u s'):EP X pins σ Q u s':=by
 obtain⟨v,H',os,bare,un,bb,r,q⟩:=h
 obtain⟨hh,g,d,t,UO⟩:=s'
 obtain rfl:UO=s.os:=os
 exact⟨v,H',I.call (h':=hh) (g':=g) (d':=d) (t':=t) (ch:=[]) un bb bare (fun b z=>absurd z (by simp)),r,q⟩
end
noncomputable def QQ (sp:Sp)(dvs:List V)(E:XK)(t:TA):TE:=fun σ H Q=>t σ H fun vs H1=>sp (vs ++ dvs) H1 Q E
noncomputable def LJ (C:Addr)(m:Str)(sp:Sp)(dvs:List V)(E:XK)(ta:TE)(t:TA):TE:=fun σ H Q=>ta σ H fun x H1=>∃ a dx fs,x=.ref a/\Rd H1 a (.ins C dx fs)/\fs.lookup m=none /\
 t σ H1 fun vs H2=>sp (x::(vs ++ dvs)) H2 Q E
noncomputable def QR (C:Addr)(sp:Sp)(dvs:List V)(E:XK)(t:TA):TE:=fun σ H Q=>t σ H fun vs H1=>∀ x dx,H1 x=none->H1 dx=none->dx≠x ->
 sp (.ref x::(vs ++ dvs)) (upd (upd H1 dx (.own x)) x (.ins C dx [])) (fun v H2=>v=.cF/\Q (.ref x) H2) E
noncomputable def Binds (K:PySem.W.Frag)(fd:FuncData)(ps:List Str)(ds:List Value):Prop:=
 ∀ (s:Shared) (us:List Value),K.In s.heap->(us ++ ds).length=ps.length->BindsTo s fd ⟨us,[]⟩ (ps.zip (us ++ ds))
theorem Binds.all {K:W.Frag}{fd:FuncData}{ps:List Str}(h:∀ us:List Value,us.length=ps.length->bindArgs fd ⟨us,[]⟩=pure (ps.zip us)):Binds K fd ps []:=fun s us _ hl=>by
 rw[List.append_nil] at hl ⊢
 exact .of_eq (h us hl)
noncomputable def Passes (CX:pA)(X:Cx)(E:XK):Prop:=∀ (pins:List (Addr×Obj)) (σ:St) (H:Hp) (s:Shared) (e:Value) (s':Shared),Inv X pins σ H s->CX X.stack H s E e s'->X.xe e s'
section
variable {X:Cx}{CX:pA}{k:Nat}{f C:Addr}{fd:FuncData}{ps:List Str}{sp:Sp}{dvs:List V}{ds:List Value}{E:XK}{x m:Str}{p pos apos:Pos}{e o:Expr}{es:List Expr}{ta:TE}{t:TA}
theorem Bf {pins:List (Addr×Obj)}{σ:St}{H:Hp}{s:Shared}{Q:VK}{us:List Value}{vs:List V}(F:iL X.prog X.w X.K X.mg X.base CX k f fd ps sp)(hr:di k X.A)(hb:Binds X.K fd ps ds)(hd:Vals dvs ds)(hx:Passes CX X E)(I:Inv X pins σ H s)(r:Vals vs us)(h:sp (vs ++ dvs) H Q E):wpAny (model X.prog X.w) X.A (call (.ref f) us) (EP X pins σ Q) X.xe s:=by
 have r2:Vals (vs ++ dvs) (us ++ ds):=r.append hd
 have hl:(us ++ ds).length=ps.length:=by rw[<- r2.length];exact F.len _ _ _ _ h
 refine wpAny_call (codeAny_mono (F.run X.A X.stack s H ⟨us,[]⟩ (us ++ ds) (vs ++ dvs) Q E hr I.QP (hb s us I.lO hl) r2 h) fun r s' hq=>?_)
 cases r with
 | error e=>exact hx pins σ H s e s' I hq
 | ok fl=>
   cases fl with
   | ret u=>exact I.after hq
   | next=>exact False.elim hq
   | brk=>exact False.elim hq
   | cont=>exact False.elim hq
theorem Cp (F:iL X.prog X.w X.K X.mg X.base CX k f fd ps sp)(hr:di k X.A)(hg:Gl X x)(hm:X.mg x=some (.ref f))(hk:W.keepIn X.K (.ref f)=true)(hb:Binds X.K fd ps ds)(hd:Vals dvs ds)(hx:Passes CX X E)(ha:PA X (e::es) t)(lN:(x == ("__debug__":Str))=false:=by decide)(he:starEach (e::es) X.env=(false,eval e X.env)::starEach es X.env:=by rfl)(mD:(backTo pos (starEach es X.env)).any (·.1)=false:=by rfl):PE X (.Call (.Name x p) (e::es) [] pos) (QQ sp dvs E t):=by
 intro pins s σ H Q I h
 refine wpAny_Call_Name_kw (sC I hg hm ?_ lN)
 refine W.callWith_K (h₀:=X.base) I.ok.mod.Qn hk (bQ (ha pos pins s σ H _ I h) fun us s1 ⟨vs,H1,I1,r,q⟩=>⟨I1.lO,?_⟩) he mD
 exact Bf F hr hb hd hx I1 r q
theorem xv {pl:Sem Bool}(he:PE X o ta)(c:rP X.K C)(hm:Meth X.K C m f)(F:iL X.prog X.w X.K X.mg X.base CX k f fd ps sp)(hr:di k X.A)(hb:Binds X.K fd ps ds)(hd:Vals dvs ds)(hx:Passes CX X E)(ha:PA X (e::es) t)
   (oM:starEach (e::es) X.env=(false,eval e X.env)::starEach es X.env:=by rfl) (mD:(backTo pos (starEach es X.env)).any (·.1)=false:=by rfl)
   (ht:eval (.Call (.Attribute o m apos) (e::es) [] pos) X.env=(do
     let ov <- eval o X.env
     standAt apos.atName
     let (f,first) <- holding [ov] (getMethod ov m pl)
     callWith pos f first (backTo pos (starEach (e::es) X.env)) (backToKw pos (keywordEach [] X.env))):=by rfl) :
   PE X (.Call (.Attribute o m apos) (e::es) [] pos) (LJ C m sp dvs E ta t):=by
 intro pins s σ H Q I h
 refine W.methodCall_KW (pl:=pl) (bQ (he pins s σ H _ I h) fun u s1 ⟨x,H1,I1,rx,a,dx,fs,ex,ea,l,q⟩=>?_) ht
 subst ex
 obtain rfl:u=Value.ref a:=rx
 refine tX I1 ea c hm l ?_
 refine W.callWith_K (first:=[.ref a]) (h₀:=X.base) I.ok.mod.Qn hm.kp (bQ (ha pos pins s1 σ H1 _ I1 q) fun us s2 ⟨vs,H2,I2,r,q2⟩=>⟨I2.lO,?_⟩) oM mD
 exact Bf (us:=.ref a::us) (vs:=.ref a::vs) F hr hb hd hx I2 (.cons rfl r) q2
theorem t6 {pl:Sem Bool}(he:PE X o ta)(c:rP X.K C)(hm:Meth X.K C m f)(F:iL X.prog X.w X.K X.mg X.base CX k f fd ps sp)(hr:di k X.A)(hb:Binds X.K fd ps ds)(hd:Vals dvs ds)(hx:Passes CX X E)
   (ht:eval (.Call (.Attribute o m apos) [] [] pos) X.env=(do
     let ov <- eval o X.env
     standAt apos.atName
     let (f,first) <- holding [ov] (getMethod ov m pl)
     callWith pos f first (backTo pos (starEach [] X.env)) (backToKw pos (keywordEach [] X.env))):=by rfl) :
   PE X (.Call (.Attribute o m apos) [] [] pos) (LJ C m sp dvs E ta QN):=by
 intro pins s σ H Q I h
 refine W.methodCall_KW (pl:=pl) (bQ (he pins s σ H _ I h) fun u s1 ⟨x,H1,I1,rx,a,dx,fs,ex,ea,l,q⟩=>?_) ht
 subst ex
 obtain rfl:u=Value.ref a:=rx
 refine tX I1 ea c hm l ?_
 exact W.callWith_K0 (first:=[.ref a]) I1.lO hm.kp (Bf (us:=[.ref a]) (vs:=[.ref a]) F hr hb hd hx I1 (.cons rfl .nil) q)
structure Mk (K:W.Frag)(C f:Addr):Prop where
 makes:W.makesIn K C=true
 init:W.findIn K (.ref C) "__init__"=some (some (.ref f))
 fn:W.isFn K (.ref f)=true
 kp:W.keepIn K (.ref C)=true
theorem FE {pins:List (Addr×Obj)}{σ:St}{H:Hp}{s:Shared}{Q:VK}{us:List Value}{vs:List V}(M:Mk X.K C f)(F:iL X.prog X.w X.K X.mg X.base CX k f fd ps sp)(hr:di (k+1) X.A)(hb:Binds X.K fd ps ds)(hd:Vals dvs ds)(hx:Passes CX X E)(I:Inv X pins σ H s)(r:Vals vs us)(h:∀ x dx,H x=none->H dx=none->dx≠x->sp (.ref x::(vs ++ dvs)) (upd (upd H dx (.own x)) x (.ins C dx [])) (fun v H2=>v=.cF/\Q (.ref x) H2) E):wpAny (model X.prog X.w) X.A (call (.ref C) us) (EP X pins σ Q) X.xe s:=by
 have hq:=h (s.heap.objs.size+1) s.heap.objs.size (I.bb.fresh (Nat.le_succ _)) (I.bb.fresh (Nat.le_refl _)) (Nat.ne_of_lt (Nat.lt_succ_self _))
 have I2:=Inv.made (C:=C) I
 have r2:Vals (V.ref (s.heap.objs.size+1)::(vs ++ dvs)) (Value.ref (s.heap.objs.size+1)::(us ++ ds)):=.cons rfl (r.append hd)
 have hl:(Value.ref (s.heap.objs.size+1)::us ++ ds).length=ps.length:=by
   have e:=r2.length
   rw[F.len _ _ _ _ hq] at e
   exact e.symm
 refine wpAny_call (FA (f:=f) I.lO M.makes M.init (beq_iff_eq.mp M.fn) (codeAny_mono (F.run _ X.stack _ _ ⟨Value.ref (s.heap.objs.size+1)::us,[]⟩ (Value.ref (s.heap.objs.size+1)::(us ++ ds)) _ _ E (hr.make C us [])
   (I2.QP.make C us []) (hb _ (Value.ref (s.heap.objs.size+1)::us) I2.lO hl) r2 hq) fun r s' QS=>?_))
 cases r with
 | error e=>exact hx pins σ _ _ e s' I2 QS
 | ok fl=>
   cases fl with
   | ret u=>
     obtain⟨v,H',I3,rv,ev,q3⟩:=I2.after QS
     subst ev
     exact⟨rv,⟨V.ref (s.heap.objs.size+1),H',I3,rfl,q3⟩⟩
   | next=>exact False.elim QS
   | brk=>exact False.elim QS
   | cont=>exact False.elim QS
theorem xw (M:Mk X.K C f)(F:iL X.prog X.w X.K X.mg X.base CX k f fd ps sp)(hr:di (k+1) X.A)(hg:Gl X x)(hm:X.mg x=some (.ref C))(hb:Binds X.K fd ps ds)(hd:Vals dvs ds)(hx:Passes CX X E)(ha:PA X (e::es) t)(lN:(x == ("__debug__":Str))=false:=by decide)(he:starEach (e::es) X.env=(false,eval e X.env)::starEach es X.env:=by rfl)(mD:(backTo pos (starEach es X.env)).any (·.1)=false:=by rfl):PE X (.Call (.Name x p) (e::es) [] pos) (QR C sp dvs E t):=by
 intro pins s σ H Q I h
 refine wpAny_Call_Name_kw (sC I hg hm ?_ lN)
 refine W.callWith_K (h₀:=X.base) I.ok.mod.Qn M.kp (bQ (ha pos pins s σ H _ I h) fun us s1 ⟨vs,H1,I1,r,q⟩=>⟨I1.lO,?_⟩) he mD
 exact FE M F hr hb hd hx I1 r q
end
section
variable {fd:FuncData}{ps ks:List Str}
structure UP (K:W.Frag)(fd:FuncData)(ps ks:List Str)(g:List Value->List Value->List Value)(gV:List V->List V->List V):Prop where
 to:∀ (s:Shared) (us ws:List Value),K.In s.heap->(g us ws).length=ps.length->BindsTo s fd ⟨us,ks.zip ws⟩ (ps.zip (g us ws))
 rel:∀ {vs:List V} {us:List Value} {zs:List V} {ws:List Value},Vals vs us->Vals zs ws->Vals (gV vs zs) (g us ws)
end
structure aq (N P:List Str)(sc:Scope):Prop where
 kind:sc.kind=.function
 co:sc.isCoroutine=false
 gen:sc.isGenerator=false
 nd:N.Nodup
 pre:N.take P.length=P
 par:∀ x∈P,sc.names.lookup x=some .local\/sc.names.lookup x=some .cell
 Ng:∀ y∈sc.names,y.2≠.free
theorem wt {kindOf:Str->Option NameKind}{x:Str}:∀ {binds:List (Str×Value)} {m:Str->Option Value},(∀ v,(x,v) ∉ binds)->bindL kindOf binds m x=m x
 | [],_,_=>rfl
 | (n,v)::r,m,h=>by
   unfold bindL
   rw[wt fun w hw=>h w (List.mem_cons_of_mem _ hw)]
   split
   . have:x≠n:=by rintro rfl;exact h v List.mem_cons_self
     simp[this]
   . rfl
theorem wu {kindOf:Str->Option NameKind}{x:Str}:∀ {binds:List (Str×Value)} {m:Str->Option Value},(∀ v,(x,v) ∉ binds)->bindC kindOf binds m x=m x
 | [],_,_=>rfl
 | (n,v)::r,m,h=>by
   unfold bindC
   rw[wu fun w hw=>h w (List.mem_cons_of_mem _ hw)]
   split
   . rfl
   . have:x≠n:=by rintro rfl;exact h v List.mem_cons_self
     simp[this]
theorem wz {kindOf:Str->Option NameKind}{x:Str}{v:Value}:∀ {P:List Str} {vs:List Value} {i:Nat} {m:Str->Option Value},P.Nodup->P[i]?=some x->vs[i]?=some v->kindOf x=some .local->bindL kindOf (P.zip vs) m x=some v
 | [],_,_,_,_,h,_,_=>by simp at h
 | _::_,[],_,_,_,_,h,_=>by simp at h
 | p::P,w::vs,0,m,nd,h1,h2,hk=>by
   simp at h1 h2;subst h1;subst h2
   show bindL kindOf ((p,w)::P.zip vs) m p=_
   unfold bindL
   rw[wt fun v hv=>(List.nodup_cons.mp nd).1 (List.of_mem_zip hv).1,if_pos hk]
   simp
 | p::P,w::vs,i+1,m,nd,h1,h2,hk=>by
   show bindL kindOf ((p,w)::P.zip vs) m x=_
   unfold bindL
   exact wz (i:=i) (List.nodup_cons.mp nd).2 (by simpa using h1) (by simpa using h2) hk
theorem wA {kindOf:Str->Option NameKind}{x:Str}{v:Value}:∀ {P:List Str} {vs:List Value} {i:Nat} {m:Str->Option Value},P.Nodup->P[i]?=some x->vs[i]?=some v->kindOf x≠some .local->bindC kindOf (P.zip vs) m x=some v
 | [],_,_,_,_,h,_,_=>by simp at h
 | _::_,[],_,_,_,_,h,_=>by simp at h
 | p::P,w::vs,0,m,nd,h1,h2,hk=>by
   simp at h1 h2;subst h1;subst h2
   show bindC kindOf ((p,w)::P.zip vs) m p=_
   unfold bindC
   rw[wu fun v hv=>(List.nodup_cons.mp nd).1 (List.of_mem_zip hv).1,if_neg hk]
   simp
 | p::P,w::vs,i+1,m,nd,h1,h2,hk=>by
   show bindC kindOf ((p,w)::P.zip vs) m x=_
   unfold bindC
   exact wA (i:=i) (List.nodup_cons.mp nd).2 (by simpa using h1) (by simpa using h2) hk
noncomputable def start (N:List Str)(vs:List V):St:=vs.map some ++ List.replicate (N.length - vs.length) none
noncomputable def zr (CX:pA)(P:Program)(w:World)(K:W.Frag)(mg:Str->Option Value)(base:Heap)(N:List Str)(qual:Str)(scope:Scope)(f:Addr)(cd:Value)(A:Around)(outer:List Env)(s:Shared)(H:Hp)(E:XK):Cx where
 prog:=P
 w:=w
 K:=K
 mg:=mg
 base:=base
 A:=A.deeper (envOfC qual scope s.heap.objs.size f cd)
 N:=N
 s₀:=s
 H₀:=H
 env:=envOfC qual scope s.heap.objs.size f cd
 outer:=outer
 stack:=envOfC qual scope s.heap.objs.size f cd::outer
 ex:=[]
 calm:=true
 fn:=fun _=>true
 pn:=[]
 xe:=fun e s'=>wpAny (model P w) (A.deeper (envOfC qual scope s.heap.objs.size f cd)) (leaving (envOfC qual scope s.heap.objs.size f cd) e) (fun _ Nh=>CX outer H s E e Nh) (fun e' Nh=>CX outer H s E e' Nh) s'
theorem zt {sc:Scope}{n:Nat}{x:Str}(h:sc.names.lookup x=some .cell):∃ c,(cellsFrom n sc.names []).lookup x=some c:=by
 have q:=W.cellsFrom_some sc.names n [] (.inl h)
 exact Option.isSome_iff_exists.mp q
theorem DT {CX:pA}{P:Program}{w:World}{K:W.Frag}{mg:Str->Option Value}{base:Heap}{N ps:List Str}{qual:Str}{scope:Scope}{f:Addr}{cd:Value}{A:Around}{outer:List Env}{s s1:Shared}{H:Hp}{E:XK}{us:List Value}{vs:List V}(S:aq N ps scope)(hd:A.handled=none)(e0:zq P w K mg base A outer s H)(hl:vs.length=ps.length)(r:Vals vs us)(x:InCallC s s.heap.objs.size (bindL (envOfC qual scope s.heap.objs.size f cd).kindOf (ps.zip us) fun _=>none) (cellsFrom (s.heap.objs.size+1) scope.names []) (bindC (envOfC qual scope s.heap.objs.size f cd).kindOf (ps.zip us) fun _=>none) s1):Inv (zr CX P w K mg base N qual scope f cd A outer s H E) [] (start N vs) H s1:=by
 have mD:ps.length<=N.length:=by have:=congrArg List.length S.pre;rw[List.length_take] at this;omega
 obtain⟨h1,tk,rfl,hk⟩:=x.done
 have QT:∀ b:Addr,b ∉ (zr CX P w K mg base N qual scope f cd A outer s H E).ex:=fun b z=>absurd (show b∈([]:List Addr) from z) (by simp)
 refine⟨⟨e0.mod,S.kind,rfl,rfl,Nat.le_refl _,fun y z c h1 h2=>?_,fun y hy=>?_,fun y c _ h=>?_,fun _=>hd,Around.frames_deeper e0.frames,.inr ⟨rfl,rfl⟩,fun b z=>absurd z (QT b),e0.bs,e0.Cg,fun b _ _=>QT b,fun b z=>absurd z (QT b),e0.qo,e0.LD⟩,
   rfl,e0.bare,Un.kept hk,⟨_,x.toInCall.ns,fun i y v h1 h2 h3=>?_⟩,fun y c h=>⟨_,x.cell y c h⟩,e0.bb.fresh (Nat.le_refl _),fun y c h=>?_,fun p hp=>absurd (show p∈([]:List (Addr×Obj)) from hp) (by simp),e0.bb.kept hk,?_⟩
 . exact name_of_addr x.apart (PySem.mem_of_lookup h1) (PySem.mem_of_lookup h2)
 . have hy:scope.names.lookup y=some .cell\/scope.names.lookup y=some .free:=hy
   rcases hy with hy | hy
   . exact zt hy
   . exact absurd rfl (S.Ng _ (PySem.mem_of_lookup hy))
 . exact Nat.le_of_lt (x.above y c (PySem.mem_of_lookup h))
 . have hi:i < vs.length:=by
     unfold start at h2
     by_cases hi:i < vs.length
     . exact hi
     . rw[List.getElem?_append_right (by simpa using hi)] at h2
       rw[List.getElem?_replicate] at h2
       split at h2 <;> cases h2
   have ha:vs[i]?=some v:=by
     unfold start at h2
     rw[List.getElem?_append_left (by simpa using hi),List.getElem?_map] at h2
     cases e:vs[i]? with
     | none=>rw[e] at h2;cases h2
     | some a=>rw[e] at h2;cases h2;rfl
   obtain⟨u,hu,rv⟩:=r.get ha
   have hp:ps[i]?=some y:=by
     rw[<- S.pre,List.getElem?_take_of_lt (by omega)];exact h1
   have Xg:ps.Nodup:=by rw[<- S.pre];exact S.nd.sublist (List.take_sublist _ _)
   refine⟨u,rv,?_⟩
   rcases S.par y (List.mem_of_getElem? hp) with k | k
   . exact .inl ⟨k,wz Xg hp hu k⟩
   . obtain⟨c,e⟩:=zt (n:=s.heap.objs.size+1) k
     refine .inr ⟨.inl k,c,e,?_⟩
     have q:=x.cell y c e
     rw[wA Xg hp hu (by show scope.names.lookup y≠_;rw[k];decide)] at q
     exact q
 . exact e0.bb.fresh (Nat.le_of_lt (x.above y c (PySem.mem_of_lookup h)))
 . unfold start
   show _=N.length
   rw[List.length_append,List.length_map,List.length_replicate]
   omega
theorem Cq {CX:pA}{P:Program}{w:World}{K:W.Frag}{mg:Str->Option Value}{base:Heap}{k:Nat}{f:Addr}{name qual:Str}{params:Arguments}{body:List Stmt}{scope:Scope}{dV kV doc pm bx ct oc:Value}{an od:Option Addr}{vJ:Array (Option Value)}{N ps:List Str}{sp:Sp}(lk:K.lookup f=some ⟨oc,od,.func (W.fnOf name qual params body scope dV kV doc pm an bx ct),vJ⟩)(lP:W.codeIn K bx qual=true)(S:aq N ps scope)(len:∀ vs H Q E,sp vs H Q E->vs.length=ps.length)(pB:∀ (A:Around) (outer:List Env) (s:Shared) (H:Hp) (vs:List V) (Q:VK) (E:XK),di k (A.deeper (envOfC qual scope s.heap.objs.size f bx))->sp vs H Q E->∃ t,tW (zr CX P w K mg base N qual scope f bx A outer s H E) body t/\t { nx:=fun _ H'=>Q .cF H',rt:=Q} (start N vs) H):iL P w K mg base CX (k+1) f (W.fnOf name qual params body scope dV kV doc pm an bx ct) ps sp:=by
 refine⟨len,fun A outer s H args us vs Q E hr e0 hb r LK=>?_⟩
 have hl:=len _ _ _ _ LK
 have KX:K.In s.heap:=e0.mod.Qn.keeps fun b o e=>(e0.bs b o e).1
 have lim:s.heap.NoLimit:=e0.mod.nolimit.keeps fun b o e=>(e0.bs b o e).1
 have QU:∀ y∈ps.zip us,scope.names.lookup y.1=some .local\/(scope.names.lookup y.1=some .cell/\((cellsFrom (s.heap.objs.size+1) scope.names []).lookup y.1).isSome=true):=fun⟨n,v⟩ hy=>by
   rcases S.par n (List.of_mem_zip hy).1 with q | q
   . exact .inl q
   . exact .inr ⟨q,W.cellsFrom_some _ _ _ (.inl q)⟩
 refine codeAny_call_function hr.depth (KX _ _ lk) rfl S.co S.gen rfl (W.codeRec_of KX lP) (hb _ _ _ _ ?_)
 refine wpAny_newFunctionEnv_cells S.kind QU fun env he s1 x=>?_
 subst he
 refine⟨lim.keeps x.toInCall.keep,codeAny_func ?_⟩
 obtain⟨t,ht,hq⟩:=pB A outer s H vs Q E (hr.deeper _) LK
 have I:Inv (zr CX P w K mg base N qual scope f bx A outer s H E) [] (start N vs) H s1:=DT S hr.hd e0 hl r x
 refine wpAny_mono (ht [] s1 (start N vs) H _ I hq) (fun fl s' hs=>?_) fun e s' hs=>hs
 have fin:∀ {σ':St} {H':Hp} {v:V} {u:Value},Inv (zr CX P w K mg base N qual scope f bx A outer s H E) [] σ' H' s'->RelV v u->Q v H'->CE outer P w H s Q u s':=
   fun {σ' H' v u} J rv q=>⟨v,H',J.os,J.bare,J.base,J.bb,rv,q⟩
 cases fl with
 | ret u=>
   obtain⟨v,σ',H',J,rv,q⟩:=hs
   exact fin J rv q
 | next=>
   obtain⟨σ',H',J,q⟩:=hs
   exact fin (v:=V.cF) (u:=Value.none) J rfl q
 | brk=>
   obtain⟨_,_,_,q⟩:=hs
   exact False.elim q
 | cont=>
   obtain⟨_,_,_,q⟩:=hs
   exact False.elim q
section
variable {X:Cx}{x:Str}{p pos:Pos}{e:Expr}{es:List Expr}{t:TA}{id T:String}{r:List V->Hp->VK->Prop}
noncomputable def Xh (r:List V->Hp->VK->Prop)(t:TA):TE:=fun σ H Q=>t σ H fun vs H1=>r vs H1 Q
theorem fm (hc:jE X (.builtin id) r)(hg:Gl X x)(hm:X.mg x=none)(hv:bootBuiltins x=some (.builtin id))(ha:PA X (e::es) t)(hn:x≠"__name__":=by decide)(lN:(x == ("__debug__":Str))=false:=by decide)(he:starEach (e::es) X.env=(false,eval e X.env)::starEach es X.env:=by rfl)(mD:(backTo pos (starEach es X.env)).any (·.1)=false:=by rfl):PE X (.Call (.Name x p) (e::es) [] pos) (Xh r t):=by
 intro pins s σ H Q I h
 refine wpAny_Call_Name_kw (qr I hg hm hv ?_ hn lN)
 exact PyProof.Rows.callWith_builtin1 (bQ (ha pos pins s σ H _ I h) fun us s1 ⟨vs,H1,I1,r1,q1⟩=>hc pins s1 σ H1 vs us Q I1 r1 q1) he mD
theorem kg (hc:jE X (.type T) r)(hg:Gl X x)(hm:X.mg x=none)(hv:bootBuiltins x=some (.type T))(ha:PA X (e::es) t)(hn:x≠"__name__":=by decide)(lN:(x == ("__debug__":Str))=false:=by decide)(he:starEach (e::es) X.env=(false,eval e X.env)::starEach es X.env:=by rfl)(mD:(backTo pos (starEach es X.env)).any (·.1)=false:=by rfl):PE X (.Call (.Name x p) (e::es) [] pos) (Xh r t):=by
 intro pins s σ H Q I h
 refine wpAny_Call_Name_kw (qr I hg hm hv ?_ hn lN)
 exact PyProof.Rows.callWith_type1 (bQ (ha pos pins s σ H _ I h) fun us s1 ⟨vs,H1,I1,r1,q1⟩=>hc pins s1 σ H1 vs us Q I1 r1 q1) he mD
end
end L2
namespace HT
open PySem PyProof.Rows
section
noncomputable def zu (n d:Nat):Option Int->Nat
 | none=>d
 | some v=>if v < 0 then (v+(n:Int)).toNat else min v.toNat n
theorem FF (n d:Nat):zu n d none=d:=rfl
theorem Ju (n d k:Nat):zu n d (some (k:Int))=min k n:=by
 show(if (k:Int) < 0 then ((k:Int)+(n:Int)).toNat else min (k:Int).toNat n)=min k n
 rw[if_neg (by omega),Int.toNat_natCast]
end
end HT
namespace L2
open PySem PySem.Spec PyProof.Rows
noncomputable abbrev TO:=St->Hp->(Option Int->Hp->Prop)->Prop
noncomputable def PO (X:Cx)(e:Option Expr)(t:TO):Prop:=
 ∀ (pins:List (Addr×Obj)) (s:Shared) (σ:St) (H:Hp) (Q:Option Int->Hp->Prop),Inv X pins σ H s->t σ H Q ->
   wpAny (model X.prog X.w) X.A (evalPart e X.env) (fun u s'=>∃ o H',Inv X pins σ H' s'/\IsPart u o/\Q o H') X.xe s
noncomputable def Jv:TO:=fun _ H Q=>Q none H
noncomputable def QV (t:TE):TO:=fun σ H Q=>t σ H fun x H1=>∃ i,x=.int i/\Q (some i) H1
section
variable {X:Cx}{e:Expr}{te:TE}{lo hi:Option Expr}{tl th:TO}{pos p2:Pos}
theorem Cr:PO X none Jv:=by
 intro pins s σ H Q I h
 rw[evalPart_none]
 exact wpAny_pure ⟨none,H,I,.none,h⟩
theorem Cs (h:PE X e te):PO X (some e) (QV te):=by
 intro pins s σ H Q I hw
 rw[evalPart_some]
 refine bQ (h pins s σ H _ I hw) fun u s1 ⟨x,H1,I1,r1,q1⟩=>?_
 obtain⟨i,rfl,q⟩:=q1
 obtain⟨t,rfl⟩:=r1
 exact⟨some i,H1,I1,.int i t,q⟩
noncomputable def UQ (X:Cx)(r:V->Option Int->Option Int->Hp->VK->Prop):Prop:=
 ∀ (pins:List (Addr×Obj)) (s:Shared) (σ:St) (H:Hp) (x:V) (v vl vu:Value) (lo hi:Option Int) (sl:Addr) (Q:VK),Inv X pins σ H s->RelV x v->s.heap.IsSliceOf sl vl vu .none->IsPart vl lo->IsPart vu hi->r x lo hi H Q ->
   ∃ T id,typeLookup (.type T) "__getitem__"=pure (some (.builtin id))/\s.TypeIs v T/\wpAny (model X.prog X.w) X.A (getItem v (.ref sl)) (EP X pins σ Q) X.xe s
noncomputable def YT (r:V->Option Int->Option Int->Hp->VK->Prop)(te:TE)(tl th:TO):TE:=fun σ H Q=>te σ H fun x H1=>tl σ H1 fun l H2=>th σ H2 fun u H3=>r x l u H3 Q
theorem zv {r:V->Option Int->Option Int->Hp->VK->Prop}(hr:UQ X r)(he:PE X e te)(hl:PO X lo tl)(hu:PO X hi th):PE X (.Subscript e (.Slice lo hi none p2) pos) (YT r te tl th):=by
 intro pins s σ H Q I h
 refine Subscript_ (bQ (he pins s σ H _ I h) fun v s1 ⟨x,H1,I1,r1,q1⟩=>?_)
 refine wpAny_Slice (bQ (hl pins s1 σ H1 _ I1 q1) fun vl s2 ⟨l,H2,I2,pl,q2⟩=>bQ (hu pins s2 σ H2 _ I2 q2) fun vu s3 ⟨u,H3,I3,pu,q3⟩=>?_)
 rw[evalPart_none]
 refine wpAny_pure ?_
 have I4:Inv X pins σ H3 { s3 with heap:=s3.heap.push { cls:=.type "slice",data:=.fields #[vl,vu,.none]}}:=I3.kept (t':=s3.toks) fun b ob q=>Heap.get?_push_of_some _ q
 obtain⟨T,id,hT,ht,hg⟩:=hr pins { s3 with heap:=s3.heap.push { cls:=.type "slice",data:=.fields #[vl,vu,.none]}} σ H3 x v vl vu l u s3.heap.objs.size Q I4 r1 (Heap.IsSliceOf.new ..) pl pu q3
 show wpAny (model X.prog X.w) X.A (subscriptTail e (.Slice lo hi none p2) v (.ref s3.heap.objs.size)) (EP X pins σ Q) X.xe { s3 with heap:=s3.heap.push { cls:=.type "slice",data:=.fields #[vl,vu,.none]}}
 exact tail_any (ops:=[.ref s3.heap.objs.size,v]) ht hT hg (by with_unfolding_all rfl)
noncomputable def DU (xs:List V)(lo hi:Option Int):List V:=(xs.drop (HT.zu xs.length 0 lo)).take (HT.zu xs.length xs.length hi - HT.zu xs.length 0 lo)
theorem zw (xs:List V)(lo hi:Option Int):(DU xs lo hi).length<=xs.length:=by
 unfold DU
 rw[List.length_take,List.length_drop]
 omega
theorem zx:jE X (.type "tuple") (fun xs H Q=>∃ a ys,xs=[.ref a]/\sD X.K H a ys/\Q (.ref a) H):=by
 intro pins s σ H xs us Q I r h
 obtain⟨a,ys,rfl,ha,q⟩:=h
 obtain⟨u,rfl,ru⟩:=vals1 r
 cases ru
 obtain⟨aH,_,p1,_⟩:=I.tuple ha
 exact call_tuple_same (items:=aH.toArray) p1 ⟨.ref a,H,I,rfl,q⟩
end
noncomputable def zy (n:Nat)(i:Int):Option Nat:=if 0<=i then (if i < n then some i.toNat else none) else if -(n:Int)<=i then some (i+n).toNat else none
noncomputable def lj {α:Type}(xs:List α)(i:Int):Option α:=(zy xs.length i).bind fun j=>xs[j]?
theorem Ct {n:Nat}{i:Int}{j:Nat}(h:zy n i=some j):seqIndex? i n=some j/\j < n/\-(n:Int)<=i/\i < n:=by
 unfold zy at h
 by_cases h0:0<=i
 . rw[if_pos h0] at h
   by_cases h1:i < n
   . rw[if_pos h1] at h
     have e:i.toNat=j:=Option.some.inj h
     exact⟨by rw[seqIndex_of h0 h1,e],by omega,by omega,h1⟩
   . rw[if_neg h1] at h;cases h
 . rw[if_neg h0] at h
   by_cases h1:-(n:Int)<=i
   . rw[if_pos h1] at h
     have e:(i+n).toNat=j:=Option.some.inj h
     exact⟨by rw[seqIndex_neg (by omega) h1,e],by omega,h1,by omega⟩
   . rw[if_neg h1] at h;cases h
theorem xx {α:Type}{xs:List α}{i:Int}{v:α}(h:lj xs i=some v):∃ j,seqIndex? i xs.length=some j/\xs[j]?=some v/\j < xs.length/\-(xs.length:Int)<=i/\i < xs.length:=by
 unfold lj at h
 cases e:zy xs.length i with
 | none=>rw[e] at h;cases h
 | some j=>
   rw[e] at h
   obtain⟨h1,h2,h3,h4⟩:=Ct e
   exact⟨j,h1,h,h2,h3,h4⟩
theorem jJ {α:Type}{xs:List α}{j:Nat}{v:α}(h:xs[j]?=some v):lj xs (j:Int)=some v:=by
 have hj:j < xs.length:=(List.getElem?_eq_some_iff.mp h).1
 have e:zy xs.length (j:Int)=some j:=by
   unfold zy
   rw[if_pos (by omega),if_pos (by omega)];simp
 unfold lj;rw[e];exact h
noncomputable def jK (b:Expr):Prop:=∀ o i,subscripted b false o i=operate [o,i] (getItem o i)
noncomputable def P2 (X:Cx)(r:R2):Prop:=
 ∀ (value slice:Expr) (pins:List (Addr×Obj)) (s:Shared) (σ:St) (H:Hp) (x y:V) (v u:Value) (Q:VK),Inv X pins σ H s->RelV x v->RelV y u->r x y H Q ->
   subscripted slice false v u=operate [v,u] (getItem v u)->wpAny (model X.prog X.w) X.A (subscriptTail value slice v u) (EP X pins σ Q) X.xe s
noncomputable def P4 (X:Cx)(id:String)(r:V->List V->Hp->VK->Prop):Prop:=
 ∀ (pins:List (Addr×Obj)) (s:Shared) (σ:St) (H:Hp) (x:V) (xs:List V) (v:Value) (us:List Value) (Q:VK),Inv X pins σ H s->RelV x v->Vals xs us->r x xs H Q ->
   wpAny (model X.prog X.w) X.A (call (.builtin id) (v::us)) (EP X pins σ Q) X.xe s
section
variable {X:Cx}{a b:Expr}{ta tb:TE}{pos:Pos}
theorem rG {r:R2}(hr:P2 X r)(ha:PE X a ta)(hb:PE X b tb)(hs:jK b):PE X (.Subscript a b pos) (QE r ta tb):=by
 intro pins s σ H Q I h
 exact Subscript_ (M5 ha hb I h fun v u s2 x y H2 I2 rx ry q=>hr a b pins s2 σ H2 x y v u Q I2 rx ry q (hs _ _))
noncomputable def UR (K:W.Frag):R2:=fun x y H Q=>∃ p xs i v,x=.ref p/\y=.int i/\mK K H p xs/\lj xs i=some v/\Q v H
noncomputable def US (K:W.Frag):R2:=fun x y H Q=>∃ p xs i v,x=.ref p/\y=.int i/\sD K H p xs/\lj xs i=some v/\Q v H
noncomputable def UT:R2:=fun x y H Q=>∃ z i c,x=.str z/\y=.int i/\z.length<=sizeLine/\lj z.cps.toList i=some c/\Q (.str ⟨#[c]⟩) H
theorem xy:P2 X (UR X.K):=by
 intro value slice pins s σ H x y v u Q I rx ry h hs
 obtain⟨p,xs,i,z,rfl,rfl,hq,he,q⟩:=h
 cases rx
 obtain⟨t,rfl⟩:=ry
 obtain⟨aH,r,pl,hz⟩:=I.list hq
 obtain⟨j,h1,h2,h3,h4,h5⟩:=xx he
 obtain⟨w,ew,Fq⟩:=r.get h2
 have hl:=r.length
 have hn:=kU
 have fin:EP X pins σ Q w s:=⟨z,H,I,Fq,q⟩
 by_cases h0:0<=i
 . have hj:i.toNat=j:=by
     rw[seqIndex_of h0 h5] at h1
     exact Option.some.inj h1
   exact item_listR pl.isList h0 (by omega) (by rw[hj];simpa using ew) fin hs
 . have hj:(i+(aH.toArray.size:Int)).toNat=j:=by
     rw[seqIndex_neg (by omega) h4] at h1
     rw[List.size_toArray,<- hl]
     exact Option.some.inj h1
   exact subscriptTail_builtinR (x:=w) pl.isList.typeIs slot_list_getitem.lookup
     (wpAny_getItem_list_neg (Q:=fun r s'=>r=w/\EP X pins σ Q r s') pl.isList (by omega) (by rw[List.size_toArray] <;> omega) (by omega) (by rw[hj];simpa using ew) ⟨rfl,fin⟩) hs
theorem FG:P2 X (US X.K):=by
 intro value slice pins s σ H x y v u Q I rx ry h hs
 obtain⟨p,xs,i,z,rfl,rfl,hq,he,q⟩:=h
 cases rx
 obtain⟨t,rfl⟩:=ry
 obtain⟨aH,r,pl,hz⟩:=I.tuple hq
 obtain⟨j,h1,h2,h3,h4,h5⟩:=xx he
 obtain⟨w,ew,Fq⟩:=r.get h2
 have hl:=r.length
 have hn:=kU
 have fin:EP X pins σ Q w s:=⟨z,H,I,Fq,q⟩
 exact subscriptTail_builtinR (x:=w) pl.typeIs slot_tuple_getitem.lookup
   (getItem_tuple (j:=j) (Q:=fun r s'=>r=w/\EP X pins σ Q r s') pl (by omega) (by omega) (by rw[List.size_toArray,<- hl];exact h1) (by simpa using ew) ⟨rfl,fin⟩) hs
theorem Ni:P2 X UT:=by
 intro value slice pins s σ H x y v u Q I rx ry h hs
 obtain⟨z,i,c,rfl,rfl,hz,he,q⟩:=h
 obtain⟨t,rfl⟩:=rx
 obtain⟨t',rfl⟩:=ry
 obtain⟨j,h1,h2,h3,h4,h5⟩:=xx he
 have hl:z.cps.toList.length=z.length:=by simp[Str.length]
 rw[hl] at h1 h4 h5
 have hn:=kU
 exact tail_any (typeIs_str s z t) slot_str_getitem.lookup (getItem_str (c:=c) (by
   have e1:decide (i < -(2 ^ 63:Int))=false:=decide_eq_false (by omega)
   have e2:decide (i >= 2 ^ 63)=false:=decide_eq_false (by omega)
   rw[e1,e2,Bool.or_false]) (by rw[h1];simpa using h2) ⟨.str ⟨#[c]⟩,H,I.tok _,⟨_,rfl⟩,q⟩) hs
theorem Bg (aH:List Value)(n j:Nat)(u:Value):Obj.mapSeq (·.setIfInBounds j u) { cls:=.type "list",data:=.seq aH.toArray n}={ cls:=.type "list",data:=.seq (aH.set j u).toArray n}:=by
 simp[Obj.mapSeq]
theorem Inv.lst {pins:List (Addr×Obj)}{σ:St}{H:Hp}{s:Shared}{p:Addr}{xs:List V}(I:Inv X pins σ H s)(h:H p=some (.lst xs)):∃ (aH:List Value) (n:Nat),Vals xs aH/\s.heap.get? p=some { cls:=.type "list",data:=.seq aH.toArray n}/\xs.length<=sizeLine:=by
 obtain⟨z,aH,n,r,e⟩:=I.bb p _ h
 exact⟨aH,n,r,e,z⟩
theorem Inv.Nj {pins:List (Addr×Obj)}{σ:St}{H:Hp}{s:Shared}{p:Addr}{xs ys:List V}{aH its':List Value}{n n':Nat}{f:Obj->Obj}(I:Inv X pins σ H s)(h:H p=some (.lst xs))(ho:s.heap.get? p=some { cls:=.type "list",data:=.seq aH.toArray n})(hf:f { cls:=.type "list",data:=.seq aH.toArray n}={ cls:=.type "list",data:=.seq its'.toArray n'})(r:Vals ys its')(hz:ys.length<=sizeLine)(t:Nat):Inv X pins σ (upd H p (.lst ys)) { s with heap:=s.heap.update p f,toks:=t}:=by
 have e:(s.heap.update p f).get? p=some { cls:=.type "list",data:=.seq its'.toArray n'}:=by
   rw[Heap.get?_update_self f ho (by rw[hf] <;> rfl),hf]
 refine I.write (x:=p) (e:=p) (by rw[h];trivial) (.inl rfl) (fun b u hb q=>(Heap.get?_update_other _ _ (Ne.symm hb)).trans q) ⟨_,e⟩ ?_
 exact⟨hz,its',n',r,e⟩
noncomputable def QW:V->V->V->Hp->(Hp->Prop)->Prop:=fun o i v H Q=>∃ p xs k j,o=.ref p/\i=.int k/\H p=some (.lst xs)/\zy xs.length k=some j/\Q (upd H p (.lst (xs.set j v)))
theorem set_list:Qx X QW:=by
 intro pins s σ H o i v ov iv u Q I ro ri rv h
 obtain⟨p,xs,k,j,rfl,rfl,hp,hj,q⟩:=h
 cases ro
 obtain⟨t,rfl⟩:=ri
 obtain⟨aH,n,r,ho,hz⟩:=I.lst hp
 obtain⟨h1,h2,h3,h4⟩:=Ct hj
 have hl:=r.length
 have hn:=kU
 have I':Inv X pins σ (upd H p (.lst (xs.set j v))) { s with heap:=s.heap.update p (Obj.mapSeq (·.setIfInBounds j u))}:=
   I.Nj hp ho (Bg aH n j u) (r.set rv j) (by rw[List.length_set];exact hz) s.toks
 by_cases h0:0<=k
 . have hk:k.toNat=j:=by
     rw[seqIndex_of h0 h4] at h1
     exact Option.some.inj h1
   exact W.ki_setAt ho h0 (by omega) (by rw[List.size_toArray,<- hl];exact h4) (by rw[hk];exact⟨_,I',q⟩)
 . have hk:(k+(aH.toArray.size:Int)).toNat=j:=by
     rw[seqIndex_neg (by omega) h3] at h1
     rw[List.size_toArray,<- hl]
     exact Option.some.inj h1
   exact W.ki_setBack ho (by omega) (by rw[List.size_toArray,<- hl];exact h3) (by omega) (by rw[hk];exact⟨_,I',q⟩)
theorem xA (lo hi:Option Int)(n:Nat):(sliceBounds lo hi none n).1=((HT.zu n 0 lo:Nat):Int)/\(sliceBounds lo hi none n).2.1=((HT.zu n n hi:Nat):Int)/\(sliceBounds lo hi none n).2.2=1:=by
 refine⟨?_,?_,rfl⟩
 . cases lo with
   | none=>simp[sliceBounds,HT.zu]
   | some i=>
     simp only[sliceBounds,HT.zu,Option.getD_none,show(1:Int) > 0 by decide,if_true]
     by_cases h:i < 0
     . simp only[h,if_true] <;> omega
     . simp only[h,if_false] <;> omega
 . cases hi with
   | none=>simp[sliceBounds,HT.zu]
   | some i=>
     simp only[sliceBounds,HT.zu,Option.getD_none,show(1:Int) > 0 by decide,if_true]
     by_cases h:i < 0
     . simp only[h,if_true] <;> omega
     . simp only[h,if_false] <;> omega
theorem vK (aH:List Value)(lo hi:Option Int):slicePick aH.toArray lo hi none=((aH.drop (HT.zu aH.length 0 lo)).take (HT.zu aH.length aH.length hi - HT.zu aH.length 0 lo)).toArray:=by
 obtain⟨h1,h2,h3⟩:=xA lo hi aH.toArray.size
 unfold slicePick
 rw[h1,h2,h3]
 simp only[sliceRange_one,pick_run,List.size_toArray] <;> rfl
noncomputable def UU (K:W.Frag):V->Option Int->Option Int->Hp->VK->Prop:=fun x lo hi H Q=>∃ a xs,x=.ref a/\mK K H a xs/\∀ p,H p=none->Q (.ref p) (upd H p (.lst (DU xs lo hi)))
theorem Jw:UQ X (UU X.K):=by
 intro pins s σ H x v vl vu lo hi sl Q I rx hs pl pu h
 obtain⟨a,xs,rfl,hx,q⟩:=h
 cases rx
 obtain⟨aH,r,ht,hz⟩:=I.list hx
 have hlen:=r.length
 refine⟨"list",_,slot_list_getitem.lookup,ht.isList.typeIs,?_⟩
 refine wpAny_getItem_list_slice ht.isList hs pl pu .none (by simp) ?_ (by rw[List.size_toArray] <;> omega)
 rw[vK,<- hlen]
 refine⟨.ref s.heap.objs.size,_,I.laid (t':=s.toks) (o:=.lst (DU xs lo hi)) (fun b ob q=>Heap.get?_push_of_some _ q) (Nat.le_refl _) ?_,rfl,q _ (I.bb.fresh (Nat.le_refl _))⟩
 exact⟨Nat.le_trans (zw xs lo hi) hz,_,0,(r.drop (HT.zu xs.length 0 lo)).take (HT.zu xs.length xs.length hi - HT.zu xs.length 0 lo),Heap.get?_push_size _ rfl⟩
noncomputable def pC:V->Bool
 | .cF=>true
 | .bl _=>true
 | .int _=>true
 | .str _=>true
 | _=>false
noncomputable def IV:V->V->Bool
 | .cF,.cF=>true
 | .bl a,.bl b=>a == b
 | .bl a,.int b=>(if a then 1 else 0) == b
 | .int a,.bl b=>a == (if b then 1 else 0)
 | .int a,.int b=>a == b
 | .str a,.str b=>a == b
 | _,_=>false
theorem Nk {A:Around}{s:Shared}{y x:V}{u v:Value}(ry:RelV y u)(rx:RelV x v)(fy:pC y=true)(fx:pC x=true):SeqAt.EqAt A s u v (IV y x):=by
 cases y with
 | cF=>
   cases ry
   cases x with
   | cF=>cases rx;exact SeqAt.EqAt.same _
   | bl b=>cases rx;exact SeqAt.EqAt.none_bool b
   | int b=>obtain⟨t,rfl⟩:=rx;exact SeqAt.EqAt.none_int b t
   | str b=>obtain⟨t,rfl⟩:=rx;exact SeqAt.EqAt.none_str b t
   | _=>exact absurd (show false=true from fx) Bool.false_ne_true
 | bl a=>
   cases ry
   cases x with
   | cF=>cases rx;exact SeqAt.EqAt.bool_none a
   | bl b=>cases rx;exact SeqAt.EqAt.bool_bool a b
   | int b=>obtain⟨t,rfl⟩:=rx;exact SeqAt.EqAt.bool_int a b t
   | str b=>obtain⟨t,rfl⟩:=rx;exact SeqAt.EqAt.bool_str a b t
   | _=>exact absurd (show false=true from fx) Bool.false_ne_true
 | int a=>
   obtain⟨t',rfl⟩:=ry
   cases x with
   | cF=>cases rx;exact SeqAt.EqAt.int_none a t'
   | bl b=>cases rx;exact SeqAt.EqAt.int_bool a t' b
   | int b=>obtain⟨t,rfl⟩:=rx;exact SeqAt.EqAt.int_int a t' b t
   | str b=>obtain⟨t,rfl⟩:=rx;exact SeqAt.EqAt.int_str a t' b t
   | _=>exact absurd (show false=true from fx) Bool.false_ne_true
 | str a=>
   obtain⟨t',rfl⟩:=ry
   cases x with
   | cF=>cases rx;exact SeqAt.EqAt.str_none a t'
   | bl b=>cases rx;exact SeqAt.EqAt.str_bool a t' b
   | int b=>obtain⟨t,rfl⟩:=rx;exact SeqAt.EqAt.str_int a t' b t
   | str b=>obtain⟨t,rfl⟩:=rx;exact SeqAt.EqAt.str_str a t' b t
   | _=>exact absurd (show false=true from fx) Bool.false_ne_true
 | _=>exact absurd (show false=true from fy) Bool.false_ne_true
noncomputable def Bh (x:V)(u:Value):Bool:=match u with
 | .none=>IV .cF x
 | .bool b=>IV (.bl b) x
 | .int i _=>IV (.int i) x
 | .str z _=>IV (.str z) x
 | _=>false
theorem FH {x y:V}{u:Value}(r:RelV y u)(f:pC y=true):Bh x u=IV y x:=by
 cases y with
 | cF=>cases r;rfl
 | bl b=>cases r;rfl
 | int i=>obtain⟨t,rfl⟩:=r;rfl
 | str z=>obtain⟨t,rfl⟩:=r;rfl
 | _=>exact absurd (show false=true from f) Bool.false_ne_true
theorem pD {x:V}:∀ {xs:List V} {us:List Value},Vals xs us->xs.all pC=true->us.any (Bh x)=xs.any fun y=>IV y x
 | _,_,.nil,_=>rfl
 | y::xs,u::us,.cons r t,f=>by
   rw[List.all_cons,Bool.and_eq_true] at f
   rw[List.any_cons,List.any_cons,FH r f.1,pD t f.2]
theorem mS {A:Around}{s:Shared}{x:V}{v:Value}(rx:RelV x v)(fx:pC x=true):∀ {xs:List V} {us:List Value},Vals xs us->xs.all pC=true->∀ u∈us,SeqAt.EqAt A s u v (Bh x u)
 | _,_,.nil,_=>fun u hu=>by cases hu
 | y::xs,u::us,.cons r t,f=>fun u' hu=>by
   rw[List.all_cons,Bool.and_eq_true] at f
   rcases List.mem_cons.mp hu with rfl | hu
   . rw[FH r f.1];exact Nk r rx f.1 fx
   . exact mS rx fx t f.2 u' hu
noncomputable def QX (x:V)(xs:List V):Bool:=xs.any fun y=>IV y x
noncomputable def Tq (K:W.Frag)(neg:Bool):R2:=fun x y H Q=>∃ p xs,y=.ref p/\(mK K H p xs\/sD K H p xs)/\pC x=true/\xs.all pC=true/\Q (.bl (if neg then !QX x xs else QX x xs)) H
theorem wC:nC X (compareOp .In) (Tq X.K false):=by
 intro pins s σ H x y v u Q I rx ry h
 obtain⟨p,xs,rfl,hq,fx,fs,q⟩:=h
 cases ry
 rcases hq with hq | hq
 . obtain⟨aH,r,pl,hz⟩:=I.list hq
   refine SeqAt.in_listAt (Bh x) pl.isList (fun w hw=>mS rx fx r fs w (by simpa using hw)) ⟨.bl _,H,I,rfl,?_⟩
   rw[show aH.toArray.any (Bh x)=aH.any (Bh x) by simp,pD r fs]
   exact q
 . obtain⟨aH,r,pl,hz⟩:=I.tuple hq
   refine SeqAt.in_tupleAt (Bh x) pl (fun w hw=>mS rx fx r fs w (by simpa using hw)) ⟨.bl _,H,I,rfl,?_⟩
   rw[show aH.toArray.any (Bh x)=aH.any (Bh x) by simp,pD r fs]
   exact q
theorem pE:nC X (compareOp .NotIn) (Tq X.K true):=by
 intro pins s σ H x y v u Q I rx ry h
 obtain⟨p,xs,rfl,hq,fx,fs,q⟩:=h
 cases ry
 rcases hq with hq | hq
 . obtain⟨aH,r,pl,hz⟩:=I.list hq
   refine SeqAt.notIn_listAt (Bh x) pl.isList (fun w hw=>mS rx fx r fs w (by simpa using hw)) ⟨.bl _,H,I,rfl,?_⟩
   rw[show aH.toArray.any (Bh x)=aH.any (Bh x) by simp,pD r fs]
   exact q
 . obtain⟨aH,r,pl,hz⟩:=I.tuple hq
   refine SeqAt.notIn_tupleAt (Bh x) pl (fun w hw=>mS rx fx r fs w (by simpa using hw)) ⟨.bl _,H,I,rfl,?_⟩
   rw[show aH.toArray.any (Bh x)=aH.any (Bh x) by simp,pD r fs]
   exact q
theorem lU:jE X (.builtin "len") (fun xs H Q=>∃ p ys,xs=[.ref p]/\(mK X.K H p ys\/sD X.K H p ys)/\Q (.int ys.length) H):=by
 intro pins s σ H xs us Q I r h
 obtain⟨p,ys,rfl,hq,q⟩:=h
 obtain⟨u,rfl,rx⟩:=vals1 r
 cases rx
 have hn:=kU
 rcases hq with hq | hq
 . obtain⟨aH,r',pl,hz⟩:=I.list hq
   have hlen:=r'.length
   exact Calls.call_len_list pl.isList (by simp only[List.size_toArray] <;> omega) ⟨.int ys.length,H,I.tok _,⟨s.toks+1,by rw[List.size_toArray,hlen]⟩,q⟩
 . obtain⟨aH,r',pl,hz⟩:=I.tuple hq
   have hlen:=r'.length
   exact len_tuple pl (by simp only[List.size_toArray] <;> omega) ⟨.int ys.length,H,I.tok _,⟨s.toks+1,by rw[List.size_toArray,hlen]⟩,q⟩
theorem xB:jE X (.builtin "len") (fun xs H Q=>∃ z,xs=[.str z]/\z.length<=sizeLine/\Q (.int z.length) H):=by
 intro pins s σ H xs us Q I r h
 obtain⟨z,rfl,hz,q⟩:=h
 obtain⟨u,rfl,t,rfl⟩:=vals1 r
 have hn:=kU
 exact len_str (by omega) ⟨.int z.length,H,I.tok _,⟨_,rfl⟩,q⟩
theorem pF:jE X (.type "list") (fun xs H Q=>∃ p ys,xs=[.ref p]/\(mK X.K H p ys\/sD X.K H p ys)/\∀ l,H l=none->Q (.ref l) (upd H l (.lst ys))):=by
 intro pins s σ H xs us Q I r h
 obtain⟨p,ys,rfl,hq,q⟩:=h
 obtain⟨u,rfl,rx⟩:=vals1 r
 cases rx
 have fin:∀ (aH:List Value),Vals ys aH->ys.length<=sizeLine->∀ (h':Heap) (c':Nat),(∀ b o',s.heap.get? b=some o'->h'.get? b=some o') ->
     h'.get? s.heap.objs.size=some { cls:=.type "list",dict:=none,data:=.seq aH.toArray c',slots:=#[]}->EP X pins σ Q (.ref s.heap.objs.size) { s with heap:=h'}:=fun aH r' hz h' c' kp e=>
   ⟨.ref s.heap.objs.size,_,I.laid (t':=s.toks) kp (Nat.le_refl _) (show aK X.prog X.w _ h' _ (.lst ys) from⟨hz,aH,c',r',e⟩),rfl,q _ (I.bb.fresh (Nat.le_refl _))⟩
 rcases hq with hq | hq
 . obtain⟨aH,r',pl,hz⟩:=I.list hq
   have hlen:=r'.length
   obtain⟨o,ho,hc,n,hd⟩:=pl.isList
   exact call_list_seq p (.inl rfl) ho hc hd (fun h' c' kp e=>fin aH r' hz h' c' kp e) (by simp only[List.size_toArray] <;> omega)
 . obtain⟨aH,r',pl,hz⟩:=I.tuple hq
   have hlen:=r'.length
   obtain⟨o,ho,hc,n,hd⟩:=pl
   exact call_list_seq p (.inr rfl) ho hc hd (fun h' c' kp e=>fin aH r' hz h' c' kp e) (by simp only[List.size_toArray] <;> omega)
noncomputable def Ts (K:W.Frag)(T:String)(x:V)(H:Hp):Prop:=match x with
 | .str _=>T="str"
 | .int _=>T="int"
 | .ref p=>(T="list"/\∃ xs,mK K H p xs)\/(T="tuple"/\∃ o,K.lookup p=some o/\o.cls=.type "tuple"/\o.dict=none) \/
     (T="dict"/\((∃ kvs,H p=some (.dK kvs))\/(∃ kvs,H p=some (.dT kvs))\/∃ tg o kvs,H p=some (.kd tg o kvs)))\/(T="set"/\∃ S n,H p=some (.set S n)) \/
     (T="list"/\∃ (a:Addr) (ls:iK) (ns:List Nat) (j:Nat) (f:Nat->List (Key×FD)) (N:Nat),H a=some (.bw ls ns)/\ls[j]?=some (p,f)/\ns[j]?=some N)
 | _=>False
theorem FI {pins:List (Addr×Obj)}{σ:St}{H:Hp}{s:Shared}{T:String}{x:V}{v:Value}(I:Inv X pins σ H s)(r:RelV x v)(ty:Ts X.K T x H):s.TypeIs v T/\∀ a,v=.ref a->∃ ob,s.heap.get? a=some ob/\ob.dict=none:=by
 cases x with
 | str z=>
   obtain⟨t,rfl⟩:=r
   cases (show T="str" from ty)
   exact⟨typeIs_str s z t,fun _ e=>nomatch e⟩
 | int i=>
   obtain⟨t,rfl⟩:=r
   cases (show T="int" from ty)
   exact⟨typeIs_int s i t,fun _ e=>nomatch e⟩
 | ref p=>
   cases r
   rcases ty with⟨rfl,xs,hq⟩ | ⟨rfl,o,hk,hc,hd⟩ | ⟨rfl,hk⟩ | ⟨rfl,S,n,hk⟩ | ⟨rfl,a,ls,ns,j,f,N,h1,h2,h3⟩
   . obtain⟨aH,_,pl,_⟩:=I.list hq
     refine⟨pl.isList.typeIs,fun a e=>?_⟩
     cases e
     obtain⟨o,n,e,c,hd,_⟩:=pl
     exact⟨o,e,hd⟩
   . refine⟨⟨o,I.lO p o hk,hc⟩,fun a e=>?_⟩
     cases e
     exact⟨o,I.lO _ o hk,hd⟩
   . have z:∃ o,s.heap.get? p=some o/\o.ExactDict:=by
       rcases hk with⟨kvs,hk⟩ | ⟨kvs,hk⟩ | ⟨tg,ob,kvs,hk⟩
       . obtain⟨_,_,_,_,o,_,_,e,ex,_⟩:=I.bb p _ hk
         exact⟨o,e,ex⟩
       . obtain⟨_,_,_,_,o,_,_,e,ex,_⟩:=I.bb p _ hk
         exact⟨o,e,ex⟩
       . obtain⟨_,⟨_,_,_,_,o,_,_,e,ex,_⟩,_⟩:=I.bb p _ hk
         exact⟨o,e,ex⟩
     obtain⟨o,e,ex⟩:=z
     refine⟨⟨o,e,ex.1⟩,fun a e2=>?_⟩
     cases e2
     exact⟨o,e,ex.2.1⟩
   . obtain⟨o,_,_,_,e,ex,_⟩:=I.bb p _ hk
     refine⟨⟨o,e,ex.1⟩,fun a e2=>?_⟩
     cases e2
     exact⟨o,e,ex.2.1⟩
   . obtain⟨_,_,_,_,_,_,h6⟩:=(show aK X.prog X.w H s.heap a (.bw ls ns) from I.bb a _ h1)
     obtain⟨aH,c,e1,e2,e3⟩:=h6 j p f N h2 h3
     refine⟨⟨_,e1,rfl⟩,fun a' e4=>?_⟩
     cases e4
     exact⟨_,e1,rfl⟩
 | _=>exact False.elim ty
noncomputable def UW (K:W.Frag)(T:String)(r:V->List V->Hp->VK->Prop)(to:TE):TE:=fun σ H Q=>to σ H fun x H1=>Ts K T x H1/\r x [] H1 Q
noncomputable def YU (K:W.Frag)(T:String)(r:V->List V->Hp->VK->Prop)(to:TE)(t:TA):TE:=fun σ H Q=>to σ H fun x H1=>Ts K T x H1/\t σ H1 fun xs H2=>r x xs H2 Q
variable {o e:Expr}{es:List Expr}{to:TE}{t:TA}{name:Str}{apos b6:Pos}{T id:String}{r:V->List V->Hp->VK->Prop}
theorem Nl (pa:PlainAttrs T)(slot:Slot T name id)(QY:typeOf (.builtin id)=pure (.type "method_descriptor"))(hm:P4 X id r)(ho:PE X o to)(kl:attributeBase o name X.env (eval o X.env)=eval o X.env:=by rfl)(km:(apos.endLine == b6.line)=true:=by rfl):PE X (.Call (.Attribute o name apos) [] [] b6) (UW X.K T r to):=by
 intro pins s σ H Q I h
 refine wpAny_Call_method0_late kl km (bQ (ho pins s σ H _ I h) fun v s1 ⟨x,H1,I1,r1,ty,q1⟩=>?_)
 obtain⟨h1,h2⟩:=FI I1 r1 ty
 exact⟨T,id,pa,slot,QY,h1,h2,Calls.callWith_builtin rfl (PySem.evalArgs_none (hm pins s1 σ H1 x [] v [] Q I1 r1 .nil q1))⟩
theorem t7 (pa:PlainAttrs T)(slot:Slot T name id)(QY:typeOf (.builtin id)=pure (.type "method_descriptor"))(hm:P4 X id r)(ho:PE X o to)(ha:PA X (e::es) t)
   (kl:attributeBase o name X.env (eval o X.env)=eval o X.env:=by rfl)
   (t8:((backTo b6 (starEach (e::es) X.env)).all (fun x=>!x.1) && (backToKw b6 (keywordEach [] X.env)).all (fun x=>x.1.isSome)
     && decide ((e::es).length+([]:List Keyword).length+(if ([]:List Keyword).isEmpty then 0 else 1) < 30))=true:=by rfl)
   (km:(apos.endLine == b6.line)=true:=by rfl) (hs:starEach (e::es) X.env=(false,eval e X.env)::starEach es X.env:=by rfl) (Nm:(backTo b6 (starEach es X.env)).any (·.1)=false:=by rfl) :
   PE X (.Call (.Attribute o name apos) (e::es) [] b6) (YU X.K T r to t):=by
 intro pins s σ H Q I h
 refine wpAny_Call_method_late kl t8 km rfl (bQ (ho pins s σ H _ I h) fun v s1 ⟨x,H1,I1,r1,ty,q1⟩=>?_)
 obtain⟨h1,h2⟩:=FI I1 r1 ty
 refine⟨T,id,pa,slot,QY,h1,h2,?_⟩
 have hA:=ha b6 pins s1 σ H1 _ I1 q1
 rw[hs] at hA ⊢
 refine Calls.callWith_builtin (by show(false || (backTo b6 (starEach es X.env)).any (·.1))=false;rw[Nm] <;> rfl) (Calls.evalArgs_plain ?_)
 exact bQ hA fun us s2 ⟨vs,H2,I2,r2,q2⟩=>hm pins s2 σ H2 x vs v us Q I2 r1 r2 q2
end
noncomputable def YV (X:Cx)(id:String)(r:V->List V->Hp->VK->Prop):Prop:=
 ∀ (pins:List (Addr×Obj)) (s:Shared) (σ:St) (H:Hp) (x:V) (xs:List V) (v:Value) (us:List Value) (Q:VK),Inv X pins σ H s->RelV x v->Vals xs us->r x xs H Q ->
   wpAny (model X.prog X.w) X.A (call (.builtin id) (v::us)) (EP X pins σ Q) X.xe s
theorem Vals.one:∀ {x:V} {us:List Value},Vals [x] us->∃ u,us=[u]/\RelV x u
 | _,_,.cons r .nil=>⟨_,rfl,r⟩
theorem Vals.rep {xs:List V}{us:List Value}(h:Vals xs us):∀ k:Nat,Vals (List.replicate k xs).flatten (List.replicate k us).flatten
 | 0=>.nil
 | k+1=>by
   rw[List.replicate_succ,List.replicate_succ,List.flatten_cons,List.flatten_cons]
   exact Vals.append h (Vals.rep h k)
theorem foldl_rep (aH:List Value):∀ (k:Nat) (acc:List Value),List.foldl (fun x1 x2=>x1 ++ x2) acc.toArray (List.replicate k aH.toArray)=(acc ++ (List.replicate k aH).flatten).toArray
 | 0,acc=>by simp
 | k+1,acc=>by
   have e:acc.toArray ++ aH.toArray=(acc ++ aH).toArray:=by simp
   have e2:(acc ++ aH) ++ (List.replicate k aH).flatten=acc ++ (List.replicate (k+1) aH).flatten:=by
     rw[List.replicate_succ,List.flatten_cons,List.append_assoc]
   rw[<- e2,<- foldl_rep aH k (acc ++ aH),<- e,List.replicate_succ,List.foldl_cons]
section
variable {X:Cx}{pins:List (Addr×Obj)}{σ:St}{H:Hp}{s:Shared}{l:Addr}{xs ys:List V}
theorem Inv.UX {aH its':List Value}{n:Nat}{f:Array Value->Array Value}{t':Nat}(I:Inv X pins σ H s)(hH:H l=some (.lst xs))(e:s.heap.get? l=some { cls:=.type "list",data:=.seq aH.toArray n})(hf:f aH.toArray=its'.toArray)(hv:Vals ys its')(hz:ys.length<=sizeLine):Inv X pins σ (upd H l (.lst ys)) { s with heap:=s.heap.update l (Obj.mapSeq f),toks:=t'}:=by
 have q:=PySem.IsL.update e f
 rw[hf] at q
 refine I.write (x:=l) (e:=l) (by rw[hH];exact trivial) (.inl rfl) (fun b' u hb hu=>(Heap.get?_update_other s.heap (Obj.mapSeq f) (Ne.symm hb)).trans hu) ⟨_,q⟩ ?_
 exact⟨hz,its',_,hv,q⟩
theorem Inv.QZ {aH:List Value}{t':Nat}(I:Inv X pins σ H s)(hv:Vals ys aH)(hz:ys.length<=sizeLine):Inv X pins σ (upd H s.heap.objs.size (.lst ys)) { s with heap:=s.heap.push { cls:=.type "list",data:=.seq aH.toArray},toks:=t'}:=
 I.laid (fun _ _ q=>Heap.get?_push_of_some _ q) (Nat.le_refl _) ⟨hz,aH,0,hv,Heap.get?_push_size _ rfl⟩
theorem Inv.fresh (I:Inv X pins σ H s):H s.heap.objs.size=none:=I.bb.fresh (Nat.le_refl _)
theorem Inv.Jx (I:Inv X pins σ H s)(hH:H l=some (.lst xs)):xs.length<=sizeLine/\∃ (aH:List Value) (n:Nat),Vals xs aH/\xs.length=aH.length/\s.heap.get? l=some { cls:=.type "list",data:=.seq aH.toArray n}:=by
 obtain⟨z,aH,n,r,e⟩:=I.bb l _ hH
 exact⟨z,aH,n,r,r.length,e⟩
theorem FJ {n:Nat}(h:n<=sizeLine):Builtin.List.listTooLong n=false:=by
 unfold Builtin.List.listTooLong
 exact decide_eq_false (by omega)
end
section
variable {X:Cx}
noncomputable def Jy:V->List V->Hp->VK->Prop:=fun x vs H Q=>∃ l xs y,x=.ref l/\vs=[y]/\H l=some (.lst xs)/\xs.length < sizeLine/\Q .cF (upd H l (.lst (xs ++ [y])))
theorem ll:YV X "list.append" Jy:=by
 intro pins s σ H x vs v us Q I rx rv h
 obtain⟨l,xs,y,rfl,rfl,hH,hz,q⟩:=h
 cases rx
 obtain⟨u,rfl,ru⟩:=rv.one
 obtain⟨z,aH,n,r,hl,e⟩:=I.Jx hH
 refine call_meets F.slot_list_append ⟨_,e,rfl⟩ F.entry_list_append (F.args_list_append_2 _ _) (PySem.list_append l aH.toArray n u (by rw[List.size_toArray];omega)) ⟨e,?_⟩
 refine⟨.cF,_,I.UX (its':=aH ++ [u]) hH e (by simp) (r.append (.cons ru .nil)) ?_,rfl,q⟩
 rw[List.length_append,List.length_singleton]
 omega
noncomputable def UY:R2:=fun x y H Q=>∃ l b xs zs,x=.ref l/\y=.ref b/\H l=some (.lst xs)/\H b=some (.lst zs)/\xs.length+zs.length<=sizeLine/\∀ p,H p=none->Q (.ref p) (upd H p (.lst (xs ++ zs)))
theorem Nn:nC X (binaryOp .Add) UY:=by
 intro pins s σ H x y v u Q I rx ry h
 obtain⟨l,b,xs,zs,rfl,rfl,hH,hB,hz,q⟩:=h
 cases rx
 cases ry
 obtain⟨z,aH,n,r,hl,e⟩:=I.Jx hH
 obtain⟨z2,Q0,n2,r2,P5,e2⟩:=I.Jx hB
 refine PySem.P.add_list e e2 ?_ (by rw[List.size_toArray,List.size_toArray];omega)
 have ea:aH.toArray ++ Q0.toArray=(aH ++ Q0).toArray:=by simp
 rw[ea]
 exact⟨.ref _,_,I.QZ (t':=s.toks) (r.append r2) (by rw[List.length_append];omega),rfl,q _ I.fresh⟩
noncomputable def UZ:R2:=fun x y H Q=>∃ l k xs,x=.ref l/\y=.int k/\H l=some (.lst xs)/\-(2 ^ 63)<=k/\k < 2 ^ 63/\xs.length * k.toNat<=sizeLine /\
 ∀ p,H p=none->Q (.ref p) (upd H p (.lst (List.replicate k.toNat xs).flatten))
theorem len_rep {α:Type}(xs:List α)(k:Nat):(List.replicate k xs).flatten.length=k * xs.length:=by
 induction k with
 | zero=>simp
 | succ k ih=>rw[List.replicate_succ,List.flatten_cons,List.length_append,ih,Nat.succ_mul,Nat.add_comm]
theorem Np:nC X (binaryOp .Mult) UZ:=by
 intro pins s σ H x y v u Q I rx ry h
 obtain⟨l,k,xs,rfl,rfl,hH,h1,h2,hz,q⟩:=h
 cases rx
 obtain⟨t,rfl⟩:=ry
 obtain⟨z,aH,n,r,hl,e⟩:=I.Jx hH
 have hlen:aH.toArray.size * k.toNat<=sizeLine:=by rw[List.size_toArray,<- hl];exact hz
 have U0:¬ aH.toArray.size * k.toNat > (2 ^ 63 - 1) / 8:=by
   have:(sizeLine:Nat)<=(2 ^ 63 - 1) / 8:=by decide
   omega
 have U1:¬ (!Builtin.List.listFitsIndex k)=true:=by
   rw[fitsIndex_both h1 h2]
   exact Bool.false_ne_true
 have Q1:¬ Builtin.List.listTooLong (aH.toArray.size * k.toNat)=true:=by
   rw[FJ hlen]
   exact Bool.false_ne_true
 have DV:List.foldl (fun x1 x2=>x1 ++ x2) #[] (List.replicate (if aH.toArray.isEmpty=true then 0 else k.toNat) aH.toArray)=(List.replicate k.toNat aH).flatten.toArray:=by
   have f0:∀ m:Nat,List.foldl (fun x1 x2=>x1 ++ x2) #[] (List.replicate m aH.toArray)=(List.replicate m aH).flatten.toArray:=fun m=>by
     have:=foldl_rep aH m []
     rw[List.nil_append] at this
     exact this
   rw[f0]
   cases aH with
   | nil=>simp
   | cons a r'=>rw[if_neg (by simp)]
 refine wpAny_binaryOp_repeat_ref (T:="list") (U:="int") (by decide) ⟨_,e,rfl⟩ (fun s'=>typeIs_int s' k t) noFill_list_mul F.fills_int_mul F.slot_int_rmul repeat_list F.slot_int_index.lookup
   (call_meets F.slot_int_rmul (typeIs_int s k t) F.entry_int_rmul (F.args_int_rmul_2 _ _) (int___rmul___int_list k t l aH.toArray n)
     ⟨e,rfl,⟨_,e,rfl⟩,call_meets F.slot_list_mul ⟨_,e,rfl⟩ F.entry_list_mul (F.args_list_mul_2 _ _) (AutoListH.list___mul___list_int_3 l aH.toArray n k t U1 U0 Q1) ⟨e,?_⟩⟩)
 rw[DV]
 exact⟨.ref _,_,I.QZ (t':=s.toks) (r.rep k.toNat) (by rw[len_rep,Nat.mul_comm];exact hz),rfl,q _ I.fresh⟩
end
section
variable {κ:Type}[DecidableEq κ]
noncomputable def mU (kvs:List (κ×V))(k:κ):Option V:=(kvs.find? fun kv=>decide (kv.1=k)).map (·.2)
noncomputable def putK (kvs:List (κ×V))(k:κ)(v:V):List (κ×V):=
 if (kvs.any fun kv=>decide (kv.1=k))=true then kvs.map (fun kv=>if kv.1=k then (kv.1,v) else kv) else kvs ++ [(k,v)]
theorem mV {p:κ×V}{r:List (κ×V)}{k:κ}(e:p.1=k):mU (p::r) k=some p.2:=by simp[mU,List.find?_cons,e]
theorem lr {p:κ×V}{r:List (κ×V)}{k:κ}(e:¬ p.1=k):mU (p::r) k=mU r k:=by simp[mU,List.find?_cons,e]
theorem pG (k:κ):∀ kvs:List (κ×V),(kvs.any fun kv=>decide (kv.1=k))=(mU kvs k).isSome
 | []=>rfl
 | p::r=>by
   rw[List.any_cons]
   by_cases e:p.1=k
   . simp only[mV e,decide_eq_true e,Bool.true_or,Option.isSome_some]
   . rw[lr e,decide_eq_false e,Bool.false_or];exact pG k r
theorem rH (kvs:List (κ×V))(k:κ)(v:V):(putK kvs k v).length<=kvs.length+1:=by
 unfold putK
 split
 . rw[List.length_map];omega
 . rw[List.length_append,List.length_cons,List.length_nil];omega
theorem oe.qx {o:Option V}{u:Option Value}(r:oe o u):o.isSome=u.isSome:=by
 cases o with
 | none=>cases u with
   | none=>rfl
   | some _=>exact(show False from r).elim
 | some _=>cases u with
   | none=>exact(show False from r).elim
   | some _=>rfl
theorem KV.val {kvs:List (κ×V)}{vs:List (κ×Value)}(r:KV kvs vs)(k:κ):oe (mU kvs k) (valueAt vs k):=by
 unfold KV at r
 induction r with
 | nil=>exact True.intro
 | @cons p q ps qs h t ih=>
   obtain⟨h1,h2⟩:=h
   by_cases e:p.1=k
   . have e':q.1=k:=h1.symm.trans e
     have b:valueAt (q::qs) k=some q.2:=by simp[valueAt,List.find?_cons,e']
     rw[mV e,b];exact h2
   . have e':¬ q.1=k:=fun z=>e (h1.trans z)
     have b:valueAt (q::qs) k=valueAt qs k:=by simp[valueAt,List.find?_cons,e']
     rw[lr e,b];exact ih
theorem KV.any {kvs:List (κ×V)}{vs:List (κ×Value)}(r:KV kvs vs)(k:κ):(kvs.any fun kv=>decide (kv.1=k))=vs.any fun kv=>decide (kv.1=k):=by
 unfold KV at r
 induction r with
 | nil=>rfl
 | cons h t ih=>rw[List.any_cons,List.any_cons,ih,h.1]
theorem KV.Nq {kvs:List (κ×V)}{vs:List (κ×Value)}(r:KV kvs vs)(k:κ){y:V}{u:Value}(ry:RelV y u):KV (kvs.map fun kv=>if kv.1=k then (kv.1,y) else kv) (vs.map fun kv=>if kv.1=k then (kv.1,u) else kv):=by
 unfold KV at r ⊢
 induction r with
 | nil=>exact .nil
 | @cons p q ps qs h t ih=>
   rw[List.map_cons,List.map_cons]
   refine .cons ?_ ih
   obtain⟨h1,h2⟩:=h
   by_cases e:p.1=k
   . rw[if_pos e,if_pos (h1.symm.trans e)];exact⟨h1,ry⟩
   . rw[if_neg e,if_neg (fun z=>e (h1.trans z))];exact⟨h1,h2⟩
theorem KV.put {kvs:List (κ×V)}{vs:List (κ×Value)}(r:KV kvs vs)(k:κ){y:V}{u:Value}(ry:RelV y u):KV (putK kvs k y) (stored vs k u):=by
 unfold putK stored
 rw[r.any k]
 by_cases e:(vs.any fun kv=>decide (kv.1=k))=true
 . rw[if_pos e,if_pos e];exact r.Nq k ry
 . rw[if_neg e,if_neg e];exact Paired.snoc r ⟨rfl,ry⟩
theorem KV.length {kvs:List (κ×V)}{vs:List (κ×Value)}(r:KV kvs vs):kvs.length=vs.length:=Paired.length r
end
theorem zA {P:Program}{w:World}{k:Key}{u:Value}(r:RelV (kV k) u):(cA P w).is k u=true:=by
 cases k with
 | inl i=>obtain⟨t,e⟩:=(show ∃ t,u=Value.int i t from r);subst e;exact ze P w i t
 | inr x=>obtain⟨t,e⟩:=(show ∃ t,u=Value.str x t from r);subst e;exact zf P w x t
theorem wD {P:Program}{w:World}:∀ {ks:List Key} {us:List Value},Vals (ks.map kV) us->ItemsAre (cA P w) ks us
 | [],_,r=>by rw[List.map_nil] at r;cases r;exact .nil
 | k::ks,_,r=>by
   rw[List.map_cons] at r
   cases r with
   | cons h t=>exact .cons (zA h) (wD t)
noncomputable abbrev KT (H:Hp):List (List Key×V)->List (List Key×Addr×Value)->Prop:=Paired fun p q=>p.1=q.1/\H q.2.1=some (.tup (p.1.map kV))/\RelV p.2 q.2.2
theorem KT.val {H:Hp}{kvs:List (List Key×V)}{xs:List (List Key×Addr×Value)}(r:KT H kvs xs)(k:List Key):oe (mU kvs k) ((atKey xs k).map (·.2)):=by
 induction r with
 | nil=>exact True.intro
 | @cons p q ps qs h t ih=>
   obtain⟨h1,_,h2⟩:=h
   by_cases e:p.1=k
   . have e':q.1=k:=h1.symm.trans e
     have b:atKey (q::qs) k=some q.2:=by simp[atKey,List.find?_cons,e']
     rw[mV e,b];exact h2
   . have e':¬ q.1=k:=fun z=>e (h1.trans z)
     have b:atKey (q::qs) k=atKey qs k:=by simp[atKey,List.find?_cons,e']
     rw[lr e,b];exact ih
theorem KT.Nq {H:Hp}{kvs:List (List Key×V)}{xs:List (List Key×Addr×Value)}(r:KT H kvs xs)(k:List Key){y:V}{u:Value}(ry:RelV y u):KT H (kvs.map fun kv=>if kv.1=k then (kv.1,y) else kv) (xs.map (putAt k u)):=by
 induction r with
 | nil=>exact .nil
 | @cons p q ps qs h t ih=>
   rw[List.map_cons,List.map_cons]
   refine .cons ?_ ih
   obtain⟨h1,h2,h3⟩:=h
   unfold putAt
   by_cases e:p.1=k
   . rw[if_pos e,if_pos (h1.symm.trans e)];exact⟨h1,h2,ry⟩
   . rw[if_neg e,if_neg (fun z=>e (h1.trans z))];exact⟨h1,h2,h3⟩
theorem KT.put {H:Hp}{kvs:List (List Key×V)}{xs:List (List Key×Addr×Value)}(r:KT H kvs xs)(k:List Key){b:Addr}{y:V}{u:Value}(hb:H b=some (.tup (k.map kV)))(ry:RelV y u):KT H (putK kvs k y) (storedH xs k b u):=by
 have e:(kvs.any fun kv=>decide (kv.1=k))=(atKey xs k).isSome:=by
   rw[pG,(r.val k).qx,Option.isSome_map]
 unfold putK storedH
 rw[e]
 by_cases q:(atKey xs k).isSome=true
 . rw[if_pos q,if_pos q];exact r.Nq k ry
 . rw[if_neg q,if_neg q];exact Paired.snoc r ⟨rfl,hb,ry⟩
theorem KT.keeps {H H':Hp}{kvs:List (List Key×V)}{xs:List (List Key×Addr×Value)}(r:KT H kvs xs)(ht:∀ b ys,H b=some (.tup ys)->H' b=some (.tup ys)):KT H' kvs xs:=
 Paired.ML r fun _ _ z=>⟨z.1,ht _ _ z.2.1,z.2.2⟩
section
variable {P:Program}{w:World}{H:Hp}{h:Heap}{a:Addr}
theorem LL {u:HO}(ok:o9 P w H h)(e:Rd H a u):aK P w H h a u:=e.ok ok
theorem rJ {kvs:List (Key×V)}(ok:o9 P w H h)(e:Rd H a (.dK kvs)):kvs.length<=sizeLine/\(a == sysModules)=false/\∃ vs,KV kvs vs/\h.DictOf (cA P w) a vs:=
 show aK P w H h a (.dK kvs) from LL ok e
theorem LM {kvs:List (Key×V)}(ok:o9 P w H h)(e:H a=some (.dK kvs)):kvs.length<=sizeLine/\(a == sysModules)=false/\∃ vs,KV kvs vs/\h.DictOf (cA P w) a vs:=rJ ok (.inl e)
theorem xC {ks:List Key}(ok:o9 P w H h)(e:H a=some (.tup (ks.map kV))):(tupleKind (cA P w)).is h ks a:=by
 obtain⟨_,aH,r,o,h1,h2,n,h3⟩:=(show aK P w H h a (.tup (ks.map kV)) from ok a _ e)
 exact⟨o,aH.toArray,n,h1,h2,h3,by simpa using wD r⟩
theorem Cu {kvs:List (List Key×V)}(ok:o9 P w H h)(e:Rd H a (.dT kvs)):kvs.length<=sizeLine/\(a == sysModules)=false/\∃ xs,KT H kvs xs/\h.DictOfH (tupleKind (cA P w)) a xs:=by
 obtain⟨z,y,xs,r,o,es,ep,h1,h2,h3,h4,h5⟩:=(show aK P w H h a (.dT kvs) from LL ok e)
 refine⟨z,y,xs,r,o,es,ep,h1,h2,h3,h4,fun x hx=>?_,h5⟩
 have all:∀ {l:List (List Key×V)} {m:List (List Key×Addr×Value)},KT H l m->∀ x∈m,(tupleKind (cA P w)).is h x.1 x.2.1:=by
   intro l m q
   induction q with
   | nil=>intro x hx;exact nomatch hx
   | @cons p q ps qs hq t ih=>
     intro x hx
     rcases List.mem_cons.mp hx with e | hx
     . subst e
       exact xC ok (by rw[<- hq.1];exact hq.2.1)
     . exact ih x hx
 exact all r x hx
theorem Q2 {kvs:List (List Key×V)}(ok:o9 P w H h)(e:H a=some (.dT kvs)):kvs.length<=sizeLine/\(a == sysModules)=false/\∃ xs,KT H kvs xs/\h.DictOfH (tupleKind (cA P w)) a xs:=Cu ok (.inl e)
end
noncomputable def rR (H:Hp)(a:Addr)(y:V)(r:Option V):Prop:=
 (∃ kvs k,Rd H a (.dK kvs)/\y=kV k/\r=mU kvs k)\/∃ kvs k b,Rd H a (.dT kvs)/\y=.ref b/\H b=some (.tup (k.map kV))/\r=mU kvs k
noncomputable def DW (H:Hp)(a:Addr)(y v:V)(H':Hp):Prop:=
 (∃ kvs k,H a=some (.dK kvs)/\y=kV k/\kvs.length < sizeLine/\H'=upd H a (.dK (putK kvs k v))) \/
 ∃ kvs k b,H a=some (.dT kvs)/\y=.ref b/\H b=some (.tup (k.map kV))/\kvs.length < sizeLine/\H'=upd H a (.dT (putK kvs k v))
theorem rR.k {H:Hp}{a:Addr}{kvs:List (Key×V)}{k:Key}(e:H a=some (.dK kvs)):rR H a (kV k) (mU kvs k):=.inl ⟨kvs,k,.inl e,rfl,rfl⟩
theorem DW.k {H:Hp}{a:Addr}{kvs:List (Key×V)}{k:Key}{v:V}(e:H a=some (.dK kvs))(hl:kvs.length < sizeLine):DW H a (kV k) v (upd H a (.dK (putK kvs k v))):=.inl ⟨kvs,k,e,rfl,hl,rfl⟩
section
variable {X:Cx}{pins:List (Addr×Obj)}{σ:St}{H:Hp}{s:Shared}{a:Addr}{y v:V}{u r:Value}{o:Option V}{A:Around}{E:Value->Shared->Prop}
theorem Inv.big (I:Inv X pins σ H s):sysModules < s.heap.objs.size:=by
 have h:mainGlobals < s.heap.objs.size:=(I.mod.glob.keeps I.bk).lt
 exact Nat.lt_trans (by decide) h
theorem DX {Q:Value->Shared->Prop}(hu:A.units+1 < cLine)(I:Inv X pins σ H s)(g:rR H a y (some v))(ry:RelV y u)(h:∀ w' s',Inv X pins σ H s'->RelV v w'->Q w' s'):wpAny (model X.prog X.w) A (getItem (.ref a) u) Q E s:=by
 rcases g with⟨kvs,k,e,ey,l⟩ | ⟨kvs,k,b,e,ey,eb,l⟩
 . subst ey
   obtain⟨z,hd,vs,rel,dd⟩:=rJ I.bb e
   obtain⟨w',hw,Fq⟩:=oe.some_of (v:=v) (o:=valueAt vs k) (by rw[l];exact rel.val k)
   exact wpAny_getItem_of (zA ry) dd.mapOf hw (h w' _ (I.tok _) Fq)
 . subst ey
   cases (show u=Value.ref b from ry)
   obtain⟨z,hd,xs,rel,dd⟩:=Cu I.bb e
   obtain⟨w',hw,Fq⟩:=oe.some_of (v:=v) (o:=(atKey xs k).map (·.2)) (by rw[l];exact rel.val k)
   obtain⟨p,hp,xD⟩:=Option.map_eq_some_iff.mp hw
   refine wpAny_getItem_heap (tupleKind_room_in1 hu) (xC I.bb eb) dd hp ?_
   rw[xD]
   exact h w' _ (I.tok _) Fq
theorem Jz {Q:Value->Shared->Prop}(hu:A.units+1 < cLine)(I:Inv X pins σ H s)(g:rR H a y o)(ry:RelV y u)(h:∀ s',Inv X pins σ H s'->Q (.bool (!o.isSome)) s'):wpAny (model X.prog X.w) A (compareOp .NotIn u (.ref a)) Q E s:=by
 rcases g with⟨kvs,k,e,ey,l⟩ | ⟨kvs,k,b,e,ey,eb,l⟩
 . subst ey
   obtain⟨z,hd,vs,rel,dd⟩:=rJ I.bb e
   refine wpAny_notIn_of (zA ry) hd dd.mapOf ?_
   rw[<- (rel.val k).qx,<- l]
   exact h _ (I.tok _)
 . subst ey
   cases (show u=Value.ref b from ry)
   obtain⟨z,hd,xs,rel,dd⟩:=Cu I.bb e
   refine wpAny_notIn_heap (tupleKind_room_in1 hu) (xC I.bb eb) hd dd ?_
   have q:=(rel.val k).qx
   rw[Option.isSome_map] at q
   rw[<- q,<- l]
   exact h _ (I.tok _)
theorem lV {h':Heap}{t':Nat}{ob:HO}(I:Inv X pins σ H s)(mu:PV (H a))(hs:Heap.SameBut a s.heap h')(he:∃ q,h'.get? a=some q)(new:aK X.prog X.w (upd H a ob) h' a ob):Inv X pins σ (upd H a ob) { s with heap:=h',toks:=t'}:=
 I.write (x:=a) (e:=a) mu (.inl rfl) (fun b q hb z=>(hs.2 b hb).trans z) he new
theorem FK {P:Program}{w:World}{H':Hp}{h':Heap}{kvs:List (Key×V)}{vs:List (Key×Value)}(z:kvs.length<=sizeLine)(hd:(a == sysModules)=false)(rel:KV kvs vs)(dd:h'.DictOf (cA P w) a vs):aK P w H' h' a (.dK kvs):=⟨z,hd,vs,rel,dd⟩
theorem DY {H':Hp}{Q:Unit->Shared->Prop}(hu:A.units+1 < cLine)(I:Inv X pins σ H s)(g:DW H a y v H')(ry:RelV y u)(rv:RelV v r)(h:∀ s',Inv X pins σ H' s'->Q () s'):wpAny (model X.prog X.w) A (setItem (.ref a) u r) Q E s:=by
 rcases g with⟨kvs,k,e,ey,l,eH⟩ | ⟨kvs,k,b,e,ey,eb,l,eH⟩
 . subst ey eH
   obtain⟨z,hd,vs,rel,dd⟩:=LM I.bb e
   have hz:vs.length<=sizeLine:=by rw[<- rel.length];exact z
   have hl:(putK kvs k v).length<=sizeLine:=by have:=rH kvs k v;omega
   refine wpAny_setItem_pairs (hsz:=hz) (zA ry) dd fun h' Nr hs=>h _ ?_
   have he:∃ q,h'.get? a=some q:=let ⟨q,_,_,hq,_⟩:=Nr;⟨q,hq⟩
   exact lV I (by rw[e];exact True.intro) hs he (FK hl hd (rel.put k rv) Nr)
 . subst ey eH
   cases (show u=Value.ref b from ry)
   obtain⟨z,hd,xs,rel,dd⟩:=Q2 I.bb e
   have hz:xs.length<=sizeLine:=by rw[<- Paired.length rel];exact z
   have hl:(putK kvs k v).length<=sizeLine:=by have:=rH kvs k v;omega
   refine wpAny_setItem_heap (hsz:=hz) (tupleKind_room_in1 hu) (xC I.bb eb) dd fun h' Nr hs=>h _ ?_
   obtain⟨q,es,ep,hq,h2,h3,h4,_,h5⟩:=Nr
   refine lV I (by rw[e];exact True.intro) hs ⟨q,hq⟩ ⟨hl,hd,_,(rel.put k eb rv).keeps fun c ys ec=>?_,q,es,ep,hq,h2,h3,h4,h5⟩
   rw[ag (Ql ec e (fun z=>nomatch z))]
   exact ec
end
noncomputable def JA (i:Expr):Prop:=∀ ov iv,subscripted i false ov iv=operate [ov,iv] (getItem ov iv)
theorem JB {prog:Program}{w:World}{A:Around}{E:Value->Shared->Prop}{s:Shared}{env:Env}{value slice:Expr}{pos:Pos}{T id:String}{Q:Value->Shared->Prop}(hl:typeLookup (.type T) "__getitem__"=pure (some (.builtin id)))(hs:JA slice)(h:wpAny (model prog w) A (eval value env) (fun o s₁=>wpAny (model prog w) A (eval slice env) (fun i s₂=>s₂.TypeIs o T/\wpAny (model prog w) A (getItem o i) Q E s₂) E s₁) E s):wpAny (model prog w) A (eval (.Subscript value slice pos) env) Q E s:=by
 refine Subscript_ (wpAny_mono h (fun o s₁ h₁=>wpAny_mono h₁ (fun i s₂ h₂=>?_) fun _ _ x=>x) fun _ _ x=>x)
 obtain⟨hT,h₂⟩:=h₂
 unfold subscriptTail
 refine wpAny_bind ?_
 rw[getitemInPython_of_ne hT.not_modules]
 refine wpAny_bind (wpAny_specialOf hT hl ?_)
 have fin:wpAny (model prog w) A (subscripted slice false o i) (fun r s₃=>wpAny (model prog w) A (letTemporaryGo value o r >>= fun _=>pure r) Q E s₃) E s₂:=by
   rw[hs o i]
   exact wpAny_operating (wpAny_mono h₂ (fun r s₃ h₃=>wpAny_bind (wpAny_letTemporaryGo (wpAny_pure h₃))) fun _ _ x=>x)
 first
   | exact wpAny_pure (wpAny_bind fin)
   | exact wpAny_bind (wpAny_pure (wpAny_bind fin))
   | exact wpAny_bind fin
theorem zB {X:Cx}{pins:List (Addr×Obj)}{σ:St}{H:Hp}{s:Shared}{a:Addr}{y:V}{o:Option V}(I:Inv X pins σ H s)(g:rR H a y o):s.TypeIs (.ref a) "dict":=by
 rcases g with⟨kvs,k,e,_,_⟩ | ⟨kvs,k,b,e,_,_,_⟩
 . obtain⟨_,_,vs,_,dd⟩:=rJ I.bb e
   exact dd.typeIs
 . obtain⟨_,_,xs,_,dd⟩:=Cu I.bb e
   exact dd.typeIs
noncomputable def Q3 (td ty:TE):TE:=fun σ H Q=>td σ H fun x H1=>ty σ H1 fun y H2=>∃ a v,x=.ref a/\rR H2 a y (some v)/\Q v H2
noncomputable def U2 (ty td:TE):TE:=fun σ H Q=>ty σ H fun y H1=>td σ H1 fun x H2=>∃ a o,x=.ref a/\rR H2 a y o/\Q (.bl o.isSome) H2
noncomputable def Cv (ty td:TE):TE:=fun σ H Q=>ty σ H fun y H1=>td σ H1 fun x H2=>∃ a o,x=.ref a/\rR H2 a y o/\Q (.bl (!o.isSome)) H2
noncomputable def Q4 (td ty tv:TE):TS:=fun D σ H=>tv σ H fun v H1=>td σ H1 fun x H2=>ty σ H2 fun y H3=>∃ a H4,x=.ref a/\DW H3 a y v H4/\D.nx σ H4
section
variable {X:Cx}{o i value:Expr}{pos pos':Pos}{td ty tv:TE}
theorem Cw (hu:X.A.units+1 < cLine)(ho:PE X o td)(hi:PE X i ty)(hs:JA i):PE X (.Subscript o i pos) (Q3 td ty):=by
 intro pins s σ H Q I h
 refine JB PySem.F.slot_dict_getitem.lookup hs (bQ (ho pins s σ H _ I h) fun u s1 ⟨x,H1,I1,rx,q1⟩=>bQ (hi pins s1 σ H1 _ I1 q1) fun iv s2 ⟨y,H2,I2,ry,a,v,ex,g,q2⟩=>?_)
 subst ex
 obtain rfl:u=Value.ref a:=rx
 exact⟨zB I2 g,DX hu I2 g ry fun w' s3 I3 Fq=>⟨v,H2,I3,Fq,q2⟩⟩
theorem wF (hu:X.A.units+1 < cLine)(hi:PE X i ty)(ho:PE X o td):PC X .NotIn i o (Cv ty td):=by
 intro pins s σ H Q I h
 refine bQ (hi pins s σ H _ I h) fun iv s1 ⟨y,H1,I1,ry,q1⟩=>bQ (ho pins s1 σ H1 _ I1 q1) fun u s2 ⟨x,H2,I2,rx,a,ov,ex,g,q2⟩=>?_
 subst ex
 obtain rfl:u=Value.ref a:=rx
 exact Jz hu I2 g ry fun s3 I3=>⟨.bl (!ov.isSome),H2,I3,rfl,q2⟩
theorem Cy (hu:X.A.units+1 < cLine)(ho:PE X o td)(hi:PE X i ty)(hv:PE X value tv)(hs:swapsWith value (some (.Subscript o i pos')) pos.line X.env=pure false):PS X (.Assign [.Subscript o i pos'] value pos) (Q4 td ty tv):=by
 intro pins s σ H D I h
 refine wpAny_Assign_Subscript (bQ (hv pins s σ H _ I h) fun r s1 ⟨v,H1,I1,rv,q1⟩=>bQ (ho pins s1 σ H1 _ I1 q1) fun u s2 ⟨x,H2,I2,rx,q2⟩=>bQ (hi pins s2 σ H2 _ I2 q2) fun iv s3 ⟨y,H3,I3,ry,a,H4,ex,g,q3⟩=>?_) hs
 subst ex
 obtain rfl:u=Value.ref a:=rx
 exact DY hu I3 g ry rv fun s4 I4=>⟨σ,H4,I4,q3⟩
end
theorem zC {P:Program}{w:World}{H:Hp}(h:Heap)(hb:sysModules < h.objs.size):aK P w H (h.push { cls:=.type "dict",data:=.dict #[]}) h.objs.size (.dK []):=
 ⟨Nat.zero_le _,beq_eq_false_iff_ne.mpr (Ne.symm (Nat.ne_of_lt hb)),[],.nil,Heap.DictOf.new h⟩
noncomputable def Nt:TE:=fun _ H Q=>∀ p,H p=none->Q (.ref p) (upd H p (.dK []))
section
variable {X:Cx}{pos:Pos}
theorem zD:PE X (.Dict [] [] pos) Nt:=fun pins s σ H Q I h=>
 wpAny_Dict_empty ⟨.ref s.heap.objs.size,_,I.laid (a:=s.heap.objs.size) (o:=.dK []) (t':=s.toks) (fun _ _ q=>Heap.get?_push_of_some _ q) (Nat.le_refl _) (zC s.heap I.big),rfl,h _ (I.bb.fresh (Nat.le_refl _))⟩
end
structure M1 (X:Cx)(o:Expr)(m:Str)(apos:Pos)(e:Expr)(b6:Pos):Prop where
 base:attributeBase o m X.env (eval o X.env)=eval o X.env
 YW:((backTo b6 (starEach [e] X.env)).all (fun x=>!x.1) && (backToKw b6 (keywordEach [] X.env)).all (fun x=>x.1.isSome)
   && decide (([e]:List Expr).length+([]:List Keyword).length+(if ([]:List Keyword).isEmpty then 0 else 1) < 30))=true
 line:(apos.endLine == b6.line)=true
 trees:backTo b6 (starEach [e] X.env)=[(false,eval e X.env)]
structure M2 (X:Cx)(o:Expr)(m:Str)(apos:Pos)(e f:Expr)(b6:Pos):Prop where
 base:attributeBase o m X.env (eval o X.env)=eval o X.env
 YW:((backTo b6 (starEach [e,f] X.env)).all (fun x=>!x.1) && (backToKw b6 (keywordEach [] X.env)).all (fun x=>x.1.isSome)
   && decide (([e,f]:List Expr).length+([]:List Keyword).length+(if ([]:List Keyword).isEmpty then 0 else 1) < 30))=true
 line:(apos.endLine == b6.line)=true
 trees:backTo b6 (starEach [e,f] X.env)=[(false,eval e X.env),(false,eval f X.env)]
end L2
namespace Att
open PySem PySem.W PySem.Calls PyProof.Rows
theorem rS {P:Params}{h:Heap}:∀ (ns:List Int) (vs:List Value),WellAll P h vs (ns.map WData.int)->IntsAre vs ns:=by
 intro ns
 induction ns with
 | nil=>
   intro vs w
   rw[List.map_nil] at w
   cases w
   exact .nil
 | cons n ns ih=>
   intro vs w
   rw[List.map_cons] at w
   cases w with
   | cons a b=>
     cases a
     exact .cons _ _ (ih _ b)
theorem DZ {l:OpenLaw}{n:Nat}(hn:l.most=some n){P:Params}{h:Heap}{args:List WData}{vals:List Value}(JC:l.row.toRowW.claim.pre args=true)(Nu:WellAll P h vals args):∃ a vs ns,vals=[Value.ref a]/\args=[WData.list (ns.map WData.int)]/\h.get? a=some { cls:=.type "list",data:=.seq vs.toArray}/\IntsAre vs ns/\ns.length<=n:=by
 have YX:WShape.hasAll [] args [.list .int]=true:=(pre_splitW JC).1
 have hc:l.pre.holds [] { args:=args}=true:=(pre_splitW JC).2
 obtain⟨d,r,rfl,h1,h2⟩:=hasAllW_cons YX
 obtain rfl:=hasAllW_nil h2
 obtain⟨xs,rfl,h3⟩:=hasW_list h1
 obtain⟨ns,rfl⟩:=items_int h3
 have hlen:ns.length<=n:=by
   unfold OpenLaw.pre at hc
   have h4:(WTm.not (.lt (.lit (.int (n:Int))) (.len (.arg 0)))).holds [] { args:=[.list (ns.map .int)]}=true:=by
     have h4:=(holds_andW hc).1
     rw[hn] at h4
     exact h4
   have h5:=condW_of h4 (w_not (w_lt w_lit (w_len_list (w_arg rfl))))
   rw[List.length_map] at h5
   refine Nat.le_of_not_lt fun q=>?_
   have q':(n:Int) < ((ns.length:Nat):Int):=by omega
   first
     | (rw[decide_eq_true q'] at h5;exact absurd h5 (by decide))
     | (simp at h5;omega)
 cases Nu with
 | cons w1 w2=>
   cases w2
   cases w1 with
   | list ho U3=>exact⟨_,_,ns,rfl,rfl,ho,rS ns _ U3,hlen⟩
theorem D1 (l:OpenLaw)(args:List WData):l.row.toRowW.claim.post args (.bool true) args=true:=
 postW_of (r:=l.row.toRowW) (X:=(true == true))
   (show WShape.has [] (.bool true) .bool=true by first | rfl | decide | simp[WShape.has,WShape.arms,WShape.armsAll])
   (show(WTm.eq .res (.lit (.bool true))).value [] { args:=args,res:=some (.bool true),after:=args}=some (.bool (true == true)) from w_eq_bool (w_res rfl) w_lit) rfl
theorem zE {l:OpenLaw}{n:Nat}{q:Program}{loose:List Str}{XP:(Str->Option Value)->Heap->Prop}{YP:World->Heap->Prop}{d:DefRec}(hn:l.most=some n)(Q5:d.params.defaults=[])(call:∀ (w:World) (s₀ s₁:Shared) (mg mb:Str->Option Value) (fa:Addr) (o:Obj) (pm cd doc:Value) (a:Addr) (vs:List Value) (ns:List Int),Ground q loose [] XP w s₀ mg mb s₁.heap->YP w s₁.heap->s₁.heap.get? fa=some o->o.data=.func (docDef d.name d.params d.body d.scope pm cd doc)->s₁.heap.CodeRec cd d.name->mg d.name=some (.ref fa)->s₁.heap.get? a=some { cls:=.type "list",data:=.seq vs.toArray}->IntsAre vs ns->ns.length<=n->s₁.gens=#[]->codeAny (model l.prog w) callerA (.call (.ref fa) ⟨[.ref a],[]⟩) (fun r s'=>r=.ok (.ret (.bool true))/\OldK s₁.heap s'.heap/\s'.os=s₁.os/\AllBare s'.gens) s₁):WalkO q loose XP YP l.row.toRowW d [] (fun f vs=>PySem.call f vs):=by
 intro w s₀ s₁ mg mb G Y fa o pm cd doc dV kV ho hd lP hD Q6 hg args vals as JC YY LN Nu YZ
 obtain rfl:dV=.none:=Dflts.none hD Q5
 obtain rfl:kV=.none:=Dflts.noKw hD
 obtain⟨a,vs,ns,rfl,rfl,Nv,hints,hlen⟩:=DZ hn JC Nu
 refine enter_call (codeAny_mono (call w s₀ s₁ mg mb fa o pm cd doc a vs ns G Y ho (fd_plain hd) lP Q6 Nv hints hlen hg) fun r s' hq=>?_)
 obtain⟨rfl,h2,h3,h4⟩:=hq
 exact⟨.inl ⟨.bool true,.bool true,[],rfl,fun _=>rfl,.bool true,D1 l _,fun _=>⟨List.Pairwise.nil,fun _ hm=>(nomatch hm)⟩⟩,h2,h3,h4⟩
end Att
namespace L2
open PySem PySem.Spec PyProof.Rows
theorem nF:∀ {vs:List Value} {ns:List Int},IntsAre vs ns->Vals (ns.map V.int) vs
 | _,_,.nil=>.nil
 | _,_,.cons n t h=>.cons ⟨t,rfl⟩ (nF h)
noncomputable def JD (H:Hp):Prop:=∀ b,H b=none\/∃ o xs,H b=some (.aW o (.lst xs))
theorem FL {P:Program}{w:World}{K:W.Frag}{mg mb:Str->Option Value}{CX:pA}{k:Nat}{fa a:Addr}{fd:FuncData}{x:Str}{sp:Sp}{s₁:Shared}{vs:List Value}{ns:List Int}(KX:K.In s₁.heap)(E2:s₁.heap.Ns mainGlobals mg)(hb:s₁.heap.Ns builtinsNs mb)(Y0:∀ x:Str,x≠"__name__"->mb x=bootBuiltins x)(U4:s₁.heap.NoLimit)(hg:s₁.gens=#[])(ha:s₁.heap.get? a=some { cls:=.type "list",data:=.seq vs.toArray})(hi:IntsAre vs ns)(hl:ns.length<=sizeLine)(hr:di k callerA)(F:∀ base:Heap,K.In base->base.Ns mainGlobals mg->iL P w K mg base CX k fa fd [x] sp)(Q7:∀ (s:Shared) (u:Value),BindsTo s fd ⟨[u],[]⟩ [(x,u)])(LK:∀ H:Hp,JD H->mK K H a (ns.map V.int)->sp [.ref a] H (fun v _=>v=.bl true) fun _ _ _=>False)(Q8:∀ H e s',CX [] H s₁ (fun _ _ _=>False) e s'->False):codeAny (model P w) callerA (.call (.ref fa) ⟨[.ref a],[]⟩) (fun r s'=>r=.ok (.ret (.bool true))/\OldK s₁.heap s'.heap/\s'.os=s₁.os/\AllBare s'.gens) s₁:=by
 have rv:=nF hi
 have U5:=hi.length
 have core:∀ H:Hp,JD H->mK K H a (ns.map V.int)->o9 P w H s₁.heap->(∀ b,H b≠none->b=a)->(H a≠none->K.lookup a=none) ->
     codeAny (model P w) callerA (.call (.ref fa) ⟨[.ref a],[]⟩) (fun r s'=>r=.ok (.ret (.bool true))/\OldK s₁.heap s'.heap/\s'.os=s₁.os/\AllBare s'.gens) s₁:=by
   intro H hO hS bb hA hK
   have Cz:∀ {b:Addr} {o:Obj},s₁.heap.get? b=some o->H b=none->(xm s₁.heap H).get? b=some o:=fun e n=>Fd e n
   have QT:∀ {b:Addr} {o:Obj} {es:Array DictEntry} {ep:Nat},s₁.heap.get? b=some o->o.data=.dict es ep->H b=none:=fun {b o es ep} e d=>by
     cases q:H b with
     | none=>rfl
     | some u=>
       have e':b=a:=hA b (by rw[q];simp)
       subst e'
       rw[ha] at e;cases e
       have d':Data.seq vs.toArray _=Data.dict es ep:=d
       cases d'
   have Tt:∀ {b:Addr} {m:Str->Option Value},s₁.heap.Ns b m->(xm s₁.heap H).Ns b m:=fun {b m} ⟨o,es,ep,e,d,r⟩=>⟨o,es,ep,Cz e (QT e d),d,r⟩
   have Xi:K.In (xm s₁.heap H):=fun b o e=>Cz (KX b o e) (by
     cases q:H b with
     | none=>rfl
     | some u=>
       have e':b=a:=hA b (by rw[q];simp)
       subst e'
       rw[hK (by rw[q];simp)] at e;cases e)
   have hM:Mod K mg (xm s₁.heap H):=⟨Xi,Tt E2,⟨mb,Tt hb,Y0⟩,let ⟨mc,h1,h2⟩:=U4;⟨mc,Tt h1,h2⟩⟩
   have e0:zq P w K mg (xm s₁.heap H) callerA [] s₁ H:=⟨rfl,hM,fun b o e=>Jh e,Nat.le_of_eq (DI _ _),trivial,fun b hb=>absurd (show b∈([]:List Addr) from hb) (by simp),bb,.of_eq hg⟩
   refine codeAny_mono ((F _ Xi (Tt E2)).run callerA [] s₁ H ⟨[.ref a],[]⟩ [.ref a] [.ref a] _ _ hr e0 (Q7 s₁ (.ref a)) (.cons rfl .nil) (LK H hO hS)) fun r s' h=>?_
   cases r with
   | error e=>exact(Q8 H e s' h).elim
   | ok fl=>
     cases fl with
     | next=>exact False.elim h
     | brk=>exact False.elim h
     | cont=>exact False.elim h
     | ret u=>
       obtain⟨v,H',os,bare,un,U6,r',q⟩:=h
       have q':v=.bl true:=q
       subst q'
       obtain rfl:u=Value.bool true:=r'
       refine⟨rfl,OldK.of_keep fun b o e=>?_,os,bare⟩
       cases q:H b with
       | none=>exact un.keep b o e q (by intro z;exact absurd (show b∈([]:List Addr) from z) (by simp)) (by simp)
       | some u=>
         rcases hO b with z | ⟨ob,xs,z⟩
         . rw[q] at z;cases z
         . have z2:=un.xl b ob _ z
           obtain⟨e1,_⟩:=bb b _ z
           obtain⟨e2,_⟩:=U6 b _ z2
           rw[e] at e1;cases e1
           exact e2
 cases hk:K.lookup a with
 | some o=>
   have e:=KX a o hk
   rw[ha] at e
   cases e
   refine core (fun _=>none) (fun _=>.inl rfl) (.inr ⟨_,vs.toArray,_,hk,rfl,rfl,rfl,by rw[List.size_toArray,U5];exact hl,by simpa using rv⟩) (fun b u z=>by have z':(none:Option HO)=some u:=z;cases z') (fun b z=>absurd rfl z) fun z=>absurd rfl z
 | none=>
   refine core (fun b=>if b=a then some (.aW { cls:=.type "list",data:=.seq vs.toArray} (.lst (ns.map V.int))) else none) (fun b=>?_) (.inl (.inr (.inl ⟨{ cls:=.type "list",data:=.seq vs.toArray},if_pos rfl⟩))) (fun b u z=>?_) (fun b z=>?_) fun _=>hk
   . by_cases hb:b=a
     . exact .inr ⟨_,_,if_pos hb⟩
     . exact .inl (if_neg hb)
   . by_cases hb:b=a
     . have z':=(if_pos hb).symm.trans z
       cases z'
       subst hb
       exact⟨ha,by rw[List.length_map];exact hl,vs,_,rv,ha⟩
     . have z':=(if_neg hb).symm.trans z
       cases z'
   . by_cases hb:b=a
     . exact hb
     . exact absurd (if_neg hb) z
noncomputable abbrev Xj {K:W.Frag}{h:Heap}(_:K.In h):W.Frag:=K
theorem JE {l:W.OpenLaw}{n k:Nat}{q:Program}{loose:List Str}{XP:(Str->Option Value)->Heap->Prop}{YP:World->Heap->Prop}{d:DefRec}{K:Params->W.Frag}{CX:World->pA}{sp:World->Sp}{x:Str}(hn:l.most=some n)(P1:n<=sizeLine)(Q5:d.params.defaults=[])(hr:di k callerA)(hY:∀ (w:World) (h:Heap),YP w h->(K w.params).In h)(F:∀ (w:World) (mg:Str->Option Value) (fa:Addr) (h:Heap),(K w.params).In h->h.Ns mainGlobals mg->mg d.name=some (.ref fa)->∃ fd:FuncData,(∀ (s:Shared) (u:Value),BindsTo s fd ⟨[u],[]⟩ [(x,u)])/\∀ base:Heap,(K w.params).In base->base.Ns mainGlobals mg->iL l.prog w (K w.params) mg base (CX w) k fa fd [x] (sp w))(LK:∀ (w:World) (H:Hp) (a:Addr) (ns:List Int),ns.length<=n->JD H->mK (K w.params) H a (ns.map V.int)->sp w [.ref a] H (fun v _=>v=.bl true) fun _ _ _=>False)(Q8:∀ (w:World) (H:Hp) (s:Shared) (e:Value) (s':Shared),CX w [] H s (fun _ _ _=>False) e s'->False):W.WalkO q loose XP YP l.row.toRowW d [] (fun f vs=>PySem.call f vs):=by
 refine Att.zE hn Q5 fun w s₀ s₁ mg mb fa o pm cd doc a vs ns G Y ho hd lP Q6 Nv hints hlen hg=>?_
 have KX:=hY w _ Y
 obtain⟨fd,hb,hF⟩:=F w mg fa _ KX G.T.g Q6
 exact FL KX G.T.g G.T.b G.T.builtins G.T.nolimit hg Nv hints (Nat.le_trans hlen P1) hr hF hb (fun H hO hS=>LK w H a ns hlen hO hS) fun H e s'=>Q8 w H s₁ e s'
theorem FN {l:W.OpenLaw}{n k:Nat}{q:Program}{loose:List Str}{XP:(Str->Option Value)->Heap->Prop}{YP:World->Heap->Prop}{d:DefRec}{K:Params->W.Frag}{CX:pA}{sp:W.Frag->Sp}{x:Str}(hn:l.most=some n)(P1:n<=sizeLine)(Q5:d.params.defaults=[])(hr:di k callerA)(hY:∀ (w:World) (h:Heap),YP w h->(K w.params).In h)(F:∀ (w:World) (mg:Str->Option Value) (fa:Addr) (h:Heap),(K w.params).In h->h.Ns mainGlobals mg->mg d.name=some (.ref fa)->∃ fd:FuncData,(∀ (s:Shared) (u:Value),BindsTo s fd ⟨[u],[]⟩ [(x,u)])/\∀ base:Heap,(K w.params).In base->base.Ns mainGlobals mg->iL l.prog w (K w.params) mg base CX k fa fd [x] (sp (K w.params)))(LK:∀ (K:W.Frag) (H:Hp) (a:Addr) (ns:List Int),ns.length<=n->JD H->mK K H a (ns.map V.int)->sp K [.ref a] H (fun v _=>v=.bl true) fun _ _ _=>False)(Q8:∀ (H:Hp) (s:Shared) (e:Value) (s':Shared),CX [] H s (fun _ _ _=>False) e s'->False):W.WalkO q loose XP YP l.row.toRowW d [] (fun f vs=>PySem.call f vs):=
 JE (K:=K) (CX:=fun _=>CX) (sp:=fun w=>sp (K w.params)) hn P1 Q5 hr hY F (fun w H a ns h1 h2 h3=>LK (K w.params) H a ns h1 h2 h3) fun _ H s e s'=>Q8 H s e s'
noncomputable def inClass (s:Stmt)(j:Nat):Stmt:=match s with
 | .ClassDef _ _ _ body _ _ _ _ _ _ _=>body.getD j (.Pass ⟨0,0,0,0⟩)
 | _=>.Pass ⟨0,0,0,0⟩
noncomputable def bR (s:Stmt):Arguments:=match s with
 | .FunctionDef _ a _ _ _ _ _ _ _ _=>a
 | _=>{ posonlyargs:=[],args:=[],vararg:=none,kwonlyargs:=[],kw_defaults:=[],kwarg:=none,defaults:=[]}
noncomputable def aG (s:Stmt):List Stmt:=match s with
 | .FunctionDef _ _ b _ _ _ _ _ _ _=>b
 | _=>[]
noncomputable def ah (s:Stmt):Scope:=match s with
 | .FunctionDef _ _ _ _ _ _ sc _ _ _=>sc
 | _=>{ kind:=.function,names:=[],isGenerator:=false,isCoroutine:=false}
noncomputable abbrev Xk:pA:=fun _ _ _ _ _ _=>False
noncomputable abbrev E0:XK:=fun _ _ _=>False
structure P6 (K:W.Frag)(x qual:Str)(st:Stmt)(f:Addr)(fd:FuncData):Prop where
 ex:∃ (oc:Value) (od:Option Addr) (kV doc pm:Value) (an:Option Addr) (bx ct:Value) (vJ:Array (Option Value)),
   fd=W.fnOf x qual (bR st) (aG st) (ah st) .none kV doc pm an bx ct/\K.lookup f=some ⟨oc,od,.func fd,vJ⟩/\W.codeIn K bx qual=true
 kp:W.keepIn K (.ref f)=true
section
variable {K:W.Frag}
theorem P6.binds {x qual:Str}{st:Stmt}{f:Addr}{fd:FuncData}{ps:List Str}(F:P6 K x qual st f fd)(h:∀ (kV doc pm:Value) (an:Option Addr) (bx ct:Value) (us:List Value),us.length=ps.length->bindArgs (W.fnOf x qual (bR st) (aG st) (ah st) .none kV doc pm an bx ct) ⟨us,[]⟩=pure (ps.zip us)):Binds K fd ps []:=by
 obtain⟨oc,od,kV,doc,pm,an,bx,ct,vJ,rfl,lk,lP⟩:=F.ex
 exact .all (h kV doc pm an bx ct)
theorem t9 {x qual:Str}{st:Stmt}{f:Addr}{oc:Value}{od an:Option Addr}{vJ:Array (Option Value)}{kV doc pm bx ct:Value}(l:K.lookup f=some ⟨oc,od,.func (W.fnOf x qual (bR st) (aG st) (ah st) .none kV doc pm an bx ct),vJ⟩)(c:W.codeIn K bx qual=true)(k:W.keepIn K (.ref f)=true):P6 K x qual st f (W.fnOf x qual (bR st) (aG st) (ah st) .none kV doc pm an bx ct):=⟨⟨oc,od,kV,doc,pm,an,bx,ct,vJ,rfl,l,c⟩,k⟩
end
theorem qy {n:Nat}(h:n<=1000):n < sizeLine:=Nat.lt_of_le_of_lt h (by decide)
theorem zF {A B:Prop}(h:B):if false=true then A else B:=by
 rw[if_neg Bool.false_ne_true]
 exact h
theorem Bi {A B:Prop}(h:A):if true=true then A else B:=by
 rw[if_pos rfl]
 exact h
noncomputable def aD (H H':Hp):Prop:=∀ b o,H b=some o->H' b=some o
theorem aD.refl (H:Hp):aD H H:=fun _ _ h=>h
theorem aD.trans {H H1 H2:Hp}(a:aD H H1)(b:aD H1 H2):aD H H2:=fun c o h=>b c o (a c o h)
theorem aD.free {H H':Hp}(e:aD H H'){l:Addr}(h:H' l=Option.none):H l=Option.none:=by
 cases q:H l with
 | none=>rfl
 | some o=>
   rw[e l o q] at h
   cases h
theorem aD.seq {K:W.Frag}{H H':Hp}{a:Addr}{xs:List V}(e:aD H H')(h:mK K H a xs):mK K H' a xs:=by
 rcases h with(h | ⟨o,h⟩ | ⟨_,_,_,_,h⟩ | ⟨o,h⟩) | h
 . exact .inl (.inl (e _ _ h))
 . exact .inl (.inr (.inl ⟨o,e _ _ h⟩))
 . cases h
 . exact .inl (.inr (.inr (.inr ⟨o,e _ _ h⟩)))
 . exact .inr h
end L2
set_option maxHeartbeats 4000000
namespace Sg
open PySem PySem.Spec PyProof.Rows L2 PySem.Builtin PySem.Builtin.Getset_descriptor
noncomputable def Bj (h:Heap)(x D:Addr):Prop:=∃ ox,h.get? x=some ox/\ox.cls=.ref D
theorem Bj.ty {M:Model}{h:Heap}{x D:Addr}(I:Bj h x D):W.Looks M h (typeOf (.ref x)) (.ref D):=by
 obtain⟨ox,h1,h2⟩:=I
 rw[<- h2]
 exact(W.Looks.ld h1).andThen .now
theorem Nw {prog:Program}{w:World}{A:Around}{E:Value->Shared->Prop}{K:W.Frag}{s:Shared}{x D:Addr}{name:Str}{tk:Tok}{fill expr:Bool}{Q:Value->Shared->Prop}{r:Builtin.ObjectAttr.Found}(X:K.In s.heap)(I:Bj s.heap x D)
   (Y1:W.findIn K (.ref D) "__getattribute__"=some (some (.builtin "BaseException.__getattribute__"))) (Y2:W.findIn K (.ref D) "__getattr__"=some none) (Jg:W.mroIn K D (.type "BaseException")=some true)
   (hf:W.Looks (model prog w) s.heap (Builtin.ObjectAttr.find (.ref x) (.ref D) name) r)
   (h:match r with
     | .bind g a=>wpAny (model prog w) A.in1 (call g [a,.ref x,.ref D]) (fun v s'=>wpAny (model prog w) A (handedOut v) Q E s') (fun _ _=>False) s
     | .value v=>wpAny (model prog w) A (handedOut v) Q E s
     | .missing=>False) :
   wpAny (model prog w) A (getAttrBy (.ref x) (.str name tk) fill expr) Q E s:=by
 obtain⟨hh,gg,d,t,os⟩:=s
 have L0:=I.ty (M:=model prog w)
 have L1:=W.looks_findIn (M:=model prog w) X Y1
 have Y3:=W.looks_findIn (M:=model prog w) X Y2
 have L4:=W.looks_mroIn (M:=model prog w) X Jg
 have f3:=PySem.F.excAttr_ValueError.ga.bind (.ref x)
 unfold getAttrBy
 refine wpAny_holding (wpAny_bind (L0.at (wpAny_bind (L1.at ?_))))
 have Q9:(Value.builtin "BaseException.__getattribute__" == Value.builtin "object.__getattribute__")=false:=by
   decide +kernel
 simp only[Q9,Bool.and_false,Bool.false_eq_true,if_false]
 unfold getAttrByItsOwn hookBefore
 refine wpAny_bind (Y3.at ?_)
 refine wpAny_bind (wpAny_attempt (wpAny_holding ?_))
 unfold callGetattribute boundAndCalled
 have Y4:(expr && onTheHeap (Value.builtin "BaseException.__getattribute__"))=false:=by
   cases expr <;> rfl
 rw[Y4,f3]
 simp only[Bool.false_eq_true,if_false]
 refine wpAny_bind (wpAny_pure ?_)
 have Y5:W.Looks (model prog w) hh (isInstance (.ref x) (.type "BaseException")) true:=L0.andThen L4
 refine wpAny_call (codeAny_call_builtin PySem.F.excAttr_ValueError.ga.plain PySem.F.entry_bexc_ga (@W.check_slot (model prog w) _ _ _ "BaseException.__getattribute__" "BaseException" "__getattribute__" (.ref x) [.str name tk] [] _ (by decide +kernel) (by decide +kernel) Y5 (PySem.F.args_bexc_ga _ _) ?_))
 unfold Builtin.«object.__getattribute__»
 refine wpAny_bind (wpAny_pure ?_)
 show wpAny (model prog w) A.in1 (Builtin.ObjectAttr.attrName (.str name tk) >>= _) _ _ _
 unfold Builtin.ObjectAttr.attrName
 refine wpAny_bind (wpAny_pure (wpAny_bind (L0.at (wpAny_bind (hf.at ?_)))))
 cases r with
 | bind g a=>
   show wpAny (model prog w) A.in1 (Builtin.ObjectAttr.bindTo g a (.ref x) (.ref D)) _ _ _
   unfold Builtin.ObjectAttr.bindTo
   show wpAny (model prog w) A.in1 (holding [a] (call g [a,.ref x,.ref D]) >>= ret) _ _ _
   exact wpAny_bind (wpAny_holding (wpAny_mono h (fun v s' z=>wpAny_pure z) fun _ _ z=>z.elim))
 | value v=>
   show wpAny (model prog w) A.in1 (ret v) _ _ _
   exact wpAny_pure h
 | missing=>exact h.elim
theorem JF {prog:Program}{w:World}{A:Around}{K:W.Frag}{s:Shared}{x D:Addr}{tp:Value}{R:Result->Shared->Prop}(X:K.In s.heap)(I:Bj s.heap x D)(hm:W.mroIn K D (.type "object")=some true)(hR:R (.ok (.ret (.ref D))) s):codeAny (model prog w) A (.call (.builtin "getset_descriptor.__get__") ⟨[.builtin "object.__class__",.ref x,tp],[]⟩) R s:=by
 obtain⟨hh,g,dr,t,os⟩:=s
 have L0:=I.ty (M:=model prog w)
 have L1:=W.looks_mroIn (M:=model prog w) X hm
 have pl:=W.KF.slot_gs.plain
 have ent:=W.KF.entry_gs
 refine codeAny_call_builtin pl ent (W.KF.slot_gs.check _ _ _ _ _ _ _ _ W.KF.type_class (W.KF.args_gs _ _ _) ?_)
 unfold Builtin.«getset_descriptor.__get__» descrGet
 rw[W.dga_obj]
 refine wpAny_bind (wpAny_pure ?_)
 unfold descrGetter descrCheckInstance descrNameAndClass isInstance
 simp only[W.KF.owner_class]
 repeat lk
 refine⟨Code.quiet_builtin _ (by decide +kernel),codeAny_builtin W.KF.entry_class ?_⟩
 unfold Builtin.«object.__class__» shownTypeOf
 repeat lk
 exact hR
structure P7 (K:W.Frag)(C:Addr):Prop where
 hc:(W.clsIn K C).isSome=true
 ga:W.findIn K (.ref C) "__getattribute__"=some (some (.builtin "BaseException.__getattribute__"))
 gt:W.findIn K (.ref C) "__getattr__"=some none
 be:W.mroIn K C (.type "BaseException")=some true
 ha:W.findIn K (.ref C) "__class__"=some (some (.builtin "object.__class__"))
 hn:W.specialIn K (.builtin "object.__class__") "__get__"=some (some (.builtin "getset_descriptor.__get__"))
 Nf:W.takesIn K (.builtin "object.__class__")=some true
 hm:W.mroIn K C (.type "object")=some true
theorem FO {M:Model}{K:W.Frag}{h:Heap}{x C:Addr}(X:K.In h)(T:P7 K C):W.Looks M h (Builtin.ObjectAttr.find (.ref x) (.ref C) "__class__") (.bind (.builtin "getset_descriptor.__get__") (.builtin "object.__class__")):=by
 refine(W.looks_findIn X T.ha).andThen ?_
 refine(W.looks_specialIn X T.hn:W.Looks M h (Builtin.ObjectAttr.getOf (some (.builtin "object.__class__"))) _).andThen ?_
 refine((W.looks_takesIn X T.Nf).andThen .now:W.Looks M h (Builtin.ObjectAttr.dataDescriptor? (some (.builtin "object.__class__")) (some (.builtin "getset_descriptor.__get__"))) (some (.builtin "getset_descriptor.__get__",.builtin "object.__class__"))).andThen ?_
 exact W.Looks.tag .now
theorem zG {K:W.Frag}{x D:Addr}(T:P7 K D):W.KitX K (.ref x) (.ref D) (fun h=>Bj h x D) where
 ty:=fun _ _ _ I=>I.ty
 it:=fun M h X _=>by
   obtain⟨Y6,Js⟩:=Option.isSome_iff_exists.mp T.hc
   unfold W.clsIn at Js
   split at Js
   . rename_i u1 u2 u3 u4 U7
     intro A' Q' E' s' k q
     unfold isType loadHead
     exact wpAny_bind (wpAny_loadPart (k _ _ (X _ _ U7)) (wpAny_pure q))
   . cases Js
 ne:=fun h tp dd aH n sl X Y7=>by
   obtain⟨Y6,Js⟩:=Option.isSome_iff_exists.mp T.hc
   refine Bool.eq_false_iff.mpr fun q=>?_
   have e:D=tp:=Value.ref.inj (beq_iff_eq.mp q)
   subst e
   unfold W.clsIn at Js
   split at Js
   . rename_i u1 u2 u3 u4 U7
     have z:=(X _ _ U7).symm.trans Y7
     cases z
   . cases Js
 ca:=fun {prog w A E Q s} X I k=>by
   unfold getAttr? getAttrBy?
   refine wpAny_bind (wpAny_mkText (wpAny_bind (wpAny_attempt ?_)))
   refine Nw (s:={ s with toks:=s.toks+1}) X I T.ga T.gt T.be (FO X T) ?_
   refine wpAny_call (JF (s:={ s with toks:=s.toks+1}) X I T.hm ?_)
   exact W.handed_on rfl (wpAny_pure k)
end Sg
namespace Sg
open PySem PySem.Spec PyProof.Rows L2
noncomputable abbrev St:=L2.St
noncomputable def FP (h:Heap)(x C dx:Addr):Prop:=∃ ox,h.get? x=some ox/\ox.cls=.ref C/\ox.dict=some dx/\∃ vs,ox.data=.fields vs
theorem FP.of {h:Heap}{x C dx:Addr}(I:FP h x C dx):Bj h x C:=let ⟨ox,h1,h2,_⟩:=I;⟨ox,h1,h2⟩
inductive Dt where
 | cF
 | bl (b:Bool)
 | int (i:Int)
 | str (x:Str)
 | tup (ds:List Dt)
 | lst (ds:List Dt)
 | oy (ns:List Int)
 | dZ (kvs:List (Key×Dt))
 | obj (C:Addr) (fs:List (Str×Dt))
 | ty (n:String)
 | cls (C:Addr)
 | xo (C:Addr)
 | oO (kvs:List (Key×Dt))
 | A3 (C:Addr) (fs:List (Str×Dt))
 | c9 (kvs:List (Key×Dt))
 | memo (a:Addr) (ls:iK) (j n:Nat)
 | dq (a:Addr) (ls:iK) (j n:Nat)
 | vL (a:Addr) (ls:iK) (n:Nat)
 | qz (C:Addr) (fs:List (Str×Dt)) (gs:List (Nat->List (Key×FD))) (nm:List Str) (n:Nat)
 | gW (fd:FD)
 | kW (LO:List (List Key×Int))
noncomputable def ql (fs:List (Str×Dt))(nm:List Str)(a:Addr)(ls:iK)(n:Nat):List (Str×Dt):=fs ++ (List.range nm.length).map fun j=>(nm.getD j "",.memo a ls j n)
noncomputable def Known (H:Hp)(p:Addr)(f:Nat->List (Key×FD))(n:Nat):Prop:=∀ i,i < n->∃ q o kvs,H q=some (.kd (some (p,i)) o kvs)/\qm H kvs (f i)
noncomputable def bO (H:Hp)(a:Addr)(ls:iK):Prop:=H a=some (.memo ls)\/∃ ns,H a=some (.bw ls ns)
theorem Known.mono {H H':Hp}{p:Addr}{f:Nat->List (Key×FD)}{n:Nat}(e:∀ b u,H b=some u->H' b=some u)(h:Known H p f n):Known H' p f n:=fun i hi=>let ⟨q,o,kvs,h1,h2⟩:=h i hi;⟨q,o,kvs,e _ _ h1,h2.kp (.of e)⟩
theorem bO.mono {H H':Hp}{a:Addr}{ls:iK}(e:∀ b u,H b=some u->H' b=some u)(h:bO H a ls):bO H' a ls:=h.imp (e _ _) fun⟨ns,z⟩=>⟨ns,e _ _ z⟩
mutual
inductive Rep (K:W.Frag)(H:Hp):V->Dt->Prop
 | cF:Rep K H .cF .cF
 | bl (b:Bool):Rep K H (.bl b) (.bl b)
 | int (i:Int):Rep K H (.int i) (.int i)
 | str (x:Str):Rep K H (.str x) (.str x)
 | tup {a:Addr} {vs:List V} {ds:List Dt}:sD K H a vs->bc K H vs ds->Rep K H (.ref a) (.tup ds)
 | lst {a:Addr} {vs:List V} {ds:List Dt}:H a=some (.lst vs)->bc K H vs ds->Rep K H (.ref a) (.lst ds)
 | oy {a:Addr} {ns:List Int}:mK K H a (ns.map V.int)->Rep K H (.ref a) (.oy ns)
 | dZ {a:Addr} {kvs:List (Key×V)} {kds:List (Key×Dt)}:H a=some (.dK kvs)->cB K H kvs kds->Rep K H (.ref a) (.dZ kds)
 | obj {a C dx:Addr} {fs:List (Str×V)} {ds:List (Str×Dt)}:Rd H a (.ins C dx fs)->aZ K H fs ds->Rep K H (.ref a) (.obj C ds)
 | ty (n:String):Rep K H (.ty n) (.ty n)
 | cls (C:Addr):Rep K H (.ref C) (.cls C)
 | xo {a C:Addr} {ph:Heap->Prop}:H a=some (.ext ph)->(∀ h,ph h->Bj h a C)->Rep K H (.ref a) (.xo C)
 | oO {a:Addr} {ob:Obj} {kvs:List (Key×V)} {kds:List (Key×Dt)}:H a=some (.aW ob (.dK kvs))->cB K H kvs kds->Rep K H (.ref a) (.oO kds)
 | A3 {a C dx:Addr} {ph:Heap->Prop} {fs:List (Str×V)} {ds:List (Str×Dt)}:H a=some (.ext ph)->(∀ h,ph h->FP h a C dx)->H dx=some (.xd fs)->aZ K H fs ds->Rep K H (.ref a) (.A3 C ds)
 | c9 {a:Addr} {tg:Option (Addr×Nat)} {ob:Obj} {kvs:List (Key×V)} {kds:List (Key×Dt)}:H a=some (.kd tg ob kvs)->cB K H kvs kds->Rep K H (.ref a) (.c9 kds)
 | memo {a p:Addr} {ls:iK} {j n:Nat} {f:Nat->List (Key×FD)}:ls[j]?=some (p,f)->H a=some (.memo ls)->(p=a\/H p=some (.part a))->Known H p f n->Rep K H (.ref p) (.memo a ls j n)
 | dq {a p:Addr} {ls:iK} {j n:Nat} {f:Nat->List (Key×FD)}:ls[j]?=some (p,f)->bO H a ls->(p=a\/H p=some (.part a))->Known H p f n->Rep K H (.ref p) (.dq a ls j n)
 | vL {a:Addr} {ls:iK} {n:Nat}:(∀ (j:Nat) (p:Addr) (f:Nat->List (Key×FD)),ls[j]?=some (p,f)->Known H p f n)->Rep K H .cF (.vL a ls n)
 | qz {s a C dx:Addr} {fv:List (Str×V)} {fs:List (Str×Dt)} {gs:List (Nat->List (Key×FD))} {nm:List Str} {n:Nat} {ls:iK}:ls.map (·.2)=gs->Rd H s (.ins C dx fv)->aZ K H fv (ql fs nm a ls n)->Rep K H (.ref s) (.qz C fs gs nm n)
 | gW {v:V} {fd:FD}:Fz H v fd->Rep K H v (.gW fd)
 | kW {a:Addr} {LO:List (List Key×Int)}:H a=some (.dT (LO.map fun k=>(k.1,V.int k.2)))->Rep K H (.ref a) (.kW LO)
inductive bc (K:W.Frag)(H:Hp):List V->List Dt->Prop
 | nil:bc K H [] []
 | cons {v:V} {d:Dt} {vs:List V} {ds:List Dt}:Rep K H v d->bc K H vs ds->bc K H (v::vs) (d::ds)
inductive cB (K:W.Frag)(H:Hp):List (Key×V)->List (Key×Dt)->Prop
 | nil:cB K H [] []
 | cons {k:Key} {v:V} {d:Dt} {vs:List (Key×V)} {ds:List (Key×Dt)}:Rep K H v d->cB K H vs ds->cB K H ((k,v)::vs) ((k,d)::ds)
inductive aZ (K:W.Frag)(H:Hp):List (Str×V)->List (Str×Dt)->Prop
 | nil:aZ K H [] []
 | cons {k:Str} {v:V} {d:Dt} {vs:List (Str×V)} {ds:List (Str×Dt)}:Rep K H v d->aZ K H vs ds->aZ K H ((k,v)::vs) ((k,d)::ds)
end
theorem dt {H H':Hp}{a:Addr}{u:HO}(e:aD H H')(h:Rd H a u):Rd H' a u:=by
 rcases h with h | ⟨o,h⟩ | ⟨tg,o,kvs,h,z⟩ | ⟨o,h⟩
 . exact .inl (e _ _ h)
 . exact .inr (.inl ⟨o,e _ _ h⟩)
 . exact .inr (.inr (.inl ⟨tg,o,kvs,e _ _ h,z⟩))
 . exact .inr (.inr (.inr ⟨o,e _ _ h⟩))
theorem br {K:W.Frag}{H H':Hp}{a:Addr}{xs:List V}(e:aD H H')(h:sD K H a xs):sD K H' a xs:=by
 rcases h with h | h
 . exact .inl (e _ _ h)
 . exact .inr h
mutual
theorem Rep.mono {K:W.Frag}{H H':Hp}(e:aD H H'):∀ {v:V} {d:Dt},Rep K H v d->Rep K H' v d
 | _,_,.cF=>.cF
 | _,_,.bl b=>.bl b
 | _,_,.int i=>.int i
 | _,_,.str x=>.str x
 | _,_,.tup h r=>.tup (br e h) (bc.mono e r)
 | _,_,.lst h r=>.lst (e _ _ h) (bc.mono e r)
 | _,_,.oy h=>.oy (e.seq h)
 | _,_,.dZ h r=>.dZ (e _ _ h) (cB.mono e r)
 | _,_,.obj h r=>.obj (dt e h) (aZ.mono e r)
 | _,_,.ty n=>.ty n
 | _,_,.cls C=>.cls C
 | _,_,.xo h r=>.xo (e _ _ h) r
 | _,_,.oO h r=>.oO (e _ _ h) (cB.mono e r)
 | _,_,.A3 h q g r=>.A3 (e _ _ h) q (e _ _ g) (aZ.mono e r)
 | _,_,.c9 h r=>.c9 (e _ _ h) (cB.mono e r)
 | _,_,.memo h1 h2 h3 h4=>.memo h1 (e _ _ h2) (h3.imp id fun z=>e _ _ z) (h4.mono e)
 | _,_,.dq h1 h2 h3 h4=>.dq h1 (h2.mono e) (h3.imp id fun z=>e _ _ z) (h4.mono e)
 | _,_,.vL h=>.vL fun j p f z=>(h j p f z).mono e
 | _,_,.qz h1 h2 h3=>.qz h1 (dt e h2) (aZ.mono e h3)
 | _,_,.gW h=>.gW (h.st fun b u q _=>e b u q)
 | _,_,.kW h=>.kW (e _ _ h)
theorem bc.mono {K:W.Frag}{H H':Hp}(e:aD H H'):∀ {v:List V} {d:List Dt},bc K H v d->bc K H' v d
 | _,_,.nil=>.nil
 | _,_,.cons h r=>.cons (Rep.mono e h) (bc.mono e r)
theorem cB.mono {K:W.Frag}{H H':Hp}(e:aD H H'):∀ {v:List (Key×V)} {d:List (Key×Dt)},cB K H v d->cB K H' v d
 | _,_,.nil=>.nil
 | _,_,.cons h r=>.cons (Rep.mono e h) (cB.mono e r)
theorem aZ.mono {K:W.Frag}{H H':Hp}(e:aD H H'):∀ {v:List (Str×V)} {d:List (Str×Dt)},aZ K H v d->aZ K H' v d
 | _,_,.nil=>.nil
 | _,_,.cons h r=>.cons (Rep.mono e h) (aZ.mono e r)
end
theorem bc.length {K:W.Frag}{H:Hp}:∀ {v:List V} {d:List Dt},bc K H v d->v.length=d.length
 | _,_,.nil=>rfl
 | _,_,.cons _ r=>congrArg (·+1) (bc.length r)
theorem bc.get {K:W.Frag}{H:Hp}:∀ {v:List V} {d:List Dt} {i:Nat} {x:Dt},bc K H v d->d[i]?=some x->∃ y,v[i]?=some y/\Rep K H y x
 | _,_,_,_,.nil,e=>by simp at e
 | _,_,0,_,.cons h _,e=>by simp at e;subst e;exact⟨_,rfl,h⟩
 | _,_,i+1,x,.cons _ r,e=>by
   obtain⟨y,h1,h2⟩:=bc.get (i:=i) (x:=x) r (by simpa using e)
   exact⟨y,by simpa using h1,h2⟩
theorem bc.get' {K:W.Frag}{H:Hp}{v:List V}{d:List Dt}{i:Nat}{y:V}(r:bc K H v d)(e:v[i]?=some y):∃ x,d[i]?=some x/\Rep K H y x:=by
 have hi:i < v.length:=(List.getElem?_eq_some_iff.mp e).1
 have Tu:i < d.length:=by rw[<- r.length];exact hi
 obtain⟨z,h1,h2⟩:=r.get (List.getElem?_eq_getElem Tu)
 rw[e] at h1;cases h1
 exact⟨_,List.getElem?_eq_getElem Tu,h2⟩
theorem bc.append {K:W.Frag}{H:Hp}:∀ {v:List V} {d:List Dt} {v':List V} {d':List Dt},bc K H v d->bc K H v' d'->bc K H (v ++ v') (d ++ d')
 | _,_,_,_,.nil,s=>s
 | _,_,_,_,.cons h r,s=>.cons h (bc.append r s)
theorem bc.take {K:W.Frag}{H:Hp}:∀ {v:List V} {d:List Dt} (n:Nat),bc K H v d->bc K H (v.take n) (d.take n)
 | _,_,0,_=>.nil
 | _,_,_+1,.nil=>.nil
 | _,_,n+1,.cons h r=>.cons h (bc.take n r)
theorem bc.set {K:W.Frag}{H:Hp}{y:V}{x:Dt}(q:Rep K H y x):∀ {v:List V} {d:List Dt} (n:Nat),bc K H v d->bc K H (v.set n y) (d.set n x)
 | _,_,_,.nil=>.nil
 | _,_,0,.cons _ r=>.cons q r
 | _,_,n+1,.cons h r=>.cons h (bc.set q n r)
theorem aZ.lookup {K:W.Frag}{H:Hp}{f:Str}:∀ {v:List (Str×V)} {d:List (Str×Dt)} {x:Dt},aZ K H v d->d.lookup f=some x->∃ y,v.lookup f=some y/\Rep K H y x
 | _,_,_,.nil,e=>by simp at e
 | (k,v)::r,(_,d)::s,x,.cons h t,e=>by
   rw[List.lookup_cons] at e ⊢
   cases q:(f == k) with
   | true=>rw[q] at e;cases e;exact⟨v,rfl,h⟩
   | false=>rw[q] at e;exact aZ.lookup t e
theorem aZ.none_of {K:W.Frag}{H:Hp}{f:Str}:∀ {v:List (Str×V)} {d:List (Str×Dt)},aZ K H v d->d.lookup f=none->v.lookup f=none
 | _,_,.nil,_=>rfl
 | (k,v)::r,(_,d)::s,.cons h t,e=>by
   rw[List.lookup_cons] at e ⊢
   cases q:(f == k) with
   | true=>rw[q] at e;cases e
   | false=>rw[q] at e;exact aZ.none_of t e
theorem aZ.length {K:W.Frag}{H:Hp}:∀ {v:List (Str×V)} {d:List (Str×Dt)},aZ K H v d->v.length=d.length
 | _,_,.nil=>rfl
 | _,_,.cons _ r=>congrArg (·+1) (aZ.length r)
theorem cB.length {K:W.Frag}{H:Hp}:∀ {v:List (Key×V)} {d:List (Key×Dt)},cB K H v d->v.length=d.length
 | _,_,.nil=>rfl
 | _,_,.cons _ r=>congrArg (·+1) (cB.length r)
structure aP (Hf H aF H':Hp):Prop where
 big:aD H H'
 aW:aD Hf aF
 sub:aD aF H'
 new:∀ a o,aF a=some o->(∃ o,Hf a=some o)\/H a=Option.none\/Kept o
theorem aP.refl {Hf H:Hp}(s:aD Hf H):aP Hf H Hf H:=⟨aD.refl _,aD.refl _,s,fun a o h=>.inl ⟨o,h⟩⟩
theorem aP.trans {Hf H au H1 bT H2:Hp}(a:aP Hf H au H1)(b:aP au H1 bT H2):aP Hf H bT H2:=
 ⟨a.big.trans b.big,a.aW.trans b.aW,b.sub,fun x o h=>by
   rcases b.new x o h with⟨o',h'⟩ | h' | h'
   . have e:=b.aW _ _ h'
     rw[h] at e;cases e
     exact a.new x o h'
   . exact .inr (.inl (a.big.free h'))
   . exact .inr (.inr h')⟩
theorem aP.ua {Hf H aF H':Hp}(g:aP Hf H aF H'){a:Addr}{u o:HO}(h:H a=some u)(nk:¬ Kept u)(q:aF a=some o):∃ o,Hf a=some o:=by
 rcases g.new a o q with z | z | z
 . exact z
 . rw[h] at z;cases z
 . have e:=g.big _ _ h
   rw[g.sub _ _ q] at e;cases e
   exact absurd z nk
theorem a5 {H:Hp}{p:Addr}{o:HO}(n:H p=Option.none):aD H (upd H p o):=fun b u e=>by
 rw[ag (aw e n)];exact e
theorem cH {Hf H:Hp}{p:Addr}{o:HO}(s:aD Hf H):aD (upd Hf p o) (upd H p o):=fun b u e=>by
 by_cases hb:b=p
 . subst hb;rw[aj] at e ⊢;exact e
 . rw[ag hb] at e ⊢;exact s _ _ e
theorem qA {Hf H:Hp}{p:Addr}{o:HO}(s:aD Hf H)(n:Hf p=Option.none):aD Hf (upd H p o):=fun b u e=>by
 rw[ag (aw e n)];exact s _ _ e
theorem aP.alloc {Hf H:Hp}{p:Addr}{o:HO}(s:aD Hf H)(n:H p=Option.none):aP Hf H (upd Hf p o) (upd H p o):=
 ⟨a5 n,a5 (s.free n),cH s,fun a u h=>by
   by_cases hb:a=p
   . subst hb;exact .inr (.inl n)
   . rw[ag hb] at h;exact .inl ⟨u,h⟩⟩
theorem aP.dH {Hf H:Hp}{p:Addr}{o:HO}(s:aD Hf H)(n:H p=Option.none):aP Hf H Hf (upd H p o):=
 ⟨a5 n,aD.refl _,qA s (s.free n),fun a u h=>.inl ⟨u,h⟩⟩
inductive Own where
 | lst (ds:List Dt)
 | dZ (kds:List (Key×Dt))
 | obj (C:Addr) (fs:List (Str×Dt))
 | zH (x:Addr) (C:Addr) (fs:List (Str×Dt))
 | oP (C:Addr) (fs:List (Str×Dt)) (gs:List (Nat->List (Key×FD))) (nm:List Str) (n:Nat)
 | xE (x:Addr) (C:Addr) (fs:List (Str×Dt)) (gs:List (Nat->List (Key×FD))) (nm:List Str) (n:Nat)
 | kW (LO:List (List Key×Int))
inductive Slot where
 | bV
 | val (d:Dt)
 | own (o:Own)
noncomputable def gd (K:W.Frag)(Hf H:Hp)(a:Addr):Own->Prop
 | .lst ds=>∃ vs,H a=some (.lst vs)/\bc K Hf vs ds
 | .dZ kds=>∃ kvs,H a=some (.dK kvs)/\cB K Hf kvs kds
 | .obj C ds=>∃ dx fs,H a=some (.ins C dx fs)/\aZ K Hf fs ds
 | .zH x C ds=>a=x/\∃ dx fs,H a=some (.ins C dx fs)/\aZ K Hf fs ds
 | .oP C ds gs nm n=>∃ dx fs b ls,(ls:iK).map (·.2)=gs/\H a=some (.ins C dx fs)/\aZ K Hf fs (ql ds nm b ls n)
 | .xE x C ds gs nm n=>a=x/\∃ dx fs b ls,(ls:iK).map (·.2)=gs/\H a=some (.ins C dx fs)/\aZ K Hf fs (ql ds nm b ls n)
 | .kW LO=>H a=some (.dT (LO.map fun k=>(k.1,V.int k.2)))
theorem gd.Ra {K:W.Frag}{Hf H:Hp}{a:Addr}:∀ {o:Own},gd K Hf H a o->∃ u,H a=some u/\¬ Kept u
 | .lst _,⟨_,h,_⟩=>⟨_,h,fun z=>z⟩
 | .dZ _,⟨_,h,_⟩=>⟨_,h,fun z=>z⟩
 | .obj _ _,⟨_,_,h,_⟩=>⟨_,h,fun z=>z⟩
 | .zH _ _ _,⟨_,_,_,h,_⟩=>⟨_,h,fun z=>z⟩
 | .oP _ _ _ _ _,⟨_,_,_,_,_,h,_⟩=>⟨_,h,fun z=>z⟩
 | .xE _ _ _ _ _ _,⟨_,_,_,_,_,_,h,_⟩=>⟨_,h,fun z=>z⟩
 | .kW _,h=>⟨_,h,fun z=>z⟩
theorem gd.some {K:W.Frag}{Hf H:Hp}{a:Addr}:∀ {o:Own},gd K Hf H a o->∃ u,H a=some u
 | .lst _,⟨_,h,_⟩=>⟨_,h⟩
 | .dZ _,⟨_,h,_⟩=>⟨_,h⟩
 | .obj _ _,⟨_,_,h,_⟩=>⟨_,h⟩
 | .zH _ _ _,⟨_,_,_,h,_⟩=>⟨_,h⟩
 | .oP _ _ _ _ _,⟨_,_,_,_,_,h,_⟩=>⟨_,h⟩
 | .xE _ _ _ _ _ _,⟨_,_,_,_,_,_,h,_⟩=>⟨_,h⟩
 | .kW _,h=>⟨_,h⟩
theorem gd.grow {K:W.Frag}{Hf H aF H':Hp}{a:Addr}(e:H' a=H a)(f:aD Hf aF):∀ {o:Own},gd K Hf H a o->gd K aF H' a o
 | .lst _,⟨vs,h,r⟩=>⟨vs,by rw[e];exact h,r.mono f⟩
 | .dZ _,⟨vs,h,r⟩=>⟨vs,by rw[e];exact h,r.mono f⟩
 | .obj _ _,⟨dx,fs,h,r⟩=>⟨dx,fs,by rw[e];exact h,r.mono f⟩
 | .zH _ _ _,⟨q,dx,fs,h,r⟩=>⟨q,dx,fs,by rw[e];exact h,r.mono f⟩
 | .oP _ _ _ _ _,⟨dx,fs,b,ls,q,h,r⟩=>⟨dx,fs,b,ls,q,by rw[e];exact h,r.mono f⟩
 | .xE _ _ _ _ _ _,⟨q0,dx,fs,b,ls,q,h,r⟩=>⟨q0,dx,fs,b,ls,q,by rw[e];exact h,r.mono f⟩
 | .kW LO,h=>(show H' a=Option.some (HO.dT (LO.map fun k=>(k.1,V.int k.2))) from by rw[e];exact h)
structure Gr where
 Hf:Hp
 H:Hp
structure cS (K:W.Frag)(G:Gr)(st:L2.St)(Hf H:Hp)(dl:List Slot):Prop where
 gr:aP G.Hf G.H Hf H
 len:st.length=dl.length
 val:∀ (i:Nat) d,dl[i]?=some (.val d)->∃ v,st[i]?=some (some v)/\Rep K Hf v d
 own:∀ (i:Nat) o,dl[i]?=some (.own o)->∃ a,st[i]?=some (some (.ref a))/\Hf a=Option.none/\G.H a=Option.none/\gd K Hf H a o
 D2:∀ (i j:Nat) o o' a,dl[i]?=some (.own o)->dl[j]?=some (.own o')->st[i]?=some (some (.ref a))->st[j]?=some (some (.ref a))->i=j
section
variable {K:W.Frag}{G:Gr}{st:L2.St}{Hf H aF H':Hp}{dl dl':List Slot}
theorem cS.sub (S:cS K G st Hf H dl):aD Hf H:=S.gr.sub
theorem cS.grow (S:cS K G st Hf H dl)(g:aP Hf H aF H'):cS K G st aF H' dl:=by
 refine⟨S.gr.trans g,S.len,fun i d h=>let ⟨v,h1,h2⟩:=S.val i d h;⟨v,h1,h2.mono g.aW⟩,fun i o h=>?_,S.D2⟩
 obtain⟨a,h1,h2,h3,h4⟩:=S.own i o h
 obtain⟨u,hu,nk⟩:=h4.Ra
 refine⟨a,h1,?_,h3,h4.grow (by rw[hu];exact g.big _ _ hu) g.aW⟩
 cases q:aF a with
 | none=>rfl
 | some u'=>
   obtain⟨o',z⟩:=g.ua hu nk q
   rw[h2] at z;cases z
theorem cS.set (S:cS K G st Hf H dl){i:Nat}{v:V}{d:Dt}(r:Rep K Hf v d):cS K G (st.set i (some v)) Hf H (dl.set i (.val d)):=by
 have ln:=S.len
 refine⟨S.gr,by simp[S.len],fun j x h=>?_,fun j o h=>?_,fun j k o o' a h1 h2 h3 h4=>?_⟩
 . by_cases e:i=j
   . subst e
     by_cases hl:i < dl.length
     . rw[List.getElem?_set_self hl] at h;cases h
       exact⟨v,List.getElem?_set_self (by omega),r⟩
     . rw[List.getElem?_eq_none (by simp;omega)] at h;cases h
   . rw[List.getElem?_set_ne e] at h ⊢;exact S.val j x h
 . by_cases e:i=j
   . subst e
     by_cases hl:i < dl.length
     . rw[List.getElem?_set_self hl] at h;cases h
     . rw[List.getElem?_eq_none (by simp;omega)] at h;cases h
   . rw[List.getElem?_set_ne e] at h ⊢;exact S.own j o h
 . have nj:i≠j:=fun e=>by
     subst e
     by_cases hl:i < dl.length
     . rw[List.getElem?_set_self hl] at h1;cases h1
     . rw[List.getElem?_eq_none (by simp;omega)] at h1;cases h1
   have nk:i≠k:=fun e=>by
     subst e
     by_cases hl:i < dl.length
     . rw[List.getElem?_set_self hl] at h2;cases h2
     . rw[List.getElem?_eq_none (by simp;omega)] at h2;cases h2
   rw[List.getElem?_set_ne nj] at h1 h3
   rw[List.getElem?_set_ne nk] at h2 h4
   exact S.D2 j k o o' a h1 h2 h3 h4
theorem cS.JG (S:cS K G st Hf H dl){i:Nat}{p:Addr}{o:HO}{w w':Own}(hi:dl[i]?=some (.own w))(hp:st[i]?=some (some (.ref p)))(r:gd K Hf (upd H p o) p w'):cS K G st Hf (upd H p o) (dl.set i (.own w')):=by
 have ln:=S.len
 obtain⟨p',q1,q2,q3,q4⟩:=S.own i w hi
 rw[hp] at q1;cases q1
 have hl:i < dl.length:=(List.getElem?_eq_some_iff.mp hi).1
 have g:aP G.Hf G.H Hf (upd H p o):=⟨fun b u e=>by rw[ag (aw e q3)];exact S.gr.big _ _ e,S.gr.aW,qA S.sub q2,S.gr.new⟩
 refine⟨g,by simp[S.len],fun j x h=>?_,fun j o' h=>?_,fun j k o1 o2 a h1 h2 h3 h4=>?_⟩
 . by_cases e:i=j
   . subst e;rw[List.getElem?_set_self hl] at h;cases h
   . rw[List.getElem?_set_ne e] at h;exact S.val j x h
 . by_cases e:i=j
   . subst e;rw[List.getElem?_set_self hl] at h;cases h
     exact⟨p,hp,q2,q3,r⟩
   . rw[List.getElem?_set_ne e] at h
     obtain⟨a,z1,z2,z3,z4⟩:=S.own j o' h
     have:a≠p:=fun q=>by subst q;exact e (S.D2 i j _ _ _ hi h hp z1)
     exact⟨a,z1,z2,z3,z4.grow (ag this) (aD.refl _)⟩
 . have tr:∀ (j:Nat) o',(dl.set i (.own w'))[j]?=some (.own o')->∃ Nx,dl[j]?=some (.own Nx):=fun j o' h=>by
     by_cases e:i=j
     . subst e;exact⟨_,hi⟩
     . rw[List.getElem?_set_ne e] at h;exact⟨_,h⟩
   obtain⟨_,t1⟩:=tr j o1 h1
   obtain⟨_,t2⟩:=tr k o2 h2
   exact S.D2 j k _ _ a t1 t2 h3 h4
noncomputable def Le (dl dl':List Slot):Prop:=dl.length=dl'.length/\∀ (i:Nat) s,dl[i]?=some s->s≠.bV->dl'[i]?=some s
theorem Le.refl (dl:List Slot):Le dl dl:=⟨rfl,fun _ _ h _=>h⟩
theorem cS.weak (S:cS K G st Hf H dl')(l:Le dl dl'):cS K G st Hf H dl:=
 ⟨S.gr,by rw[S.len,l.1],fun i d h=>S.val i d (l.2 i _ h (by intro z;cases z)),fun i o h=>S.own i o (l.2 i _ h (by intro z;cases z)),
  fun i j o o' a h1 h2=>S.D2 i j o o' a (l.2 i _ h1 (by intro z;cases z)) (l.2 j _ h2 (by intro z;cases z))⟩
noncomputable def Rb:List Slot->List Slot->Prop
 | [],[]=>True
 | .bV::r,_::s=>Rb r s
 | x::r,y::s=>x=y/\Rb r s
 | _,_=>False
theorem Le.of:∀ {dl dl':List Slot},Rb dl dl'->Le dl dl'
 | [],[],_=>Le.refl _
 | .bV::r,y::s,h=>by
   have q:=Le.of (dl:=r) (dl':=s) h
   refine⟨congrArg (·+1) q.1,fun i x e n=>?_⟩
   cases i with
   | zero=>simp at e;exact absurd e.symm n
   | succ i=>exact q.2 i x (by simpa using e) n
 | .val d::r,y::s,h=>by
   obtain⟨h1,h2⟩:=(show Slot.val d=y/\Rb r s from h)
   subst h1
   have q:=Le.of h2
   refine⟨congrArg (·+1) q.1,fun i x e n=>?_⟩
   cases i with
   | zero=>exact e
   | succ i=>exact q.2 i x (by simpa using e) n
 | .own d::r,y::s,h=>by
   obtain⟨h1,h2⟩:=(show Slot.own d=y/\Rb r s from h)
   subst h1
   have q:=Le.of h2
   refine⟨congrArg (·+1) q.1,fun i x e n=>?_⟩
   cases i with
   | zero=>exact e
   | succ i=>exact q.2 i x (by simpa using e) n
end
noncomputable def tD (K:PySem.W.Frag)(G:Gr)(dl:List Slot)(d:Dt):TE:=fun st H Q=>∃ Hf,cS K G st Hf H dl/\∀ v aF H',aP Hf H aF H'->Rep K aF v d->Q v H'
noncomputable def Tv (K:PySem.W.Frag)(G:Gr)(dl:List Slot)(ds:List Dt):TA:=fun st H Q=>∃ Hf,cS K G st Hf H dl/\∀ vs aF H',aP Hf H aF H'->bc K aF vs ds->Q vs H'
noncomputable def Tw (K:PySem.W.Frag)(G:Gr)(dl:List Slot)(b:Bool):TT:=fun st H Q=>∃ Hf,cS K G st Hf H dl/\∀ aF H',aP Hf H aF H'->Q b H'
noncomputable abbrev EE (X:Cx)(G:Gr)(dl:List Slot)(e:Expr)(d:Dt):Prop:=PE X e (tD X.K G dl d)
noncomputable abbrev EA (X:Cx)(G:Gr)(dl:List Slot)(es:List Expr)(ds:List Dt):Prop:=PA X es (Tv X.K G dl ds)
noncomputable abbrev EB (X:Cx)(G:Gr)(dl:List Slot)(e:Expr)(b:Bool):Prop:=PT X e (Tw X.K G dl b)
noncomputable def ExcAt (K:PySem.W.Frag)(Hf:Hp)(od:Option Addr)(fs:List (Str×Dt)):Prop:=match od with
 | none=>fs=[]
 | some dx=>∃ fv,Hf dx=some (.xd fv)/\aZ K Hf fv fs
inductive Out where
 | nx (dl:List Slot)
 | rt (d:Dt)
 | ro (w:Own)
 | bk (dl:List Slot)
 | ct (dl:List Slot)
 | ex (c:Value) (fs:List (Str×Dt))
 | raw (R:L2.St->Hp->Prop)
noncomputable def ub (K:W.Frag)(G:Gr)(E:XK)(D:Ends)(Hf:Hp):Out->Prop
 | .nx dl=>∀ st aF H,aD Hf aF->cS K G st aF H dl->D.nx st H
 | .bk dl=>∀ st aF H,aD Hf aF->cS K G st aF H dl->D.bk st H
 | .ct dl=>∀ st aF H,aD Hf aF->cS K G st aF H dl->D.ct st H
 | .rt d=>∀ v aF H,aP G.Hf G.H aF H->Rep K aF v d->D.rt v H
 | .ro o=>∀ p aF H,aP G.Hf G.H aF H->G.H p=none->aF p=none->gd K aF H p o->D.rt (.ref p) H
 | .ex c fs=>∀ od aF H,aP G.Hf G.H aF H->ExcAt K aF od fs->E c od H
 | .raw R=>∀ st H,R st H->D.nx st H
theorem ub.mono {K:W.Frag}{G:Gr}{E:XK}{D:Ends}{Hf au:Hp}(s:aD Hf au):∀ {o:Out},ub K G E D Hf o->ub K G E D au o
 | .nx _,k=>fun st aF H s' S=>k st aF H (s.trans s') S
 | .bk _,k=>fun st aF H s' S=>k st aF H (s.trans s') S
 | .ct _,k=>fun st aF H s' S=>k st aF H (s.trans s') S
 | .rt _,k=>k
 | .ro _,k=>k
 | .ex _ _,k=>k
 | .raw _,k=>k
noncomputable def tO (K:W.Frag)(G:Gr)(E:XK)(dl:List Slot)(o:Out):TS:=fun D st H=>∃ Hf,cS K G st Hf H dl/\ub K G E D Hf o
noncomputable abbrev ES (X:Cx)(G:Gr)(E:XK)(dl:List Slot)(s:Stmt)(o:Out):Prop:=PS X s (tO X.K G E dl o)
noncomputable abbrev lu (X:Cx)(G:Gr)(E:XK)(dl:List Slot)(s:List Stmt)(o:Out):Prop:=tW X s (tO X.K G E dl o)
theorem fB {X:Cx}{e:Expr}{t t':TE}(h:PE X e t)(i:∀ st H Q,t' st H Q->t st H Q):PE X e t':=fun pins s st H Q I q=>h pins s st H Q I (i st H Q q)
theorem Rc {X:Cx}{e:Expr}{t t':TT}(h:PT X e t)(i:∀ st H Q,t' st H Q->t st H Q):PT X e t':=fun pins s st H Q I q=>h pins s st H Q I (i st H Q q)
theorem Xl {X:Cx}{e:List Expr}{t t':TA}(h:PA X e t)(i:∀ st H Q,t' st H Q->t st H Q):PA X e t':=fun pos pins s st H Q I q=>h pos pins s st H Q I (i st H Q q)
theorem wG {X:Cx}{e:Stmt}{t t':TS}(h:PS X e t)(i:∀ D st H,t' D st H->t D st H):PS X e t':=fun pins s st H D I q=>h pins s st H D I (i D st H q)
theorem rT {X:Cx}{e:List Stmt}{t t':TS}(h:tW X e t)(i:∀ D st H,t' D st H->t D st H):tW X e t':=fun pins s st H D I q=>h pins s st H D I (i D st H q)
section
variable {X:Cx}{G:Gr}{dl:List Slot}{a b e:Expr}{i j:Int}{d d1 d2:Dt}{pos:Pos}{x y:Str}{u v:Bool}
theorem aa (n:Nat){x:Str}{pos:Pos}(hd:dl[n]?=some (.val d):=by rfl)(hN:X.N[n]?=some x:=by rfl)(hv:vH X.env.scope x:=by first | exact Or.inl rfl | exact Or.inr (Or.inl rfl) | exact Or.inr (Or.inr rfl))(hb:(x == ("__debug__":Str))=false:=by decide)(lP:(x == ("__classdict__":Str))=false:=by decide):EE X G dl (.Name x pos) d:=
 fB (iO hN hv hb lP) fun st H Q ⟨Hf,S,k⟩=>let ⟨v,h1,h2⟩:=S.val n d hd;⟨v,h1,k v Hf H (.refl S.sub) h2⟩
theorem af {z:Int}{j pos}:EE X G dl (.Constant (.int z) j pos) (.int z):=fB Fj fun st H Q ⟨Hf,S,k⟩=>k _ Hf H (.refl S.sub) (.int z)
theorem bP {z:Str}{j pos}:EE X G dl (.Constant (.str z) j pos) (.str z):=fB MO fun st H Q ⟨Hf,S,k⟩=>k _ Hf H (.refl S.sub) (.str z)
noncomputable def CA (K:W.Frag)(r:R2)(d1 d2 d:Dt):Prop:=∀ v w Hf H Q,aD Hf H->Rep K Hf v d1->Rep K Hf w d2->(∀ u aF H',aP Hf H aF H'->Rep K aF u d->Q u H')->r v w H Q
theorem ue {r:R2}(h:CA X.K r d1 d2 d):∀ st H Q,tD X.K G dl d st H Q->QE r (tD X.K G dl d1) (tD X.K G dl d2) st H Q:=fun st H Q ⟨Hf,S,k⟩=>
 ⟨Hf,S,fun v au H1 g1 r1=>⟨au,S.grow g1,fun w bT H2 g2 r2=>h v w bT H2 Q g2.sub (r1.mono g2.aW) r2 fun u iP H3 g3 r3=>k u iP H3 ((g1.trans g2).trans g3) r3⟩⟩
theorem uf {op:Operator}{r:R2}(ho:nC X (binaryOp op) r)(h:CA X.K r d1 d2 d)(ha:EE X G dl a d1)(hb:EE X G dl b d2):EE X G dl (.BinOp a op b pos) d:=fB (LH ho ha hb) (ue h)
theorem qB {op:CmpOp}{r:R2}(ho:nC X (compareOp op) r)(h:CA X.K r d1 d2 d)(hm:behindInMarks op b=false)(ha:EE X G dl a d1)(hb:EE X G dl b d2):EE X G dl (.Compare a [op] [b] pos) d:=fB (Jp ho ha hb hm) (ue h)
theorem kX {op:CmpOp}{r:R2}(ho:nC X (compareOp op) r)(h:CA X.K r d1 d2 (.bl u))(hm:behindInMarks op b=false)(ha:EE X G dl a d1)(hb:EE X G dl b d2):EB X G dl (.Compare a [op] [b] pos) u:=
 Rc (Jq ho ha hb hm) fun st H Q ⟨Hf,S,k⟩=>ue h st H _ ⟨Hf,S,fun v aF H' g r=>by cases r;exact⟨u,rfl,k aF H' g⟩⟩
theorem pH {K:W.Frag}{g:Int->Int->V}{g':Int->Int->Dt}(h:∀ K H i j,Rep K H (g i j) (g' i j)):CA K (Jm g) (.int i) (.int j) (g' i j):=fun v w Hf H Q s r1 r2 k=>by
 cases r1;cases r2;exact⟨i,j,rfl,rfl,k _ Hf H (.refl s) (h _ _ _ _)⟩
theorem JH {K:W.Frag}{C:Int->Int->Prop}{g:Int->Int->V}{g':Int->Int->Dt}(h:∀ K H i j,Rep K H (g i j) (g' i j))(hc:C i j):CA K (rI C g) (.int i) (.int j) (g' i j):=fun v w Hf H Q s r1 r2 k=>by
 cases r1;cases r2;exact⟨i,j,rfl,rfl,hc,k _ Hf H (.refl s) (h _ _ _ _)⟩
theorem aN (ha:EE X G dl a (.int i))(hb:EE X G dl b (.int j)):EE X G dl (.BinOp a .Add b pos) (.int (i+j)):=uf M6 (pH (g':=fun i j=>.int (i+j)) fun _ _ _ _=>.int _) ha hb
theorem gM (ha:EE X G dl a (.int i))(hb:EE X G dl b (.int j)):EE X G dl (.BinOp a .Sub b pos) (.int (i - j)):=uf M7 (pH (g':=fun i j=>.int (i - j)) fun _ _ _ _=>.int _) ha hb
theorem JI:nC X (binaryOp .Mult) (rI IntMulOk fun i j=>.int (i * j)):=Tp fun _ _ _ _ _ _ _ hc q=>mul_int q hc
theorem fP (ha:EE X G dl a (.int i))(hb:EE X G dl b (.int j))(hc:IntMulOk i j):EE X G dl (.BinOp a .Mult b pos) (.int (i * j)):=uf JI (JH (g':=fun i j=>.int (i * j)) (fun _ _ _ _=>.int _) hc) ha hb
theorem FQ:nC X (binaryOp .FloorDiv) (rI (fun _ j=>0 < j/\j.natAbs.log2 < 9000) fun i j=>.int (i / j)):=Tp fun i j _ _ _ _ _ hc q=>by
 refine floordiv_int (Int.ne_of_gt hc.1) ?_ (.inl (PyProof.noPylong_of_log2 hc.2))
 rw[Int.fdiv_eq_ediv_of_nonneg _ (Int.le_of_lt hc.1)]
 exact q
theorem gY (ha:EE X G dl a (.int i))(hb:EE X G dl b (.int j))(hc:0 < j/\j.natAbs.log2 < 9000):EE X G dl (.BinOp a .FloorDiv b pos) (.int (i / j)):=uf FQ (JH (g':=fun i j=>.int (i / j)) (fun _ _ _ _=>.int _) hc) ha hb
theorem d8 (ha:EE X G dl a (.int i))(hb:EE X G dl b (.int j))(hc:0 < j):EE X G dl (.BinOp a .Mod b pos) (.int (i % j)):=uf M8 (JH (g':=fun i j=>.int (i % j)) (fun _ _ _ _=>.int _) hc) ha hb
theorem Ny (ha:EE X G dl a (.int i))(hb:EE X G dl b (.int j))(hc:QH i j):EE X G dl (.BinOp a .Pow b pos) (.int (i ^ j.toNat)):=uf M9 (JH (g':=fun i j=>.int (i ^ j.toNat)) (fun _ _ _ _=>.int _) hc) ha hb
theorem Nz {K:W.Frag}(h:x.length+y.length<=sizeLine):CA K (fun a b H Q=>∃ i j,a=.str i/\b=.str j/\i.length+j.length<=sizeLine/\Q (.str (i ++ j)) H) (.str x) (.str y) (.str (x ++ y)):=fun v w Hf H Q s r1 r2 k=>by
 cases r1;cases r2;exact⟨x,y,rfl,rfl,h,k _ Hf H (.refl s) (.str _)⟩
theorem NA (ha:EE X G dl a (.str x))(hb:EE X G dl b (.str y))(h:x.length+y.length<=sizeLine):EE X G dl (.BinOp a .Add b pos) (.str (x ++ y)):=uf A9 (Nz h) ha hb
theorem gN (ha:EE X G dl a (.int i)):EE X G dl (.UnaryOp .USub a pos) (.int (-i)):=
 fB (QF Na ha) fun st H Q ⟨Hf,S,k⟩=>⟨Hf,S,fun v au H1 g1 r1=>by cases r1;exact⟨i,rfl,k _ au H1 g1 (.int _)⟩⟩
theorem Rf (ha:EE X G dl a (.int i))(hb:EE X G dl b (.int j)):EE X G dl (.Compare a [.Gt] [b] pos) (.bl (decide (j < i))):=qB LI (pH (g':=fun i j=>.bl (decide (j < i))) fun _ _ _ _=>.bl _) (jt _) ha hb
theorem ug (h:EE X G dl e (.bl u))(he:∀ whole,isTrue e X.env whole=(do let v <- whole;standAt e.pos;holding [v] (truthy v)):=by intro _;rfl):EB X G dl e u:=
 Rc (MP h he) fun st H Q ⟨Hf,S,k⟩=>⟨Hf,S,fun v au H1 g1 r1=>by cases r1;exact⟨u,rfl,k au H1 g1⟩⟩
end
section
variable {X:Cx}{G:Gr}{E:XK}{dl dl1:List Slot}{a b c e:Expr}{es:List Expr}{i j:Int}{d d1:Dt}{ds:List Dt}{pos:Pos}{o o':Out}{x:Str}{u v:Bool}{rest:List Expr}{sts D3:List Stmt}{s:Stmt}
theorem Bk:PE X e fun _ _ _=>False:=fun _ _ _ _ _ _ h=>h.elim
theorem pw_nev:PW X e fun _ _ _=>False:=fun _ _ _ _ _ _ _ h=>h.elim
noncomputable abbrev EW (X:Cx)(G:Gr)(dl:List Slot)(e:Expr)(b:Bool):Prop:=PW X e (Tw X.K G dl b)
theorem Tz {e:Expr}{t t':TT}(h:PW X e t)(i:∀ st H Q,t' st H Q->t st H Q):PW X e t':=fun wh pins s st H Q I q=>h wh pins s st H Q I (i st H Q q)
theorem JJ (ha:EB X G dl a u):EW X G dl (.BoolOp .And [a] pos) u:=pw_and1 ha
theorem uh (ha:EB X G dl a u):EW X G dl (.BoolOp .Or [a] pos) u:=pw_or1 ha
theorem FR (ha:EB X G dl a u)(hb:u=true->EW X G dl (.BoolOp .And (b::rest) pos) v):EW X G dl (.BoolOp .And (a::b::rest) pos) (u && v):=by
 cases u with
 | true=>exact Tz (pw_and ha (hb rfl)) fun st H Q ⟨Hf,S,k⟩=>⟨Hf,S,fun au H1 g1=>Bi ⟨au,S.grow g1,fun bT H2 g2=>k bT H2 (g1.trans g2)⟩⟩
 | false=>exact Tz (pw_and ha pw_nev) fun st H Q ⟨Hf,S,k⟩=>⟨Hf,S,fun au H1 g1=>zF (k au H1 g1)⟩
theorem uk (ha:EB X G dl a u)(hb:u=false->EW X G dl (.BoolOp .Or (b::rest) pos) v):EW X G dl (.BoolOp .Or (a::b::rest) pos) (u || v):=by
 cases u with
 | false=>exact Tz (pw_or ha (hb rfl)) fun st H Q ⟨Hf,S,k⟩=>⟨Hf,S,fun au H1 g1=>zF ⟨au,S.grow g1,fun bT H2 g2=>k bT H2 (g1.trans g2)⟩⟩
 | true=>exact Tz (pw_or ha pw_nev) fun st H Q ⟨Hf,S,k⟩=>⟨Hf,S,fun au H1 g1=>Bi (k au H1 g1)⟩
theorem D4 (h:EW X G dl e u):EB X G dl e u:=h.pt
theorem um (ha:EB X G dl a u):EB X G dl (.UnaryOp .Not a pos) (!u):=Rc (MQ ha) fun st H Q ⟨Hf,S,k⟩=>⟨Hf,S,fun au H1 g1=>k au H1 g1⟩
theorem pI (ha:EE X G dl a (.bl u)):EE X G dl (.BoolOp .And [a] pos) (.bl u):=MR ha
theorem uo (ha:EE X G dl a (.bl u))(hb:u=true->EE X G dl (.BoolOp .And (b::rest) pos) (.bl v)):EE X G dl (.BoolOp .And (a::b::rest) pos) (.bl (u && v)):=by
 cases u with
 | true=>exact fB (Fm ha (hb rfl)) fun st H Q ⟨Hf,S,k⟩=>⟨Hf,S,fun w au H1 g1 r1=>by cases r1;exact⟨true,rfl,Bi ⟨au,S.grow g1,fun w bT H2 g2 r2=>k w bT H2 (g1.trans g2) r2⟩⟩⟩
 | false=>exact fB (Fm ha Bk) fun st H Q ⟨Hf,S,k⟩=>⟨Hf,S,fun w au H1 g1 r1=>by cases r1;exact⟨false,rfl,zF (k _ au H1 g1 (.bl _))⟩⟩
theorem NB (ha:EE X G dl a (.bl u)):EE X G dl (.UnaryOp .Not a pos) (.bl (!u)):=fB (MS ha) fun st H Q ⟨Hf,S,k⟩=>⟨Hf,S,fun w au H1 g1 r1=>by cases r1;exact⟨u,rfl,k _ au H1 g1 (.bl _)⟩⟩
theorem da (h:EB X G dl e u)(q:u=v):EB X G dl e v:=by subst q;exact h
theorem bu (h:EE X G dl e d)(q:d=d1):EE X G dl e d1:=by subst q;exact h
theorem NC (hc:EB X G dl c u)(ha:u=true->EE X G dl a d)(hb:u=false->EE X G dl b d):EE X G dl (.IfExp c a b pos) d:=by
 cases u with
 | true=>exact fB (zl hc (ha rfl) Bk) fun st H Q ⟨Hf,S,k⟩=>⟨Hf,S,fun au H1 g1=>Bi ⟨au,S.grow g1,fun w bT H2 g2 r2=>k w bT H2 (g1.trans g2) r2⟩⟩
 | false=>exact fB (zl hc Bk (hb rfl)) fun st H Q ⟨Hf,S,k⟩=>⟨Hf,S,fun au H1 g1=>zF ⟨au,S.grow g1,fun w bT H2 g2 r2=>k w bT H2 (g1.trans g2) r2⟩⟩
theorem ai:EA X G dl [] []:=Xl lS fun st H Q ⟨Hf,S,k⟩=>k [] Hf H (.refl S.sub) .nil
theorem ae (ha:EE X G dl e d)(hr:EA X G dl es ds)(hs:starEach (e::es) X.env=(false,eval e X.env)::starEach es X.env:=by rfl):EA X G dl (e::es) (d::ds):=
 Xl (d7 ha hr hs) fun st H Q ⟨Hf,S,k⟩=>⟨Hf,S,fun v au H1 g1 r1=>⟨au,S.grow g1,fun vs bT H2 g2 r2=>k _ bT H2 (g1.trans g2) (.cons (r1.mono g2.aW) r2)⟩⟩
theorem aS {x1}(h:EA X G dl es ds)(hl:ds.length<=sizeLine:=by decide):EE X G dl (.Tuple es x1 pos) (.tup ds):=
 fB (FC h) fun st H Q ⟨Hf,S,k⟩=>⟨Hf,S,fun vs au H1 g1 r1=>⟨by rw[r1.length];exact hl,fun p hp=>k _ (upd au p (.tup vs)) _ (g1.trans (.alloc g1.sub hp)) (.tup (.of aj) (r1.mono (a5 (g1.sub.free hp))))⟩⟩
theorem xF (h:EA X G dl es ds)(hl:ds.length<=sizeLine:=by decide):EE X G dl (.List es pos) (.lst ds):=
 fB (t5 h) fun st H Q ⟨Hf,S,k⟩=>⟨Hf,S,fun vs au H1 g1 r1=>⟨by rw[r1.length];exact hl,fun p hp=>k _ (upd au p (.lst vs)) _ (g1.trans (.alloc g1.sub hp)) (.lst aj (r1.mono (a5 (g1.sub.free hp))))⟩⟩
theorem bc.lj {K:W.Frag}{H:Hp}{vs:List V}{ds:List Dt}{i:Int}{d:Dt}(r:bc K H vs ds)(h:L2.lj ds i=some d):∃ v,L2.lj vs i=some v/\Rep K H v d:=by
 unfold L2.lj at h ⊢
 rw[r.length]
 cases q:zy ds.length i with
 | none=>rw[q] at h;cases h
 | some n=>
   rw[q] at h
   exact r.get h
theorem ar (ha:EE X G dl a (.tup ds))(hb:EE X G dl b (.int i))(h:lj ds i=some d)(hs:jK b:=by intro _ _;rfl):EE X G dl (.Subscript a b pos) d:=
 fB (rG FG ha hb hs) (ue fun v w Hf H Q s r1 r2 k=>by
   cases r1 with
   | tup q r=>
     cases r2
     obtain⟨v,h1,h2⟩:=r.lj h
     exact⟨_,_,i,v,rfl,rfl,br s q,h1,k v Hf H (.refl s) h2⟩)
theorem qC (ha:EE X G dl a (.lst ds))(hb:EE X G dl b (.int i))(h:lj ds i=some d)(hs:jK b:=by intro _ _;rfl):EE X G dl (.Subscript a b pos) d:=
 fB (rG xy ha hb hs) (ue fun v w Hf H Q s r1 r2 k=>by
   cases r1 with
   | lst q r=>
     cases r2
     obtain⟨v,h1,h2⟩:=r.lj h
     exact⟨_,_,i,v,rfl,rfl,.of (s _ _ q),h1,k v Hf H (.refl s) h2⟩)
theorem qD {ns:List Int}{z:Int}(ha:EE X G dl a (.oy ns))(hb:EE X G dl b (.int i))(h:lj ns i=some z)(hs:jK b:=by intro _ _;rfl):EE X G dl (.Subscript a b pos) (.int z):=
 fB (rG xy ha hb hs) (ue fun v w Hf H Q s r1 r2 k=>by
   cases r1 with
   | oy q=>
     cases r2
     have h':L2.lj (ns.map V.int) i=some (.int z):=by
       unfold L2.lj at h ⊢
       rw[List.length_map]
       cases q2:zy ns.length i with
       | none=>rw[q2] at h;cases h
       | some n=>
         rw[q2] at h
         show(ns.map V.int)[n]?=_
         rw[List.getElem?_map,show ns[n]?=some z from h];rfl
     exact⟨_,_,i,_,rfl,rfl,s.seq q,h',k _ Hf H (.refl s) (.int z)⟩)
theorem ND {z:Nat}(ha:EE X G dl a (.str x))(hb:EE X G dl b (.int i))(h:lj x.cps.toList i=some z)(hl:x.length<=sizeLine)(hs:jK b:=by intro _ _;rfl):EE X G dl (.Subscript a b pos) (.str ⟨#[z]⟩):=
 fB (rG Ni ha hb hs) (ue fun v w Hf H Q s r1 r2 k=>by
   cases r1;cases r2
   exact⟨x,i,z,rfl,rfl,hl,h,k _ Hf H (.refl s) (.str _)⟩)
theorem bC:lu X G E dl [] (.nx dl):=rT Ck fun D st H ⟨Hf,S,k⟩=>k st Hf H (aD.refl _) S
theorem ak (h1:ES X G E dl s (.nx dl1))(h2:lu X G E dl1 sts o):lu X G E dl (s::sts) o:=
 rT (gb h1 h2) fun D st H ⟨Hf,S,k⟩=>⟨Hf,S,fun jr aF H' s' S'=>⟨aF,S',k.mono s'⟩⟩
theorem ao (h1:ES X G E dl s o):lu X G E dl [s] o:=kL h1
theorem ub.stop {K:W.Frag}{D D':Ends}{Hf:Hp}(h:(∀ dl,o≠.nx dl)/\∀ R,o≠.raw R)(hr:D'.rt=D.rt)(hb:D'.bk=D.bk)(hc:D'.ct=D.ct)(k:ub K G E D Hf o):ub K G E D' Hf o:=by
 cases o with
 | nx dl=>exact absurd rfl (h.1 dl)
 | raw R=>exact absurd rfl (h.2 R)
 | rt d=>show ∀ v Hf H,_->_->D'.rt v H;rw[hr];exact k
 | ro d=>show ∀ v Hf H,_->_->_->_->D'.rt _ H;rw[hr];exact k
 | bk d=>show ∀ v Hf H,_->_->D'.bk v H;rw[hb];exact k
 | ct d=>show ∀ v Hf H,_->_->D'.ct v H;rw[hc];exact k
 | ex c fs=>exact k
theorem kM (h1:ES X G E dl s o)(h:(∀ dl,o≠.nx dl)/\(∀ R,o≠.raw R):=by exact⟨(fun _ z=>nomatch z),(fun _ z=>nomatch z)⟩):lu X G E dl (s::sts) o:=
 rT (gb h1 (nB (sts:=sts))) fun D st H ⟨Hf,S,k⟩=>⟨Hf,S,ub.stop (D:=D) h rfl rfl rfl k⟩
theorem CB (h1:lu X G E dl1 sts o)(l:Le dl1 dl):lu X G E dl sts o:=rT h1 fun D st H ⟨Hf,S,k⟩=>⟨Hf,S.weak l,k⟩
theorem bh (hc:EB X G dl c u)(h1:u=true->lu X G E dl sts o)(h2:u=false->lu X G E dl D3 o):ES X G E dl (.If c sts D3 pos) o:=by
 cases u with
 | true=>exact wG (Fn hc (h1 rfl) (nB (sts:=D3))) fun D st H ⟨Hf,S,k⟩=>⟨Hf,S,fun au H1 g1=>Bi ⟨au,S.grow g1,k.mono g1.aW⟩⟩
 | false=>exact wG (Fn hc (nB (sts:=sts)) (h2 rfl)) fun D st H ⟨Hf,S,k⟩=>⟨Hf,S,fun au H1 g1=>zF ⟨au,S.grow g1,k.mono g1.aW⟩⟩
theorem aE (h:EE X G dl e d):ES X G E dl (.Return (some e) pos) (.rt d):=wG (A5 h) fun D st H ⟨Hf,S,k⟩=>⟨Hf,S,fun v au H1 g1 r1=>k v au H1 (S.gr.trans g1) r1⟩
theorem sG (h:EE X G dl e d)(hs:swapsWith e none pos.line X.env=pure false:=by rfl):ES X G E dl (.Expr e pos) (.nx dl):=
 wG (lQ h hs) fun D st H ⟨Hf,S,k⟩=>⟨Hf,S,fun v au H1 g1 r1=>k st au H1 g1.aW (S.grow g1)⟩
theorem aB (n:Nat){x:Str}{pos':Pos}(hN:X.N.Nodup)(he:EE X G dl e d)(hi:X.N[n]?=some x:=by rfl)(hx:Loc X.env.scope x:=by first | exact Or.inl rfl | exact Or.inr rfl)(hs:swapsWith e (some (.Name x pos')) pos.line X.env=pure false:=by rfl)(hf:X.fn x=true\/X.env.scope.names.lookup x=some .local:=by first | exact .inl rfl | exact .inr rfl | assumption):ES X G E dl (.Assign [.Name x pos'] e pos) (.nx (dl.set n (.val d))):=
 wG (xp hN hi hx he hs hf) fun D st H ⟨Hf,S,k⟩=>⟨Hf,S,fun v au H1 g1 r1=>k _ au H1 g1.aW ((S.grow g1).set r1)⟩
inductive oA (X:Cx)(G:Gr)(E:XK)(body:List Stmt)(S:Nat->List Slot)(pre:Nat->List Slot)(n m:Nat):Out->Prop
 | all (h:m=n):oA X G E body S pre n m (.nx (S n))
 | rt {d:Dt} (h:m < n) (hb:lu X G E (pre m) body (.rt d)):oA X G E body S pre n m (.rt d)
 | ro {d:Own} (h:m < n) (hb:lu X G E (pre m) body (.ro d)):oA X G E body S pre n m (.ro d)
 | bk {dl':List Slot} (h:m < n) (hb:lu X G E (pre m) body (.bk dl')):oA X G E body S pre n m (.nx dl')
 | ex {c:Value} {fs:List (Str×Dt)} (h:m < n) (hb:lu X G E (pre m) body (.ex c fs)):oA X G E body S pre n m (.ex c fs)
inductive Goes (X:Cx)(G:Gr)(E:XK)(body:List Stmt)(pre post:List Slot):Prop
 | nx {dl':List Slot} (hb:lu X G E pre body (.nx dl')) (l:Le post dl')
 | ct {dl':List Slot} (hb:lu X G E pre body (.ct dl')) (l:Le post dl')
noncomputable def FT (X:Cx)(G:Gr)(E:XK)(body:List Stmt):TS:=fun D st H=>∃ pre o,lu X G E pre body o/\tO X.K G E pre o D st H
theorem uq {body:List Stmt}:tW X body (FT X G E body):=fun pins s st H D J ⟨pre,o,h,q⟩=>h pins s st H D J q
theorem qE {body:List Stmt}{pre post:List Slot}{D:Ends}{st:L2.St}{Hf H:Hp}(g:Goes X G E body pre post)(S:cS X.K G st Hf H pre)(hn:∀ st aF H,aD Hf aF->cS X.K G st aF H post->D.nx st H)(hc:∀ st aF H,aD Hf aF->cS X.K G st aF H post->D.ct st H):FT X G E body D st H:=by
 cases g with
 | nx hb l=>exact⟨_,_,hb,Hf,S,fun jr aF H' s' S'=>hn jr aF H' s' (S'.weak l)⟩
 | ct hb l=>exact⟨_,_,hb,Hf,S,fun jr aF H' s' S'=>hc jr aF H' s' (S'.weak l)⟩
theorem qF {body:List Stmt}{S pre:Nat->List Slot}{n m:Nat}{D D':Ends}{st:L2.St}{Hf H:Hp}(e:oA X G E body S pre n m o)(hm:m < n)(S':cS X.K G st Hf H (pre m))(k:ub X.K G E D Hf o)(hr:D'.rt=D.rt)(NF:D'.bk=D.nx):FT X G E body D' st H:=by
 cases e with
 | all h=>omega
 | rt h hb=>exact⟨_,_,hb,Hf,S',by show ∀ v Hf H,_->_->D'.rt v H;rw[hr];exact k⟩
 | ro h hb=>exact⟨_,_,hb,Hf,S',by show ∀ v Hf H,_->_->_->_->D'.rt _ H;rw[hr];exact k⟩
 | bk h hb=>exact⟨_,_,hb,Hf,S',by show ∀ v Hf H,_->_->D'.bk v H;rw[NF];exact k⟩
 | ex h hb=>exact⟨_,_,hb,Hf,S',k⟩
theorem FU (nN:Nat){x:Str}{px:Pos}{body:List Stmt}{lo:Int}{n m:Nat}(S:Nat->List Slot)(hN:X.N.Nodup)(pJ:X.calm=true)(hp:PassesOwn (model X.prog X.w) X.A X.env X.xe){wi:TI}{iter:Expr}(hI:PI X (.Name x px) iter wi)(hw:∀ st Hf H R,cS X.K G st Hf H dl->(∀ aF H',aP Hf H aF H'->R (M3 lo n) H')->wi st H R)(h0:Le (S 0) dl)(TB:m<=n)(hb:∀ k,k < m->Goes X G E body ((S k).set nN (.val (.int (lo+k)))) (S (k+1)))(he:oA X G E body S (fun k=>(S k).set nN (.val (.int (lo+k)))) n m o)(hi:X.N[nN]?=some x:=by rfl)(hx:Loc X.env.scope x:=by first | exact Or.inl rfl | exact Or.inr rfl)(hf:X.fn x=true\/X.env.scope.names.lookup x=some .local:=by first | exact .inl rfl | exact .inr rfl | assumption)(hs:∀ x,foldedSetIterable iter X.env x=pure x:=by intro _;rfl):ES X G E dl (.For (.Name x px) iter body [] pos) o:=by
 refine wG (xq hp pJ hI (ck hN hi hx hf) (uq (G:=G) (E:=E)) hs) fun D st H ⟨Hf,S0,k⟩=>hw st Hf H _ S0 fun aF H' g=>?_
 refine DM (lo:=lo) (n:=n) (fun j st H=>j<=m/\∃ au,aD Hf au/\cS X.K G st au H (S j)) ⟨Nat.zero_le _,aF,g.aW,(S0.grow g).weak h0⟩ (fun j st H hj ⟨Y8,au,s1,Sj⟩=>?_) (fun st H ⟨Xm,au,s1,Sn⟩=>?_)
 . have Sp:cS X.K G (st.set nN (some (.int (lo+j)))) au H ((S j).set nN (.val (.int (lo+j)))):=Sj.set (.int _)
   by_cases d5:j < m
   . exact qE (hb j d5) Sp (fun st bT H s2 S'=>⟨d5,bT,s1.trans s2,S'⟩) (fun st bT H s2 S'=>⟨d5,bT,s1.trans s2,S'⟩)
   . have e:j=m:=by omega
     subst e
     exact qF he hj Sp (k.mono s1) rfl rfl
 . have e:m=n:=by omega
   subst e
   cases he with
   | all _=>exact k st au H s1 Sn
   | rt h _=>omega
   | ro h _=>omega
   | bk h _=>omega
   | ex h _=>omega
theorem iQ (nN:Nat){x:Str}{p px pc:Pos}{body:List Stmt}{n:Int}{m:Nat}(S:Nat->List Slot)(hN:X.N.Nodup)(pJ:X.calm=true)(hp:PassesOwn (model X.prog X.w) X.A X.env X.xe)(NG:X.mg "range"=none)(ha:EA X G dl [a] [.int n])(hn:-(2 ^ 62)<=n/\n < 2 ^ 62)(h0:Le (S 0) dl)(TB:m<=n.toNat)(hb:∀ k:Nat,k < m->Goes X G E body ((S k).set nN (.val (.int k))) (S (k+1)))(he:oA X G E body S (fun k=>(S k).set nN (.val (.int k))) n.toNat m o)(hg:Gl X "range":=by rfl)(hi:X.N[nN]?=some x:=by rfl)(hx:Loc X.env.scope x:=by first | exact Or.inl rfl | exact Or.inr rfl)(hf:X.fn x=true\/X.env.scope.names.lookup x=some .local:=by first | exact .inl rfl | exact .inr rfl | assumption)(FV:starEach [a] X.env=[(false,eval a X.env)]:=by rfl)(hs:∀ z,foldedSetIterable (.Call (.Name "range" p) [a] [] pc) X.env z=pure z:=by intro _;rfl):ES X G E dl (.For (.Name x px) (.Call (.Name "range" p) [a] [] pc) body [] pos) o:=by
 have ez:∀ k:Nat,(0:Int)+k=k:=fun k=>Int.zero_add _
 have eS:(fun k:Nat=>(S k).set nN (.val (.int ((0:Int)+k))))=fun k:Nat=>(S k).set nN (.val (.int k)):=by funext k;rw[ez]
 refine FU nN (lo:=0) (n:=n.toNat) (m:=m) S hN pJ hp (qt hg NG ha FV) (fun st Hf H R S0 h=>⟨Hf,S0,fun vs au H1 g1 r1=>?_⟩) h0 TB (fun k hk=>by rw[ez];exact hb k hk) (by rw[eS];exact he) hi hx hf hs
 cases r1 with
 | cons r t=>cases t;cases r;exact⟨n,rfl,hn.1,hn.2,h au H1 g1⟩
theorem CC (nN:Nat){x:Str}{px:Pos}{iter:Expr}{body:List Stmt}{xs:List Dt}{m:Nat}(S:Nat->List Slot)(hN:X.N.Nodup)(pJ:X.calm=true)(hp:PassesOwn (model X.prog X.w) X.A X.env X.xe)(hl:EE X G dl iter (.lst xs))(h0:Le (S 0) dl)(TB:m<=xs.length)(hb:∀ (k:Nat) (z:Dt),k < m->xs[k]?=some z->Goes X G E body ((S k).set nN (.val z)) (S (k+1)))(he:oA X G E body S (fun k=>(S k).set nN (.val (xs.getD k .cF))) xs.length m o)(hi:X.N[nN]?=some x:=by rfl)(hx:Loc X.env.scope x:=by first | exact Or.inl rfl | exact Or.inr rfl)(hf:X.fn x=true\/X.env.scope.names.lookup x=some .local:=by first | exact .inl rfl | exact .inr rfl | assumption)(hs:∀ z,foldedSetIterable iter X.env z=pure z:=by intro _;rfl):ES X G E dl (.For (.Name x px) iter body [] pos) o:=by
 refine wG (xq hp pJ (jI hl) (ck hN hi hx hf) (uq (G:=G) (E:=E)) hs) fun D st H ⟨Hf,S0,k⟩=>⟨Hf,S0,fun v aF H' g r=>?_⟩
 cases r with
 | @lst a vs _ q r=>
   have hlen:=r.length
   refine⟨a,rfl,⟨vs,.of (g.sub _ _ q)⟩,zp (xs:=vs) (fun j st H=>j<=m/\∃ au,aD aF au/\cS X.K G st au H (S j)) ⟨Nat.zero_le _,aF,aD.refl _,(S0.grow g).weak h0⟩ ?_ ?_ ?_⟩
   . rintro j st H _ ⟨_,au,s1,Sj⟩
     exact .of (Sj.sub _ _ (s1 _ _ q))
   . rintro j v st H hv ⟨Y8,au,s1,Sj⟩
     obtain⟨z,hz,rz⟩:=r.get' hv
     have hj:j < xs.length:=(List.getElem?_eq_some_iff.mp hz).1
     have Sp:cS X.K G (st.set nN (some v)) au H ((S j).set nN (.val z)):=Sj.set (rz.mono s1)
     by_cases d5:j < m
     . exact qE (hb j z d5 hz) Sp (fun st bT H s2 S'=>⟨d5,bT,s1.trans s2,S'⟩) (fun st bT H s2 S'=>⟨d5,bT,s1.trans s2,S'⟩)
     . have e:j=m:=by omega
       subst e
       have ez:xs.getD j .cF=z:=by rw[List.getD_eq_getElem?_getD,hz];rfl
       exact qF he hj (by show cS _ _ _ _ _ ((S j).set nN (.val (xs.getD j .cF)));rw[ez];exact Sp) (k.mono (g.aW.trans s1)) rfl rfl
   . rintro st H ⟨Xm,au,s1,Sn⟩
     have e:m=xs.length:=by omega
     subst e
     rw[hlen] at Sn
     cases he with
     | all _=>exact k st au H (g.aW.trans s1) Sn
     | rt h _=>omega
     | ro h _=>omega
     | bk h _=>omega
     | ex h _=>omega
inductive Res where
 | ret (d:Dt)
 | own (w:Own)
 | exc (c:Value) (fs:List (Str×Dt))
noncomputable def Rg (K:W.Frag)(Hf H:Hp)(Q:VK)(E:XK):Res->Prop
 | .ret d=>∀ v aF H',aP Hf H aF H'->Rep K aF v d->Q v H'
 | .own w=>∀ p aF H',aP Hf H aF H'->H p=none->aF p=none->gd K aF H' p w->Q (.ref p) H'
 | .exc c fs=>∀ od aF H',aP Hf H aF H'->ExcAt K aF od fs->E c od H'
noncomputable def CD (K:W.Frag)(n:Nat)(R:List Dt->Res->Prop):Sp:=fun vs H Q E=>∃ Hf ds r,aD Hf H/\bc K Hf vs ds/\ds.length=n/\R ds r/\Rg K Hf H Q E r
noncomputable def xG (CX:pA):Prop:=∀ outer H s e s',CX outer H s E0 e s'->False
theorem aA:xG Xk:=fun _ _ _ _ _ h=>h
theorem xG.passes {CX:pA}(n:xG CX):Passes CX X E0:=fun _ _ _ _ _ _ _ h=>(n _ _ _ _ _ h).elim
noncomputable def slots (N:List Str)(ds:List Dt):List Slot:=ds.map Slot.val ++ List.replicate (N.length - ds.length) .bV
theorem qG {K:W.Frag}{N:List Str}{Hf H:Hp}{vs:List V}{ds:List Dt}(s:aD Hf H)(r:bc K Hf vs ds):cS K ⟨Hf,H⟩ (start N vs) Hf H (slots N ds):=by
 have hl:=r.length
 have xk:∀ (i:Nat) o,(slots N ds)[i]?≠some (.own o):=fun i o h=>by
   unfold slots at h
   by_cases hi:i < ds.length
   . rw[List.getElem?_append_left (by simpa using hi),List.getElem?_map] at h
     cases e:ds[i]? with
     | none=>rw[e] at h;cases h
     | some a=>rw[e] at h;cases h
   . rw[List.getElem?_append_right (by simpa using hi),List.getElem?_replicate] at h
     split at h <;> cases h
 refine⟨.refl s,?_,fun i d h=>?_,fun i o h=>absurd h (xk i o),fun i j o o' a h=>absurd h (xk i o)⟩
 . unfold L2.start slots
   simp[hl]
 . unfold slots at h
   by_cases hi:i < ds.length
   . rw[List.getElem?_append_left (by simpa using hi),List.getElem?_map] at h
     cases e:ds[i]? with
     | none=>rw[e] at h;cases h
     | some a=>
       rw[e] at h;cases h
       obtain⟨v,h1,h2⟩:=r.get e
       refine⟨v,?_,h2⟩
       unfold L2.start
       rw[List.getElem?_append_left (by simp;omega),List.getElem?_map,h1];rfl
   . rw[List.getElem?_append_right (by simpa using hi),List.getElem?_replicate] at h
     split at h <;> cases h
inductive Comes:Out->Res->Prop
 | rt (d:Dt):Comes (.rt d) (.ret d)
 | ro (d:Own):Comes (.ro d) (.own d)
 | nx (dl:List Slot):Comes (.nx dl) (.ret .cF)
 | kn {dl:List Slot} {d:Dt} (h:∀ K G st Hf H,cS K G st Hf H dl->Rep K Hf .cF d):Comes (.nx dl) (.ret d)
 | ex (c:Value) (fs:List (Str×Dt)):Comes (.ex c fs) (.exc c fs)
theorem Comes.ends {K:W.Frag}{Hf H:Hp}{Q:VK}{o:Out}{r:Res}(h:Comes o r)(k:Rg K Hf H Q E r):ub K ⟨Hf,H⟩ E { nx:=fun _ H'=>Q .cF H',rt:=Q} Hf o:=by
 cases h with
 | rt d=>exact k
 | ro d=>exact k
 | nx dl=>exact fun st aF H' s' S=>k _ aF H' S.gr .cF
 | kn h=>exact fun st aF H' s' S=>k _ aF H' S.gr (h _ _ _ _ _ S)
 | ex c fs=>exact k
theorem iR {P:Program}{w:World}{K:W.Frag}{mg:Str->Option Value}{base:Heap}{CX:pA}{x qual:Str}{st:Stmt}{f:Addr}{fd:FuncData}{N ps:List Str}{k n:Nat}{R:List Dt->Res->Prop}(F:P6 K x qual st f fd)(S:aq N ps (ah st))(hn:ps.length=n)(pB:∀ (bx:Value) (A:Around) (outer:List Env) (s:Shared) (H:Hp) (E:XK) (G:Gr) (ds:List Dt) (r:Res),di k (A.deeper (envOfC qual (ah st) s.heap.objs.size f bx))->ds.length=n->R ds r->∃ o,Comes o r/\lu (zr CX P w K mg base N qual (ah st) f bx A outer s H E) G E (slots N ds) (aG st) o):iL P w K mg base CX (k+1) f fd ps (CD K n R):=by
 obtain⟨oc,od,kV,doc,pm,an,bx,ct,vJ,rfl,lk,lP⟩:=F.ex
 refine Cq lk lP S (fun vs H Q E ⟨Hf,ds,r,s,rp,hl,_⟩=>by rw[rp.length,hl,hn]) fun A outer s H vs Q E hr ⟨Hf,ds,r,sm,rp,hl,hR,hk⟩=>?_
 obtain⟨o,hc,hb⟩:=pB bx A outer s H E ⟨Hf,H⟩ ds r hr hl hR
 exact⟨_,hb,Hf,qG sm rp,hc.ends hk⟩
section
variable {CX:pA}{k n:Nat}{f C:Addr}{fd:FuncData}{ps:List Str}{R:List Dt->Res->Prop}{m:Str}{p apos:Pos}{ob:Expr}{dvs:List Dt}{vds:List V}{D5:List Value}{fs:List (Str×Dt)}
theorem JK (F:iL X.prog X.w X.K X.mg X.base CX k f fd ps (CD X.K n R))(nx:xG CX)(hr:di k X.A)(hm:X.mg x=some (.ref f))(hk:W.keepIn X.K (.ref f)=true)(hb:Binds X.K fd ps D5)(hd:Vals vds D5)(Bl:∀ H,bc X.K H vds dvs)(ha:EA X G dl (e::es) ds)(hl:(ds ++ dvs).length=n)(h:R (ds ++ dvs) (.ret d))(hg:Gl X x:=by rfl)(lN:(x == ("__debug__":Str))=false:=by decide)(he:starEach (e::es) X.env=(false,eval e X.env)::starEach es X.env:=by rfl)(mD:(backTo pos (starEach es X.env)).any (·.1)=false:=by rfl):EE X G dl (.Call (.Name x p) (e::es) [] pos) d:=
 fB (Cp (E:=E0) F hr hg hm hk hb hd nx.passes ha lN he mD) fun st H Q ⟨Hf,S,k⟩=>⟨Hf,S,fun vs au H1 g1 r1=>⟨au,ds ++ dvs,.ret d,g1.sub,r1.append (Bl _),hl,h,fun v bT H2 g2 r2=>k v bT H2 (g1.trans g2) r2⟩⟩
theorem CF {pl:Sem Bool}(he:EE X G dl ob (.obj C fs))(c:rP X.K C)(hm:Meth X.K C m f)(F:iL X.prog X.w X.K X.mg X.base CX k f fd ps (CD X.K n R))(nx:xG CX)(hr:di k X.A)(hb:Binds X.K fd ps D5)(hd:Vals vds D5)(Bl:∀ H,bc X.K H vds dvs)
   (ha:EA X G dl (e::es) ds) (hl:(.obj C fs::(ds ++ dvs)).length=n) (h:R (.obj C fs::(ds ++ dvs)) (.ret d)) (pj:fs.lookup m=none)
   (oM:starEach (e::es) X.env=(false,eval e X.env)::starEach es X.env:=by rfl) (mD:(backTo pos (starEach es X.env)).any (·.1)=false:=by rfl)
   (ht:eval (.Call (.Attribute ob m apos) (e::es) [] pos) X.env=(do
     let ov <- eval ob X.env
     standAt apos.atName
     let (f,first) <- holding [ov] (getMethod ov m pl)
     callWith pos f first (backTo pos (starEach (e::es) X.env)) (backToKw pos (keywordEach [] X.env))):=by rfl):EE X G dl (.Call (.Attribute ob m apos) (e::es) [] pos) d:=
 fB (xv (pl:=pl) (E:=E0) he c hm F hr hb hd nx.passes ha oM mD ht) fun st H Q ⟨Hf,S,k⟩=>⟨Hf,S,fun v au H1 g1 r1=>by
   cases r1 with
   | @obj a _ dx fv _ q r=>
     exact⟨a,dx,fv,rfl,dt g1.sub q,r.none_of pj,au,S.grow g1,fun vs bT H2 g2 r2=>⟨bT,_,.ret d,g2.sub,.cons (.obj (dt g2.aW q) (r.mono g2.aW)) (r2.append (Bl _)),hl,h,fun v iP H3 g3 r3=>k v iP H3 ((g1.trans g2).trans g3) r3⟩⟩⟩
theorem zI {pl:Sem Bool}(he:EE X G dl ob (.obj C fs))(c:rP X.K C)(hm:Meth X.K C m f)(F:iL X.prog X.w X.K X.mg X.base CX k f fd ps (CD X.K n R))(nx:xG CX)(hr:di k X.A)(hb:Binds X.K fd ps D5)(hd:Vals vds D5)(Bl:∀ H,bc X.K H vds dvs)
   (hl:(Dt.obj C fs::dvs).length=n) (h:R (.obj C fs::dvs) (.ret d)) (pj:fs.lookup m=none)
   (ht:eval (.Call (.Attribute ob m apos) [] [] pos) X.env=(do
     let ov <- eval ob X.env
     standAt apos.atName
     let (f,first) <- holding [ov] (getMethod ov m pl)
     callWith pos f first (backTo pos (starEach [] X.env)) (backToKw pos (keywordEach [] X.env))):=by rfl):EE X G dl (.Call (.Attribute ob m apos) [] [] pos) d:=
 fB (t6 (pl:=pl) (E:=E0) he c hm F hr hb hd nx.passes ht) fun st H Q ⟨Hf,S,k⟩=>⟨Hf,S,fun v au H1 g1 r1=>by
   cases r1 with
   | @obj a _ dx fv _ q r=>
     exact⟨a,dx,fv,rfl,dt g1.sub q,r.none_of pj,au,_,.ret d,g1.sub,.cons (.obj q r) (Bl _),hl,h,fun v iP H3 g3 r3=>k v iP H3 (g1.trans g3) r3⟩⟩
end
end
section
variable {X:Cx}{G:Gr}{dl:List Slot}{a b c e:Expr}{i j:Int}{d d1 d2:Dt}{ds:List Dt}{pos p:Pos}{o:Out}{x y f:Str}{u v:Bool}{s:Stmt}{C:Addr}{fs:List (Str×Dt)}
theorem zJ {T:String}(hm:X.mg x=none)(hv:bootBuiltins x=some (.type T))(hg:Gl X x:=by rfl)(hn:x≠"__name__":=by decide)(hd:(x == ("__debug__":Str))=false:=by decide):EE X G dl (.Name x pos) (.ty T):=
 fB (Jl (v:=.ty T) hg hm hv rfl hn hd) fun st H Q ⟨Hf,S,k⟩=>k _ Hf H (.refl S.sub) (.ty T)
theorem jL {w:V}{z:Value}(hm:X.mg x=some z)(r:RelV w z)(hr:∀ H,Rep X.K H w d)(hg:Gl X x:=by rfl)(hd:(x == ("__debug__":Str))=false:=by decide):EE X G dl (.Name x pos) d:=
 fB (Jk hg hm r hd) fun st H Q ⟨Hf,S,k⟩=>k _ Hf H (.refl S.sub) (hr _)
theorem boot_int:bootBuiltins "int"=some (.type "int"):=by decide +kernel
theorem boot_bool:bootBuiltins "bool"=some (.type "bool"):=by decide +kernel
theorem boot_tuple:bootBuiltins "tuple"=some (.type "tuple"):=by decide +kernel
theorem boot_list:bootBuiltins "list"=some (.type "list"):=by decide +kernel
theorem boot_dict:bootBuiltins "dict"=some (.type "dict"):=by decide +kernel
structure NH (K:W.Frag)(C:Addr):Prop where
 makes:W.makesIn K C=true
 init:W.findIn K (.ref C) "__init__"=some (some (.builtin "object.__init__"))
 kp:W.keepIn K (.ref C)=true
theorem D6 {pins:List (Addr×Obj)}{st:L2.St}{H:Hp}{s:Shared}{Q:VK}(M:NH X.K C)(I:L2.Inv X pins st H s)(h:∀ x dx,H x=none->H dx=none->dx≠x->Q (.ref x) (upd (upd H dx (.own x)) x (.ins C dx []))):wpAny (model X.prog X.w) X.A (call (.ref C) []) (EP X pins st Q) X.xe s:=by
 have hq:=h (s.heap.objs.size+1) s.heap.objs.size (I.bb.fresh (Nat.le_succ _)) (I.bb.fresh (Nat.le_refl _)) (Nat.ne_of_lt (Nat.lt_succ_self _))
 have I2:=L2.Inv.made (C:=C) I
 refine wpAny_call (DR (s:=s) I.lO M.makes M.init (fun self=>W.Looks.of_pure (W.oi_bind self)) ?_)
 obtain⟨hh,g,d,t,os⟩:=s
 have Y:=W.makes_of (M:=model X.prog X.w) I.lO M.makes
 have t1:W.Looks (model X.prog X.w) ((hh.push W.emptyDict).push (W.instObj C hh.objs.size)) (typeOf (.ref (hh.objs.size+1))) (.ref C):=by
   have e2:=Heap.get?_push_size (hh.push W.emptyDict) (o:=W.instObj C hh.objs.size) rfl
   rw[Heap.size_push] at e2
   exact(W.Looks.ld e2).andThen .now
 have t2:W.Looks (model X.prog X.w) ((hh.push W.emptyDict).push (W.instObj C hh.objs.size)) (isInstance (.ref (hh.objs.size+1)) (.type "object")) true:=t1.andThen (Y.top.keeps fun b o e=>Heap.get?_push_of_some _ (Heap.get?_push_of_some _ e))
 refine codeAny_call_builtin W.oi_plain W.entry_oi (@W.check_slot (model X.prog X.w) _ _ _ "object.__init__" "object" "__init__" (.ref (hh.objs.size+1)) [] [] _ W.oi_kind W.oi_split t2 (W.oi_args (.ref (hh.objs.size+1))) ?_)
 rw[W.oi_run]
 exact wpAny_pure (And.intro rfl ⟨V.ref (hh.objs.size+1),_,I2,rfl,hq⟩)
theorem aI (he:EE X G dl e (.obj C fs))(c:rP X.K C)(n:bB X.K C f)(h:fs.lookup f=some d)(hb:attributeBase e f X.env (eval e X.env)=eval e X.env:=by rfl):EE X G dl (.Attribute e f pos) d:=
 fB (tY he hb) fun st H Q ⟨Hf,S,k⟩=>⟨Hf,S,fun v au H1 g1 r1=>by
   cases r1 with
   | @obj a _ dx fv _ q r=>
     obtain⟨y,h1,h2⟩:=r.lookup h
     exact⟨a,C,dx,fv,y,rfl,dt g1.sub q,c,n,h1,k y au H1 g1 h2⟩⟩
theorem sH (hm:X.mg "len"=none)(ha:EE X G dl a (.lst ds))(hg:Gl X "len":=by rfl)(he:starEach [a] X.env=[(false,eval a X.env)]:=by rfl):EE X G dl (.Call (.Name "len" p) [a] [] pos) (.int ds.length):=
 fB (fm lU hg hm PySem.boot_len (ae ha ai he) (he:=he)) fun st H Q ⟨Hf,S,k⟩=>⟨Hf,S,fun vs au H1 g1 r1=>by
   cases r1 with
   | cons r t=>cases t;cases r with
     | @lst q vs _ z w=>exact⟨q,vs,rfl,.inl (.of (g1.sub _ _ z)),by rw[w.length];exact k _ au H1 g1 (.int _)⟩⟩
theorem xH {ns:List Int}(hm:X.mg "len"=none)(ha:EE X G dl a (.oy ns))(hg:Gl X "len":=by rfl)(he:starEach [a] X.env=[(false,eval a X.env)]:=by rfl):EE X G dl (.Call (.Name "len" p) [a] [] pos) (.int ns.length):=
 fB (fm lU hg hm PySem.boot_len (ae ha ai he) (he:=he)) fun st H Q ⟨Hf,S,k⟩=>⟨Hf,S,fun vs au H1 g1 r1=>by
   cases r1 with
   | cons r t=>cases t;cases r with
     | @oy q _ z=>exact⟨q,_,rfl,.inl (g1.sub.seq z),by rw[List.length_map];exact k _ au H1 g1 (.int _)⟩⟩
theorem CG (hm:X.mg "len"=none)(ha:EE X G dl a (.tup ds))(hg:Gl X "len":=by rfl)(he:starEach [a] X.env=[(false,eval a X.env)]:=by rfl):EE X G dl (.Call (.Name "len" p) [a] [] pos) (.int ds.length):=
 fB (fm lU hg hm PySem.boot_len (ae ha ai he) (he:=he)) fun st H Q ⟨Hf,S,k⟩=>⟨Hf,S,fun vs au H1 g1 r1=>by
   cases r1 with
   | cons r t=>cases t;cases r with
     | @tup q vs _ z w=>exact⟨q,vs,rfl,.inr (br g1.sub z),by rw[w.length];exact k _ au H1 g1 (.int _)⟩⟩
theorem xI (hm:X.mg "len"=none)(ha:EE X G dl a (.str x))(hl:x.length<=sizeLine)(hg:Gl X "len":=by rfl)(he:starEach [a] X.env=[(false,eval a X.env)]:=by rfl):EE X G dl (.Call (.Name "len" p) [a] [] pos) (.int x.length):=
 fB (fm xB hg hm PySem.boot_len (ae ha ai he) (he:=he)) fun st H Q ⟨Hf,S,k⟩=>⟨Hf,S,fun vs au H1 g1 r1=>by
   cases r1 with
   | cons r t=>cases t;cases r;exact⟨x,rfl,hl,k _ au H1 g1 (.int _)⟩⟩
noncomputable def U8:Dt->Value
 | .cF=>.type "NoneType"
 | .bl _=>.type "bool"
 | .int _=>.type "int"
 | .str _=>.type "str"
 | .tup _=>.type "tuple"
 | .lst _=>.type "list"
 | .oy _=>.type "list"
 | .dZ _=>.type "dict"
 | .obj C _=>.ref C
 | .ty _=>.type "type"
 | .cls _=>.type "type"
 | .xo C=>.ref C
 | .oO _=>.type "dict"
 | .A3 C _=>.ref C
 | .c9 _=>.type "dict"
 | .memo _ _ _ _=>.type "list"
 | .dq _ _ _ _=>.type "list"
 | .vL _ _ _=>.type "NoneType"
 | .qz C _ _ _ _=>.ref C
 | _=>.type "object"
structure TC (K:W.Frag)(C:Addr):Prop where
 cl:rP K C
 ha:W.findIn K (.ref C) "__class__"=some (some (.builtin "object.__class__"))
 hn:W.specialIn K (.builtin "object.__class__") "__get__"=some (some (.builtin "getset_descriptor.__get__"))
 Nf:W.takesIn K (.builtin "object.__class__")=some true
 hm:W.mroIn K C (.type "object")=some true
noncomputable def NI (K:W.Frag):Dt->Prop
 | .obj C _=>TC K C
 | .xo C=>P7 K C
 | .A3 C _=>P7 K C
 | .memo _ _ _ _=>False
 | .dq _ _ _ _=>False
 | .vL _ _ _=>False
 | .qz C _ _ _ _=>TC K C
 | .gW _=>False
 | .kW _=>False
 | .ty _=>False
 | .cls _=>False
 | _=>True
noncomputable def Rh:Dt->Option Value
 | .ty n=>some (.type n)
 | .cls C=>some (.ref C)
 | _=>none
theorem FW {pins:List (Addr×Obj)}{st:L2.St}{Hf H:Hp}{s:Shared}{Q:Value->Shared->Prop}{w:V}{z c:Value}{r:Bool}(I:L2.Inv X pins st H s)(sm:aD Hf H)(rp:Rep X.K Hf w d)(rx:RelV w z)(t:NI X.K d)(e:W.kitOne X.K (U8 d) c=some r)(h:∀ tk,Q (.bool r) { s with toks:=tk}):wpAny (model X.prog X.w) X.A (call (.builtin "isinstance") [z,c]) Q X.xe s:=by
 cases rp with
 | cF=>cases (show z=Value.none from rx);exact W.kia_one W.kitx_none I.lO True.intro e (fun z=>nomatch z) h
 | bl y=>cases (show z=Value.bool y from rx);exact W.kia_one W.kitx_bool I.lO True.intro e (fun z=>nomatch z) h
 | int i=>obtain⟨t,q⟩:=(show ∃ t,z=Value.int i t from rx);cases q;exact W.kia_one W.kitx_int I.lO True.intro e (fun z=>nomatch z) h
 | str y=>obtain⟨t,q⟩:=(show ∃ t,z=Value.str y t from rx);cases q;exact W.kia_one W.kitx_str I.lO True.intro e (fun z=>nomatch z) h
 | @tup a vs ds q rr=>
   cases (show z=Value.ref a from rx)
   obtain⟨aH,_,⟨o,h1,h2,_⟩,_⟩:=I.tuple (br sm q)
   exact W.kia_one W.kitx_tuple I.lO ⟨o,h1,h2⟩ e (fun z=>nomatch z) h
 | @lst a vs ds q rr=>
   cases (show z=Value.ref a from rx)
   obtain⟨aH,_,⟨o,n,h1,h2,_⟩,_⟩:=I.list (.of (sm _ _ q))
   exact W.kia_one W.kitx_list I.lO ⟨o,h1,h2⟩ e (fun z=>nomatch z) h
 | @oy a ns q=>
   cases (show z=Value.ref a from rx)
   obtain⟨aH,_,⟨o,n,h1,h2,_⟩,_⟩:=I.list (sm.seq q)
   exact W.kia_one W.kitx_list I.lO ⟨o,h1,h2⟩ e (fun z=>nomatch z) h
 | @dZ a kvs kds q rr=>
   cases (show z=Value.ref a from rx)
   exact qw (x:=.ref a) I rfl (.dK (sm _ _ q)) e h
 | @obj a C dx fv fs q rr=>
   cases (show z=Value.ref a from rx)
   have t:TC X.K C:=t
   exact qw (x:=.ref a) I rfl (.ins (dt sm q) t.cl t.ha t.hn t.Nf t.hm) e h
 | ty n=>exact t.elim
 | cls C=>exact t.elim
 | @xo a C ph q hp=>
   cases (show z=Value.ref a from rx)
   have t:P7 X.K C:=t
   have ok:aK X.prog X.w H s.heap a (.ext ph):=I.bb a _ (sm _ _ q)
   exact W.kia_one (zG t) I.lO (hp _ ok.1) e (fun z=>nomatch z) h
 | @oO a ob kvs kds q rr=>
   cases (show z=Value.ref a from rx)
   obtain⟨_,_,vs,_,D⟩:=rJ (kvs:=kvs) I.bb (.inr (.inl ⟨ob,sm _ _ q⟩))
   exact W.kia_one W.kitx_dict I.lO D.typeIs e (fun z=>nomatch z) h
 | @A3 a C dx ph fv fs q hp g rr=>
   cases (show z=Value.ref a from rx)
   have t:P7 X.K C:=t
   have ok:aK X.prog X.w H s.heap a (.ext ph):=I.bb a _ (sm _ _ q)
   exact W.kia_one (zG t) I.lO (hp _ ok.1).of e (fun z=>nomatch z) h
 | @c9 a tg ob kvs kds q rr=>
   cases (show z=Value.ref a from rx)
   obtain⟨_,_,vs,_,D⟩:=rJ (kvs:=kvs) I.bb (.inr (.inr (.inl ⟨tg,ob,kvs,sm _ _ q,rfl⟩)))
   exact W.kia_one W.kitx_dict I.lO D.typeIs e (fun z=>nomatch z) h
 | memo=>exact t.elim
 | dq=>exact t.elim
 | gW=>exact t.elim
 | kW=>exact t.elim
 | vL=>exact t.elim
 | @qz a _ C dx fv fs gs nm n ls _ q rr=>
   cases (show z=Value.ref a from rx)
   have t:TC X.K C:=t
   exact qw (x:=.ref a) I rfl (.ins (dt sm q) t.cl t.ha t.hn t.Nf t.hm) e h
theorem boot_isinstance:bootBuiltins "isinstance"=some (.builtin "isinstance"):=by decide +kernel
noncomputable def U9 (K:W.Frag)(d d2:Dt)(r:Bool):List V->Hp->VK->Prop:=fun xs H Q=>∃ Hf w c,xs=[w,c]/\aD Hf H/\Rep K Hf w d/\Rep K Hf c d2/\Q (.bl r) H
theorem FX {r:Bool}{z:Value}(hc:Rh d2=some z)(t:NI X.K d)(h:W.kitOne X.K (U8 d) z=some r):jE X (.builtin "isinstance") (U9 X.K d d2 r):=by
 intro pins s st H xs us Q I rv ⟨Hf,w,c,e,sm,r1,r2,q⟩
 subst e
 cases rv with
 | cons q1 t1=>
   cases t1 with
   | cons q2 t2=>
     cases t2
     rename_i ud uc
     have ez:uc=z:=by
       cases r2 with
       | ty n=>cases hc;exact q2
       | cls C=>cases hc;exact q2
       | _=>cases hc
     subst ez
     exact FW I sm r1 q1 t h fun tk=>⟨.bl r,H,I.tok _,rfl,q⟩
theorem ur {r:Bool}{z:Value}(hm:X.mg "isinstance"=none)(ha:EE X G dl a d)(hb:EE X G dl b d2)(hc:Rh d2=some z)(t:NI X.K d)(h:W.kitOne X.K (U8 d) z=some r)(hg:Gl X "isinstance":=by rfl)(he:starEach [a,b] X.env=(false,eval a X.env)::starEach [b] X.env:=by rfl)(NJ:starEach [b] X.env=[(false,eval b X.env)]:=by rfl)(mD:(backTo pos (starEach [b] X.env)).any (·.1)=false:=by rfl):EE X G dl (.Call (.Name "isinstance" p) [a,b] [] pos) (.bl r):=
 fB (fm (FX hc t h) hg hm boot_isinstance (ae ha (ae hb ai NJ) he) (by decide) (by decide) he mD) fun st H Q ⟨Hf,S,k⟩=>⟨Hf,S,fun vs au H1 g1 r1=>by
   cases r1 with
   | cons r1 t1=>cases t1 with
     | cons r2 t2=>cases t2;exact⟨au,_,_,rfl,g1.sub,r1,r2,k _ au H1 g1 (.bl _)⟩⟩
mutual
noncomputable def pd:Dt->PyData
 | .cF=>.none
 | .bl b=>.bool b
 | .int i=>.int i
 | .str x=>.str x
 | .tup ds=>.tuple (Bm ds)
 | .lst ds=>.list (Bm ds)
 | .oy _=>.none
 | .dZ _=>.none
 | .obj _ _=>.none
 | .ty _=>.none
 | .cls _=>.none
 | .xo _=>.none
 | .oO _=>.none
 | .A3 _ _=>.none
 | .c9 _=>.none
 | .memo _ _ _ _=>.none
 | .dq _ _ _ _=>.none
 | .vL _ _ _=>.none
 | .qz _ _ _ _ _=>.none
 | .gW _=>.none
 | .kW _=>.none
noncomputable def Bm:List Dt->List PyData
 | []=>[]
 | d::r=>pd d::Bm r
end
mutual
noncomputable def plain:Dt->Bool
 | .tup ds=>ko ds
 | .lst ds=>ko ds
 | .oy _=>false
 | .dZ _=>false
 | .obj _ _=>false
 | .ty _=>false
 | .cls _=>false
 | .xo _=>false
 | .oO _=>false
 | .A3 _ _=>false
 | .c9 _=>false
 | .memo _ _ _ _=>false
 | .dq _ _ _ _=>false
 | .vL _ _ _=>false
 | .qz _ _ _ _ _=>false
 | .gW _=>false
 | .kW _=>false
 | .cF=>true
 | .bl _=>true
 | .int _=>true
 | .str _=>true
noncomputable def ko:List Dt->Bool
 | []=>true
 | d::r=>plain d && ko r
end
section
variable {pins:List (Addr×Obj)}{st:L2.St}{Hf H:Hp}{s:Shared}
mutual
theorem mW (I:L2.Inv X pins st H s)(sm:aD Hf H):∀ {w:V} {d:Dt} {z:Value},Rep X.K Hf w d->plain d=true->RelV w z->∃ as,Reads s.heap z (pd d) as
 | _,_,z,.cF,_,r=>by cases (show z=Value.none from r);exact⟨_,.none⟩
 | _,_,z,.bl b,_,r=>by cases (show z=Value.bool b from r);exact⟨_,.bool b⟩
 | _,_,z,.int i,_,r=>by obtain⟨t,q⟩:=(show ∃ t,z=Value.int i t from r);cases q;exact⟨_,.int i t⟩
 | _,_,z,.str x,_,r=>by obtain⟨t,q⟩:=(show ∃ t,z=Value.str x t from r);cases q;exact⟨_,.str x t⟩
 | _,_,z,@Rep.tup _ _ a vs ds q rr,h,r=>by
   cases (show z=Value.ref a from r)
   obtain⟨aH,rv,⟨o,h1,h2,n,h3⟩,_⟩:=I.tuple (br sm q)
   obtain⟨as,ra⟩:=qH I sm rr (by rw[plain] at h;exact h) rv
   refine⟨as,?_⟩
   rw[pd]
   exact .tuple h1 h2 h3 (by simpa using ra)
 | _,_,z,@Rep.lst _ _ a vs ds q rr,h,r=>by
   cases (show z=Value.ref a from r)
   obtain⟨aH,rv,⟨o,n,h1,h2,_,h3⟩,_⟩:=I.list (.of (sm _ _ q))
   obtain⟨as,ra⟩:=qH I sm rr (by rw[plain] at h;exact h) rv
   refine⟨a::as,?_⟩
   rw[pd]
   exact .list h1 h2 h3 (by simpa using ra)
 | _,_,_,.dZ _ _,h,_=>by rw[plain] at h;cases h
 | _,_,_,.oy _,h,_=>by rw[plain] at h;cases h
 | _,_,_,.obj _ _,h,_=>by rw[plain] at h;cases h
 | _,_,_,.ty _,h,_=>by rw[plain] at h;cases h
 | _,_,_,.cls _,h,_=>by rw[plain] at h;cases h
 | _,_,_,.xo _ _,h,_=>by rw[plain] at h;cases h
 | _,_,_,.oO _ _,h,_=>by rw[plain] at h;cases h
 | _,_,_,.A3 _ _ _ _,h,_=>by rw[plain] at h;cases h
 | _,_,_,.c9 _ _,h,_=>by rw[plain] at h;cases h
 | _,_,_,.memo _ _ _ _,h,_=>by rw[plain] at h;cases h
 | _,_,_,.dq _ _ _ _,h,_=>by rw[plain] at h;cases h
 | _,_,_,.vL _,h,_=>by rw[plain] at h;cases h
 | _,_,_,.qz _ _ _,h,_=>by rw[plain] at h;cases h
 | _,_,_,.gW _,h,_=>by rw[plain] at h;cases h
 | _,_,_,.kW _,h,_=>by rw[plain] at h;cases h
theorem qH (I:L2.Inv X pins st H s)(sm:aD Hf H):∀ {vs:List V} {ds:List Dt} {zs:List Value},bc X.K Hf vs ds->ko ds=true->Vals vs zs->∃ as,ReadsAll s.heap zs (Bm ds) as
 | _,_,_,.nil,_,.nil=>⟨[],by rw[Bm];exact .nil⟩
 | _,_,_,.cons r t,h,.cons q w=>by
   rw[ko,Bool.and_eq_true] at h
   obtain⟨as,h1⟩:=mW I sm r h.1 q
   obtain⟨bs,h2⟩:=qH I sm t h.2 w
   exact⟨as ++ bs,by rw[Bm];exact .cons h1 h2⟩
end
end
noncomputable def IW (d:Dt):Prop:=plain d=true/\SeqAt.shaped (pd d)=true
noncomputable def NK (K:PySem.W.Frag)(d1 d2:Dt)(g:Bool->Bool):R2:=fun x y H Q=>∃ Hf,aD Hf H/\Rep K Hf x d1/\Rep K Hf y d2/\IW d1/\IW d2/\Q (.bl (g (PyData.eqv (pd d1) (pd d2)))) H
theorem NL (hu:X.A.units+64 < cLine):nC X (compareOp .Eq) (NK X.K d1 d2 id):=by
 intro pins s st H x y v w Q I rx ry ⟨Hf,sm,r1,r2,o1,o2,q⟩
 obtain⟨as,h1⟩:=mW I sm r1 o1.1 rx
 obtain⟨bs,h2⟩:=mW I sm r2 o2.1 ry
 exact eq_dataH h1 h2 o1.2 o2.2 hu ⟨.bl _,H,I,rfl,q⟩
theorem NM (hu:X.A.units+64 < cLine):nC X (compareOp .NotEq) (NK X.K d1 d2 (!·)):=by
 intro pins s st H x y v w Q I rx ry ⟨Hf,sm,r1,r2,o1,o2,q⟩
 obtain⟨as,h1⟩:=mW I sm r1 o1.1 rx
 obtain⟨bs,h2⟩:=mW I sm r2 o2.1 ry
 exact ne_dataH h1 h2 o1.2 o2.2 hu ⟨.bl _,H,I,rfl,q⟩
theorem FY {K:W.Frag}{g:Bool->Bool}(o1:IW d1)(o2:IW d2):CA K (NK K d1 d2 g) d1 d2 (.bl (g (PyData.eqv (pd d1) (pd d2)))):=fun v w Hf H Q s r1 r2 k=>⟨Hf,s,r1,r2,o1,o2,k _ Hf H (.refl s) (.bl _)⟩
mutual
theorem eqv_refl:∀ d:Dt,plain d=true->PyData.eqv (pd d) (pd d)=true
 | .cF,_=>by simp[pd,PyData.eqv]
 | .bl b,_=>by simp[pd,PyData.eqv]
 | .int i,_=>by simp[pd,PyData.eqv]
 | .str x,_=>by simp[pd,PyData.eqv]
 | .tup ds,h=>by rw[plain] at h;rw[pd,PyData.eqv];exact qI ds h
 | .lst ds,h=>by rw[plain] at h;rw[pd,PyData.eqv];exact qI ds h
 | .dZ _,h=>by rw[plain] at h;cases h
 | .oy _,h=>by rw[plain] at h;cases h
 | .obj _ _,h=>by rw[plain] at h;cases h
 | .ty _,h=>by rw[plain] at h;cases h
 | .cls _,h=>by rw[plain] at h;cases h
 | .xo _,h=>by rw[plain] at h;cases h
 | .oO _,h=>by rw[plain] at h;cases h
 | .A3 _ _,h=>by rw[plain] at h;cases h
 | .c9 _,h=>by rw[plain] at h;cases h
 | .memo _ _ _ _,h=>by rw[plain] at h;cases h
 | .dq _ _ _ _,h=>by rw[plain] at h;cases h
 | .vL _ _ _,h=>by rw[plain] at h;cases h
 | .qz _ _ _ _ _,h=>by rw[plain] at h;cases h
theorem qI:∀ ds:List Dt,ko ds=true->PyData.eqvAll (Bm ds) (Bm ds)=true
 | [],_=>by simp[Bm,PyData.eqvAll]
 | d::r,h=>by
   rw[ko,Bool.and_eq_true] at h
   rw[Bm,PyData.eqvAll,eqv_refl d h.1,qI r h.2];rfl
end
theorem LP (hr:X.A.units+64 < cLine)(ha:EE X G dl a d1)(hb:EE X G dl b d2)(o1:IW d1)(o2:IW d2)(hu:PyData.eqv (pd d1) (pd d2)=u):EE X G dl (.Compare a [.Eq] [b] pos) (.bl u):=by
 subst hu;exact qB (NL hr) (FY (g:=id) o1 o2) (jt _) ha hb
theorem Ri (hr:X.A.units+64 < cLine)(ha:EE X G dl a d1)(hb:EE X G dl b d2)(o1:IW d1)(o2:IW d2)(hu:(!PyData.eqv (pd d1) (pd d2))=u):EB X G dl (.Compare a [.NotEq] [b] pos) u:=by
 subst hu;exact kX (NM hr) (FY (g:=(!·)) o1 o2) (jt _) ha hb
theorem Rj (ha:EE X G dl a (.int i))(hb:EE X G dl b (.int j)):EB X G dl (.Compare a [.Lt] [b] pos) (decide (i < j)):=kX QJ (pH (g':=fun i j=>.bl (decide (i < j))) fun _ _ _ _=>.bl _) (jt _) ha hb
theorem LQ (ha:EE X G dl a (.int i))(hb:EE X G dl b (.int j)):EB X G dl (.Compare a [.LtE] [b] pos) (decide (i<=j)):=kX Fw (pH (g':=fun i j=>.bl (decide (i<=j))) fun _ _ _ _=>.bl _) (jt _) ha hb
theorem wH (ha:EE X G dl a (.int i))(hb:EE X G dl b (.int j)):EB X G dl (.Compare a [.Gt] [b] pos) (decide (j < i)):=kX LI (pH (g':=fun i j=>.bl (decide (j < i))) fun _ _ _ _=>.bl _) (jt _) ha hb
theorem FZ (ha:EE X G dl a (.int i))(hb:EE X G dl b (.int j)):EB X G dl (.Compare a [.GtE] [b] pos) (decide (j<=i)):=kX QK (pH (g':=fun i j=>.bl (decide (j<=i))) fun _ _ _ _=>.bl _) (jt _) ha hb
theorem uu {K:W.Frag}{w1 w2:V}{g:Bool->Bool}(h1:∀ H w,Rep K H w d1->w=w1)(h2:∀ H w,Rep K H w d2->w=w2)(hs:Jo w1 w2=true):CA K (fun x y H Q=>Jo x y=true/\Q (.bl (g (decide (x=y)))) H) d1 d2 (.bl (g (decide (w1=w2)))):=fun v w Hf H Q s r1 r2 k=>by
 cases h1 _ _ r1;cases h2 _ _ r2;exact⟨hs,k _ Hf H (.refl s) (.bl _)⟩
theorem nE (i j:Int):decide (V.int i=V.int j)=decide (i=j):=by simp
theorem pz (i j:Str):decide (V.str i=V.str j)=decide (i=j):=by simp
theorem NN (ha:EE X G dl a (.int i))(hb:EE X G dl b (.int j)):EE X G dl (.Compare a [.Eq] [b] pos) (.bl (decide (i=j))):=by
 rw[<- nE];exact qB Co (uu (g:=id) (fun _ _ r=>by cases r;rfl) (fun _ _ r=>by cases r;rfl) rfl) (jt _) ha hb
theorem kY (ha:EE X G dl a (.int i))(hb:EE X G dl b (.int j)):EB X G dl (.Compare a [.Eq] [b] pos) (decide (i=j)):=by
 rw[<- nE];exact kX Co (uu (g:=id) (fun _ _ r=>by cases r;rfl) (fun _ _ r=>by cases r;rfl) rfl) (jt _) ha hb
theorem xJ (ha:EE X G dl a (.int i))(hb:EE X G dl b (.int j)):EB X G dl (.Compare a [.NotEq] [b] pos) (!decide (i=j)):=by
 rw[<- nE];exact kX QI (uu (g:=(!·)) (fun _ _ r=>by cases r;rfl) (fun _ _ r=>by cases r;rfl) rfl) (jt _) ha hb
theorem NO (ha:EE X G dl a (.str x))(hb:EE X G dl b (.str y)):EE X G dl (.Compare a [.Eq] [b] pos) (.bl (decide (x=y))):=by
 rw[<- pz];exact qB Co (uu (g:=id) (fun _ _ r=>by cases r;rfl) (fun _ _ r=>by cases r;rfl) rfl) (jt _) ha hb
theorem fQ (ha:EE X G dl a (.str x))(hb:EE X G dl b (.str y)):EB X G dl (.Compare a [.Eq] [b] pos) (decide (x=y)):=by
 rw[<- pz];exact kX Co (uu (g:=id) (fun _ _ r=>by cases r;rfl) (fun _ _ r=>by cases r;rfl) rfl) (jt _) ha hb
end
structure GF (P:Program)(w:World)(K:W.Frag)(mg:Str->Option Value)(base:Heap)(CX:pA)(k:Nat)(x:Str)(n:Nat)(R:List Dt->Res->Prop):Prop where
 ex:∃ f fd ps,iL P w K mg base CX k f fd ps (CD K n R)/\mg x=some (.ref f)/\W.keepIn K (.ref f)=true/\Binds K fd ps []
structure MF (P:Program)(w:World)(K:W.Frag)(mg:Str->Option Value)(base:Heap)(CX:pA)(k:Nat)(C:Addr)(m:Str)(n:Nat)(R:List Dt->Res->Prop):Prop where
 cl:rP K C
 ex:∃ f fd ps,iL P w K mg base CX k f fd ps (CD K n R)/\Meth K C m f/\Binds K fd ps []
section
variable {X:Cx}{G:Gr}{dl:List Slot}{e:Expr}{es:List Expr}{d:Dt}{ds:List Dt}{pos p apos:Pos}{x m:Str}{C:Addr}{fs:List (Str×Dt)}{CX:pA}{k k' n:Nat}{R:List Dt->Res->Prop}{ob:Expr}
theorem b5 (F:GF X.prog X.w X.K X.mg X.base CX k x n R)(nx:xG CX)(hr:di k' X.A)(ha:EA X G dl (e::es) ds)(h:R ds (.ret d))(rV:k<=k':=by decide)(hl:ds.length=n:=by rfl)(hg:Gl X x:=by rfl)(lN:(x == ("__debug__":Str))=false:=by decide)(he:starEach (e::es) X.env=(false,eval e X.env)::starEach es X.env:=by rfl)(mD:(backTo pos (starEach es X.env)).any (·.1)=false:=by rfl):EE X G dl (.Call (.Name x p) (e::es) [] pos) d:=by
 obtain⟨f,fd,ps,F,hm,hk,hb⟩:=F.ex
 refine JK (dvs:=[]) (vds:=[]) F nx (hr.mono rV) hm hk hb .nil (fun _=>.nil) ha (by rw[List.append_nil];exact hl) (by rw[List.append_nil];exact h) hg lN he mD
theorem cI {pl:Sem Bool}(he:EE X G dl ob (.obj C fs))(F:MF X.prog X.w X.K X.mg X.base CX k C m n R)(nx:xG CX)(hr:di k' X.A)(ha:EA X G dl (e::es) ds)(h:R (.obj C fs::ds) (.ret d))(rV:k<=k':=by decide)(hl:(Dt.obj C fs::ds).length=n:=by rfl)(pj:fs.lookup m=none:=by rfl)
   (oM:starEach (e::es) X.env=(false,eval e X.env)::starEach es X.env:=by rfl) (mD:(backTo pos (starEach es X.env)).any (·.1)=false:=by rfl)
   (ht:eval (.Call (.Attribute ob m apos) (e::es) [] pos) X.env=(do
     let ov <- eval ob X.env
     standAt apos.atName
     let (f,first) <- holding [ov] (getMethod ov m pl)
     callWith pos f first (backTo pos (starEach (e::es) X.env)) (backToKw pos (keywordEach [] X.env))):=by rfl):EE X G dl (.Call (.Attribute ob m apos) (e::es) [] pos) d:=by
 obtain⟨f,fd,ps,Fo,hm,hb⟩:=F.ex
 refine CF (dvs:=[]) (vds:=[]) (pl:=pl) he F.cl hm Fo nx (hr.mono rV) hb .nil (fun _=>.nil) ha (by rw[List.append_nil];exact hl) (by rw[List.append_nil];exact h) pj oM mD ht
theorem bD {pl:Sem Bool}(he:EE X G dl ob (.obj C fs))(F:MF X.prog X.w X.K X.mg X.base CX k C m n R)(nx:xG CX)(hr:di k' X.A)(h:R [.obj C fs] (.ret d))(rV:k<=k':=by decide)(hl:[Dt.obj C fs].length=n:=by rfl)(pj:fs.lookup m=none:=by rfl)
   (ht:eval (.Call (.Attribute ob m apos) [] [] pos) X.env=(do
     let ov <- eval ob X.env
     standAt apos.atName
     let (f,first) <- holding [ov] (getMethod ov m pl)
     callWith pos f first (backTo pos (starEach [] X.env)) (backToKw pos (keywordEach [] X.env))):=by rfl):EE X G dl (.Call (.Attribute ob m apos) [] [] pos) d:=by
 obtain⟨f,fd,ps,Fo,hm,hb⟩:=F.ex
 refine zI (dvs:=[]) (vds:=[]) (pl:=pl) he F.cl hm Fo nx (hr.mono rV) hb .nil (fun _=>.nil) hl h pj ht
end
noncomputable def Xn:List Value:=[.type "ValueError",.type "Exception",.type "BaseException",.type "object"]
structure ExC (K:W.Frag)(C:Addr):Prop where
 ex:W.excIn K C Xn "ValueError.__new__"=true
noncomputable def vM:Value->Shared->Prop:=fun _ _=>False
theorem JL {P:Program}{w:World}{A:Around}{R:Result->Shared->Prop}{s:Shared}{elt tg iter:Expr}{sc:Scope}{pos:Pos}{it acc:Value}{env:Env}(J:Nat->Shared->Prop)
   (turn:∀ n s,J n s->wpAny (model P w) A (pyNext it) (fun r s1=>match r with
     | none=>R (.ok .next) s1
     | some v=>wpAny (model P w) A (letOwnedTupleGo tg it v) (fun _ s2=>wpAny (model P w) A (assign tg env v) (fun _ s3=>wpAny (model P w) A (eval elt env) (fun x s4=>
         wpAny (model P w) A (call (.builtin "list.append") [acc,x]) (fun _ s5=>∃ m,m < n/\J m s5) vM s4) vM s3) vM s2) vM s1) vM s)
   (n:Nat) (h:J n s):codeAny (model P w) A (.compLoop (.ListComp elt [⟨tg,iter,[],0⟩] sc pos) 0 it acc env) R s:=by
 have off:∀ {B:Value->Shared->Prop} (x:Value) (s':Shared),vM x s'->B x s':=fun _ _ z=>z.elim
 refine codeAny_loop rfl J (fun n s hJ=>?_) n h
 show wpAny _ A ((compTurn (.ListComp elt [⟨tg,iter,[],0⟩] sc pos) 0 it acc env).onRaise (fun x=>(do noteFrame x env;theTreesLotGoes x))) _ _ s
 refine wpAny_noted ?_
 rw[compTurn_list1]
 refine wpAny_bind (wpAny_standAt (wpAny_bind (wpAny_mono (turn n s hJ) (fun r s1 h1=>?_) off)))
 cases r with
 | none=>exact wpAny_pure h1
 | some v=>
   refine wpAny_bind (wpAny_mono h1 (fun _ s2 h2=>wpAny_bind (wpAny_mono h2 (fun _ s3 h3=>wpAny_bind (wpAny_bind ?_)) off)) off)
   exact wpAny_mono h3 (fun x s4 h4=>wpAny_bind (wpAny_mono h4 (fun _ s5 h5=>wpAny_pure (wpAny_pure ⟨rfl,h5⟩)) off)) off
noncomputable def xK (cells:List (Str×Addr)):List (Str×NameKind)->List (Str×Addr)->List (Str×Addr)
 | [],cs=>cs
 | (n,k)::r,cs=>if k == .free then xK cells r ((n,(cells.lookup n).getD 0)::cs) else xK cells r cs
noncomputable def kJ (sc:Scope)(env:Env):List (Str×Addr):=xK env.cells sc.names []
theorem xM {env:Env}:∀ (l:List (Str×NameKind)) (cs:List (Str×Addr)),(∀ y∈l,y.2=.free->∃ c,env.cells.lookup y.1=some c) ->
   (forIn l cs fun(x:Str×NameKind) r=>(if x.2 == .free then (do let c <- cellOf env x.1;pure (ForInStep.yield ((x.1,c)::r))) else pure (ForInStep.yield r):Sem _))=pure (xK env.cells l cs)
 | [],cs,_=>rfl
 | (n,k)::l,cs,h=>by
   have hr:∀ y∈l,y.2=.free->∃ c,env.cells.lookup y.1=some c:=fun y hy=>h y (List.mem_cons_of_mem _ hy)
   rw[List.forIn_cons,xK]
   by_cases hk:(k == NameKind.free)=true
   . obtain⟨c,hc⟩:=h (n,k) List.mem_cons_self (by simpa using hk)
     have hc:env.cells.lookup n=some c:=hc
     simp only[hk,if_true,cellOf,hc,pure_bind,Option.getD_some]
     exact xM l _ hr
   . simp only[hk,if_false,pure_bind]
     exact xM l _ hr
theorem xN {sc:Scope}{env:Env}(h:∀ y∈sc.names,y.2=.free->∃ c,env.cells.lookup y.1=some c):closureFor sc env=pure (kJ sc env):=by
 unfold closureFor kJ
 have:=xM (env:=env) sc.names [] h
 simp only[bind_pure]
 refine Eq.trans ?_ this
 congr 1
theorem pK {cells:List (Str×Addr)}{y:Str}{c:Addr}:∀ (l:List (Str×NameKind)) (cs:List (Str×Addr)),(xK cells l cs).lookup y=some c->((y,NameKind.free)∈l/\(cells.lookup y).getD 0=c)\/cs.lookup y=some c
 | [],cs,h=>.inr h
 | (n,k)::l,cs,h=>by
   rw[xK] at h
   by_cases hk:(k == NameKind.free)=true
   . rw[if_pos hk] at h
     have Xo:k=.free:=by simpa using hk
     subst Xo
     rcases pK l _ h with⟨h1,h2⟩ | h1
     . exact .inl ⟨List.mem_cons_of_mem _ h1,h2⟩
     . rw[List.lookup_cons] at h1
       cases q:(y == n) with
       | true=>
         rw[q] at h1
         have e:y=n:=by simpa using q
         subst e
         exact .inl ⟨List.mem_cons_self,Option.some.inj h1⟩
       | false=>rw[q] at h1;exact .inr h1
   . rw[if_neg hk] at h
     rcases pK l _ h with⟨h1,h2⟩ | h1
     . exact .inl ⟨List.mem_cons_of_mem _ h1,h2⟩
     . exact .inr h1
theorem jg {cells:List (Str×Addr)}{y:Str}:∀ (l:List (Str×NameKind)) (cs:List (Str×Addr)),((y,NameKind.free)∈l\/∃ c,cs.lookup y=some c)->∃ c,(xK cells l cs).lookup y=some c
 | [],cs,h=>by
   rcases h with h | h
   . cases h
   . exact h
 | (n,k)::l,cs,h=>by
   rw[xK]
   by_cases hk:(k == NameKind.free)=true
   . rw[if_pos hk]
     refine jg l _ ?_
     rcases h with h | ⟨c,h⟩
     . rcases List.mem_cons.mp h with h | h
       . cases h;exact .inr ⟨_,by rw[List.lookup_cons,show(y == y)=true by simp]⟩
       . exact .inl h
     . refine .inr ?_
       rw[List.lookup_cons]
       cases q:(y == n) with
       | true=>exact⟨_,rfl⟩
       | false=>exact⟨c,h⟩
   . rw[if_neg hk]
     refine jg l _ ?_
     rcases h with h | h
     . rcases List.mem_cons.mp h with h | h
       . cases h;exact absurd rfl hk
       . exact .inl h
     . exact .inr h
theorem fo {env:Env}{y:Str}{k:NameKind}:∀ {names:List (Str×NameKind)},(names.map fun(n,k)=>if (k == NameKind.free && env.scope.kind == .function && env.kindOf n == some .cell) then (n,NameKind.cell) else (n,k)).lookup y=some k->∃ k',(y,k')∈names/\(k=k'\/k'=.free)
 | [],h=>by simp at h
 | (n,kk)::r,h=>by
   rw[List.map_cons,List.lookup_cons] at h
   by_cases hc:(kk == NameKind.free && env.scope.kind == .function && env.kindOf n == some .cell)=true
   . simp only[hc,if_true] at h
     cases q:(y == n) with
     | true=>
       have e:y=n:=by simpa using q
       subst e
       have:kk=.free:=by
         have:=hc;simp at this;exact this.1.1
       exact⟨kk,List.mem_cons_self,.inr this⟩
     | false=>
       rw[q] at h
       obtain⟨k',h1,h2⟩:=fo h
       exact⟨k',List.mem_cons_of_mem _ h1,h2⟩
   . simp only[hc,Bool.false_eq_true,if_false] at h
     cases q:(y == n) with
     | true=>
       have e:y=n:=by simpa using q
       subst e
       rw[q] at h
       exact⟨kk,List.mem_cons_self,.inl (Option.some.inj h).symm⟩
     | false=>
       rw[q] at h
       obtain⟨k',h1,h2⟩:=fo h
       exact⟨k',List.mem_cons_of_mem _ h1,h2⟩
theorem lW {env:Env}{y:Str}:∀ {names:List (Str×NameKind)},names.lookup y=some .free->(names.map fun(n,k)=>if (k == NameKind.free && env.scope.kind == .function && env.kindOf n == some .cell) then (n,NameKind.cell) else (n,k)).lookup y=some .cell \/
   (names.map fun(n,k)=>if (k == NameKind.free && env.scope.kind == .function && env.kindOf n == some .cell) then (n,NameKind.cell) else (n,k)).lookup y=some .free
 | [],h=>by simp at h
 | (n,kk)::r,h=>by
   rw[List.map_cons,List.lookup_cons]
   rw[List.lookup_cons] at h
   cases q:(y == n) with
   | true=>
     rw[q] at h
     have:kk=.free:=Option.some.inj h
     subst this
     by_cases hc:(NameKind.free == NameKind.free && env.scope.kind == .function && env.kindOf n == some .cell)=true
     . left;simp only[hc,if_true];simp[q]
     . right;simp only[hc,Bool.false_eq_true,if_false];simp[q]
   | false=>
     rw[q] at h
     have ih:=lW (env:=env) h
     by_cases hc:(kk == NameKind.free && env.scope.kind == .function && env.kindOf n == some .cell)=true
     . simp only[hc,if_true,q];exact ih
     . simp only[hc,Bool.false_eq_true,if_false,q];exact ih
structure gf (X:Cx)(N:List Str)(ix:List Nat)(x:Str)(sc:Scope):Prop where
 nd:N.Nodup
 nm:N=x::ix.map (fun j=>X.N.getD j "")
 kind:sc.kind=.function
 uv:∀ y∈sc.names,y.2≠.cell
 names:∀ y∈sc.names,y.2=.local->sc.names.lookup y.1=some .local
 hx:sc.names.lookup x=some .local
 fr:∀ y∈sc.names,y.2=.free->X.env.kindOf y.1=some .cell\/X.env.kindOf y.1=some .free
 Rk:∀ j∈ix,∃ y,X.N[j]?=some y/\sc.names.lookup y=some .free
noncomputable def bI (X:Cx)(N:List Str)(sc:Scope)(C:Addr)(fp:List Addr)(s:Shared)(H:Hp):Cx:=
 { X with N:=N,s₀:=s,H₀:=H,env:=compEnvC sc (kJ sc X.env) C X.env,outer:=X.stack,stack:=X.stack,ex:=fp,fn:=fun _=>false,pn:=[],xe:=vM}
noncomputable def frees (ix:List Nat)(st:L2.St):L2.St:=ix.map fun j=>(st[j]?).join
section
variable {X:Cx}{N:List Str}{ix:List Nat}{x:Str}{sc:Scope}{pins:List (Addr×Obj)}{st:L2.St}{H H':Hp}{s s':Shared}{C D:Addr}{fp:List Addr}{h1:Heap}
theorem F0 (B:gf X N ix x sc)(ok:X.Ok):closureFor sc X.env=pure (kJ sc X.env):=xN fun y hy hk=>ok.has y.1 (B.fr y hy hk)
theorem uw (B:gf X N ix x sc)(ok:X.Ok){y:Str}{c:Addr}(h:(kJ sc X.env).lookup y=some c):X.env.cells.lookup y=some c/\(y,NameKind.free)∈sc.names:=by
 rcases pK _ _ h with⟨h1,h2⟩ | h1
 . obtain⟨c',h3⟩:=ok.has y (B.fr _ h1 rfl)
   rw[h3] at h2
   cases h2
   exact⟨h3,h1⟩
 . cases h1
theorem xO (B:gf X N ix x sc)(I:L2.Inv X pins st H s)(hC:s.heap.objs.size<=C)(hf:∀ b∈fp,kj X pins H b)(d5:∀ b∈fp,b < s.heap.objs.size):(bI X N sc C fp s H).Ok where
 mod:=I.ok.mod
 kind:=B.kind
 glob:=I.ok.glob
 blt:=I.ok.blt
 above:=hC
 inj:=fun y z c h1 h2=>I.ok.inj y z c (uw B I.ok h1).1 (uw B I.ok h2).1
 has:=fun y hy=>by
   have hy:(relabel sc X.env).names.lookup y=some .cell\/(relabel sc X.env).names.lookup y=some .free:=hy
   have:(y,NameKind.free)∈sc.names:=by
     rcases hy with hy | hy
     . obtain⟨k',h1,h2⟩:=fo hy
       rcases h2 with h2 | h2
       . subst h2;exact absurd rfl (B.uv _ h1)
       . subst h2;exact h1
     . obtain⟨k',h1,h2⟩:=fo hy
       rcases h2 with h2 | h2 <;> subst h2 <;> exact h1
   exact jg _ _ (.inl this)
 PY:=fun y c h=>by cases h
 hd:=I.ok.hd
 frames:=I.ok.frames
 Qo:=.inl rfl
 Jj:=fun b hb=>⟨Nat.ne_of_lt (Nat.lt_of_lt_of_le (d5 b hb) hC),fun y c h=>(hf b hb).2.2.2.2.1 y c (uw B I.ok h).1⟩
 bs:=I.bs
 Cg:=Nat.le_trans I.ok.Cg I.sz
 zi:=fun b o e hb=>by
   rcases (hf b hb).2.2.2.1 with z | z
   . exact I.ok.zi b o e z
   . exact absurd (Nat.lt_of_lt_of_le (Heap.lt_size e) (Nat.le_trans I.ok.Cg z)) (Nat.lt_irrefl _)
 zj:=fun b hb z=>by
   rcases List.mem_cons.mp (I.tV b z) with z | z
   . exact(hf b hb).2.1 z
   . exact(hf b hb).2.2.1 z
 qo:=I.stack
 LD:=I.sA
theorem D7 (B:gf X N ix x sc)(I:L2.Inv X pins st H s)(hf:∀ b∈fp,kj X pins H b)(d5:∀ b∈fp,b < s.heap.objs.size)(hC:C=s.heap.objs.size+1)(k:∀ b o,s.heap.get? b=some o->h1.get? b=some o)(hn:h1.Ns C fun _=>none)(hD:h1.get? s.heap.objs.size=some { cls:=.type "list",data:=.seq ([]:List Value).toArray 0}){t':Nat}:L2.Inv (bI X N sc C fp s H) [] (none::frees ix st) (upd H s.heap.objs.size (.lst [])) { s with heap:=h1,toks:=t'}:=by
 have LR:s.heap.objs.size<=C:=by rw[hC];exact Nat.le_succ _
 have fr:∀ a,s.heap.objs.size<=a->H a=none:=fun a ha=>I.bb.fresh ha
 have ok:=xO B I LR hf d5
 have A0:∀ y c,(kJ sc X.env).lookup y=some c->H c=none/\c < s.heap.objs.size/\∃ v,s.heap.IsCell c v:=fun y c h=>by
   have h:=(uw B I.ok h).1
   obtain⟨v,q⟩:=I.cell y c h
   exact⟨I.ow y c h,q.lt,v,q⟩
 refine⟨ok,rfl,I.bare,Un.laid k (Nat.le_refl _) (fr _ (Nat.le_refl _)),⟨_,hn,fun i y v e1 e2 e3=>?_⟩,fun y c h=>?_,?_,fun y c h=>?_,fun p hp=>absurd (show p∈([]:List (Addr×Obj)) from hp) (by simp),?_,?_⟩
 . have e1:N[i]?=some y:=e1
   cases i with
   | zero=>cases e2
   | succ i=>
     rw[B.nm,List.getElem?_cons_succ,List.getElem?_map] at e1
     rw[List.getElem?_cons_succ] at e2
     unfold frees at e2
     rw[List.getElem?_map] at e2
     cases q:ix[i]? with
     | none=>rw[q] at e1;cases e1
     | some j=>
       rw[q] at e1 e2
       obtain⟨y',IY,LU⟩:=B.Rk j (List.mem_of_getElem? q)
       have JM:=PySem.mem_of_lookup LU
       have ey:y=y':=by
         have e1:X.N.getD j ""=y:=Option.some.inj e1
         rw[List.getD_eq_getElem?_getD,IY] at e1
         exact e1.symm
       subst ey
       have e2:(st[j]?).join=some v:=Option.some.inj e2
       have Rm:st[j]?=some (some v):=by
         cases q2:st[j]? with
         | none=>rw[q2] at e2;cases e2
         | some z=>rw[q2] at e2;rw[show z=some v from e2]
       have kd:=B.fr _ JM rfl
       have Rn:vH X.env.scope y:=by
         rcases kd with z | z
         . exact .inr (.inl z)
         . exact .inr (.inr z)
       obtain⟨m,_,hl⟩:=I.loc
       obtain⟨u,r,l⟩:=hl j y v IY Rm Rn
       refine⟨u,r,.inr ?_⟩
       rcases l with⟨z,_⟩ | ⟨_,c,hc,ic⟩
       . rcases kd with z' | z' <;> rw[z] at z' <;> cases z'
       . obtain⟨c',A1⟩:=jg (cells:=X.env.cells) sc.names [] (.inl JM)
         have:=(uw B I.ok A1).1
         rw[hc] at this;cases this
         obtain⟨oc,Cj,hd⟩:=ic
         refine⟨?_,c,A1,oc,k _ _ Cj,hd⟩
         rcases e3 with e3 | e3 | e3
         . have e3:(relabel sc X.env).names.lookup y=some .local:=e3
           rcases lW (env:=X.env) LU with z | z
           . exact absurd (e3.symm.trans z) (by decide)
           . exact absurd (e3.symm.trans z) (by decide)
         . exact .inl e3
         . exact .inr e3
 . obtain⟨_,_,v,oc,Cj,hd⟩:=A0 y c h
   exact⟨v,oc,k _ _ Cj,hd⟩
 . show upd H s.heap.objs.size (.lst []) C=none
   rw[ag (by rw[hC];exact Nat.succ_ne_self _)]
   exact fr _ LR
 . show upd H s.heap.objs.size (.lst []) c=none
   obtain⟨q1,q2,_⟩:=A0 y c h
   rw[ag (Nat.ne_of_lt q2)]
   exact q1
 . exact I.bb.laid k (Nat.le_refl _) ⟨Nat.zero_le _,[],0,.nil,hD⟩
 . show(none::frees ix st).length=N.length
   rw[B.nm]
   unfold frees
   simp
noncomputable def NP (te:TE)(fs:L2.St)(J:It)(D:Addr)(Q:List V->Hp->Prop)(H:Hp):Prop:=
 ∃ W:Nat->Nat->List V->Hp->Prop,(∃ m,W 0 m [] (upd H D (.lst [])))/\∀ i m ys H1,W i m ys H1 ->
   (J.stop i H1/\Q ys H1)\/(J.go i H1/\ys.length < sizeLine/\∀ v H2,J.IT i H1 v H2->te (some v::fs) H2 fun y H3=>H3 D=some (.lst ys)/\∃ m',m' < m/\W (i+1) m' (ys ++ [y]) (upd H3 D (.lst (ys ++ [y]))))
theorem CH {elt iter:Expr}{px pos:Pos}{te:TE}{J:It}{it:Addr}{tn:Nat->Heap->Prop}{Q:Addr->List V->Hp->Prop}{RR:Value->Addr->Result->Shared->Prop}{E:Value->Shared->Prop}(hc:X.calm=true)(B:gf X N ix x sc)(ju:∀ C fp s H,PE (bI X N sc C fp s H) elt te)(I:L2.Inv X pins st H s)(T:Turn X.prog X.w X.K (.Name x px) J fp it tn)(h0:tn 0 s.heap)(hf:∀ b∈fp,kj X pins H b)(hq:∀ D,H D=none->NP te (frees ix st) J D (Q D) H)(Ro:∀ D C ys H' s',L2.Inv X pins st H' s'->(∃ m,s'.heap.Ns C m)->kj X pins H' C->Q D ys H'->RR (.ref D) C (.ok .next) s'):wpAny (model X.prog X.w) X.A (newList []) (fun acc s3=>wpAny (model X.prog X.w) X.A (newFunctionEnv sc X.env.globals (kJ sc X.env) [] X.env.qual none .none (some X.env)) (fun zK s4=>codeAny (model X.prog X.w) X.A (.compStart (.ListComp elt [⟨.Name x px,iter,[],0⟩] sc pos) 0 (.ref it) acc { zK with scope:=relabel sc X.env}) (RR acc zK.locals) s4) E s3) E s:=by
 have d5:∀ b∈fp,b < s.heap.objs.size:=fun b hb=>by
   obtain⟨o,e,_⟩:=T.obj _ _ h0 b hb
   exact Heap.lt_size e
 refine wpAny_newObj_type (wpAny_newFunctionEnv B.uv (fun y hy=>absurd hy (by simp)) (fun h1 E2 D8=>?_) B.kind)
 dsimp only at E2 D8 ⊢
 generalize hG:s.heap.push { cls:=.type "list",dict:=none,data:=.seq ([]:List Value).toArray}=g at E2 D8 ⊢
 have hC:g.objs.size=s.heap.objs.size+1:=by rw[<- hG,Heap.size_push]
 have TF:s.heap.objs.size≠g.objs.size:=by rw[hC];exact Nat.ne_of_lt (Nat.lt_succ_self _)
 have old:∀ b o,s.heap.get? b=some o->h1.get? b=some o:=fun b o e=>
   D8.extBut b o (by rw[hC];exact Nat.ne_of_lt (Nat.lt_succ_of_lt (Heap.lt_size e))) (Heap.get?_push_of_some _ (hG ▸ Heap.get?_push_of_some _ e))
 have F1:h1.get? s.heap.objs.size=some { cls:=.type "list",data:=.seq ([]:List Value).toArray 0}:=D8.extBut _ _ TF (Heap.get?_push_of_some _ (hG ▸ Heap.get?_push_size _ rfl))
 have hD:H s.heap.objs.size=none:=I.bb.fresh (Nat.le_refl _)
 obtain⟨W,⟨m0,w0⟩,turn⟩:=hq _ hD
 have I0:=D7 (t':=s.toks+([]:List (Str×Value)).length) B I hf d5 hC old (by simpa using E2) F1
 have LV:tn 0 h1:=T.keep _ _ _ h0 fun b _ o e=>old b o e
 have mX:s.heap.objs.size<=g.objs.size:=by rw[hC];exact Nat.le_succ _
 have oN:∀ {H':Hp},(∀ b∈fp,H' b=none)->∀ b∈fp,kj (bI X N sc g.objs.size fp s H) [] H' b:=fun {H'} hn b hb=>
   ⟨hn b hb,((xO B I mX hf d5).Jj b hb).1,(xO B I mX hf d5).zj b hb,.inl hb,((xO B I mX hf d5).Jj b hb).2,fun p hp=>absurd (show p∈([]:List (Addr×Obj)) from hp) (by simp)⟩
 have hN:(bI X N sc g.objs.size fp s H).N[0]?=some x:=by
   show N[0]?=some x
   rw[B.nm];rfl
 have F2:(bI X N sc g.objs.size fp s H).env.scope.names.lookup x=some .local:=lookup_relabel_local B.hx
 have loop:∀ s3:Shared,s3={ s with heap:=h1,toks:=s.toks+([]:List (Str×Value)).length} ->
     codeAny (model X.prog X.w) X.A (.compLoop (.ListComp elt [⟨.Name x px,iter,[],0⟩] sc pos) 0 (.ref it) (.ref s.heap.objs.size) (compEnvC sc (kJ sc X.env) g.objs.size X.env)) (RR (.ref s.heap.objs.size) g.objs.size) s3:=by
   rintro s3 rfl
   refine JL (fun n s'=>∃ i ys σ H',L2.Inv (bI X N sc g.objs.size fp s H) [] (σ::frees ix st) H' s'/\tn i s'.heap/\(∀ b∈fp,H' b=none)/\W i n ys H') ?_ m0
     ⟨0,[],none,_,I0,LV,fun b hb=>?_,w0⟩
   . rintro n s5 ⟨i,ys,σ,H5,I5,E1,IU,w5⟩
     rcases turn i n ys H5 w5 with⟨stop,qn⟩ | ⟨go,hz,step⟩
     . refine bQ (T.done (bI X N sc g.objs.size fp s H) rfl rfl rfl hc i [] s5 _ H5 vM I5 (oN IU) E1 stop) fun r s6 ⟨hr,I6⟩=>?_
       subst hr
       refine Ro _ _ ys H5 s6 ?_ ?_ (I.vI mX I6.free) qn
       . exact I.Fi I6.os I6.base I6.bb I6.bare fun b hb=>⟨(hf b hb).2.2.2.1,(hf b hb).2.1,(hf b hb).2.2.2.2.1,(hf b hb).2.2.2.2.2⟩
       . obtain⟨m,hm,_⟩:=I6.loc
         exact⟨m,hm⟩
     . refine bQ (T.item (bI X N sc g.objs.size fp s H) rfl rfl rfl hc i [] s5 _ H5 vM I5 (oN IU) E1 go) fun r s6 ⟨u,hr,h6⟩=>?_
       subst hr
       refine bQ h6 fun _ s7 ⟨v,H7,I7,r7,y7,F3,Rp⟩=>?_
       have Rq:=I7.pinned (oN Rp) (T.obj _ _ F3)
       refine bQ (ck (X:=bI X N sc g.objs.size fp s H) (pos:=px) B.nd hN (.inl F2) (.inr F2) _ s7 _ H7 v u (fun σ' H'=>σ'=some v::frees ix st/\H'=H7) Rq r7 ⟨rfl,rfl⟩) fun _ s8 h8=>?_
       obtain⟨σ8,H8,I8,rfl,rfl⟩:=h8
       refine bQ (ju g.objs.size fp s H _ s8 _ H8 _ I8 (step v H8 y7)) fun z s9 ⟨y,H9,I9,r9,Rr,m',hm,w9⟩=>?_
       refine bQ (ll _ s9 _ H9 (.ref s.heap.objs.size) [y] (.ref s.heap.objs.size) [z] (fun _ H'=>H'=upd H9 s.heap.objs.size (.lst (ys ++ [y]))) I9 rfl (.cons r9 .nil) ⟨_,ys,y,rfl,rfl,Rr,hz,rfl⟩) fun _ Xp Rt=>?_
       obtain⟨_,Xq,F4,_,rfl⟩:=Rt
       refine⟨m',hm,i+1,ys ++ [y],some v,_,F4.jf (pins:=[]),T.keep _ _ _ F3 fun b hb o e=>(F4.pin (b,o) (List.mem_append_right _ (List.mem_append_right _ (fk hb e)))).1,fun b hb=>?_,w9⟩
       obtain⟨o,e,d⟩:=T.obj _ _ F3 b hb
       exact(F4.pin (b,o) (List.mem_append_right _ (List.mem_append_right _ (fk hb e)))).2.1
   . rw[ag (Nat.ne_of_lt (d5 b hb))]
     exact(hf b hb).1
 exact codeAny_compStart_list (loop _ rfl) (T.self _ 0 _ _ _ LV (loop _ rfl))
end
noncomputable def TH (K:PySem.W.Frag)(G:Gr)(dl:List Slot)(o:Own):TE:=fun st H Q=>∃ Hf,cS K G st Hf H dl/\∀ p aF H',aP Hf H aF H'->H p=none->aF p=none->gd K aF H' p o->Q (.ref p) H'
noncomputable abbrev EO (X:Cx)(G:Gr)(dl:List Slot)(e:Expr)(o:Own):Prop:=PE X e (TH X.K G dl o)
noncomputable def Ru:Own->Dt
 | .lst ds=>.lst ds
 | .dZ k=>.dZ k
 | .obj C fs=>.obj C fs
 | .zH _ C fs=>.obj C fs
 | .oP C fs gs nm n=>.qz C fs gs nm n
 | .xE _ C fs gs nm n=>.qz C fs gs nm n
 | .kW k=>.kW k
section
variable {K:W.Frag}{G:Gr}{st:L2.St}{Hf H aF H':Hp}{dl:List Slot}{p:Addr}{w:Own}{u:HO}
theorem zL (g:aP Hf H aF H')(n:H p=none)(n':aF p=none)(e:H' p=some u):aP Hf H (upd aF p u) H':=
 ⟨g.big,g.aW.trans (a5 n'),fun b o h=>by
   by_cases hb:b=p
   . subst hb;rw[aj] at h;cases h;exact e
   . rw[ag hb] at h;exact g.sub _ _ h,fun a o h=>by
   by_cases hb:a=p
   . subst hb;exact .inr (.inl n)
   . rw[ag hb] at h;exact g.new a o h⟩
theorem xP (r:gd K Hf H p w)(n:Hf p=none):∃ u,H p=some u/\Rep K (upd Hf p u) (.ref p) (Ru w):=by
 cases w with
 | lst ds=>obtain⟨vs,h,r⟩:=r;exact⟨_,h,.lst aj (r.mono (a5 n))⟩
 | dZ ds=>obtain⟨vs,h,r⟩:=r;exact⟨_,h,.dZ aj (r.mono (a5 n))⟩
 | obj C ds=>obtain⟨dx,fs,h,r⟩:=r;exact⟨_,h,.obj (.of aj) (r.mono (a5 n))⟩
 | zH x C ds=>obtain⟨_,dx,fs,h,r⟩:=r;exact⟨_,h,.obj (.of aj) (r.mono (a5 n))⟩
 | oP C ds gs nm k=>obtain⟨dx,fs,b,ls,q,h,r⟩:=r;exact⟨_,h,.qz q (.of aj) (r.mono (a5 n))⟩
 | xE x C ds gs nm k=>obtain⟨_,dx,fs,b,ls,q,h,r⟩:=r;exact⟨_,h,.qz q (.of aj) (r.mono (a5 n))⟩
 | kW ks=>exact⟨_,r,.kW aj⟩
theorem cS.NQ (S:cS K G st Hf H dl)(g:aP Hf H aF H'){i:Nat}(n:H p=none)(n':aF p=none)(r:gd K aF H' p w):cS K G (st.set i (some (.ref p))) aF H' (dl.set i (.own w)):=by
 have ln:=S.len
 have S':=S.grow g
 have pn:∀ (j:Nat) (o':Own) (a:Addr),dl[j]?=some (Slot.own o')->st[j]?=some (some (V.ref a))->a≠p:=fun j o' a h1 h2=>by
   obtain⟨b,q1,_,_,q4⟩:=S.own j o' h1
   rw[h2] at q1;cases q1
   obtain⟨u,hu⟩:=q4.some
   exact aw hu n
 refine⟨S'.gr,by simp[S.len],fun j x h=>?_,fun j o' h=>?_,fun j k o1 o2 a h1 h2 h3 h4=>?_⟩
 . by_cases e:i=j
   . subst e
     by_cases hl:i < dl.length
     . rw[List.getElem?_set_self hl] at h;cases h
     . rw[List.getElem?_eq_none (by simp;omega)] at h;cases h
   . rw[List.getElem?_set_ne e] at h ⊢;exact S'.val j x h
 . by_cases e:i=j
   . subst e
     by_cases hl:i < dl.length
     . rw[List.getElem?_set_self hl] at h;cases h
       exact⟨p,List.getElem?_set_self (by omega),n',S.gr.big.free n,r⟩
     . rw[List.getElem?_eq_none (by simp;omega)] at h;cases h
   . rw[List.getElem?_set_ne e] at h ⊢
     exact S'.own j o' h
 . by_cases ej:i=j
   . by_cases ek:i=k
     . omega
     . subst ej
       rw[List.getElem?_set_ne ek] at h2 h4
       by_cases hl:i < st.length
       . rw[List.getElem?_set_self hl] at h3;cases h3
         exact absurd rfl (pn k o2 _ h2 h4)
       . rw[List.getElem?_eq_none (by simp;omega)] at h3;cases h3
   . rw[List.getElem?_set_ne ej] at h1 h3
     by_cases ek:i=k
     . subst ek
       by_cases hl:i < st.length
       . rw[List.getElem?_set_self hl] at h4;cases h4
         exact absurd rfl (pn j o1 _ h1 h3)
       . rw[List.getElem?_eq_none (by simp;omega)] at h4;cases h4
     . rw[List.getElem?_set_ne ek] at h2 h4
       exact S.D2 j k o1 o2 a h1 h2 h3 h4
theorem cS.aW (S:cS K G st Hf H dl){i:Nat}(hd:dl[i]?=some (.own w)):∃ aF,aD Hf aF/\cS K G st aF H (dl.set i (.val (Ru w))):=by
 have ln:=S.len
 obtain⟨p,h1,h2,h3,h4⟩:=S.own i w hd
 obtain⟨u,hu,rp⟩:=xP h4 h2
 have hl:i < dl.length:=(List.getElem?_eq_some_iff.mp hd).1
 have sm:aD Hf (upd Hf p u):=a5 h2
 refine⟨upd Hf p u,sm,⟨S.gr.big,S.gr.aW.trans sm,fun b o h=>?_,fun a o h=>?_⟩,by simp[S.len],fun j x h=>?_,fun j o' h=>?_,fun j k o1 o2 a q1 q2 q3 q4=>?_⟩
 . by_cases hb:b=p
   . subst hb;rw[aj] at h;cases h;exact hu
   . rw[ag hb] at h;exact S.gr.sub _ _ h
 . by_cases hb:a=p
   . subst hb;exact .inr (.inl h3)
   . rw[ag hb] at h;exact S.gr.new a o h
 . by_cases e:i=j
   . subst e
     rw[List.getElem?_set_self hl] at h;cases h
     exact⟨_,h1,rp⟩
   . rw[List.getElem?_set_ne e] at h
     obtain⟨v,z1,z2⟩:=S.val j x h
     exact⟨v,z1,z2.mono sm⟩
 . by_cases e:i=j
   . subst e;rw[List.getElem?_set_self hl] at h;cases h
   . rw[List.getElem?_set_ne e] at h
     obtain⟨a,z1,z2,z3,z4⟩:=S.own j o' h
     have ne:a≠p:=fun q=>by subst q;exact e (S.D2 i j _ _ _ hd h h1 z1)
     exact⟨a,z1,by rw[ag ne];exact z2,z3,z4.grow rfl sm⟩
 . have tr:∀ (j:Nat) o',(dl.set i (.val (Ru w)))[j]?=some (.own o')->dl[j]?=some (.own o'):=fun j o' h=>by
     by_cases e:i=j
     . subst e;rw[List.getElem?_set_self hl] at h;cases h
     . rw[List.getElem?_set_ne e] at h;exact h
   exact S.D2 j k _ _ a (tr _ _ q1) (tr _ _ q2) q3 q4
end
section
variable {X:Cx}{G:Gr}{E:XK}{dl:List Slot}{a b e:Expr}{i:Int}{d:Dt}{ds:List Dt}{pos p:Pos}{o:Out}{x:Str}{u v:Bool}{sts:List Stmt}{C:Addr}{w:Own}{fs:List (Str×Dt)}
theorem JN (h:EO X G dl e w):EE X G dl e (Ru w):=fB h fun st H Q ⟨Hf,S,k⟩=>⟨Hf,S,fun p aF H' g n n' r=>by
 obtain⟨u,hu,rp⟩:=xP r n'
 exact k _ _ H' (zL g n n' hu) rp⟩
theorem kr (h:EO X G dl e (.lst ds)):EE X G dl e (.lst ds):=JN h
theorem Rv (h:EO X G dl e (.obj C fs)):EE X G dl e (.obj C fs):=JN h
theorem zM {w':Own}(h:EO X G dl e w)(q:w=w'):EO X G dl e w':=by subst q;exact h
theorem lX (n:Nat){x:Str}{pos':Pos}(hN:X.N.Nodup)(he:EO X G dl e w)(hi:X.N[n]?=some x:=by rfl)(hx:Loc X.env.scope x:=by first | exact Or.inl rfl | exact Or.inr rfl)(hs:swapsWith e (some (.Name x pos')) pos.line X.env=pure false:=by rfl)(hf:X.fn x=true\/X.env.scope.names.lookup x=some .local:=by first | exact .inl rfl | exact .inr rfl | assumption):ES X G E dl (.Assign [.Name x pos'] e pos) (.nx (dl.set n (.own w))):=
 wG (xp hN hi hx he hs hf) fun D st H ⟨Hf,S,k⟩=>⟨Hf,S,fun p au H1 g1 n1 n2 r1=>k _ au H1 g1.aW (S.NQ g1 n1 n2 r1)⟩
theorem lY (h:EO X G dl e w):ES X G E dl (.Return (some e) pos) (.ro w):=wG (A5 h) fun D st H ⟨Hf,S,k⟩=>⟨Hf,S,fun p au H1 g1 n1 n2 r1=>k p au H1 (S.gr.trans g1) (S.gr.big.free n1) n2 r1⟩
theorem qJ (i:Nat)(h:lu X G E (dl.set i (.val (Ru w))) sts o)(hd:dl[i]?=some (.own w):=by rfl):lu X G E dl sts o:=rT h fun D st H ⟨Hf,S,k⟩=>by
 obtain⟨aF,sm,S'⟩:=S.aW hd
 exact⟨aF,S',k.mono sm⟩
noncomputable def Y9 (K:W.Frag)(G:Gr)(dl:List Slot)(n:Nat)(w:Own):TE:=fun st H Q=>∃ Hf a,cS K G st Hf H dl/\st[n]?=some (some (.ref a))/\Hf a=none/\gd K Hf H a w/\Q (.ref a) H
theorem zN (n:Nat)(hd:dl[n]?=some (.own w))(hN:X.N[n]?=some x)(hv:vH X.env.scope x)(hb:(x == ("__debug__":Str))=false)(lP:(x == ("__classdict__":Str))=false):PE X (.Name x p) (Y9 X.K G dl n w):=
 fB (iO hN hv hb lP) fun st H Q ⟨Hf,a,S,h1,_,_,q⟩=>⟨_,h1,q⟩
theorem oQ (n:Nat)(hb:EE X G dl b (.int i))(h:lj ds i=some d)(hd:dl[n]?=some (.own (.lst ds)):=by rfl)(hN:X.N[n]?=some x:=by rfl)(hv:vH X.env.scope x:=by first | exact Or.inl rfl | exact Or.inr (Or.inl rfl) | exact Or.inr (Or.inr rfl))(lN:(x == ("__debug__":Str))=false:=by decide)(lP:(x == ("__classdict__":Str))=false:=by decide)(hs:jK b:=by intro _ _;rfl):EE X G dl (.Subscript (.Name x p) b pos) d:=
 fB (rG xy (zN (p:=p) n hd hN hv lN lP) hb hs) fun st H Q ⟨Hf,S,k⟩=>by
   obtain⟨q,h1,h2,h3,h4⟩:=S.own n _ hd
   refine⟨Hf,q,S,h1,h2,h4,Hf,S,fun z au H1 g1 r1=>?_⟩
   cases r1
   obtain⟨vs,hq,rp⟩:=h4
   obtain⟨v,Za,Zb⟩:=rp.lj h
   exact⟨q,vs,i,v,rfl,rfl,.of (g1.big _ _ hq),Za,k v au H1 g1 (Zb.mono g1.aW)⟩
theorem jh (n:Nat){m:Nat}{ps pn:Pos}(he:EE X G dl e d)(hb:EE X G dl b (.int i))(h:zy ds.length i=some m)(hd:dl[n]?=some (.own (.lst ds)):=by rfl)(hN:X.N[n]?=some x:=by rfl)
   (hv:vH X.env.scope x:=by first | exact Or.inl rfl | exact Or.inr (Or.inl rfl) | exact Or.inr (Or.inr rfl)) (lN:(x == ("__debug__":Str))=false:=by decide) (lP:(x == ("__classdict__":Str))=false:=by decide)
   (ha:∀ v,assign (.Subscript (.Name x pn) b ps) X.env v=(do
     let ov <- holding [v] (eval (.Name x pn) X.env)
     let iv <- holding [v,ov] (eval b X.env)
     standAt ps
     holding [v,ov,iv] (setItem ov iv v)
     release [v,ov,iv] []):=by intro _;rfl)
   (hs:swapsWithSole [.Subscript (.Name x pn) b ps] e pos.line X.env=pure false:=by rfl) (hw:swappedStores [.Subscript (.Name x pn) b ps] e X.env=pure none:=by rfl)
   (h1:(assignEach [.Subscript (.Name x pn) b ps] X.env).map (·.2)=[assign (.Subscript (.Name x pn) b ps) X.env]:=by rfl) :
   ES X G E dl (.Assign [.Subscript (.Name x pn) b ps] e pos) (.nx (dl.set n (.own (.lst (ds.set m d))))):=
 wG (A6 he (MW (zN (p:=pn) n hd hN hv lN lP) hb set_list ha) hs hw h1) fun D st H ⟨Hf,S,k⟩=>⟨Hf,S,fun v au H1 g1 r1=>by
   have S1:=S.grow g1
   obtain⟨q,z1,z2,z3,z4⟩:=S1.own n _ hd
   refine⟨au,q,S1,z1,z2,z4,au,S1,fun iv bT H2 g2 r2=>?_⟩
   cases r2
   have S2:=S1.grow g2
   obtain⟨q',y1,y2,y3,vs,hq,rp⟩:=S2.own n _ hd
   rw[z1] at y1;cases y1
   refine⟨q,vs,i,m,rfl,rfl,hq,by rw[rp.length];exact h,?_⟩
   exact k st bT _ (g1.aW.trans g2.aW) (S2.JG hd z1 ⟨_,aj,rp.set (r1.mono g2.aW) m⟩)⟩
end
section
variable {X:Cx}{G:Gr}{E:XK}{dl:List Slot}{a b e:Expr}{es:List Expr}{i j:Int}{d d1 d2:Dt}{ds Va:List Dt}{pos p apos b6:Pos}{x:Str}{v:Bool}{s:Stmt}
theorem ux (h:EA X G dl es ds)(hl:ds.length<=sizeLine:=by decide):EO X G dl (.List es pos) (.lst ds):=
 fB (t5 h) fun st H Q ⟨Hf,S,k⟩=>⟨Hf,S,fun vs au H1 g1 r1=>⟨by rw[r1.length];exact hl,fun p hp=>k p au _ (g1.trans (.dH g1.sub hp)) (g1.big.free hp) (g1.sub.free hp) ⟨vs,aj,r1⟩⟩⟩
theorem LW {op:Operator}{r:R2}(ho:nC X (binaryOp op) r)(ha:EE X G dl a d1)(hb:EE X G dl b d2)(h:∀ v z Hf H Q,aD Hf H->Rep X.K Hf v d1->Rep X.K Hf z d2->(∀ p vs,H p=none->bc X.K Hf vs ds->Q (.ref p) (upd H p (.lst vs)))->r v z H Q):EO X G dl (.BinOp a op b pos) (.lst ds):=
 fB (LH ho ha hb) fun st H Q ⟨Hf,S,k⟩=>⟨Hf,S,fun v au H1 g1 r1=>⟨au,S.grow g1,fun z bT H2 g2 r2=>h v z bT H2 Q g2.sub (r1.mono g2.aW) r2 fun p vs hp rv=>
   k p bT _ ((g1.trans g2).trans (.dH g2.sub hp)) ((g1.trans g2).big.free hp) (g2.sub.free hp) ⟨vs,aj,rv⟩⟩⟩
theorem Bo (ha:EE X G dl a (.lst ds))(hb:EE X G dl b (.lst Va))(hl:ds.length+Va.length<=sizeLine):EO X G dl (.BinOp a .Add b pos) (.lst (ds ++ Va)):=
 LW Nn ha hb fun v z Hf H Q s r1 r2 k=>by
   cases r1 with
   | lst h1 q1=>cases r2 with
     | lst h2 q2=>exact⟨_,_,_,_,rfl,rfl,s _ _ h1,s _ _ h2,by rw[q1.length,q2.length];exact hl,fun p hp=>k p _ hp (q1.append q2)⟩
theorem zO {K:W.Frag}{H:Hp}{vs:List V}{ds:List Dt}(r:bc K H vs ds):∀ n:Nat,bc K H (List.replicate n vs).flatten (List.replicate n ds).flatten
 | 0=>.nil
 | n+1=>by
   rw[List.replicate_succ,List.replicate_succ,List.flatten_cons,List.flatten_cons]
   exact r.append (zO r n)
theorem xQ (ha:EE X G dl a (.lst ds))(hb:EE X G dl b (.int i))(h1:-(2 ^ 63)<=i)(h2:i < 2 ^ 63)(hl:ds.length * i.toNat<=sizeLine):EO X G dl (.BinOp a .Mult b pos) (.lst (List.replicate i.toNat ds).flatten):=
 LW Np ha hb fun v z Hf H Q s r1 r2 k=>by
   cases r1 with
   | lst q1 r1=>cases r2;exact⟨_,i,_,rfl,rfl,s _ _ q1,h1,h2,by rw[r1.length];exact hl,fun p hp=>k p _ hp (zO r1 _)⟩
theorem xR (hm:X.mg "list"=none)(ha:EE X G dl a (.lst ds))(hg:Gl X "list":=by rfl)(he:starEach [a] X.env=[(false,eval a X.env)]:=by rfl):EO X G dl (.Call (.Name "list" p) [a] [] pos) (.lst ds):=
 fB (kg pF hg hm boot_list (ae ha ai he) (he:=he)) fun st H Q ⟨Hf,S,k⟩=>⟨Hf,S,fun vs au H1 g1 r1=>by
   cases r1 with
   | cons r t=>cases t;cases r with
     | @lst q vs _ z r=>exact⟨q,vs,rfl,.inl (.of (g1.sub _ _ z)),fun l hl=>k l au _ (g1.trans (.dH g1.sub hl)) (g1.big.free hl) (g1.sub.free hl) ⟨vs,aj,r⟩⟩⟩
theorem Ea:bootBuiltins "max"=some (.builtin "max"):=by decide +kernel
theorem Eb:bootBuiltins "min"=some (.builtin "min"):=by decide +kernel
theorem F5 (hm:X.mg "max"=none)(hc:X.calm=true)(ha:EA X G dl [a,b] [.int i,.int j])(hg:Gl X "max":=by rfl)(he:starEach [a,b] X.env=(false,eval a X.env)::starEach [b] X.env:=by rfl)(mD:(backTo pos (starEach [b] X.env)).any (·.1)=false:=by rfl) :
   EE X G dl (.Call (.Name "max" p) [a,b] [] pos) (.int (if j > i then j else i)):=
 fB (fm (DN hc) hg hm Ea ha (by decide) (by decide) he mD) fun st H Q ⟨Hf,S,k⟩=>⟨Hf,S,fun vs au H1 g1 r1=>by
   cases r1 with
   | cons r1 t1=>cases t1 with
     | cons r2 t2=>cases t2;cases r1;cases r2;exact⟨i,j,rfl,k _ au H1 g1 (.int _)⟩⟩
theorem NR (hm:X.mg "min"=none)(hc:X.calm=true)(ha:EA X G dl [a,b] [.int i,.int j])(hg:Gl X "min":=by rfl)(he:starEach [a,b] X.env=(false,eval a X.env)::starEach [b] X.env:=by rfl)(mD:(backTo pos (starEach [b] X.env)).any (·.1)=false:=by rfl) :
   EE X G dl (.Call (.Name "min" p) [a,b] [] pos) (.int (if j < i then j else i)):=
 fB (fm (DO hc) hg hm Eb ha (by decide) (by decide) he mD) fun st H Q ⟨Hf,S,k⟩=>⟨Hf,S,fun vs au H1 g1 r1=>by
   cases r1 with
   | cons r1 t1=>cases t1 with
     | cons r2 t2=>cases t2;cases r1;cases r2;exact⟨i,j,rfl,k _ au H1 g1 (.int _)⟩⟩
theorem Ec (n:Nat){pn:Pos}(he:EE X G dl e d)(hl:ds.length < sizeLine)(hd:dl[n]?=some (.own (.lst ds)):=by rfl)(hN:X.N[n]?=some x:=by rfl)(hv:vH X.env.scope x:=by first | exact Or.inl rfl | exact Or.inr (Or.inl rfl) | exact Or.inr (Or.inr rfl))
   (lN:(x == ("__debug__":Str))=false:=by decide) (lP:(x == ("__classdict__":Str))=false:=by decide)
   (kl:attributeBase (.Name x pn) "append" X.env (eval (.Name x pn) X.env)=eval (.Name x pn) X.env:=by rfl)
   (t8:((backTo b6 (starEach [e] X.env)).all (fun x=>!x.1) && (backToKw b6 (keywordEach [] X.env)).all (fun x=>x.1.isSome) && decide ([e].length+([]:List Keyword).length+(if ([]:List Keyword).isEmpty then 0 else 1) < 30))=true:=by rfl)
   (km:(apos.endLine == b6.line)=true:=by rfl) (oM:starEach [e] X.env=(false,eval e X.env)::starEach [] X.env:=by rfl) (hs:swapsWith (.Call (.Attribute (.Name x pn) "append" apos) [e] [] b6) none pos.line X.env=pure false:=by rfl) :
   ES X G E dl (.Expr (.Call (.Attribute (.Name x pn) "append" apos) [e] [] b6) pos) (.nx (dl.set n (.own (.lst (ds ++ [d]))))):=
 wG (lQ (t7 PySem.F.plainAttrs_list PySem.F.slot_list_append PySem.F.type_list_append ll (zN (p:=pn) n hd hN hv lN lP) (ae he ai oM) kl t8 km oM rfl) hs) fun D st H ⟨Hf,S,k⟩=>by
   obtain⟨q,z1,z2,z3,vs,hq,rp⟩:=S.own n _ hd
   refine⟨Hf,q,S,z1,z2,⟨vs,hq,rp⟩,.inl ⟨rfl,vs,.of hq⟩,Hf,S,fun us au H1 g1 r1=>?_⟩
   cases r1 with
   | cons r1 t1=>
     cases t1
     refine⟨q,vs,_,rfl,rfl,g1.big _ _ hq,by rw[rp.length];exact hl,?_⟩
     exact k st au _ g1.aW ((S.grow g1).JG hd z1 ⟨_,aj,(rp.mono g1.aW).append (.cons r1 .nil)⟩)
theorem nG {K:W.Frag}{H:Hp}:∀ {vs:List V} {xs:List Str},bc K H vs (xs.map Dt.str)->vs=xs.map V.str
 | _,[],.nil=>rfl
 | _,x::xs,.cons r t=>by cases r;rw[nG t];rfl
end
noncomputable def zP:Option Slot->Slot
 | some (.val d)=>.val d
 | _=>.bV
theorem wI {o:Option Slot}{w:Own}(h:zP o=.own w):False:=by
 unfold zP at h
 split at h <;> cases h
theorem wJ {o:Option Slot}{d:Dt}(h:zP o=.val d):o=some (.val d):=by
 unfold zP at h
 split at h
 . cases h;rfl
 . cases h
noncomputable def iN (dl:List Slot)(ix:List Nat):List Slot:=ix.map fun j=>zP dl[j]?
section
variable {K:W.Frag}{G:Gr}{st:L2.St}{Hf H au H1:Hp}{dl:List Slot}{ix:List Nat}
theorem JO (S:cS K G st Hf H dl)(s1:aD Hf au)(sb:aD au H1){v:V}{d:Dt}(r:Rep K au v d):cS K ⟨au,H1⟩ (some v::frees ix st) au H1 (.val d::iN dl ix):=by
 have no:∀ (i:Nat) o,(Slot.val d::iN dl ix)[i]?≠some (.own o):=fun i o h=>by
   cases i with
   | zero=>cases h
   | succ i=>
     rw[List.getElem?_cons_succ] at h
     unfold iN at h
     rw[List.getElem?_map] at h
     cases q:ix[i]? with
     | none=>rw[q] at h;cases h
     | some j=>
       rw[q] at h
       exact wI (Option.some.inj h)
 refine⟨.refl sb,by simp[frees,iN],fun i x h=>?_,fun i o h=>absurd h (no i o),fun i j o o' a h=>absurd h (no i o)⟩
 cases i with
 | zero=>cases h;exact⟨v,rfl,r⟩
 | succ i=>
   rw[List.getElem?_cons_succ] at h ⊢
   unfold iN at h
   unfold frees
   rw[List.getElem?_map] at h ⊢
   cases q:ix[i]? with
   | none=>rw[q] at h;cases h
   | some j=>
     rw[q] at h
     have hd:=wJ (Option.some.inj h)
     obtain⟨v',z1,z2⟩:=S.val j x hd
     exact⟨v',by rw[Option.map_some,z1];rfl,z2.mono s1⟩
end
section
variable {X:Cx}{G:Gr}{E:XK}{dl:List Slot}{a b elt iter:Expr}{i j:Int}{ys:List Dt}{zs:Nat->Dt}{pos p px py vN:Pos}{o:Out}{x y:Str}{N:List Str}{ix:List Nat}{sc:Scope}{n:Nat}
noncomputable def F6 (X:Cx)(N:List Str)(sc:Scope)(dl:List Slot)(ix:List Nat)(elt:Expr)(n:Nat)(zs:Nat->Dt)(ys:List Dt):Prop:=
 ∀ k,k < n->∀ C fp s H G',EE (bI X N sc C fp s H) G' (.val (zs k)::iN dl ix) elt (ys.getD k .cF)
noncomputable def NS (K:W.Frag)(dl:List Slot)(ix:List Nat)(n:Nat)(zs:Nat->Dt)(ys:List Dt):TE:=fun st H Q=>∃ k G',k < n/\tD K G' (.val (zs k)::iN dl ix) (ys.getD k .cF) st H Q
theorem F7 (h:F6 X N sc dl ix elt n zs ys):∀ C fp s H,PE (bI X N sc C fp s H) elt (NS X.K dl ix n zs ys):=fun C fp s H pins s' st H' Q I ⟨k,G',hk,q⟩=>h k hk C fp s H G' pins s' st H' Q I q
theorem F8 {st:L2.St}{Hf H:Hp}{J:It}{Q:VK}(S:cS X.K G st Hf H dl)(P8:ys.length=n)(hn:n<=sizeLine)(go:∀ au H1,aP Hf H au H1->∀ i,(i < n->J.go i H1/\∀ v H2,J.IT i H1 v H2->H2=H1/\Rep X.K au v (zs i))/\(i=n->J.stop i H1))(k:∀ p aF H',aP Hf H aF H'->H p=none->aF p=none->gd X.K aF H' p (.lst ys)->Q (.ref p) H'):∀ D,H D=none->NP (NS X.K dl ix n zs ys) (frees ix st) J D (fun _ H'=>Q (.ref D) H') H:=by
 intro D hD
 refine⟨fun i m vs H1=>m=n - i/\i<=n/\∃ au,aP Hf H au H1/\au D=none/\H1 D=some (.lst vs)/\bc X.K au vs (ys.take i),⟨n,rfl,Nat.zero_le _,Hf,.dH S.sub hD,S.sub.free hD,aj,.nil⟩,?_⟩
 rintro i m vs H1 ⟨rfl,hi,au,g1,Rw,P9,rp⟩
 have hlen:=rp.length
 rw[List.length_take] at hlen
 by_cases d5:i < n
 . obtain⟨Rx,hy⟩:=(go au H1 g1 i).1 d5
   refine .inr ⟨Rx,by omega,fun v H2 y=>?_⟩
   obtain⟨e,rv⟩:=hy v H2 y
   subst e
   refine⟨i,⟨au,H2⟩,d5,au,JO S g1.aW g1.sub rv,fun z bT H3 g2 r2=>?_⟩
   have Zc:H3 D=some (.lst vs):=g2.big _ _ P9
   have Xr:bT D=none:=by
     cases q:bT D with
     | none=>rfl
     | some u=>
       obtain⟨o,z⟩:=g2.ua P9 (fun z=>z) q
       rw[Rw] at z;cases z
   have g:=g1.trans g2
   refine⟨Zc,n - (i+1),by omega,rfl,d5,bT,⟨fun a o h=>?_,g.aW,fun a o h=>?_,g.new⟩,Xr,aj,?_⟩
   . rw[ag (aw h hD)];exact g.big _ _ h
   . rw[ag (aw h Xr)];exact g2.sub _ _ h
   . have:ys.take (i+1)=ys.take i ++ [ys.getD i .cF]:=by
       rw[List.take_add_one,List.getD_eq_getElem?_getD,List.getElem?_eq_getElem (by omega)];rfl
     rw[this]
     exact(rp.mono g2.aW).append (.cons r2 .nil)
 . have e:i=n:=by omega
   subst e
   refine .inl ⟨(go au H1 g1 i).2 rfl,k D au H1 g1 hD Rw ⟨vs,P9,?_⟩⟩
   rw[List.take_of_length_le (by omega)] at rp
   exact rp
noncomputable def Vb (wi:TI)(ix:List Nat)(te:TE):TE:=fun st H Q=>wi st H fun J H1=>∀ D,H1 D=none->NP te (frees ix st) J D (fun _ H'=>Q (.ref D) H') H1
theorem Ry {wi:TI}{te:TE}(hc:X.calm=true)(B:gf X N ix x sc)(hi:PI X (.Name x px) iter wi)(ju:∀ C fp s H,PE (bI X N sc C fp s H) elt te)(hs:∀ z,foldedSetIterable iter X.env z=pure z):PE X (.ListComp elt [⟨.Name x px,iter,[],0⟩] sc pos) (Vb wi ix te):=by
 intro pins s st H Q I h
 rw[eval_ListComp]
 refine wpAny_comprehension_free (use:=none) rfl hs (F0 B I.ok) B.kind B.names (bQ (hi pins s st H _ I h) fun v s1 h1=>bQ h1 fun M0 s2 h2=>?_)
 obtain⟨it,fp,tn,J,H2,e,I2,T,EZ,f2,hq⟩:=h2
 subst e
 refine CH (RR:=fun acc C=>compPost (model X.prog X.w) X.A X.xe none (EP X pins st Q) acc C) hc B ju I2 T EZ f2 hq ?_
 intro D C ws H' s' I' ⟨m,hn⟩ og q
 exact⟨m,hn,fun h' JP=>⟨.ref D,H',I'.turned (t':=s'.toks) (it:=C) (fun b o hb e=>(JP.2 b hb).trans e) og.1 og.2.1 og.2.2.2.1 og.2.2.2.2.1 og.2.2.2.2.2,rfl,q⟩⟩
theorem Rz {wi:TI}{te:TE}{nN:Nat}(hc:X.calm=true)(B:gf X N ix x sc)(hi:PI X (.Name x px) iter wi)(ju:∀ C fp s H,PE (bI X N sc C fp s H) elt te)(hs:∀ z,foldedSetIterable iter X.env z=pure z)(NT:swapsWith (.ListComp elt [⟨.Name x px,iter,[],0⟩] sc pos) (some (.Name y py)) vN.line X.env=pure true)(hN:X.N.Nodup)(hy:X.N[nN]?=some y)(hl:Loc X.env.scope y)(hf:X.fn y=true\/X.env.scope.names.lookup y=some .local):PS X (.Assign [.Name y py] (.ListComp elt [⟨.Name x px,iter,[],0⟩] sc pos) vN) (fun D st H=>Vb wi ix te st H fun v H'=>D.nx (st.set nN (some v)) H'):=by
 intro pins s st H D0 I h
 rw[exec_Assign_Name_used _ _ _ _ NT]
 refine wpAny_bind (wpAny_standAt (wpAny_bind ?_))
 show wpAny _ X.A (do let _ <- comprehension (.ListComp elt [⟨.Name x px,iter,[],0⟩] sc pos) sc X.env _ (newList []) false (eval iter X.env) (some (assign (.Name y py) X.env))) _ _ s
 refine wpAny_bind (wpAny_mono (wpAny_comprehension_free (use:=some (assign (.Name y py) X.env)) (Q:=fun _ s'=>SP X pins D0 .next s') rfl hs (F0 B I.ok) B.kind B.names (bQ (hi pins s st H _ I h) fun v s1 h1=>bQ h1 fun M0 s2 h2=>?_)) (fun _ s' hq=>wpAny_pure (wpAny_pure hq)) fun _ _ z=>z)
 obtain⟨it,fp,tn,J,H2,e,I2,T,EZ,f2,hq⟩:=h2
 subst e
 refine CH (RR:=fun acc C=>compPost (model X.prog X.w) X.A X.xe (some (assign (.Name y py) X.env)) (fun _ s'=>SP X pins D0 .next s') acc C) hc B ju I2 T EZ f2 hq ?_
 intro D C ws H' s' I' ⟨m,hn⟩ og q
 refine wpAny_assign_Name (qp I' hN hy hl (v:=.ref D) rfl (fun Nh Vc ⟨ad,D8,ha⟩=>?_) hf)
 have ne:C≠ad:=by
   rcases ha with z | z
   . rw[z];exact og.2.1
   . exact Ne.symm (og.2.2.2.2.1 _ _ z)
 exact⟨m,hn.sameBut D8 ne,fun h' JP=>⟨_,H',Vc.turned (t':=Nh.toks) (it:=C) (fun b o hb e=>(JP.2 b hb).trans e) og.1 og.2.1 og.2.2.2.1 og.2.2.2.2.1 og.2.2.2.2.2,q⟩⟩
noncomputable def F9 (X:Cx)(G:Gr)(dl:List Slot)(n:Nat)(zs:Nat->Dt)(wi:TI):Prop:=∀ st H (R:It->Hp->Prop),(∃ Hf,cS X.K G st Hf H dl/\∀ J Ga H0,aP Hf H Ga H0 ->
 (∀ au H1,aP Ga H0 au H1->∀ i,(i < n->J.go i H1/\∀ v H2,J.IT i H1 v H2->H2=H1/\Rep X.K au v (zs i))/\(i=n->J.stop i H1))->R J H0)->wi st H R
theorem uy (hn:-(2 ^ 62)<=j/\j < 2 ^ 62):F9 X G dl j.toNat (fun k=>.int k) (LG (Tv X.K G dl [.int j])):=fun st H R ⟨Hf,S,k⟩=>⟨Hf,S,fun vs au H1 g1 r1=>by
 cases r1 with
 | cons r t=>
   cases t;cases r
   refine⟨j,rfl,hn.1,hn.2,k _ au H1 g1 fun bT H2 g2 i=>⟨fun hi=>⟨hi,fun v H3 hy=>?_⟩,fun hi=>by rw[hi];exact Nat.le_refl _⟩⟩
   obtain⟨e1,e2⟩:=hy
   subst e2
   rw[Int.zero_add]
   exact⟨e1,.int _⟩⟩
theorem zQ {wi:TI}(hs:F9 X G dl n zs wi)(P8:ys.length=n)(hn:n<=sizeLine):∀ st H Q,TH X.K G dl (.lst ys) st H Q->Vb wi ix (NS X.K dl ix n zs ys) st H Q:=fun st H Q ⟨Hf,S,k⟩=>
 hs st H _ ⟨Hf,S,fun J Ga H0 g0 src=>F8 (S.grow g0) P8 hn src fun p aF H' g n1 n2 r=>k p aF H' (g0.trans g) (g0.big.free n1) n2 r⟩
theorem RA {wi:TI}(hc:X.calm=true)(B:gf X N ix x sc)(hi:PI X (.Name x px) iter wi)(uz:F9 X G dl n zs wi)(ju:F6 X N sc dl ix elt n zs ys)(P8:ys.length=n)(hn:n<=sizeLine)(hs:∀ z,foldedSetIterable iter X.env z=pure z:=by intro _;rfl):EO X G dl (.ListComp elt [⟨.Name x px,iter,[],0⟩] sc pos) (.lst ys):=fB (Ry hc B hi (F7 ju) hs) (zQ uz P8 hn)
theorem LX (nN:Nat){wi:TI}(hc:X.calm=true)(hN:X.N.Nodup)(B:gf X N ix x sc)(hi:PI X (.Name x px) iter wi)(uz:F9 X G dl n zs wi)(ju:F6 X N sc dl ix elt n zs ys)(P8:ys.length=n)(hn:n<=sizeLine)(hs:∀ z,foldedSetIterable iter X.env z=pure z:=by intro _;rfl)(NT:swapsWith (.ListComp elt [⟨.Name x px,iter,[],0⟩] sc pos) (some (.Name y py)) vN.line X.env=pure true:=by rfl)(hy:X.N[nN]?=some y:=by rfl)(hl:Loc X.env.scope y:=by first | exact Or.inl rfl | exact Or.inr rfl)(hf:X.fn y=true\/X.env.scope.names.lookup y=some .local:=by first | exact .inl rfl | exact .inr rfl | assumption):ES X G E dl (.Assign [.Name y py] (.ListComp elt [⟨.Name x px,iter,[],0⟩] sc pos) vN) (.nx (dl.set nN (.own (.lst ys)))):=
 wG (Rz hc B hi (F7 ju) hs NT hN hy hl hf) fun D st H ⟨Hf,S,k⟩=>zQ uz P8 hn st H _ ⟨Hf,S,fun p aF H' g n1 n2 r=>k _ aF H' g.aW (S.NQ g n1 n2 r)⟩
end
theorem Bp {α:Type}{us:List α}{d:α}(h:(us ++ [d]).length=2):∃ a,us=[a]:=by
 match us,h with
 | [a],_=>exact⟨a,rfl⟩
 | [],h=>simp at h
 | _::_::r,h=>simp at h
theorem xS {α:Type}{us:List α}(h:(us ++ []).length=2):∃ a b,us=[a,b]:=by
 rw[List.append_nil] at h
 match us,h with
 | [a,b],_=>exact⟨a,b,rfl⟩
structure zR (K:W.Frag)(x qual:Str)(st:Stmt)(f:Addr)(fd:FuncData):Prop where
 ex:∃ (oc:Value) (od:Option Addr) (dV kV doc pm:Value) (an:Option Addr) (bx ct:Value) (vJ:Array (Option Value)),
   fd=W.fnOf x qual (bR st) (aG st) (ah st) dV kV doc pm an bx ct/\K.lookup f=some ⟨oc,od,.func fd,vJ⟩/\W.codeIn K bx qual=true
theorem pL {K:W.Frag}{x qual:Str}{st:Stmt}{f:Addr}{oc:Value}{od an:Option Addr}{vJ:Array (Option Value)}{dV kV doc pm bx ct:Value}(l:K.lookup f=some ⟨oc,od,.func (W.fnOf x qual (bR st) (aG st) (ah st) dV kV doc pm an bx ct),vJ⟩)(c:W.codeIn K bx qual=true):zR K x qual st f (W.fnOf x qual (bR st) (aG st) (ah st) dV kV doc pm an bx ct):=⟨⟨oc,od,dV,kV,doc,pm,an,bx,ct,vJ,rfl,l,c⟩⟩
section
variable {P:Program}{w:World}{K:W.Frag}{mg:Str->Option Value}{base:Heap}{CX:pA}{x qual:Str}{st:Stmt}{f:Addr}{fd:FuncData}{N ps:List Str}{k n:Nat}
theorem TJ {R:List Dt->Res->Prop}(F:zR K x qual st f fd)(S:aq N ps (ah st))(hn:ps.length=n)(pB:∀ (bx:Value) (A:Around) (outer:List Env) (s:Shared) (H:Hp) (E:XK) (G:Gr) (ds:List Dt) (r:Res),di k (A.deeper (envOfC qual (ah st) s.heap.objs.size f bx))->ds.length=n->R ds r->∃ o,Comes o r/\lu (zr CX P w K mg base N qual (ah st) f bx A outer s H E) G E (slots N ds) (aG st) o):iL P w K mg base CX (k+1) f fd ps (CD K n R):=by
 obtain⟨oc,od,dV,kV,doc,pm,an,bx,ct,vJ,rfl,lk,lP⟩:=F.ex
 refine Cq lk lP S (fun vs H Q E ⟨Hf,ds,r,s,rp,hl,_⟩=>by rw[rp.length,hl,hn]) fun A outer s H vs Q E hr ⟨Hf,ds,r,sm,rp,hl,hR,hk⟩=>?_
 obtain⟨o,hc,hb⟩:=pB bx A outer s H E ⟨Hf,H⟩ ds r hr hl hR
 exact⟨_,hb,Hf,qG sm rp,hc.ends hk⟩
noncomputable def Vd (K:W.Frag)(C:Addr)(Hf H:Hp)(x:Addr)(Q:VK)(E:XK):Res->Prop
 | .own w=>((∃ fs,w=.obj C fs)\/∃ fs gs nm n,w=.oP C fs gs nm n)/\∀ aF H',aP Hf H aF H'->aF x=none->gd K aF H' x w->Q .cF H'
 | .exc c fs=>∀ od aF H',aP Hf H aF H'->ExcAt K aF od fs->E c od H'
 | .ret _=>False
noncomputable def Xs (K:W.Frag)(C:Addr)(n:Nat)(R:List Dt->Res->Prop):Sp:=fun vs H Q E=>∃ Hf H1 x dx args ds r,vs=.ref x::args/\H=upd H1 x (.ins C dx [])/\H1 x=none/\aD Hf H1/\bc K Hf args ds/\ds.length+1=n/\R ds r/\Vd K C Hf H1 x Q E r
inductive xU (C x:Addr):Out->Res->Prop
 | nx {dl:List Slot} {fs:List (Str×Dt)} (h:dl[0]?=some (.own (.zH x C fs))):xU C x (.nx dl) (.own (.obj C fs))
 | ex (c:Value) (fs:List (Str×Dt)):xU C x (.ex c fs) (.exc c fs)
 | Ve {dl:List Slot} {fs:List (Str×Dt)} {gs:List (Nat->List (Key×FD))} {nm:List Str} {n:Nat} (h:dl[0]?=some (.own (.xE x C fs gs nm n))):xU C x (.nx dl) (.own (.oP C fs gs nm n))
noncomputable def qK (N:List Str)(x C:Addr)(ds:List Dt):List Slot:=.own (.zH x C [])::(ds.map Slot.val ++ List.replicate (N.length - (ds.length+1)) .bV)
theorem Bq {Hf H:Hp}{vs:List V}{ds:List Dt}{x dx C:Addr}(s:aD Hf H)(n:H x=none)(r:bc K Hf vs ds):cS K ⟨Hf,H⟩ (start N (.ref x::vs)) Hf (upd H x (.ins C dx [])) (qK N x C ds):=by
 have hl:=r.length
 have es:start N (V.ref x::vs)=some (.ref x)::(vs.map some ++ List.replicate (N.length - (vs.length+1)) none):=by
   unfold L2.start
   simp
 have xk:∀ (i:Nat) o,(qK N x C ds)[i+1]?≠some (.own o):=fun i o h=>by
   unfold qK at h
   rw[List.getElem?_cons_succ] at h
   by_cases hi:i < ds.length
   . rw[List.getElem?_append_left (by simpa using hi),List.getElem?_map] at h
     cases e:ds[i]? with
     | none=>rw[e] at h;cases h
     | some a=>rw[e] at h;cases h
   . rw[List.getElem?_append_right (by simpa using hi),List.getElem?_replicate] at h
     split at h <;> cases h
 rw[es]
 refine⟨.dH s n,?_,fun i d h=>?_,fun i o h=>?_,fun i j o o' a h h' _ _=>?_⟩
 . unfold qK
   simp[hl]
 . cases i with
   | zero=>cases h
   | succ i=>
     unfold qK at h
     rw[List.getElem?_cons_succ] at h ⊢
     by_cases hi:i < ds.length
     . rw[List.getElem?_append_left (by simpa using hi),List.getElem?_map] at h
       cases e:ds[i]? with
       | none=>rw[e] at h;cases h
       | some a=>
         rw[e] at h;cases h
         obtain⟨v,h1,h2⟩:=r.get e
         refine⟨v,?_,h2⟩
         rw[List.getElem?_append_left (by simp;omega),List.getElem?_map,h1];rfl
     . rw[List.getElem?_append_right (by simpa using hi),List.getElem?_replicate] at h
       split at h <;> cases h
 . cases i with
   | zero=>
     cases h
     exact⟨x,rfl,s.free n,n,rfl,dx,[],aj,.nil⟩
   | succ i=>exact absurd h (xk i o)
 . cases i with
   | zero=>cases j with
     | zero=>rfl
     | succ j=>exact absurd h' (xk j _)
   | succ i=>exact absurd h (xk i _)
theorem TK {C:Addr}{R:List Dt->Res->Prop}(F:zR K x qual st f fd)(S:aq N ps (ah st))(hn:ps.length=n)(pB:∀ (bx:Value) (A:Around) (outer:List Env) (s:Shared) (H:Hp) (E:XK) (G:Gr) (z:Addr) (ds:List Dt) (r:Res),di k (A.deeper (envOfC qual (ah st) s.heap.objs.size f bx))->ds.length+1=n->R ds r->∃ o,xU C z o r/\lu (zr CX P w K mg base N qual (ah st) f bx A outer s H E) G E (qK N z C ds) (aG st) o):iL P w K mg base CX (k+1) f fd ps (Xs K C n R):=by
 obtain⟨oc,od,dV,kV,doc,pm,an,bx,ct,vJ,rfl,lk,lP⟩:=F.ex
 refine Cq lk lP S (fun vs H Q E ⟨Hf,H1,z,dx,args,ds,r,e,_,_,_,rp,hl,_⟩=>by rw[e,List.length_cons,rp.length,hl,hn]) fun A outer s H vs Q E hr ⟨Hf,H1,z,dx,args,ds,r,e1,e2,hz,sm,rp,hl,hR,hk⟩=>?_
 subst e1 e2
 obtain⟨o,hc,hb⟩:=pB bx A outer s _ E ⟨Hf,H1⟩ z ds r hr hl hR
 refine⟨_,hb,Hf,Bq sm hz rp,?_⟩
 cases hc with
 | nx h=>
   obtain⟨_,kk⟩:=hk
   intro jr aF H' s' S'
   obtain⟨a,_,q2,_,q4⟩:=S'.own 0 _ h
   obtain⟨rfl,TL,fs',q5,q6⟩:=q4
   exact kk aF H' S'.gr q2 ⟨TL,fs',q5,q6⟩
 | Ve h=>
   obtain⟨_,kk⟩:=hk
   intro jr aF H' s' S'
   obtain⟨a,_,q2,_,q4⟩:=S'.own 0 _ h
   obtain⟨rfl,q5⟩:=q4
   exact kk aF H' S'.gr q2 q5
 | ex c fs=>exact hk
end
noncomputable def putD (f:Str)(v:Dt):List (Str×Dt)->List (Str×Dt)
 | []=>[(f,v)]
 | (g,x)::r=>if g=f then (g,v)::r else (g,x)::putD f v r
theorem aZ.put {K:W.Frag}{H:Hp}{f:Str}{v:V}{d:Dt}(q:Rep K H v d):∀ {vs:List (Str×V)} {ds:List (Str×Dt)},aZ K H vs ds->aZ K H (eO f v vs) (putD f d ds)
 | _,_,.nil=>.cons q .nil
 | (k,x)::vs,(_,y)::ds,.cons h r=>by
   unfold eO putD
   by_cases e:k=f
   . rw[if_pos e,if_pos e];exact .cons q r
   . rw[if_neg e,if_neg e];exact .cons h (aZ.put q r)
section
variable {X:Cx}{G:Gr}{E:XK}{dl:List Slot}{e:Expr}{es:List Expr}{d:Dt}{ds:List Dt}{pos p apos:Pos}{x m:Str}{C z:Addr}{fs:List (Str×Dt)}{CX:pA}{k k' n:Nat}{R:List Dt->Res->Prop}{ob:Expr}{wo:Own}{dvs:List Dt}
theorem jv {fn:Str}{pn:Pos}(he:EE X G dl e d)(cl:rP X.K C)(na:bB X.K C fn)(hd:dl[0]?=some (.own (.zH z C fs)):=by rfl)(hl:Nat.ble fs.length 999=true:=by rfl)(hN:X.N[0]?=some x:=by rfl)(hv:vH X.env.scope x:=by first | exact Or.inl rfl | exact Or.inr (Or.inl rfl) | exact Or.inr (Or.inr rfl))(lN:(x == ("__debug__":Str))=false:=by decide)(lP:(x == ("__classdict__":Str))=false:=by decide)(hs:swapsWith e (some (.Attribute (.Name x pn) fn apos)) pos.line X.env=pure false:=by rfl):ES X G E dl (.Assign [.Attribute (.Name x pn) fn apos] e pos) (.nx (dl.set 0 (.own (.zH z C (putD fn d fs))))):=
 wG (tZ (zN (p:=pn) 0 hd hN hv lN lP) he hs) fun D st H ⟨Hf,S,k⟩=>⟨Hf,S,fun v au H1 g1 r1=>by
   have S1:=S.grow g1
   obtain⟨a,q1,q2,q3,q4⟩:=S1.own 0 _ hd
   obtain⟨e1,dx,fv,q5,q6⟩:=id q4
   refine⟨au,a,S1,q1,q2,q4,a,C,dx,fv,rfl,q5,cl,na,by rw[q6.length];exact Nat.lt_succ_of_le (Nat.le_of_ble_eq_true hl),?_⟩
   exact k st au _ g1.aW (S1.JG hd q1 ⟨e1,dx,_,aj,q6.put r1⟩)⟩
structure NU (P:Program)(w:World)(K:W.Frag)(mg:Str->Option Value)(base:Heap)(CX:pA)(k:Nat)(x:Str)(C:Addr)(n:Nat)(R:List Dt->Res->Prop):Prop where
 ex:∃ f fd ps,iL P w K mg base CX k f fd ps (Xs K C n R)/\L2.Mk K C f/\mg x=some (.ref C)/\Binds K fd ps []
theorem sI (F:NU X.prog X.w X.K X.mg X.base CX k x C n R)(nx:xG CX)(hr:di k' X.A)(ha:EA X G dl (e::es) ds)(h:R ds (.own (.obj C fs)))(rV:k+1<=k':=by decide)(hl:ds.length+1=n:=by rfl)(hg:Gl X x:=by rfl)(lN:(x == ("__debug__":Str))=false:=by decide)(he:starEach (e::es) X.env=(false,eval e X.env)::starEach es X.env:=by rfl)(mD:(backTo pos (starEach es X.env)).any (·.1)=false:=by rfl):EO X G dl (.Call (.Name x p) (e::es) [] pos) (.obj C fs):=by
 obtain⟨f,fd,ps,Fo,M,hm,hb⟩:=F.ex
 refine fB (xw (E:=E0) M Fo (hr.mono rV) hg hm hb .nil nx.passes ha lN he mD) fun st H Q ⟨Hf,S,kk⟩=>⟨Hf,S,fun vs au H1 g1 r1 y dx hy NV ne=>?_⟩
 have Vf:(upd H1 dx (.own y)) y=none:=by rw[ag (Ne.symm ne)];exact hy
 have g2:aP au H1 au (upd H1 dx (.own y)):=.dH g1.sub NV
 refine⟨au,upd H1 dx (.own y),y,dx,vs ++ [],ds,.own (.obj C fs),rfl,rfl,Vf,g2.sub,by rw[List.append_nil];exact r1,hl,h,.inl ⟨fs,rfl⟩,fun aF H' g n1 r=>⟨rfl,?_⟩⟩
 exact kk y aF H' ((g1.trans g2).trans g) (g1.big.free hy) n1 r
theorem zS {gs:List (Nat->List (Key×FD))}{nm:List Str}{j:Nat}(F:NU X.prog X.w X.K X.mg X.base CX k x C n R)(nx:xG CX)(hr:di k' X.A)(ha:EA X G dl (e::es) ds)(h:R ds (.own (.oP C fs gs nm j)))(rV:k+1<=k':=by decide)(hl:ds.length+1=n:=by rfl)(hg:Gl X x:=by rfl)(lN:(x == ("__debug__":Str))=false:=by decide)(he:starEach (e::es) X.env=(false,eval e X.env)::starEach es X.env:=by rfl)(mD:(backTo pos (starEach es X.env)).any (·.1)=false:=by rfl):EO X G dl (.Call (.Name x p) (e::es) [] pos) (.oP C fs gs nm j):=by
 obtain⟨f,fd,ps,Fo,M,hm,hb⟩:=F.ex
 refine fB (xw (E:=E0) M Fo (hr.mono rV) hg hm hb .nil nx.passes ha lN he mD) fun st H Q ⟨Hf,S,kk⟩=>⟨Hf,S,fun vs au H1 g1 r1 y dx hy NV ne=>?_⟩
 have Vf:(upd H1 dx (.own y)) y=none:=by rw[ag (Ne.symm ne)];exact hy
 have g2:aP au H1 au (upd H1 dx (.own y)):=.dH g1.sub NV
 refine⟨au,upd H1 dx (.own y),y,dx,vs ++ [],ds,.own (.oP C fs gs nm j),rfl,rfl,Vf,g2.sub,by rw[List.append_nil];exact r1,hl,h,.inr ⟨fs,gs,nm,j,rfl⟩,fun aF H' g n1 r=>⟨rfl,?_⟩⟩
 exact kk y aF H' ((g1.trans g2).trans g) (g1.big.free hy) n1 r
theorem CI (F:GF X.prog X.w X.K X.mg X.base CX k x n R)(nx:xG CX)(hr:di k' X.A)(ha:EA X G dl (e::es) ds)(h:R ds (.own wo))(rV:k<=k':=by decide)(hl:ds.length=n:=by rfl)(hg:Gl X x:=by rfl)(lN:(x == ("__debug__":Str))=false:=by decide)(he:starEach (e::es) X.env=(false,eval e X.env)::starEach es X.env:=by rfl)(mD:(backTo pos (starEach es X.env)).any (·.1)=false:=by rfl):EO X G dl (.Call (.Name x p) (e::es) [] pos) wo:=by
 obtain⟨f,fd,ps,F,hm,hk,hb⟩:=F.ex
 exact fB (Cp (E:=E0) F (hr.mono rV) hg hm hk hb .nil nx.passes ha lN he mD) fun st H Q ⟨Hf,S,k⟩=>⟨Hf,S,fun vs au H1 g1 r1=>⟨au,ds,.own wo,g1.sub,by rw[List.append_nil];exact r1,hl,h,fun p bT H2 g2 n1 n2 r2=>k p bT H2 (g1.trans g2) (g1.big.free n1) n2 r2⟩⟩
structure E3 (P:Program)(w:World)(K:W.Frag)(mg:Str->Option Value)(base:Heap)(CX:pA)(k:Nat)(C:Addr)(m:Str)(n:Nat)(dvs:List Dt)(R:List Dt->Res->Prop):Prop where
 cl:rP K C
 ex:∃ f fd ps D5 vds,iL P w K mg base CX k f fd ps (CD K n R)/\Meth K C m f/\Binds K fd ps D5/\Vals vds D5/\∀ H,bc K H vds dvs
theorem RB {P:Program}{w:World}{K:W.Frag}{mg:Str->Option Value}{base:Heap}(F:MF P w K mg base CX k C m n R):E3 P w K mg base CX k C m n [] R:=by
 obtain⟨f,fd,ps,Fo,hm,hb⟩:=F.ex
 exact⟨F.cl,f,fd,ps,[],[],Fo,hm,hb,.nil,fun _=>.nil⟩
theorem CJ {pl:Sem Bool}(he:EE X G dl ob (.obj C fs))(F:E3 X.prog X.w X.K X.mg X.base CX k C m n dvs R)(nx:xG CX)(hr:di k' X.A)(ha:EA X G dl (e::es) ds)(h:R (.obj C fs::(ds ++ dvs)) (.own wo))(rV:k<=k':=by decide)(hl:(Dt.obj C fs::(ds ++ dvs)).length=n:=by rfl)(pj:fs.lookup m=none:=by rfl)
   (oM:starEach (e::es) X.env=(false,eval e X.env)::starEach es X.env:=by rfl) (mD:(backTo pos (starEach es X.env)).any (·.1)=false:=by rfl)
   (ht:eval (.Call (.Attribute ob m apos) (e::es) [] pos) X.env=(do
     let ov <- eval ob X.env
     standAt apos.atName
     let (f,first) <- holding [ov] (getMethod ov m pl)
     callWith pos f first (backTo pos (starEach (e::es) X.env)) (backToKw pos (keywordEach [] X.env))):=by rfl):EO X G dl (.Call (.Attribute ob m apos) (e::es) [] pos) wo:=by
 obtain⟨f,fd,ps,D5,vds,Fo,hm,hb,hd,Bl⟩:=F.ex
 exact fB (xv (pl:=pl) (E:=E0) he F.cl hm Fo (hr.mono rV) hb hd nx.passes ha oM mD ht) fun st H Q ⟨Hf,S,k⟩=>⟨Hf,S,fun v au H1 g1 r1=>by
   cases r1 with
   | @obj a _ dx fv _ q r=>
     exact⟨a,dx,fv,rfl,dt g1.sub q,r.none_of pj,au,S.grow g1,fun vs bT H2 g2 r2=>⟨bT,_,.own wo,g2.sub,.cons (.obj (dt g2.aW q) (r.mono g2.aW)) (r2.append (Bl _)),hl,h,fun p iP H3 g3 n1 n2 r3=>k p iP H3 ((g1.trans g2).trans g3) ((g1.trans g2).big.free n1) n2 r3⟩⟩⟩
theorem xV {pl:Sem Bool}(he:EE X G dl ob (.obj C fs))(F:E3 X.prog X.w X.K X.mg X.base CX k C m n dvs R)(nx:xG CX)(hr:di k' X.A)(h:R (.obj C fs::dvs) (.own wo))(rV:k<=k':=by decide)(hl:(Dt.obj C fs::dvs).length=n:=by rfl)(pj:fs.lookup m=none:=by rfl)
   (ht:eval (.Call (.Attribute ob m apos) [] [] pos) X.env=(do
     let ov <- eval ob X.env
     standAt apos.atName
     let (f,first) <- holding [ov] (getMethod ov m pl)
     callWith pos f first (backTo pos (starEach [] X.env)) (backToKw pos (keywordEach [] X.env))):=by rfl):EO X G dl (.Call (.Attribute ob m apos) [] [] pos) wo:=by
 obtain⟨f,fd,ps,D5,vds,Fo,hm,hb,hd,Bl⟩:=F.ex
 exact fB (t6 (pl:=pl) (E:=E0) he F.cl hm Fo (hr.mono rV) hb hd nx.passes ht) fun st H Q ⟨Hf,S,k⟩=>⟨Hf,S,fun v au H1 g1 r1=>by
   cases r1 with
   | @obj a _ dx fv _ q r=>
     exact⟨a,dx,fv,rfl,dt g1.sub q,r.none_of pj,au,_,.own wo,g1.sub,.cons (.obj q r) (Bl _),hl,h,fun p iP H3 g3 n1 n2 r3=>k p iP H3 (g1.trans g3) (g1.big.free n1) n2 r3⟩⟩
theorem Gb {pl:Sem Bool}(he:EE X G dl ob (.obj C fs))(F:E3 X.prog X.w X.K X.mg X.base CX k C m n dvs R)(nx:xG CX)(hr:di k' X.A)(ha:EA X G dl (e::es) ds)(h:R (.obj C fs::(ds ++ dvs)) (.ret d))(rV:k<=k':=by decide)(hl:(Dt.obj C fs::(ds ++ dvs)).length=n:=by rfl)(pj:fs.lookup m=none:=by rfl)
   (oM:starEach (e::es) X.env=(false,eval e X.env)::starEach es X.env:=by rfl) (mD:(backTo pos (starEach es X.env)).any (·.1)=false:=by rfl)
   (ht:eval (.Call (.Attribute ob m apos) (e::es) [] pos) X.env=(do
     let ov <- eval ob X.env
     standAt apos.atName
     let (f,first) <- holding [ov] (getMethod ov m pl)
     callWith pos f first (backTo pos (starEach (e::es) X.env)) (backToKw pos (keywordEach [] X.env))):=by rfl):EE X G dl (.Call (.Attribute ob m apos) (e::es) [] pos) d:=by
 obtain⟨f,fd,ps,D5,vds,Fo,hm,hb,hd,Bl⟩:=F.ex
 exact CF (pl:=pl) he F.cl hm Fo nx (hr.mono rV) hb hd Bl ha hl h pj oM mD ht
theorem CK {pl:Sem Bool}(he:EE X G dl ob (.obj C fs))(F:E3 X.prog X.w X.K X.mg X.base CX k C m n dvs R)(nx:xG CX)(hr:di k' X.A)(h:R (.obj C fs::dvs) (.ret d))(rV:k<=k':=by decide)(hl:(Dt.obj C fs::dvs).length=n:=by rfl)(pj:fs.lookup m=none:=by rfl)
   (ht:eval (.Call (.Attribute ob m apos) [] [] pos) X.env=(do
     let ov <- eval ob X.env
     standAt apos.atName
     let (f,first) <- holding [ov] (getMethod ov m pl)
     callWith pos f first (backTo pos (starEach [] X.env)) (backToKw pos (keywordEach [] X.env))):=by rfl):EE X G dl (.Call (.Attribute ob m apos) [] [] pos) d:=by
 obtain⟨f,fd,ps,D5,vds,Fo,hm,hb,hd,Bl⟩:=F.ex
 exact zI (pl:=pl) he F.cl hm Fo nx (hr.mono rV) hb hd Bl hl h pj ht
end
noncomputable def uA (sc zT:Scope)(XN N:List Str)(ix:List Nat)(x:Str):Bool:=
 decide N.Nodup && (decide (N=x::ix.map (fun j=>XN.getD j "")) && (decide (sc.kind=.function) && (sc.names.all (fun y=>decide (y.2≠.cell)) && (sc.names.all (fun y=>decide (y.2=.local->sc.names.lookup y.1=some .local)) && (decide (sc.names.lookup x=some .local) &&
   (sc.names.all (fun y=>decide (y.2=.free->zT.names.lookup y.1=some .cell\/zT.names.lookup y.1=some .free)) && ix.all (fun j=>decide (sc.names.lookup (XN.getD j "")=some .free) && decide (j < XN.length))))))))
theorem Br {X:Cx}{sc zT:Scope}{XN N:List Str}{ix:List Nat}{x:Str}(h:uA sc zT XN N ix x=true)(e1:X.env.scope=zT:=by rfl)(e2:X.N=XN:=by rfl):gf X N ix x sc:=by
 subst e1 e2
 unfold uA at h
 simp only[Bool.and_eq_true,List.all_eq_true,decide_eq_true_eq] at h
 obtain⟨h1,h2,h3,h4,h5,h6,h7,h8⟩:=h
 refine⟨h1,h2,h3,h4,h5,h6,h7,fun j hj=>?_⟩
 obtain⟨q1,q2⟩:=h8 j hj
 refine⟨X.N.getD j "",?_,q1⟩
 rw[List.getD_eq_getElem?_getD,List.getElem?_eq_getElem q2];rfl
noncomputable def Xt:Expr->Scope
 | .ListComp _ _ sc _=>sc
 | .Call _ (.ListComp _ _ sc _::_) _ _=>sc
 | _=>{ kind:=.function,names:=[],isGenerator:=false,isCoroutine:=false}
noncomputable def Qa:Stmt->Scope
 | .Assign _ e _=>Xt e
 | .Return (some e) _=>Xt e
 | _=>{ kind:=.function,names:=[],isGenerator:=false,isCoroutine:=false}
theorem uB (k:Str):∀ xs:List Str,QX (.str k) (xs.map V.str)=decide (k∈xs)
 | []=>by simp[QX]
 | x::xs=>by
   have ih:=uB k xs
   unfold QX at ih ⊢
   rw[List.map_cons,List.any_cons,ih]
   by_cases e:x=k
   . subst e;simp[IV]
   . have:¬ (k=x):=fun z=>e z.symm
     simp[IV,e,this]
theorem wK (xs:List Str):(xs.map V.str).all pC=true:=by
 induction xs with
 | nil=>rfl
 | cons x xs ih=>rw[List.map_cons,List.all_cons,ih];rfl
section
variable {X:Cx}{G:Gr}{dl:List Slot}{a b:Expr}{pos:Pos}{k:Str}{xs:List Str}
theorem LY {neg:Bool}:CA X.K (Tq X.K neg) (.str k) (.tup (xs.map .str)) (.bl (if neg then !decide (k∈xs) else decide (k∈xs))):=fun v w Hf H Q s r1 r2 kk=>by
 cases r1
 cases r2 with
 | @tup q vs _ hq rp=>
   have ev:=nG rp
   subst ev
   refine⟨q,_,rfl,.inr (br s hq),rfl,wK xs,?_⟩
   rw[uB]
   exact kk _ Hf H (.refl s) (.bl _)
theorem Bs (ha:EE X G dl a (.str k))(hb:EE X G dl b (.tup (xs.map .str)))(hm:behindInMarks .In b=false:=by rfl):EB X G dl (.Compare a [.In] [b] pos) (decide (k∈xs)):=kX wC (LY (neg:=false)) hm ha hb
theorem CL (ha:EE X G dl a (.str k))(hb:EE X G dl b (.tup (xs.map .str)))(hm:behindInMarks .NotIn b=false:=by rfl):EB X G dl (.Compare a [.NotIn] [b] pos) (!decide (k∈xs)):=kX pE (LY (neg:=true)) hm ha hb
end
theorem zU {P:Program}{w:World}{A:Around}{R:Result->Shared->Prop}{s:Shared}{elt tg iter:Expr}{ifs:List Expr}{sc:Scope}{pos:Pos}{it acc:Value}{env:Env}(J:Nat->Shared->Prop)
   (turn:∀ n s,J n s->wpAny (model P w) A (pyNext it) (fun r s1=>match r with
     | none=>R (.ok .next) s1
     | some v=>wpAny (model P w) A (letOwnedTupleGo tg it v) (fun _ s2=>wpAny (model P w) A (assign tg env v) (fun _ s3=>
         wpAny (model P w) A (forIn ifs true fun c r=>if r=true then do let ok <- isTrue c env (eval c env);pure (ForInStep.yield ok) else pure (ForInStep.yield r)) (fun ok Vg=>
         if ok=true then wpAny (model P w) A (eval elt env) (fun x s4=>wpAny (model P w) A (call (.builtin "list.append") [acc,x]) (fun _ s5=>∃ m,m < n/\J m s5) vM s4) vM Vg
         else ∃ m,m < n/\J m Vg) vM s3) vM s2) vM s1) vM s)
   (n:Nat) (h:J n s):codeAny (model P w) A (.compLoop (.ListComp elt [⟨tg,iter,ifs,0⟩] sc pos) 0 it acc env) R s:=by
 have off:∀ {B:Value->Shared->Prop} (x:Value) (s':Shared),vM x s'->B x s':=fun _ _ z=>z.elim
 refine codeAny_loop rfl J (fun n s hJ=>?_) n h
 show wpAny _ A ((compTurn (.ListComp elt [⟨tg,iter,ifs,0⟩] sc pos) 0 it acc env).onRaise (fun x=>(do noteFrame x env;theTreesLotGoes x))) _ _ s
 refine wpAny_noted ?_
 rw[compTurn_list]
 refine wpAny_bind (wpAny_standAt (wpAny_bind (wpAny_mono (turn n s hJ) (fun r s1 h1=>?_) off)))
 cases r with
 | none=>exact wpAny_pure h1
 | some v=>
   refine wpAny_bind (wpAny_mono h1 (fun _ s2 h2=>wpAny_bind (wpAny_mono h2 (fun _ s3 h3=>wpAny_bind (wpAny_mono h3 (fun ok Vg Xu=>?_) off)) off)) off)
   cases ok with
   | false=>exact wpAny_pure ⟨rfl,Xu⟩
   | true=>exact wpAny_bind (wpAny_bind (wpAny_mono Xu (fun x s4 h4=>wpAny_bind (wpAny_mono h4 (fun _ s5 h5=>wpAny_pure (wpAny_pure ⟨rfl,h5⟩)) off)) off))
structure uC (X:Cx)(N tn:List Str)(ix:List Nat)(sc:Scope):Prop where
 nd:N.Nodup
 nm:N=tn ++ ix.map (fun j=>X.N.getD j "")
 kind:sc.kind=.function
 uv:∀ y∈sc.names,y.2≠.cell
 names:∀ y∈sc.names,y.2=.local->sc.names.lookup y.1=some .local
 hx:∀ x∈tn,sc.names.lookup x=some .local
 fr:∀ y∈sc.names,y.2=.free->X.env.kindOf y.1=some .cell\/X.env.kindOf y.1=some .free
 Rk:∀ j∈ix,∃ y,X.N[j]?=some y/\sc.names.lookup y=some .free
section
variable {X:Cx}{N tn:List Str}{ix:List Nat}{sc:Scope}{pins:List (Addr×Obj)}{st:L2.St}{H H':Hp}{s s':Shared}{C D:Addr}{fp:List Addr}{h1:Heap}
theorem CM (B:uC X N tn ix sc)(ok:X.Ok):closureFor sc X.env=pure (kJ sc X.env):=xN fun y hy hk=>ok.has y.1 (B.fr y hy hk)
theorem pM (B:uC X N tn ix sc)(ok:X.Ok){y:Str}{c:Addr}(h:(kJ sc X.env).lookup y=some c):X.env.cells.lookup y=some c/\(y,NameKind.free)∈sc.names:=by
 rcases pK _ _ h with⟨h1,h2⟩ | h1
 . obtain⟨c',h3⟩:=ok.has y (B.fr _ h1 rfl)
   rw[h3] at h2
   cases h2
   exact⟨h3,h1⟩
 . cases h1
theorem sJ (B:uC X N tn ix sc)(I:L2.Inv X pins st H s)(hC:s.heap.objs.size<=C)(hf:∀ b∈fp,kj X pins H b)(d5:∀ b∈fp,b < s.heap.objs.size):(bI X N sc C fp s H).Ok where
 mod:=I.ok.mod
 kind:=B.kind
 glob:=I.ok.glob
 blt:=I.ok.blt
 above:=hC
 inj:=fun y z c h1 h2=>I.ok.inj y z c (pM B I.ok h1).1 (pM B I.ok h2).1
 has:=fun y hy=>by
   have hy:(relabel sc X.env).names.lookup y=some .cell\/(relabel sc X.env).names.lookup y=some .free:=hy
   have:(y,NameKind.free)∈sc.names:=by
     rcases hy with hy | hy
     . obtain⟨k',h1,h2⟩:=fo hy
       rcases h2 with h2 | h2
       . subst h2;exact absurd rfl (B.uv _ h1)
       . subst h2;exact h1
     . obtain⟨k',h1,h2⟩:=fo hy
       rcases h2 with h2 | h2 <;> subst h2 <;> exact h1
   exact jg _ _ (.inl this)
 PY:=fun y c h=>by cases h
 hd:=I.ok.hd
 frames:=I.ok.frames
 Qo:=.inl rfl
 Jj:=fun b hb=>⟨Nat.ne_of_lt (Nat.lt_of_lt_of_le (d5 b hb) hC),fun y c h=>(hf b hb).2.2.2.2.1 y c (pM B I.ok h).1⟩
 bs:=I.bs
 Cg:=Nat.le_trans I.ok.Cg I.sz
 zi:=fun b o e hb=>by
   rcases (hf b hb).2.2.2.1 with z | z
   . exact I.ok.zi b o e z
   . exact absurd (Nat.lt_of_lt_of_le (Heap.lt_size e) (Nat.le_trans I.ok.Cg z)) (Nat.lt_irrefl _)
 zj:=fun b hb z=>by
   rcases List.mem_cons.mp (I.tV b z) with z | z
   . exact(hf b hb).2.1 z
   . exact(hf b hb).2.2.1 z
 qo:=I.stack
 LD:=I.sA
theorem Bt (B:uC X N tn ix sc)(I:L2.Inv X pins st H s)(hf:∀ b∈fp,kj X pins H b)(d5:∀ b∈fp,b < s.heap.objs.size)(hC:C=s.heap.objs.size+1)(k:∀ b o,s.heap.get? b=some o->h1.get? b=some o)(hn:h1.Ns C fun _=>none)(hD:h1.get? s.heap.objs.size=some { cls:=.type "list",data:=.seq ([]:List Value).toArray 0}){t':Nat}:L2.Inv (bI X N sc C fp s H) [] (List.replicate tn.length none ++ frees ix st) (upd H s.heap.objs.size (.lst [])) { s with heap:=h1,toks:=t'}:=by
 have LR:s.heap.objs.size<=C:=by rw[hC];exact Nat.le_succ _
 have fr:∀ a,s.heap.objs.size<=a->H a=none:=fun a ha=>I.bb.fresh ha
 have ok:=sJ B I LR hf d5
 have A0:∀ y c,(kJ sc X.env).lookup y=some c->H c=none/\c < s.heap.objs.size/\∃ v,s.heap.IsCell c v:=fun y c h=>by
   have h:=(pM B I.ok h).1
   obtain⟨v,q⟩:=I.cell y c h
   exact⟨I.ow y c h,q.lt,v,q⟩
 refine⟨ok,rfl,I.bare,Un.laid k (Nat.le_refl _) (fr _ (Nat.le_refl _)),⟨_,hn,fun i y v e1 e2 e3=>?_⟩,fun y c h=>?_,?_,fun y c h=>?_,fun p hp=>absurd (show p∈([]:List (Addr×Obj)) from hp) (by simp),?_,?_⟩
 . have e1:N[i]?=some y:=e1
   by_cases hi:i < tn.length
   . rw[List.getElem?_append_left (by simpa using hi),List.getElem?_replicate,if_pos hi] at e2
     cases e2
   . have hi:tn.length<=i:=Nat.le_of_not_lt hi
     rw[B.nm,List.getElem?_append_right hi,List.getElem?_map] at e1
     rw[List.getElem?_append_right (by simpa using hi),List.length_replicate] at e2
     unfold frees at e2
     rw[List.getElem?_map] at e2
     cases q:ix[i - tn.length]? with
     | none=>rw[q] at e1;cases e1
     | some j=>
       rw[q] at e1 e2
       obtain⟨y',IY,LU⟩:=B.Rk j (List.mem_of_getElem? q)
       have JM:=PySem.mem_of_lookup LU
       have ey:y=y':=by
         have e1:X.N.getD j ""=y:=Option.some.inj e1
         rw[List.getD_eq_getElem?_getD,IY] at e1
         exact e1.symm
       subst ey
       have e2:(st[j]?).join=some v:=Option.some.inj e2
       have Rm:st[j]?=some (some v):=by
         cases q2:st[j]? with
         | none=>rw[q2] at e2;cases e2
         | some z=>rw[q2] at e2;rw[show z=some v from e2]
       have kd:=B.fr _ JM rfl
       have Rn:vH X.env.scope y:=by
         rcases kd with z | z
         . exact .inr (.inl z)
         . exact .inr (.inr z)
       obtain⟨m,_,hl⟩:=I.loc
       obtain⟨u,r,l⟩:=hl j y v IY Rm Rn
       refine⟨u,r,.inr ?_⟩
       rcases l with⟨z,_⟩ | ⟨_,c,hc,ic⟩
       . rcases kd with z' | z' <;> rw[z] at z' <;> cases z'
       . obtain⟨c',A1⟩:=jg (cells:=X.env.cells) sc.names [] (.inl JM)
         have:=(pM B I.ok A1).1
         rw[hc] at this;cases this
         obtain⟨oc,Cj,hd⟩:=ic
         refine⟨?_,c,A1,oc,k _ _ Cj,hd⟩
         rcases e3 with e3 | e3 | e3
         . have e3:(relabel sc X.env).names.lookup y=some .local:=e3
           rcases lW (env:=X.env) LU with z | z
           . exact absurd (e3.symm.trans z) (by decide)
           . exact absurd (e3.symm.trans z) (by decide)
         . exact .inl e3
         . exact .inr e3
 . obtain⟨_,_,v,oc,Cj,hd⟩:=A0 y c h
   exact⟨v,oc,k _ _ Cj,hd⟩
 . show upd H s.heap.objs.size (.lst []) C=none
   rw[ag (by rw[hC];exact Nat.succ_ne_self _)]
   exact fr _ LR
 . show upd H s.heap.objs.size (.lst []) c=none
   obtain⟨q1,q2,_⟩:=A0 y c h
   rw[ag (Nat.ne_of_lt q2)]
   exact q1
 . exact I.bb.laid k (Nat.le_refl _) ⟨Nat.zero_le _,[],0,.nil,hD⟩
 . show(List.replicate tn.length none ++ frees ix st).length=N.length
   rw[B.nm]
   unfold frees
   simp
noncomputable def LZ (X:Cx)(ifs:List Expr)(tt:TT):Prop:=∀ (pins:List (Addr×Obj)) (s:Shared) (st:L2.St) (H:Hp) (Q:Bool->Hp->Prop),L2.Inv X pins st H s->tt st H Q ->
 wpAny (model X.prog X.w) X.A (forIn ifs true fun c r=>if r=true then do let ok <- isTrue c X.env (eval c X.env);pure (ForInStep.yield ok) else pure (ForInStep.yield r)) (fun b s'=>∃ H',L2.Inv X pins st H' s'/\Q b H') X.xe s
theorem CN {c:Expr}{tt:TT}(h:PT X c tt):LZ X [c] tt:=fun pins s st H Q I q=>wpAny_tests_one (bQ (h pins s st H _ I q) fun b s' z=>z)
noncomputable def CO (nt:Nat)(g:TG)(tt:TT)(te:TE)(fs:L2.St)(J:It)(D:Addr)(Q:List V->Hp->Prop)(H:Hp):Prop:=
 ∃ W:Nat->Nat->List V->Hp->Prop,(∃ m,W 0 m [] (upd H D (.lst [])))/\∀ i m ys H1,W i m ys H1 ->
   (J.stop i H1/\Q ys H1)\/(J.go i H1/\ys.length < sizeLine/\∀ σ:L2.St,σ.length=nt->∀ v H2,J.IT i H1 v H2->g v (σ ++ fs) H2 fun σ2 H3=>∃ σ':L2.St,σ2=σ' ++ fs/\σ'.length=nt /\
     tt σ2 H3 fun b H4=>if b=true then te σ2 H4 fun y H5=>H5 D=some (.lst ys)/\∃ m',m' < m/\W (i+1) m' (ys ++ [y]) (upd H5 D (.lst (ys ++ [y]))) else ∃ m',m' < m/\W (i+1) m' ys H4)
theorem zV {elt iter tg:Expr}{ifs:List Expr}{pos:Pos}{g:TG}{tt:TT}{te:TE}{J:It}{it:Addr}{tj:Nat->Heap->Prop}{Q:Addr->List V->Hp->Prop}{RR:Value->Addr->Result->Shared->Prop}{E:Value->Shared->Prop}(hc:X.calm=true)(B:uC X N tn ix sc)(hg:∀ C fp s H,PG (bI X N sc C fp s H) tg g)(ht:∀ C fp s H,LZ (bI X N sc C fp s H) ifs tt)(ju:∀ C fp s H,PE (bI X N sc C fp s H) elt te)(I:L2.Inv X pins st H s)(T:Turn X.prog X.w X.K tg J fp it tj)(h0:tj 0 s.heap)(hf:∀ b∈fp,kj X pins H b)(hq:∀ D,H D=none->CO tn.length g tt te (frees ix st) J D (Q D) H)(Ro:∀ D C ys H' s',L2.Inv X pins st H' s'->(∃ m,s'.heap.Ns C m)->kj X pins H' C->Q D ys H'->RR (.ref D) C (.ok .next) s'):wpAny (model X.prog X.w) X.A (newList []) (fun acc s3=>wpAny (model X.prog X.w) X.A (newFunctionEnv sc X.env.globals (kJ sc X.env) [] X.env.qual none .none (some X.env)) (fun zK s4=>codeAny (model X.prog X.w) X.A (.compStart (.ListComp elt [⟨tg,iter,ifs,0⟩] sc pos) 0 (.ref it) acc { zK with scope:=relabel sc X.env}) (RR acc zK.locals) s4) E s3) E s:=by
 have d5:∀ b∈fp,b < s.heap.objs.size:=fun b hb=>by
   obtain⟨o,e,_⟩:=T.obj _ _ h0 b hb
   exact Heap.lt_size e
 refine wpAny_newObj_type (wpAny_newFunctionEnv B.uv (fun y hy=>absurd hy (by simp)) (fun h1 E2 D8=>?_) B.kind)
 dsimp only at E2 D8 ⊢
 generalize hG:s.heap.push { cls:=.type "list",dict:=none,data:=.seq ([]:List Value).toArray}=g' at E2 D8 ⊢
 have hC:g'.objs.size=s.heap.objs.size+1:=by rw[<- hG,Heap.size_push]
 have TF:s.heap.objs.size≠g'.objs.size:=by rw[hC];exact Nat.ne_of_lt (Nat.lt_succ_self _)
 have old:∀ b o,s.heap.get? b=some o->h1.get? b=some o:=fun b o e=>
   D8.extBut b o (by rw[hC];exact Nat.ne_of_lt (Nat.lt_succ_of_lt (Heap.lt_size e))) (Heap.get?_push_of_some _ (hG ▸ Heap.get?_push_of_some _ e))
 have F1:h1.get? s.heap.objs.size=some { cls:=.type "list",data:=.seq ([]:List Value).toArray 0}:=D8.extBut _ _ TF (Heap.get?_push_of_some _ (hG ▸ Heap.get?_push_size _ rfl))
 have hD:H s.heap.objs.size=none:=I.bb.fresh (Nat.le_refl _)
 obtain⟨W,⟨m0,w0⟩,turn⟩:=hq _ hD
 have I0:=Bt (t':=s.toks+([]:List (Str×Value)).length) B I hf d5 hC old (by simpa using E2) F1
 have LV:tj 0 h1:=T.keep _ _ _ h0 fun b _ o e=>old b o e
 have mX:s.heap.objs.size<=g'.objs.size:=by rw[hC];exact Nat.le_succ _
 have oN:∀ {H':Hp},(∀ b∈fp,H' b=none)->∀ b∈fp,kj (bI X N sc g'.objs.size fp s H) [] H' b:=fun {H'} hn b hb=>
   ⟨hn b hb,((sJ B I mX hf d5).Jj b hb).1,(sJ B I mX hf d5).zj b hb,.inl hb,((sJ B I mX hf d5).Jj b hb).2,fun p hp=>absurd (show p∈([]:List (Addr×Obj)) from hp) (by simp)⟩
 have loop:∀ s3:Shared,s3={ s with heap:=h1,toks:=s.toks+([]:List (Str×Value)).length} ->
     codeAny (model X.prog X.w) X.A (.compLoop (.ListComp elt [⟨tg,iter,ifs,0⟩] sc pos) 0 (.ref it) (.ref s.heap.objs.size) (compEnvC sc (kJ sc X.env) g'.objs.size X.env)) (RR (.ref s.heap.objs.size) g'.objs.size) s3:=by
   rintro s3 rfl
   refine zU (fun n s'=>∃ i ys σ H',σ.length=tn.length/\L2.Inv (bI X N sc g'.objs.size fp s H) [] (σ ++ frees ix st) H' s'/\tj i s'.heap/\(∀ b∈fp,H' b=none)/\W i n ys H') ?_ m0
     ⟨0,[],List.replicate tn.length none,_,by simp,I0,LV,fun b hb=>?_,w0⟩
   . rintro n s5 ⟨i,ys,σ,H5,hσ,I5,E1,IU,w5⟩
     rcases turn i n ys H5 w5 with⟨stop,qn⟩ | ⟨go,hz,step⟩
     . refine bQ (T.done (bI X N sc g'.objs.size fp s H) rfl rfl rfl hc i [] s5 _ H5 vM I5 (oN IU) E1 stop) fun r s6 ⟨hr,I6⟩=>?_
       subst hr
       refine Ro _ _ ys H5 s6 ?_ ?_ (I.vI mX I6.free) qn
       . exact I.Fi I6.os I6.base I6.bb I6.bare fun b hb=>⟨(hf b hb).2.2.2.1,(hf b hb).2.1,(hf b hb).2.2.2.2.1,(hf b hb).2.2.2.2.2⟩
       . obtain⟨m,hm,_⟩:=I6.loc
         exact⟨m,hm⟩
     . refine bQ (T.item (bI X N sc g'.objs.size fp s H) rfl rfl rfl hc i [] s5 _ H5 vM I5 (oN IU) E1 go) fun r s6 ⟨u,hr,h6⟩=>?_
       subst hr
       refine bQ h6 fun _ s7 ⟨v,H7,I7,r7,y7,F3,Rp⟩=>?_
       have Rq:=I7.pinned (oN Rp) (T.obj _ _ F3)
       refine bQ (hg g'.objs.size fp s H _ s7 _ H7 v u _ Rq r7 (step σ hσ v H7 y7)) fun _ s8 h8=>?_
       obtain⟨σ8,H8,I8,σ',e8,RC,h8⟩:=h8
       subst e8
       have pinned:∀ {σ9:L2.St} {H9:Hp} {s9:Shared},L2.Inv (bI X N sc g'.objs.size fp s H) ([] ++ qu fp s7.heap) σ9 H9 s9->tj (i+1) s9.heap/\∀ b∈fp,H9 b=none:=fun {σ9 H9 s9} I9=>by
         refine⟨T.keep _ _ _ F3 fun b hb o e=>(I9.pin (b,o) (List.mem_append_right _ (List.mem_append_right _ (fk hb e)))).1,fun b hb=>?_⟩
         obtain⟨o,e,d⟩:=T.obj _ _ F3 b hb
         exact(I9.pin (b,o) (List.mem_append_right _ (List.mem_append_right _ (fk hb e)))).2.1
       refine bQ (ht g'.objs.size fp s H _ s8 _ H8 _ I8 h8) fun ok Vh JQ=>?_
       obtain⟨Vi,JR,JQ⟩:=JQ
       cases ok with
       | false=>
         obtain⟨m',hm,w8⟩:=JQ
         exact⟨m',hm,i+1,ys,σ',_,RC,JR.jf (pins:=[]),(pinned JR).1,(pinned JR).2,w8⟩
       | true=>
         refine bQ (ju g'.objs.size fp s H _ Vh _ Vi _ JR JQ) fun z s9 ⟨y,H9,I9,r9,Rr,m',hm,w9⟩=>?_
         refine bQ (ll _ s9 _ H9 (.ref s.heap.objs.size) [y] (.ref s.heap.objs.size) [z] (fun _ H'=>H'=upd H9 s.heap.objs.size (.lst (ys ++ [y]))) I9 rfl (.cons r9 .nil) ⟨_,ys,y,rfl,rfl,Rr,hz,rfl⟩) fun _ Xp Rt=>?_
         obtain⟨_,Xq,F4,_,rfl⟩:=Rt
         exact⟨m',hm,i+1,ys ++ [y],σ',_,RC,F4.jf (pins:=[]),(pinned F4).1,(pinned F4).2,w9⟩
   . rw[ag (Nat.ne_of_lt (d5 b hb))]
     exact(hf b hb).1
 exact codeAny_compStart_list (loop _ rfl) (T.self _ 0 _ _ _ LV (loop _ rfl))
end
section
variable {K:W.Frag}{G:Gr}{st:L2.St}{Hf H au H1:Hp}{dl:List Slot}{ix:List Nat}
structure RD (K:W.Frag)(Hf:Hp)(σ:L2.St)(sl:List Slot):Prop where
 len:σ.length=sl.length
 val:∀ (i:Nat) d,sl[i]?=some (.val d)->∃ v,σ[i]?=some (some v)/\Rep K Hf v d
 no:∀ (i:Nat) o,sl[i]?≠some (.own o)
theorem RD.mono {σ:L2.St}{sl:List Slot}(h:RD K Hf σ sl)(s:aD Hf au):RD K au σ sl:=⟨h.len,fun i d e=>let ⟨v,h1,h2⟩:=h.val i d e;⟨v,h1,h2.mono s⟩,h.no⟩
theorem zW {σ:L2.St}{sl:List Slot}(S:cS K G st Hf H dl)(s1:aD Hf au)(sb:aD au H1)(r:RD K au σ sl):cS K ⟨au,H1⟩ (σ ++ frees ix st) au H1 (sl ++ iN dl ix):=by
 have no:∀ (i:Nat) o,(sl ++ iN dl ix)[i]?≠some (.own o):=fun i o h=>by
   by_cases hi:i < sl.length
   . rw[List.getElem?_append_left hi] at h
     exact r.no i o h
   . rw[List.getElem?_append_right (Nat.le_of_not_lt hi)] at h
     unfold iN at h
     rw[List.getElem?_map] at h
     cases q:ix[i - sl.length]? with
     | none=>rw[q] at h;cases h
     | some j=>
       rw[q] at h
       exact wI (Option.some.inj h)
 refine⟨.refl sb,by simp[frees,iN,r.len],fun i x h=>?_,fun i o h=>absurd h (no i o),fun i j o o' a h=>absurd h (no i o)⟩
 by_cases hi:i < sl.length
 . rw[List.getElem?_append_left hi] at h
   rw[List.getElem?_append_left (by rw[r.len];exact hi)]
   exact r.val i x h
 . have hi:=Nat.le_of_not_lt hi
   rw[List.getElem?_append_right hi] at h
   rw[List.getElem?_append_right (by rw[r.len];exact hi),r.len]
   unfold iN at h
   unfold frees
   rw[List.getElem?_map] at h ⊢
   cases q:ix[i - sl.length]? with
   | none=>rw[q] at h;cases h
   | some j=>
     rw[q] at h
     have hd:=wJ (Option.some.inj h)
     obtain⟨v',z1,z2⟩:=S.val j x hd
     exact⟨v',by rw[Option.map_some,z1];rfl,z2.mono s1⟩
noncomputable def Qb (K:W.Frag)(nt:Nat)(g:TG)(z:Dt)(sl:List Slot):Prop:=∀ (σ fs:L2.St) (Hf H:Hp) (v:V) (Q:L2.St->Hp->Prop),σ.length=nt->aD Hf H->Rep K Hf v z ->
 (∀ σ':L2.St,σ'.length=nt->RD K Hf σ' sl->Q (σ' ++ fs) H)->g v (σ ++ fs) H Q
theorem du {z:Dt}:Qb K 1 (rE 0) z [.val z]:=fun σ fs Hf H v Q hl s r k=>by
 cases σ with
 | nil=>cases hl
 | cons a σ=>
   have:σ=[]:=List.eq_nil_of_length_eq_zero (by simpa using hl)
   subst this
   refine k [some v] rfl ⟨rfl,fun i d h=>?_,fun i o h=>?_⟩
   . cases i with
     | zero=>cases h;exact⟨v,rfl,r⟩
     | succ i=>cases h
   . cases i with
     | zero=>cases h
     | succ i=>cases h
end
section
variable {X:Cx}{G:Gr}{E:XK}{dl:List Slot}{a b c elt iter tg:Expr}{ifs:List Expr}{i:Int}{pos p px py vN:Pos}{o:Out}{x y:Str}{N tn:List Str}{ix:List Nat}{sc:Scope}{n:Nat}
noncomputable def rW (X:Cx)(G:Gr)(dl:List Slot)(zs:List Dt)(wi:TI):Prop:=∀ st H (R:It->Hp->Prop),(∃ Hf,cS X.K G st Hf H dl/\∀ J Ga H0,aP Hf H Ga H0 ->
 (∀ au H1,aD Ga au->aD au H1->∀ i,(∀ z,zs[i]?=some z->J.go i H1/\∀ v H2,J.IT i H1 v H2->∃ bT,aP au H1 bT H2/\Rep X.K bT v z)/\(i=zs.length->J.stop i H1))->R J H0)->wi st H R
theorem kh {xs:List Dt}:rW X G dl xs (Ft X.K (tD X.K G dl (.lst xs))):=fun st H R ⟨Hf,S,k⟩=>⟨Hf,S,fun v au H1 g1 r1=>by
 cases r1 with
 | @lst q vs _ hq rp=>
   have hl:=rp.length
   refine⟨q,rfl,⟨vs,.of (g1.sub _ _ hq)⟩,k _ au H1 g1 fun bT H2 s1 s2 i=>⟨fun z hz=>?_,fun hi=>⟨vs,.of (s2 _ _ (s1 _ _ hq)),by omega⟩⟩⟩
   obtain⟨u,z1,z2⟩:=rp.get hz
   have hs:mK X.K H2 q vs:=.of (s2 _ _ (s1 _ _ hq))
   refine⟨⟨vs,u,hs,z1⟩,fun v H3 hy=>?_⟩
   obtain⟨e1,e2⟩:=hy
   have e2:=e2 vs hs
   rw[z1] at e2;cases e2
   subst e1
   exact⟨bT,.refl s2,z2.mono s1⟩⟩
theorem Gd {xs:List Dt}:rW X G dl xs (QD X.K (tD X.K G dl (.tup xs))):=fun st H R ⟨Hf,S,k⟩=>⟨Hf,S,fun v au H1 g1 r1=>by
 cases r1 with
 | @tup q vs _ hq rp=>
   have hl:=rp.length
   refine⟨q,rfl,⟨vs,br g1.sub hq⟩,k _ au H1 g1 fun bT H2 s1 s2 i=>⟨fun z hz=>?_,fun hi=>⟨vs,br s2 (br s1 hq),by omega⟩⟩⟩
   obtain⟨u,z1,z2⟩:=rp.get hz
   have hs:sD X.K H2 q vs:=br s2 (br s1 hq)
   refine⟨⟨vs,u,hs,z1⟩,fun v H3 hy=>?_⟩
   obtain⟨e1,e2⟩:=hy
   have e2:=e2 vs hs
   rw[z1] at e2;cases e2
   subst e1
   exact⟨bT,.refl s2,z2.mono s1⟩⟩
variable {α:Type}{as:List α}{z f:α->Dt}{sl:α->List Slot}{keep:α->Bool}{g:TG}{wi:TI}
noncomputable def JS (K:W.Frag)(dl:List Slot)(ix:List Nat)(as:List α)(sl:α->List Slot)(keep:α->Bool):TT:=fun st H Q=>∃ a G',a∈as/\Tw K G' (sl a ++ iN dl ix) (keep a) st H Q
noncomputable def JT (K:W.Frag)(dl:List Slot)(ix:List Nat)(as:List α)(sl:α->List Slot)(keep:α->Bool)(f:α->Dt):TE:=fun st H Q=>∃ a G',a∈as/\keep a=true/\tD K G' (sl a ++ iN dl ix) (f a) st H Q
inductive zX (X:Cx)(N:List Str)(sc:Scope)(dl:List Slot)(ix:List Nat)(as:List α)(sl:α->List Slot)(keep:α->Bool):List Expr->Prop
 | nil:(∀ a∈as,keep a=true)->zX X N sc dl ix as sl keep []
 | one {c:Expr}:(∀ a∈as,∀ C fp s H G',EB (bI X N sc C fp s H) G' (sl a ++ iN dl ix) c (keep a))->zX X N sc dl ix as sl keep [c]
theorem Ge (h:zX X N sc dl ix as sl keep ifs):∀ C fp s H,LZ (bI X N sc C fp s H) ifs (JS X.K dl ix as sl keep):=fun C fp s H=>by
 cases h with
 | nil h=>exact fun pins s' st H' Q I ⟨a,G',ha,Hf,S,k⟩=>wpAny_tests_nil ⟨H',I,by have:=k Hf H' (.refl S.sub);rw[h a ha] at this;exact this⟩
 | one h=>exact CN fun pins s' st H' Q I ⟨a,G',ha,q⟩=>h a ha C fp s H G' pins s' st H' Q I q
noncomputable def NW (X:Cx)(N:List Str)(sc:Scope)(dl:List Slot)(ix:List Nat)(as:List α)(sl:α->List Slot)(keep:α->Bool)(f:α->Dt)(elt:Expr):Prop:=∀ a∈as,keep a=true->∀ C fp s H G',EE (bI X N sc C fp s H) G' (sl a ++ iN dl ix) elt (f a)
theorem Gf (h:NW X N sc dl ix as sl keep f elt):∀ C fp s H,PE (bI X N sc C fp s H) elt (JT X.K dl ix as sl keep f):=fun C fp s H pins s' st H' Q I ⟨a,G',ha,hk,q⟩=>h a ha hk C fp s H G' pins s' st H' Q I q
theorem Ed {nt:Nat}{st:L2.St}{Hf H:Hp}{J:It}{Q:VK}(S:cS X.K G st Hf H dl)(hn:as.length<=sizeLine)(Gg:∀ a∈as,Qb X.K nt g (z a) (sl a))(go:∀ au H1,aP Hf H au H1->∀ i,(∀ y,(as.map z)[i]?=some y->J.go i H1/\∀ v H2,J.IT i H1 v H2->∃ bT,aP au H1 bT H2/\Rep X.K bT v y)/\(i=(as.map z).length->J.stop i H1))(k:∀ p aF H',aP Hf H aF H'->H p=none->aF p=none->gd X.K aF H' p (.lst ((as.filter keep).map f))->Q (.ref p) H'):∀ D,H D=none->CO nt g (JS X.K dl ix as sl keep) (JT X.K dl ix as sl keep f) (frees ix st) J D (fun _ H'=>Q (.ref D) H') H:=by
 intro D hD
 refine⟨fun i m vs H1=>m=as.length - i/\i<=as.length/\∃ au,aP Hf H au H1/\au D=none/\H1 D=some (.lst vs)/\bc X.K au vs (((as.take i).filter keep).map f),⟨as.length,rfl,Nat.zero_le _,Hf,.dH S.sub hD,S.sub.free hD,aj,.nil⟩,?_⟩
 rintro i m vs H1 ⟨rfl,hi,au,g1,Rw,P9,rp⟩
 have hlen:=rp.length
 rw[List.length_map] at hlen
 have hfl:((as.take i).filter keep).length<=i:=Nat.le_trans (List.length_filter_le _ _) (by rw[List.length_take];omega)
 have Bu:∀ {Vj Ha TM Hb:Hp},aP Vj Ha TM Hb->Vj D=none->Ha D=some (.lst vs)->TM D=none/\Hb D=some (.lst vs):=fun {Vj Ha TM Hb} gg e1 e2=>by
   refine⟨?_,gg.big _ _ e2⟩
   cases q:TM D with
   | none=>rfl
   | some u=>
     obtain⟨o,z⟩:=gg.ua e2 (fun z=>z) q
     rw[e1] at z;cases z
 by_cases d5:i < as.length
 . have NX:as[i]∈as:=List.getElem_mem d5
   have et:as.take (i+1)=as.take i ++ [as[i]]:=by rw[List.take_add_one,List.getElem?_eq_getElem d5];rfl
   obtain⟨Rx,hy⟩:=(go au H1 g1 i).1 (z as[i]) (by rw[List.getElem?_map,List.getElem?_eq_getElem d5];rfl)
   refine .inr ⟨Rx,by omega,fun σ hσ v H2 y=>?_⟩
   obtain⟨bT,g2,rv⟩:=hy v H2 y
   obtain⟨d2,Zd⟩:=Bu g2 Rw P9
   refine Gg as[i] NX σ _ bT H2 v _ hσ g2.sub rv fun σ' Ze tv=>⟨σ',rfl,Ze,as[i],⟨bT,H2⟩,NX,bT,zW S (g1.aW.trans g2.aW) g2.sub tv,fun iP H3 g3=>?_⟩
   obtain⟨d3,Xv⟩:=Bu g3 d2 Zd
   cases hk:keep as[i] with
   | false=>
     refine⟨as.length - (i+1),by omega,rfl,d5,iP,(g1.trans g2).trans g3,d3,Xv,?_⟩
     rw[et,List.filter_append,List.filter_cons_of_neg (by simp[hk]),List.filter_nil,List.append_nil]
     exact rp.mono (g2.aW.trans g3.aW)
   | true=>
     refine⟨as[i],⟨iP,H3⟩,NX,hk,iP,zW S ((g1.aW.trans g2.aW).trans g3.aW) g3.sub (tv.mono g3.aW),fun y E4 H4 g4 r4=>?_⟩
     obtain⟨d4,Zf⟩:=Bu g4 d3 Xv
     have gg:=((g1.trans g2).trans g3).trans g4
     refine⟨Zf,as.length - (i+1),by omega,rfl,d5,E4,⟨fun a o h=>?_,gg.aW,fun a o h=>?_,gg.new⟩,d4,aj,?_⟩
     . rw[ag (aw h hD)];exact gg.big _ _ h
     . rw[ag (aw h d4)];exact g4.sub _ _ h
     . rw[et,List.filter_append,List.filter_cons_of_pos (by simpa using hk),List.filter_nil,List.map_append]
       exact(rp.mono ((g2.aW.trans g3.aW).trans g4.aW)).append (.cons r4 .nil)
 . have e:i=as.length:=by omega
   subst e
   refine .inl ⟨(go au H1 g1 _).2 (by simp),k D au H1 g1 hD Rw ⟨vs,P9,?_⟩⟩
   rw[List.take_length] at rp
   exact rp
noncomputable def JU (wi:TI)(nt:Nat)(ix:List Nat)(g:TG)(tt:TT)(te:TE):TE:=fun st H Q=>wi st H fun J H1=>∀ D,H1 D=none->CO nt g tt te (frees ix st) J D (fun _ H'=>Q (.ref D) H') H1
theorem NY {tt:TT}{te:TE}(hc:X.calm=true)(B:uC X N tn ix sc)(hi:PI X tg iter wi)(hg:∀ C fp s H,PG (bI X N sc C fp s H) tg g)(ht:∀ C fp s H,LZ (bI X N sc C fp s H) ifs tt)(ju:∀ C fp s H,PE (bI X N sc C fp s H) elt te)(hs:∀ z,foldedSetIterable iter X.env z=pure z):PE X (.ListComp elt [⟨tg,iter,ifs,0⟩] sc pos) (JU wi tn.length ix g tt te):=by
 intro pins s st H Q I h
 rw[eval_ListComp]
 refine wpAny_comprehension_free (use:=none) rfl hs (CM B I.ok) B.kind B.names (bQ (hi pins s st H _ I h) fun v s1 h1=>bQ h1 fun M0 s2 h2=>?_)
 obtain⟨it,fp,tj,J,H2,e,I2,T,EZ,f2,hq⟩:=h2
 subst e
 refine zV (RR:=fun acc C=>compPost (model X.prog X.w) X.A X.xe none (EP X pins st Q) acc C) hc B hg ht ju I2 T EZ f2 hq ?_
 intro D C ws H' s' I' ⟨m,hn⟩ og q
 exact⟨m,hn,fun h' JP=>⟨.ref D,H',I'.turned (t':=s'.toks) (it:=C) (fun b o hb e=>(JP.2 b hb).trans e) og.1 og.2.1 og.2.2.2.1 og.2.2.2.2.1 og.2.2.2.2.2,rfl,q⟩⟩
theorem NZ {tt:TT}{te:TE}{nN:Nat}(hc:X.calm=true)(B:uC X N tn ix sc)(hi:PI X tg iter wi)(hg:∀ C fp s H,PG (bI X N sc C fp s H) tg g)(ht:∀ C fp s H,LZ (bI X N sc C fp s H) ifs tt)(ju:∀ C fp s H,PE (bI X N sc C fp s H) elt te)(hs:∀ z,foldedSetIterable iter X.env z=pure z)(NT:swapsWith (.ListComp elt [⟨tg,iter,ifs,0⟩] sc pos) (some (.Name y py)) vN.line X.env=pure true)(hN:X.N.Nodup)(hy:X.N[nN]?=some y)(hl:Loc X.env.scope y)(hf:X.fn y=true\/X.env.scope.names.lookup y=some .local):PS X (.Assign [.Name y py] (.ListComp elt [⟨tg,iter,ifs,0⟩] sc pos) vN) (fun D st H=>JU wi tn.length ix g tt te st H fun v H'=>D.nx (st.set nN (some v)) H'):=by
 intro pins s st H D0 I h
 rw[exec_Assign_Name_used _ _ _ _ NT]
 refine wpAny_bind (wpAny_standAt (wpAny_bind ?_))
 show wpAny _ X.A (do let _ <- comprehension (.ListComp elt [⟨tg,iter,ifs,0⟩] sc pos) sc X.env _ (newList []) false (eval iter X.env) (some (assign (.Name y py) X.env))) _ _ s
 refine wpAny_bind (wpAny_mono (wpAny_comprehension_free (use:=some (assign (.Name y py) X.env)) (Q:=fun _ s'=>SP X pins D0 .next s') rfl hs (CM B I.ok) B.kind B.names (bQ (hi pins s st H _ I h) fun v s1 h1=>bQ h1 fun M0 s2 h2=>?_)) (fun _ s' hq=>wpAny_pure (wpAny_pure hq)) fun _ _ z=>z)
 obtain⟨it,fp,tj,J,H2,e,I2,T,EZ,f2,hq⟩:=h2
 subst e
 refine zV (RR:=fun acc C=>compPost (model X.prog X.w) X.A X.xe (some (assign (.Name y py) X.env)) (fun _ s'=>SP X pins D0 .next s') acc C) hc B hg ht ju I2 T EZ f2 hq ?_
 intro D C ws H' s' I' ⟨m,hn⟩ og q
 refine wpAny_assign_Name (qp I' hN hy hl (v:=.ref D) rfl (fun Nh Vc ⟨ad,D8,ha⟩=>?_) hf)
 have ne:C≠ad:=by
   rcases ha with z | z
   . rw[z];exact og.2.1
   . exact Ne.symm (og.2.2.2.2.1 _ _ z)
 exact⟨m,hn.sameBut D8 ne,fun h' JP=>⟨_,H',Vc.turned (t':=Nh.toks) (it:=C) (fun b o hb e=>(JP.2 b hb).trans e) og.1 og.2.1 og.2.2.2.1 og.2.2.2.2.1 og.2.2.2.2.2,q⟩⟩
theorem qL (hs:rW X G dl (as.map z) wi)(Gg:∀ a∈as,Qb X.K n g (z a) (sl a))(hn:as.length<=sizeLine):∀ st H Q,TH X.K G dl (.lst ((as.filter keep).map f)) st H Q->JU wi n ix g (JS X.K dl ix as sl keep) (JT X.K dl ix as sl keep f) st H Q:=fun st H Q ⟨Hf,S,k⟩=>
 hs st H _ ⟨Hf,S,fun J Ga H0 g0 src=>Ed (S.grow g0) hn Gg (fun au H1 g1 i=>src au H1 g1.aW g1.sub i) fun p aF H' g n1 n2 r=>k p aF H' (g0.trans g) (g0.big.free n1) n2 r⟩
theorem jw (as:List α)(z f:α->Dt)(sl:α->List Slot)(keep:α->Bool)(hc:X.calm=true)(B:uC X N tn ix sc)(hi:PI X tg iter wi)(hg:∀ C fp s H,PG (bI X N sc C fp s H) tg g)(uz:rW X G dl (as.map z) wi)(Gg:∀ a∈as,Qb X.K tn.length g (z a) (sl a))(Gh:zX X N sc dl ix as sl keep ifs)(ju:NW X N sc dl ix as sl keep f elt)(hn:as.length<=sizeLine)(hs:∀ z,foldedSetIterable iter X.env z=pure z:=by intro _;rfl):EO X G dl (.ListComp elt [⟨tg,iter,ifs,0⟩] sc pos) (.lst ((as.filter keep).map f)):=fB (NY hc B hi hg (Ge Gh) (Gf ju) hs) (qL uz Gg hn)
theorem Bv (nN:Nat)(as:List α)(z f:α->Dt)(sl:α->List Slot)(keep:α->Bool)(hc:X.calm=true)(hN:X.N.Nodup)(B:uC X N tn ix sc)(hi:PI X tg iter wi)(hg:∀ C fp s H,PG (bI X N sc C fp s H) tg g)(uz:rW X G dl (as.map z) wi)(Gg:∀ a∈as,Qb X.K tn.length g (z a) (sl a))(Gh:zX X N sc dl ix as sl keep ifs)(ju:NW X N sc dl ix as sl keep f elt)(hn:as.length<=sizeLine)(hs:∀ z,foldedSetIterable iter X.env z=pure z:=by intro _;rfl)(NT:swapsWith (.ListComp elt [⟨tg,iter,ifs,0⟩] sc pos) (some (.Name y py)) vN.line X.env=pure true:=by rfl)(hy:X.N[nN]?=some y:=by rfl)(hl:Loc X.env.scope y:=by first | exact Or.inl rfl | exact Or.inr rfl)(hf:X.fn y=true\/X.env.scope.names.lookup y=some .local:=by first | exact .inl rfl | exact .inr rfl | assumption):ES X G E dl (.Assign [.Name y py] (.ListComp elt [⟨tg,iter,ifs,0⟩] sc pos) vN) (.nx (dl.set nN (.own (.lst ((as.filter keep).map f))))):=
 wG (NZ hc B hi hg (Ge Gh) (Gf ju) hs NT hN hy hl hf) fun D st H ⟨Hf,S,k⟩=>qL uz Gg hn st H _ ⟨Hf,S,fun p aF H' g n1 n2 r=>k _ aF H' g.aW (S.NQ g n1 n2 r)⟩
noncomputable def Vk (K:W.Frag)(g:TG)(z:Dt)(up:List Slot->List Slot):Prop:=∀ (G:Gr) (st:L2.St) (Hf H:Hp) (v:V) (dl:List Slot) (Q:L2.St->Hp->Prop),cS K G st Hf H dl->Rep K Hf v z->(∀ jr,cS K G jr Hf H (up dl)->Q jr H)->g v st H Q
theorem sL {K:W.Frag}{n:Nat}{z:Dt}:Vk K (rE n) z (fun dl=>dl.set n (.val z)):=fun G st Hf H v dl Q S r k=>k _ (S.set r)
theorem CP {K:W.Frag}{n m:Nat}{z1 z2:Dt}:Vk K (Qz K 2 (Fp (rE n) (Fp (rE m) Qy))) (.tup [z1,z2]) (fun dl=>(dl.set n (.val z1)).set m (.val z2)):=fun G st Hf H v dl Q S r k=>by
 cases r with
 | @tup q vs _ hq rp=>
   cases rp with
   | cons r1 t1=>cases t1 with
     | cons r2 t2=>
       cases t2
       exact⟨q,_,rfl,br S.sub hq,rfl,_,_,rfl,_,_,rfl,rfl,k _ ((S.set r1).set r2)⟩
theorem nH {body:List Stmt}{m:Nat}(as:List α)(z:α->Dt)(up:α->List Slot->List Slot)(S:Nat->List Slot)(pJ:X.calm=true)(hp:PassesOwn (model X.prog X.w) X.A X.env X.xe)(hI:PI X tg iter wi)(uz:rW X G dl (as.map z) wi)(hg:PG X tg g)(Gg:∀ a∈as,Vk X.K g (z a) (up a))(h0:Le (S 0) dl)(TB:m<=as.length)(hb:∀ (k:Nat) (a:α),k < m->as[k]?=some a->Goes X G E body (up a (S k)) (S (k+1)))(he:oA X G E body S (fun k=>(as[k]?).elim (S k) fun a=>up a (S k)) as.length m o)(hs:∀ z,foldedSetIterable iter X.env z=pure z:=by intro _;rfl):ES X G E dl (.For tg iter body [] pos) o:=by
 refine wG (xq hp pJ hI hg (uq (G:=G) (E:=E)) hs) fun D st H ⟨Hf,S0,k⟩=>uz st H _ ⟨Hf,S0,fun J Ga H0 g0 src=>?_⟩
 refine⟨fun i q st H=>q=as.length - i/\i<=m/\∃ au,aD Ga au/\cS X.K G st au H (S i),⟨as.length,rfl,Nat.zero_le _,Ga,aD.refl _,(S0.grow g0).weak h0⟩,?_⟩
 rintro i q Vl H1 ⟨rfl,him,au,s1,S1⟩
 have sr:=src au H1 s1 S1.sub i
 by_cases d5:i < as.length
 . have hz:as[i]?=some as[i]:=List.getElem?_eq_getElem d5
   obtain⟨Rx,hy⟩:=sr.1 (z as[i]) (by rw[List.getElem?_map,hz];rfl)
   refine .inr ⟨Rx,fun jr H'=>i < m/\∃ bT,aD Ga bT/\cS X.K G jr bT H' (S (i+1)),fun jr H' ⟨h1,h2⟩=>⟨as.length - (i+1),by omega,rfl,by omega,h2⟩,fun x H' y=>?_⟩
   obtain⟨bT,g2,rv⟩:=hy x H' y
   refine Gg as[i] (List.getElem_mem d5) G Vl bT H' x (S i) _ (S1.grow g2) rv fun EZ S2=>?_
   by_cases N1:i < m
   . exact qE (hb i as[i] N1 hz) S2 (fun st iP H s3 S'=>⟨N1,iP,(s1.trans g2.aW).trans s3,S'⟩) (fun st iP H s3 S'=>⟨N1,iP,(s1.trans g2.aW).trans s3,S'⟩)
   . have e:i=m:=by omega
     subst e
     refine qF he d5 ?_ (k.mono ((g0.aW.trans s1).trans g2.aW)) rfl rfl
     show cS _ _ _ _ _ ((as[i]?).elim (S i) fun a=>up a (S i))
     rw[hz];exact S2
 . have e:i=as.length:=by omega
   subst e
   have e2:m=as.length:=by omega
   subst e2
   refine .inl ⟨sr.2 (by simp),?_⟩
   cases he with
   | all _=>exact k Vl au H1 (g0.aW.trans s1) S1
   | rt h _=>omega
   | ro h _=>omega
   | bk h _=>omega
   | ex h _=>omega
theorem cJ (B:uC X N tn ix sc)(h:tn=[x]):∀ C fp s H,PG (bI X N sc C fp s H) (.Name x px) (rE 0):=fun C fp s H=>by
 have hN:(bI X N sc C fp s H).N[0]?=some x:=by
   show N[0]?=some x
   rw[B.nm,h];rfl
 have F2:(bI X N sc C fp s H).env.scope.names.lookup x=some .local:=lookup_relabel_local (B.hx x (by rw[h];simp))
 exact ck (X:=bI X N sc C fp s H) B.nd hN (.inl F2) (.inr F2)
end
noncomputable def jk (sc zT:Scope)(XN N tn:List Str)(ix:List Nat):Bool:=
 decide N.Nodup && (decide (N=tn ++ ix.map (fun j=>XN.getD j "")) && (decide (sc.kind=.function) && (sc.names.all (fun y=>decide (y.2≠.cell)) && (sc.names.all (fun y=>decide (y.2=.local->sc.names.lookup y.1=some .local)) && (tn.all (fun x=>decide (sc.names.lookup x=some .local)) &&
   (sc.names.all (fun y=>decide (y.2=.free->zT.names.lookup y.1=some .cell\/zT.names.lookup y.1=some .free)) && ix.all (fun j=>decide (sc.names.lookup (XN.getD j "")=some .free) && decide (j < XN.length))))))))
theorem cU {X:Cx}{sc zT:Scope}{XN N tn:List Str}{ix:List Nat}(h:jk sc zT XN N tn ix=true)(e1:X.env.scope=zT:=by rfl)(e2:X.N=XN:=by rfl):uC X N tn ix sc:=by
 subst e1 e2
 unfold jk at h
 simp only[Bool.and_eq_true,List.all_eq_true,decide_eq_true_eq] at h
 obtain⟨h1,h2,h3,h4,h5,h6,h7,h8⟩:=h
 refine⟨h1,h2,h3,h4,h5,h6,h7,fun j hj=>?_⟩
 obtain⟨q1,q2⟩:=h8 j hj
 refine⟨X.N.getD j "",?_,q1⟩
 rw[List.getD_eq_getElem?_getD,List.getElem?_eq_getElem q2];rfl
section
variable {X:Cx}{G:Gr}{E:XK}{dl:List Slot}{a b:Expr}{d1 d2:Dt}{pos:Pos}{x y:Str}
theorem Gi (n1 n2:Nat){px py pt MY:Pos}{kt k2}(hN:X.N.Nodup)(hc:X.calm=true)(ha:EA X G dl [a,b] [d1,d2])(hi:X.N[n1]?=some x:=by rfl)(hj:X.N[n2]?=some y:=by rfl)(QB:n1≠n2:=by decide)(hx:X.env.scope.names.lookup x=some .local:=by rfl)(hy:X.env.scope.names.lookup y=some .local:=by rfl)(hw:swappedStores [.Tuple [.Name x px,.Name y py] kt pt] (.Tuple [a,b] k2 MY) X.env=pure (some [x,y]):=by rfl)(hs:swapsWithSole [.Tuple [.Name x px,.Name y py] kt pt] (.Tuple [a,b] k2 MY) pos.line X.env=pure false:=by rfl):ES X G E dl (.Assign [.Tuple [.Name x px,.Name y py] kt pt] (.Tuple [a,b] k2 MY) pos) (.nx ((dl.set n1 (.val d1)).set n2 (.val d2))):=
 wG (MX hc hN hi hj QB hx hy ha hw hs) fun D st H ⟨Hf,S,k⟩=>⟨Hf,S,fun vs au H1 g1 r1=>by
   cases r1 with
   | cons r1 t1=>cases t1 with
     | cons r2 t2=>
       cases t2
       exact⟨_,_,rfl,k _ au H1 g1.aW (((S.grow g1).set r1).set r2)⟩⟩
theorem L3 {Hf H au aF H':Hp}(s:aD Hf H)(g:aP au H aF H'):aP Hf H Hf H':=⟨g.big,aD.refl _,s.trans g.big,fun a o h=>.inl ⟨o,h⟩⟩
end
section
variable {X:Cx}{G:Gr}{E:XK}{dl:List Slot}{e:Expr}{d1 d2:Dt}{pos:Pos}
theorem xW (n1 n2:Nat){a b:Str}{pa pb tp:Pos}{cx:Nat}(hN:X.N.Nodup)(hc:X.calm=true)(he:EE X G dl e (.tup [d1,d2]))(Vm:X.N[n1]?=some a:=by rfl)(Vn:X.N[n2]?=some b:=by rfl)(Vo:Loc X.env.scope a:=by first | exact Or.inl rfl | exact Or.inr rfl)(Q9:Loc X.env.scope b:=by first | exact Or.inl rfl | exact Or.inr rfl)(Vp:X.fn a=true\/X.env.scope.names.lookup a=some .local:=by first | exact .inl rfl | exact .inr rfl)(Vq:X.fn b=true\/X.env.scope.names.lookup b=some .local:=by first | exact .inl rfl | exact .inr rfl)(hn:(assignEach [.Name a pa,.Name b pb] X.env).length=2:=by rfl)(oM:(assignEach [.Name a pa,.Name b pb] X.env).findIdx? (·.1)=none:=by rfl)(q1:(assignEach [.Name a pa,.Name b pb] X.env).map (·.2)=assign (.Name a pa) X.env::(assignEach [.Name b pb] X.env).map (·.2):=by rfl)(q2:(assignEach [.Name b pb] X.env).map (·.2)=assign (.Name b pb) X.env::(assignEach [] X.env).map (·.2):=by rfl)(hs:swapsWithSole [.Tuple [.Name a pa,.Name b pb] cx tp] e pos.line X.env=pure false:=by rfl)(hw:swappedStores [.Tuple [.Name a pa,.Name b pb] cx tp] e X.env=pure none:=by rfl)(h1:(assignEach [.Tuple [.Name a pa,.Name b pb] cx tp] X.env).map (·.2)=[assign (.Tuple [.Name a pa,.Name b pb] cx tp) X.env]:=by rfl):ES X G E dl (.Assign [.Tuple [.Name a pa,.Name b pb] cx tp] e pos) (.nx ((dl.set n1 (.val d1)).set n2 (.val d2))):=
 wG (A6 he (xn hc (gc (ck (pos:=pa) hN Vm Vo Vp) (gc (ck (pos:=pb) hN Vn Q9 Vq) sE q2) q1) hn oM) hs hw h1) fun D st H ⟨Hf,S,k⟩=>⟨Hf,S,fun v au H1 g1 r1=>by
   cases r1 with
   | @tup q vs _ hq rp=>
     cases rp with
     | cons r1 t1=>cases t1 with
       | cons r2 t2=>
         cases t2
         exact⟨q,_,rfl,br g1.sub hq,rfl,_,_,rfl,_,_,rfl,rfl,k _ au H1 g1.aW (((S.grow g1).set r1).set r2)⟩⟩
end
section
variable {X:Cx}{pins:List (Addr×Obj)}{σ:List (Option V)}{H:Hp}{s:Shared}{h':Heap}
theorem zY {ch:List Addr}{a:Addr}{o:HO}{t':Nat}(I:L2.Inv X pins σ H s)(yY:∀ b∈ch,kj X pins H b)(k:∀ b u,b ∉ ch->s.heap.get? b=some u->h'.get? b=some u)(hp:s.heap.objs.size<=a)(new:aK X.prog X.w (upd H a o) h' a o):L2.Inv X pins σ (upd H a o) { s with heap:=h',toks:=t'}:=by
 have hn:=I.bb.fresh hp
 have Qq:∀ b u,H b=some u->b ∉ ch:=fun b u e z=>by rw[(yY b z).1] at e;cases e
 have Zg:∀ b o,s.heap.get? b=some o->b≠a:=fun b o e=>Nat.ne_of_lt (Nat.lt_of_lt_of_le (Heap.lt_size e) hp)
 refine I.step (g':=s.gens) (d':=s.drawn) (ch:=ch) (fun b hb=>⟨(yY b hb).2.2.2.1,(yY b hb).2.1,(yY b hb).2.2.2.2.1,(yY b hb).2.2.2.2.2⟩) (fun b o _ _ hc e _=>k b o hc e) (fun b o _ _ hc e _=>⟨o.slots,k b o hc e⟩) (fun b o _ e n=>by rw[ag (Zg b o e)];exact n)
   (fun b o hc e=>⟨o,k b o hc e⟩) (fun b xs e=>by rw[ag (aw e hn)];exact e) (fun b o u e=>by rw[ag (aw e hn)];exact e) (fun b ps e=>⟨#[],by rw[ag (aw e hn),e];simp⟩) (fun m hm=>?_) (fun b u e=>?_) I.bare
 . obtain⟨o,es,ep,ho,r⟩:=hm
   exact⟨o,es,ep,k _ o (fun z=>(yY _ z).2.1 rfl) ho,r⟩
 . by_cases hb:b=a
   . subst hb;rw[aj] at e;cases e;exact new
   . rw[ag hb] at e
     refine(I.bb b u e).xj (fun c v hc q=>k c v ?_ q) (fun c q=>by rw[ag (aw q hn)];exact q) (fun c xs q=>by rw[ag (aw q hn)];exact q) (.of fun c u q=>by rw[ag (aw q hn)];exact q)
     rcases hc with z | z | z
     . rw[z];exact Qq b u e
     . exact Qq c _ z
     . exact fun z'=>by rw[(yY c z').1] at z;exact z
end
noncomputable def Xw (K:PySem.W.Frag)(a:Addr):It:=
 ⟨fun i H=>∃ xs x,mK K H a xs/\xs[i]?=some x,fun i H v H'=>∃ p x,v=.ref p/\H p=none/\H'=upd H p (.tup [.int i,x])/\∀ xs,mK K H a xs->xs[i]?=some x,fun i H=>∃ xs,mK K H a xs/\xs.length<=i⟩
theorem Ee {P:Program}{w:World}{K:W.Frag}{elts:List Expr}{kt:Nat}{xu:Pos}(a e it:Addr)(Qc:e≠it):Turn P w K (.Tuple elts kt xu) (Xw K a) [e,it] e (fun i h=>(∃ old,IsEnum h e it i old)/\h.IsListIter it a i) where
 mem:=by simp
 obj:=fun i h st b hb=>by
   obtain⟨⟨old,he⟩,o,e2,c,d⟩:=st
   rcases List.mem_cons.mp hb with rfl | hb
   . exact⟨_,he,fun v z=>by cases z⟩
   . have:b=it:=by simpa using hb
     subst this
     exact⟨o,e2,fun v z=>by rw[d] at z;cases z⟩
 keep:=fun i h h' st k=>by
   obtain⟨⟨old,he⟩,hit⟩:=st
   exact⟨⟨old,k e (by simp) _ he⟩,hit.at fun o x=>k it (by simp) o x⟩
 item:=by
   intro X hP hw hK hc i pins s σ H E I hf st hg
   subst hP hw hK
   obtain⟨xs,x,hq,hx⟩:=hg
   obtain⟨aH,rv,p,hz⟩:=I.list hq
   obtain⟨u,hu,ru⟩:=rv.get hx
   obtain⟨⟨old,he⟩,hit⟩:=st
   have RE:e < s.heap.objs.size:=Heap.lt_size he
   have Vr:it < s.heap.objs.size:=by obtain⟨_,z,_⟩:=hit;exact Heap.lt_size z
   refine wpAny_pyNext_enum_item he hit p.isList (x:=u) (by simpa using hu) Qc fun h1 ho N2 hT hsz hk=>?_
   refine⟨_,rfl,wpAny_letOwnedTupleGo_enum ho fun h2 NJ A2=>?_⟩
   have Vs:h2.get? s.heap.objs.size=some { cls:=.type "tuple",data:=.seq #[.int i s.toks,u]}:=(A2.2 _ (Nat.ne_of_gt RE)).trans hT
   have k2:∀ b o,b ∉ [e,it]->s.heap.get? b=some o->h2.get? b=some o:=fun b o hb q=>(A2.2 b fun z=>hb (by simp[z])).trans (hk b o (fun z=>hb (by simp[z])) (fun z=>hb (by simp[z])) q)
   have hp:H s.heap.objs.size=none:=I.bb.fresh (Nat.le_refl _)
   have I2:L2.Inv X pins σ (upd H s.heap.objs.size (.tup [.int i,x])) { s with heap:=h2,toks:=s.toks+1}:=zY I hf k2 (Nat.le_refl _) ⟨Nat.le_of_ble_eq_true rfl,[.int i s.toks,u],.cons ⟨_,rfl⟩ (.cons ru .nil),_,Vs,rfl,_,rfl⟩
   refine⟨.ref s.heap.objs.size,_,I2,rfl,⟨_,x,rfl,hp,rfl,fun ys hy=>by rw[I.zm hy hq];exact hx⟩,⟨⟨u,by simpa using NJ⟩,N2.at fun o z=>(A2.2 it (Ne.symm Qc)).trans z⟩,fun b hb=>?_⟩
   have:b≠s.heap.objs.size:=by
     rcases List.mem_cons.mp hb with rfl | hb
     . exact Nat.ne_of_lt RE
     . have:b=it:=by simpa using hb
       subst this
       exact Nat.ne_of_lt Vr
   rw[ag this]
   exact(hf b hb).1
 done:=by
   intro X hP hw hK hc i pins s σ H E I hf st hg
   subst hP hw hK
   obtain⟨xs,hq,hx⟩:=hg
   obtain⟨aH,rv,p,hz⟩:=I.list hq
   obtain⟨⟨old,he⟩,hit⟩:=st
   obtain⟨f0,f1,f2,f3,f4,f5⟩:=hf it (by simp)
   have hl:=rv.length
   exact wpAny_pyNext_enum_end (I.ok.hd hc) he hit p.isList (by simp;omega) fun h' eb=>⟨rfl,I.turned (t':=s.toks) (fun b o hb q=>eb b o hb q) f0 f1 f3 f4 f5⟩
 self:=fun _ i s Q E st h=>by
   obtain⟨⟨old,he⟩,_⟩:=st
   exact wpAny_pyIter_enum he h
theorem boot_enumerate:bootBuiltins "enumerate"=some (.type "enumerate"):=by decide +kernel
section
variable {X:Cx}{G:Gr}{dl:List Slot}{a:Expr}{xs:List Dt}{p pos:Pos}
noncomputable def L5 (K:W.Frag)(ta:TA):TI:=fun σ H R=>ta σ H fun vs H1=>∃ a,vs=[.ref a]/\(∃ xs,mK K H1 a xs)/\R (Xw K a) H1
theorem JV {elts:List Expr}{kt:Nat}{xu:Pos}{ta:TA}(hg:Gl X "enumerate")(hm:X.mg "enumerate"=none)(ha:PA X [a] ta)(hs:starEach [a] X.env=[(false,eval a X.env)]:=by rfl):PI X (.Tuple elts kt xu) (.Call (.Name "enumerate" p) [a] [] pos) (L5 X.K ta):=by
 intro pins s σ H R I h
 refine Call_ (qr I hg hm boot_enumerate (PyProof.Rows.callWith_type1 (bQ (ha pos pins s σ H _ I h) fun us s1 ⟨vs,H1,I1,r1,q1⟩=>?_) hs rfl))
 obtain⟨l,e,⟨xs,hq⟩,q⟩:=q1
 subst e
 cases r1 with
 | cons r rr=>
   cases rr
   cases r
   obtain⟨aH,rv,pl,hz⟩:=I1.list hq
   refine call_enumerate_list pl.isList fun h' he hit hsz k=>wpAny_pyIter_enum he ?_
   have I2:L2.Inv X pins σ H1 { s1 with heap:=h'}:=I1.kept (t':=s1.toks) k
   refine⟨s1.heap.objs.size+1,[s1.heap.objs.size+1,s1.heap.objs.size],_,_,H1,rfl,I2,Ee l _ s1.heap.objs.size (Nat.succ_ne_self _),⟨⟨_,he⟩,hit⟩,fun b hb=>?_,q⟩
   have NF:s1.heap.objs.size<=b:=by
     rcases List.mem_cons.mp hb with rfl | hb
     . exact Nat.le_succ _
     . have:b=s1.heap.objs.size:=by simpa using hb
       rw[this];exact Nat.le_refl _
   exact I1.vI NF (I1.bb.fresh NF)
noncomputable def rK (xs:List Dt):List Dt:=(List.range xs.length).map fun(k:Nat)=>.tup [.int k,xs.getD k .cF]
theorem Ef:rW X G dl (rK xs) (L5 X.K (Tv X.K G dl [.lst xs])):=fun st H R ⟨Hf,S,k⟩=>⟨Hf,S,fun vs au H1 g1 r1=>by
 cases r1 with
 | cons r t=>
   cases t
   cases r with
   | @lst q vs _ hq rp=>
     have hl:=rp.length
     refine⟨q,rfl,⟨vs,.of (g1.sub _ _ hq)⟩,k _ au H1 g1 fun bT H2 s1 s2 i=>⟨fun z hz=>?_,fun hi=>⟨vs,.of (s2 _ _ (s1 _ _ hq)),by unfold rK at hi;rw[List.length_map,List.length_range] at hi;omega⟩⟩⟩
     have hi:i < xs.length:=by
       have:=(List.getElem?_eq_some_iff.mp hz).1
       unfold rK at this
       simpa using this
     unfold rK at hz
     rw[List.getElem?_map,List.getElem?_range hi] at hz
     cases hz
     have hx:xs[i]?=some (xs.getD i .cF):=by rw[List.getD_eq_getElem?_getD,List.getElem?_eq_getElem hi];rfl
     obtain⟨u,z1,z2⟩:=rp.get hx
     have hs:mK X.K H2 q vs:=.of (s2 _ _ (s1 _ _ hq))
     refine⟨⟨vs,u,hs,z1⟩,fun v H3 hy=>?_⟩
     obtain⟨pt,x,rfl,hn,rfl,e2⟩:=hy
     have e2:=e2 vs hs
     rw[z1] at e2;cases e2
     have g3:aP bT H2 (upd bT pt (.tup [.int i,u])) (upd H2 pt (.tup [.int i,u])):=.alloc s2 hn
     exact⟨_,g3,.tup (.inl aj) (.cons (.int _) (.cons ((z2.mono s1).mono g3.aW) .nil))⟩⟩
end
section
noncomputable def noOwn:List Slot->Bool
 | []=>true
 | .own _::_=>false
 | _::r=>noOwn r
theorem aU:∀ {dl:List Slot},noOwn dl=true->∀ (j:Nat) o,dl[j]?≠some (.own o)
 | [],_,j,o,h=>by simp at h
 | .val d::r,q,0,o,h=>by simp at h
 | .bV::r,q,0,o,h=>by simp at h
 | .val d::r,q,j+1,o,h=>aU (dl:=r) q j o (by simpa using h)
 | .bV::r,q,j+1,o,h=>aU (dl:=r) q j o (by simpa using h)
end
section
variable {X:Cx}{G:Gr}{dl:List Slot}{e:Expr}{x:Str}{i j:Int}{pos p2:Pos}{lo hi:Option Expr}{l u:Option Int}
theorem N3:UQ X (fun x lo hi H Q=>∃ z:Str,x=.str z/\z.length<=sizeLine/\Q (.str (Txt.slice z lo hi)) H):=by
 intro pins s σ H x v vl vu lo hi sl Q I rx hs pl pu h
 obtain⟨z,rfl,hz,q⟩:=h
 obtain⟨t,rfl⟩:=(show ∃ t,v=Value.str z t from rx)
 obtain⟨o,h1,h2,h3⟩:=hs
 refine⟨"str",_,F.slot_str_getitem.lookup,typeIs_str _ _ _,?_⟩
 cases pl with
 | none=>
   cases pu with
   | none=>exact wpAny_getItem_str_slice (l:=none) (u:=none) (st:=none) ⟨o,h1,h2,h3⟩ rfl (post_val_or_str ⟨Nat.le_trans (Txt.slice_le z _ _) hz,fun t' k=>⟨.str (Txt.slice z _ _),H,I.tok _,⟨t',rfl⟩,q⟩⟩)
   | int j uj=>exact wpAny_getItem_str_slice (l:=none) (u:=some (j,uj)) (st:=none) ⟨o,h1,h2,h3⟩ rfl (post_val_or_str ⟨Nat.le_trans (Txt.slice_le z _ _) hz,fun t' k=>⟨.str (Txt.slice z _ _),H,I.tok _,⟨t',rfl⟩,q⟩⟩)
 | int i ui=>
   cases pu with
   | none=>exact wpAny_getItem_str_slice (l:=some (i,ui)) (u:=none) (st:=none) ⟨o,h1,h2,h3⟩ rfl (post_val_or_str ⟨Nat.le_trans (Txt.slice_le z _ _) hz,fun t' k=>⟨.str (Txt.slice z _ _),H,I.tok _,⟨t',rfl⟩,q⟩⟩)
   | int j uj=>exact wpAny_getItem_str_slice (l:=some (i,ui)) (u:=some (j,uj)) (st:=none) ⟨o,h1,h2,h3⟩ rfl (post_val_or_str ⟨Nat.le_trans (Txt.slice_le z _ _) hz,fun t' k=>⟨.str (Txt.slice z _ _),H,I.tok _,⟨t',rfl⟩,q⟩⟩)
noncomputable def Vt (K:W.Frag)(G:Gr)(dl:List Slot)(o:Option Int):TO:=fun st H Q=>∃ Hf,cS K G st Hf H dl/\∀ aF H',aP Hf H aF H'->Q o H'
noncomputable abbrev TN (X:Cx)(G:Gr)(dl:List Slot)(e:Option Expr)(o:Option Int):Prop:=PO X e (Vt X.K G dl o)
theorem Xx {e:Option Expr}{t t':TO}(h:PO X e t)(i:∀ st H Q,t' st H Q->t st H Q):PO X e t':=fun pins s st H Q I q=>h pins s st H Q I (i st H Q q)
theorem Gj:TN X G dl none none:=Xx Cr fun st H Q ⟨Hf,S,k⟩=>k Hf H (.refl S.sub)
theorem CQ (h:EE X G dl e (.int i)):TN X G dl (some e) (some i):=Xx (Cs h) fun st H Q ⟨Hf,S,k⟩=>⟨Hf,S,fun v au H1 g1 r1=>by cases r1;exact⟨i,rfl,k au H1 g1⟩⟩
theorem Gk (he:EE X G dl e (.str x))(hl:TN X G dl lo l)(hu:TN X G dl hi u)(hx:x.length<=sizeLine):EE X G dl (.Subscript e (.Slice lo hi none p2) pos) (.str (Txt.slice x l u)):=
 fB (zv N3 he hl hu) fun st H Q ⟨Hf,S,k⟩=>⟨Hf,S,fun v au H1 g1 r1=>⟨au,S.grow g1,fun bT H2 g2=>⟨bT,(S.grow g1).grow g2,fun iP H3 g3=>by
   cases r1
   exact⟨x,rfl,hx,k _ iP H3 ((g1.trans g2).trans g3) (.str _)⟩⟩⟩⟩
end
noncomputable def Xy (x:Str):It:=⟨fun i H=>∃ c,x.cps[i]?=some c,fun i H v H'=>H'=H/\∃ c,x.cps[i]?=some c/\v=.str ⟨#[c]⟩,fun i H=>x.cps[i]?=none⟩
theorem Gm {P:Program}{w:World}{K:W.Frag}{tg:Expr}(x:Str)(t:Tok)(it:Addr):Turn P w K tg (Xy x) [it] it (fun i h=>h.IsStrIter it "str_ascii_iterator" x t i) where
 mem:=by simp
 obj:=fun i h st b hb=>by
   have e:b=it:=by simpa using hb
   subst e
   obtain⟨o,e,c,d⟩:=st
   exact⟨o,e,fun v z=>by rw[d] at z;cases z⟩
 keep:=fun i h h' st k=>let ⟨o,e,c,d⟩:=st;⟨o,k it (by simp) o e,c,d⟩
 item:=by
   intro X hP hw hK hc i pins s σ H E I hf st hg
   subst hP hw hK
   obtain⟨c,hx⟩:=hg
   obtain⟨f0,f1,f2,f3,f4,f5⟩:=hf it (by simp)
   refine wpAny_pyNext_ascii_item st hx fun h' jr sb=>?_
   have I1:L2.Inv X pins σ H { s with heap:=h',toks:=s.toks+1}:=I.turned (t':=s.toks+1) (fun b o hb e=>(sb.2 b hb).trans e) f0 f1 f3 f4 f5
   obtain⟨o,e,cc,d⟩:=id jr
   exact⟨_,rfl,Cm (s:={ s with heap:=h',toks:=s.toks+1}) e cc d (by decide) ⟨.str ⟨#[c]⟩,H,I1,⟨_,rfl⟩,⟨rfl,c,hx,rfl⟩,jr,fun b hb=>(hf b hb).1⟩⟩
 done:=by
   intro X hP hw hK hc i pins s σ H E I hf st hg
   subst hP hw hK
   obtain⟨f0,f1,f2,f3,f4,f5⟩:=hf it (by simp)
   exact wpAny_pyNext_ascii_end (I.ok.hd hc) st hg fun h' eb=>⟨rfl,I.turned (t':=s.toks) (fun b o hb e=>eb b o hb e) f0 f1 f3 f4 f5⟩
 self:=fun _ _ _ _ _ st h=>wpAny_pyIter_striter_ascii st h
noncomputable def jx (x:Str):Bool:=x.cps.all (· < 128)
noncomputable def signs (x:Str):List Dt:=x.cps.toList.map fun c=>.str ⟨#[c]⟩
section
variable {X:Cx}{G:Gr}{dl:List Slot}{a b c e:Expr}{x y z:Str}{pos:Pos}{i j k:Int}{u v:Bool}
noncomputable def RF (ta:TE):TI:=fun σ H R=>ta σ H fun v H1=>∃ x,v=.str x/\jx x=true/\R (Xy x) H1
theorem iS {tg:Expr}{ta:TE}(ha:PE X a ta):PI X tg a (RF ta):=by
 intro pins s σ H R I h
 refine bQ (ha pins s σ H _ I h) fun v s1 ⟨w,H1,I1,r1,q1⟩=>?_
 obtain⟨x,e,hx,q⟩:=q1
 subst e
 obtain⟨t,rfl⟩:=(show ∃ t,v=Value.str x t from r1)
 refine wpAny_pyIter_ascii hx ?_
 refine⟨s1.heap.objs.size,[s1.heap.objs.size],_,_,H1,rfl,I1.kept (t':=s1.toks) fun b o e=>Heap.get?_push_of_some _ e,Gm x t _,⟨_,Heap.get?_push_size _ rfl,rfl,rfl⟩,fun b hb=>?_,q⟩
 have e:b=s1.heap.objs.size:=by simpa using hb
 subst e
 exact I1.vI (Nat.le_refl _) (I1.bb.fresh (Nat.le_refl _))
theorem signs_get (x:Str)(i:Nat):(signs x)[i]?=(x.cps[i]?).map fun c=>.str ⟨#[c]⟩:=by
 unfold signs
 rw[List.getElem?_map,Array.getElem?_toList]
theorem qM (x:Str):(signs x).length=x.length:=by
 unfold signs
 rw[List.length_map,Array.length_toList];rfl
theorem dJ (hx:jx x=true):rW X G dl (signs x) (RF (tD X.K G dl (.str x))):=fun st H R ⟨Hf,S,k⟩=>⟨Hf,S,fun v au H1 g1 r1=>by
 cases r1
 refine⟨x,rfl,hx,k _ au H1 g1 fun bT H2 s1 s2 i=>⟨fun z hz=>?_,fun hi=>?_⟩⟩
 . rw[signs_get] at hz
   cases q:x.cps[i]? with
   | none=>rw[q] at hz;cases hz
   | some c=>
     rw[q] at hz
     cases hz
     refine⟨⟨c,q⟩,fun v H3 ⟨e1,c',e2,e3⟩=>?_⟩
     rw[q] at e2;cases e2
     subst e1 e3
     exact⟨bT,.refl s2,.str _⟩
 . show x.cps[i]?=none
   rw[hi,qM]
   exact Array.getElem?_size_le (Nat.le_refl _)⟩
theorem wL:nC X (compareOp .LtE) (fun x y H Q=>∃ i j,x=.str i/\y=.str j/\Q (.bl (!decide (j.cps.toList < i.cps.toList))) H):=by
 intro pins s σ H x y v u Q I rx ry h
 obtain⟨i,j,rfl,rfl,q⟩:=h
 obtain⟨t,rfl⟩:=rx
 obtain⟨t',rfl⟩:=ry
 exact P.le_str (bA I q rfl)
noncomputable def N4 (x y:Str):Bool:=!decide (y.cps.toList < x.cps.toList)
theorem Gn {K:W.Frag}:CA K (fun x y H Q=>∃ i j,x=.str i/\y=.str j/\Q (.bl (!decide (j.cps.toList < i.cps.toList))) H) (.str x) (.str y) (.bl (N4 x y)):=fun v w Hf H Q s r1 r2 k=>by
 cases r1;cases r2;exact⟨x,y,rfl,rfl,k _ Hf H (.refl s) (.bl _)⟩
variable {d1 d2 d3:Dt}
theorem zZ {op Nc:CmpOp}{r r':R2}(ho:nC X (compareOp op) r)(Ff:nC X (compareOp Nc) r')(h1:CA X.K r d1 d2 (.bl u))(h2:CA X.K r' d2 d3 (.bl v))(ha:EE X G dl a d1)(hb:EE X G dl b d2)(hc:EE X G dl c d3)(hm:lastMarks [op,Nc] [b,c]=false:=by with_unfolding_all rfl):EE X G dl (.Compare a [op,Nc] [b,c] pos) (.bl (u && v)):=
 fB (Fx ho Ff ha hb hc hm) fun st H Q ⟨Hf,S,k⟩=>⟨Hf,S,fun x au H1 g1 r1=>⟨au,S.grow g1,fun y bT H2 g2 r2=>h1 x y bT H2 _ g2.sub (r1.mono g2.aW) r2 fun z iP H3 g3 r3=>by
   cases r3
   refine⟨u,rfl,?_⟩
   cases u with
   | false=>exact zF (k _ iP H3 ((g1.trans g2).trans g3) (.bl _))
   | true=>exact Bi ⟨iP,((S.grow g1).grow g2).grow g3,fun w E4 H4 g4 r4=>h2 y w E4 H4 Q g4.sub (r2.mono (g3.aW.trans g4.aW)) r4 fun q sM H5 g5 r5=>k q sM H5 ((((g1.trans g2).trans g3).trans g4).trans g5) r5⟩⟩⟩
theorem Gp (ha:EE X G dl a (.str x))(hb:EE X G dl b (.str y))(hc:EE X G dl c (.str z))(hm:lastMarks [.LtE,.LtE] [b,c]=false:=by with_unfolding_all rfl):EE X G dl (.Compare a [.LtE,.LtE] [b,c] pos) (.bl (N4 x y && N4 y z)):=zZ wL wL Gn Gn ha hb hc hm
theorem Gq (ha:EE X G dl a (.int i))(hb:EE X G dl b (.int j))(hc:EE X G dl c (.int k))(hm:lastMarks [.LtE,.LtE] [b,c]=false:=by with_unfolding_all rfl):EE X G dl (.Compare a [.LtE,.LtE] [b,c] pos) (.bl (decide (i<=j) && decide (j<=k))):=
 zZ Fw Fw (pH (g':=fun i j=>.bl (decide (i<=j))) fun _ _ _ _=>.bl _) (pH (g':=fun i j=>.bl (decide (i<=j))) fun _ _ _ _=>.bl _) ha hb hc hm
end
section
variable {X:Cx}{G:Gr}{dl:List Slot}{a b e:Expr}{pos p apos b6:Pos}{k x:Str}{xs:List Str}{bs:List Bool}{ns:List Int}{hi:Option Expr}{l u:Option Int}
theorem Gs {neg:Bool}:CA X.K (Tq X.K neg) (.str k) (.lst (xs.map .str)) (.bl (if neg then !decide (k∈xs) else decide (k∈xs))):=fun v w Hf H Q s r1 r2 kk=>by
 cases r1
 cases r2 with
 | @lst q vs _ hq rp=>
   have ev:=nG rp
   subst ev
   refine⟨q,_,rfl,.inl (.of (s _ _ hq)),rfl,wK xs,?_⟩
   rw[uB]
   exact kk _ Hf H (.refl s) (.bl _)
theorem N5 (ha:EE X G dl a (.str k))(hb:EE X G dl b (.lst (xs.map .str)))(hm:behindInMarks .In b=false:=by rfl):EE X G dl (.Compare a [.In] [b] pos) (.bl (decide (k∈xs))):=qB wC (Gs (neg:=false)) hm ha hb
theorem JW (ha:EE X G dl a (.str k))(hb:EE X G dl b (.lst (xs.map .str)))(hm:behindInMarks .NotIn b=false:=by rfl):EE X G dl (.Compare a [.NotIn] [b] pos) (.bl (!decide (k∈xs))):=qB pE (Gs (neg:=true)) hm ha hb
theorem range_all (bs:List Bool):(List.range bs.length).all (fun i=>bs.getD i true)=bs.all id:=by
 induction bs with
 | nil=>rfl
 | cons b r ih=>
   rw[List.length_cons,List.range_succ_eq_map,List.all_cons,List.all_map,List.all_cons]
   show(b && (List.range r.length).all (fun i=>r.getD i true))=(b && r.all id)
   rw[ih]
theorem Eg (hc:X.calm=true):jE X (.builtin "all") (fun xs H Q=>∃ (p:Addr) (bs:List Bool),xs=[.ref p]/\mK X.K H p (bs.map V.bl)/\Q (.bl (bs.all id)) H):=by
 intro pins s σ H xs us Q I r h
 obtain⟨p,bs,rfl,hq,q⟩:=h
 obtain⟨u,rfl,rx⟩:=vals1 r
 cases rx
 obtain⟨aH,rv,pl,hz⟩:=I.list hq
 have hlen:=rv.length
 rw[List.length_map] at hlen
 obtain⟨o,n,ho,_⟩:=id pl
 have hp:p < s.heap.objs.size:=Heap.lt_size ho
 refine call_all_walk (wpAny_pyIter_list pl.isList ?_)
 refine⟨s.heap.objs.size,_,_,_,_,_,fun i=>bs.getD i true,rfl,Walks.list (A:=X.A.in1) (I.ok.hd hc) s.heap.objs.size p (Nat.ne_of_lt hp) aH.toArray,⟨⟨_,Heap.get?_push_size _ rfl,rfl,rfl⟩,?_⟩,fun i v s' Q' E' hv hQ=>?_,fun h' tk hk=>?_⟩
 . exact pl.isList.at fun o e=>Heap.get?_push_of_some _ e
 . have hv:aH[i]?=some v:=by simpa using hv
   have hi:i < aH.length:=(List.getElem?_eq_some_iff.mp hv).1
   have RG:i < bs.length:=by omega
   obtain⟨u',h1,h2⟩:=rv.get (i:=i) (x:=V.bl bs[i]) (by rw[List.getElem?_map,List.getElem?_eq_getElem RG];rfl)
   rw[hv] at h1;cases h1
   cases h2
   have e:bs.getD i true=bs[i]:=by rw[List.getD_eq_getElem?_getD,List.getElem?_eq_getElem RG];rfl
   have hQ:Q' (bs.getD i true) s':=hQ
   rw[e] at hQ
   exact wpAny_truthy_bool hQ
 . have ea:(List.range aH.toArray.size).all (fun i=>bs.getD i true)=bs.all id:=by rw[List.size_toArray,<- hlen];exact range_all bs
   rw[ea]
   refine⟨.bl _,H,I.kept (t':=tk) fun b o e=>hk b o (fun hm=>?_) (Heap.get?_push_of_some _ e),rfl,q⟩
   have:b=s.heap.objs.size:=by simpa using hm
   subst this
   exact Nat.lt_irrefl _ (Heap.lt_size e)
theorem boot_all:bootBuiltins "all"=some (.builtin "all"):=by decide +kernel
theorem z5 {K:W.Frag}{H:Hp}:∀ {bs:List Bool} {vs:List V},bc K H vs (bs.map Dt.bl)->vs=bs.map V.bl
 | [],_,.nil=>rfl
 | b::r,_,.cons h t=>by cases h;rw[z5 t];rfl
theorem Gu (hm:X.mg "all"=none)(hc:X.calm=true)(ha:EE X G dl a (.lst (bs.map .bl)))(hg:Gl X "all":=by rfl)(he:starEach [a] X.env=[(false,eval a X.env)]:=by rfl):EE X G dl (.Call (.Name "all" p) [a] [] pos) (.bl (bs.all id)):=
 fB (fm (Eg hc) hg hm boot_all (ae ha ai he) (by decide) (by decide) he rfl) fun st H Q ⟨Hf,S,k⟩=>⟨Hf,S,fun vs au H1 g1 r1=>by
   cases r1 with
   | cons r t=>cases t;cases r with
     | @lst q vs _ z r=>
       have ev:=z5 r
       subst ev
       exact⟨q,bs,rfl,.of (g1.sub _ _ z),k _ au H1 g1 (.bl _)⟩⟩
theorem qN (ns:List Int):∀ k,k<=ns.length->preSum (fun i=>ns.getD i 0) k=(ns.take k).sum
 | 0,_=>by simp[preSum]
 | k+1,h=>by
   have hk:k < ns.length:=h
   rw[preSum,qN ns k (Nat.le_of_lt hk),List.take_add_one,List.getElem?_eq_getElem hk,List.sum_append,List.getD_eq_getElem?_getD,List.getElem?_eq_getElem hk]
   simp
theorem Eh (hc:X.calm=true):jE X (.builtin "sum") (fun xs H Q=>∃ (p:Addr) (ns:List Int),xs=[.ref p]/\mK X.K H p (ns.map V.int)/\Q (.int ns.sum) H):=by
 intro pins s σ H xs us Q I r h
 obtain⟨p,ns,rfl,hq,q⟩:=h
 obtain⟨u,rfl,rx⟩:=vals1 r
 cases rx
 obtain⟨aH,rv,pl,hz⟩:=I.list hq
 have hlen:=rv.length
 rw[List.length_map] at hlen
 obtain⟨o,n,ho,_⟩:=id pl
 have hp:p < s.heap.objs.size:=Heap.lt_size ho
 refine call_sum_walkAnyS (wpAny_pyIter_list pl.isList ?_)
 refine⟨s.heap.objs.size,_,_,_,_,_,_,fun i=>ns.getD i 0,rfl,(Walks.list (A:=X.A.in1) (I.ok.hd hc) s.heap.objs.size p (Nat.ne_of_lt hp) aH.toArray).toS,⟨⟨_,Heap.get?_push_size _ rfl,rfl,rfl⟩,?_⟩,fun b hb=>?_,fun i v hv=>?_,fun s' t' hm=>?_⟩
 . exact pl.isList.at fun o e=>Heap.get?_push_of_some _ e
 . have hsz:(s.heap.push { cls:=.type "list_iterator",data:=.fields #[.ref p,.int 0 0]}).objs.size=s.heap.objs.size+1:=Heap.size_push ..
   show b < (s.heap.push { cls:=.type "list_iterator",data:=.fields #[.ref p,.int 0 0]}).objs.size
   rw[hsz]
   rcases List.mem_cons.mp hb with e | hb
   . rw[e];exact Nat.lt_succ_self _
   . have:b=p:=by simpa using hb
     rw[this];exact Nat.lt_succ_of_lt hp
 . have hv:aH[i]?=some v:=by simpa using hv
   have hi:i < aH.length:=(List.getElem?_eq_some_iff.mp hv).1
   have RG:i < ns.length:=by omega
   obtain⟨u',h1,h2⟩:=rv.get (i:=i) (x:=V.int ns[i]) (by rw[List.getElem?_map,List.getElem?_eq_getElem RG];rfl)
   rw[hv] at h1;cases h1
   obtain⟨t,rfl⟩:=h2
   refine⟨t,?_⟩
   show _=Value.int (ns.getD i 0) t
   rw[List.getD_eq_getElem?_getD,List.getElem?_eq_getElem RG];rfl
 . have ea:preSum (fun i=>ns.getD i 0) aH.toArray.size=ns.sum:=by
     rw[List.size_toArray,<- hlen,qN ns _ (Nat.le_refl _),List.take_length]
   rw[ea]
   refine⟨.int _,H,?_,⟨t',rfl⟩,q⟩
   obtain⟨h',g',d',tk,UO⟩:=s'
   have e1:g'=s.gens:=hm.gens
   have e2:d'=s.drawn:=hm.drawn
   have e3:UO=s.os:=hm.os
   subst e1 e2 e3
   refine I.kept (t':=tk) fun b o e=>hm.heap b o (fun z=>?_) (Heap.get?_push_of_some _ e)
   have:b=s.heap.objs.size:=by simpa using z
   subst this
   exact Nat.lt_irrefl _ (Heap.lt_size e)
theorem boot_sum:bootBuiltins "sum"=some (.builtin "sum"):=by decide +kernel
theorem uD {K:W.Frag}{H:Hp}:∀ {ns:List Int} {vs:List V},bc K H vs (ns.map Dt.int)->vs=ns.map V.int
 | [],_,.nil=>rfl
 | b::r,_,.cons h t=>by cases h;rw[uD t];rfl
theorem Gv (hm:X.mg "sum"=none)(hc:X.calm=true)(ha:EE X G dl a (.lst (ns.map .int)))(hg:Gl X "sum":=by rfl)(he:starEach [a] X.env=[(false,eval a X.env)]:=by rfl):EE X G dl (.Call (.Name "sum" p) [a] [] pos) (.int ns.sum):=
 fB (fm (Eh hc) hg hm boot_sum (ae ha ai he) (by decide) (by decide) he rfl) fun st H Q ⟨Hf,S,k⟩=>⟨Hf,S,fun vs au H1 g1 r1=>by
   cases r1 with
   | cons r t=>cases t;cases r with
     | @lst q vs _ z r=>
       have ev:=uD r
       subst ev
       exact⟨q,ns,rfl,.of (g1.sub _ _ z),k _ au H1 g1 (.int _)⟩⟩
theorem wM:∀ {xs:List Str} {us:List Value},Vals (xs.map V.str) us->∃ l:List (Str×Tok),us=strValues l/\l.map (·.1)=xs
 | [],_,.nil=>⟨[],rfl,rfl⟩
 | x::r,_,.cons h t=>by
   obtain⟨tk,rfl⟩:=h
   obtain⟨l,rfl,e⟩:=wM t
   exact⟨(x,tk)::l,rfl,by rw[List.map_cons,e]⟩
theorem JX:P4 X "str.join" (fun x xs H Q=>∃ (z:Str) (p:Addr) (ys:List Str),x=.str z/\xs=[.ref p]/\mK X.K H p (ys.map V.str)/\JoinOk z ys=true/\Q (.str (Txt.join z ys)) H):=by
 intro pins s σ H x xs v us Q I rx rv ⟨z,p,ys,e1,e2,hq,bb,q⟩
 subst e1 e2
 obtain⟨t,rfl⟩:=(show ∃ t,v=Value.str z t from rx)
 obtain⟨u,rfl,ru⟩:=vals1 rv
 cases ru
 obtain⟨aH,r,pl,hz⟩:=I.list hq
 obtain⟨l,rfl,el⟩:=wM r
 exact SC.join pl.isList el bb fun t' k=>⟨.str (Txt.join z ys),H,I.tok _,⟨t',rfl⟩,q⟩
theorem JY (ha:EE X G dl a (.str x))(he:EE X G dl e (.lst (xs.map .str)))(bb:JoinOk x xs=true)(kl:attributeBase a "join" X.env (eval a X.env)=eval a X.env:=by rfl)
   (t8:((backTo b6 (starEach [e] X.env)).all (fun x=>!x.1) && (backToKw b6 (keywordEach [] X.env)).all (fun x=>x.1.isSome) && decide ([e].length+([]:List Keyword).length+(if ([]:List Keyword).isEmpty then 0 else 1) < 30))=true:=by rfl)
   (km:(apos.endLine == b6.line)=true:=by rfl) (oM:starEach [e] X.env=(false,eval e X.env)::starEach [] X.env:=by rfl):EE X G dl (.Call (.Attribute a "join" apos) [e] [] b6) (.str (Txt.join x xs)):=
 fB (t7 PySem.F.plainAttrs_str PySem.F.slot_str_join PySem.F.type_str_join JX ha (ae he ai oM) kl t8 km oM rfl) fun st H Q ⟨Hf,S,k⟩=>⟨Hf,S,fun v au H1 g1 r1=>by
   cases r1
   refine⟨rfl,au,S.grow g1,fun us bT H2 g2 r2=>?_⟩
   cases r2 with
   | cons r2 t2=>cases t2;cases r2 with
     | @lst q vs _ hq rp=>
       have ev:=nG rp
       subst ev
       exact⟨x,q,xs,rfl,rfl,.of (g2.sub _ _ hq),bb,k _ bT H2 (g1.trans g2) (.str _)⟩⟩
end
noncomputable def kZ (kds:List (Key×Dt))(k:Key):Option Dt:=(kds.find? fun kv=>decide (kv.1=k)).map (·.2)
theorem pN {p:Key×Dt}{r:List (Key×Dt)}{k:Key}(e:p.1=k):kZ (p::r) k=some p.2:=by simp[kZ,List.find?_cons,e]
theorem mY {p:Key×Dt}{r:List (Key×Dt)}{k:Key}(e:¬ p.1=k):kZ (p::r) k=kZ r k:=by simp[kZ,List.find?_cons,e]
theorem cB.val {K:W.Frag}{H:Hp}{k:Key}:∀ {kvs:List (Key×V)} {kds:List (Key×Dt)} {d:Dt},cB K H kvs kds->kZ kds k=some d->∃ v,mU kvs k=some v/\Rep K H v d
 | _,_,_,.nil,e=>by cases e
 | (k1,v1)::r,(_,d1)::s,d,.cons h t,e=>by
   by_cases q:k1=k
   . rw[pN (p:=(k1,d1)) q] at e;cases e
     exact⟨v1,mV (p:=(k1,v1)) q,h⟩
   . rw[mY (p:=(k1,d1)) q] at e
     obtain⟨v,z1,z2⟩:=cB.val t e
     exact⟨v,by rw[lr (p:=(k1,v1)) q];exact z1,z2⟩
theorem cB.wN {K:W.Frag}{H:Hp}{k:Key}:∀ {kvs:List (Key×V)} {kds:List (Key×Dt)},cB K H kvs kds->(mU kvs k).isSome=(kZ kds k).isSome
 | _,_,.nil=>rfl
 | (k1,v1)::r,(_,d1)::s,.cons h t=>by
   by_cases q:k1=k
   . rw[mV (p:=(k1,v1)) q,pN (p:=(k1,d1)) q];rfl
   . rw[lr (p:=(k1,v1)) q,mY (p:=(k1,d1)) q]
     exact cB.wN t
theorem cB.snoc {K:W.Frag}{H:Hp}{k:Key}{v:V}{d:Dt}(q:Rep K H v d):∀ {kvs:List (Key×V)} {kds:List (Key×Dt)},cB K H kvs kds->cB K H (kvs ++ [(k,v)]) (kds ++ [(k,d)])
 | _,_,.nil=>.cons q .nil
 | _,_,.cons h t=>.cons h (cB.snoc q t)
theorem CS {kvs:List (Key×V)}{k:Key}{v:V}(h:(mU kvs k).isSome=false):putK kvs k v=kvs ++ [(k,v)]:=by
 unfold putK
 rw[pG,h]
 exact if_neg (by simp)
section
variable {X:Cx}{G:Gr}{E:XK}{dl:List Slot}{a b e i o:Expr}{d:Dt}{pos p:Pos}{k x:Str}{kds:List (Key×Dt)}
theorem JZ (hu:X.A.units+1 < cLine)(ho:EE X G dl o (.dZ kds))(hi:EE X G dl i (.str k))(h:kZ kds (.inr k)=some d)(hs:JA i):EE X G dl (.Subscript o i pos) d:=
 fB (Cw hu ho hi hs) fun st H Q ⟨Hf,S,kk⟩=>⟨Hf,S,fun v au H1 g1 r1=>⟨au,S.grow g1,fun w bT H2 g2 r2=>by
   cases r2
   cases r1 with
   | @dZ q kvs _ hq rp=>
     obtain⟨y,z1,z2⟩:=rp.val h
     have e:=rR.k (H:=H2) (k:=.inr k) (g2.big _ _ (g1.sub _ _ hq))
     rw[z1] at e
     exact⟨q,y,rfl,e,kk y bT H2 (g1.trans g2) (z2.mono g2.aW)⟩⟩⟩
theorem Vu {neg:Bool}:∀ st H Q,tD X.K G dl (.bl (if neg then !(kZ kds (.inr k)).isSome else (kZ kds (.inr k)).isSome)) st H Q->(if neg then Cv (tD X.K G dl (.str k)) (tD X.K G dl (.dZ kds)) else U2 (tD X.K G dl (.str k)) (tD X.K G dl (.dZ kds))) st H Q:=fun st H Q ⟨Hf,S,kk⟩=>by
 cases neg with
 | false=>exact⟨Hf,S,fun v au H1 g1 r1=>⟨au,S.grow g1,fun w bT H2 g2 r2=>by
     cases r1
     cases r2 with
     | @dZ q kvs _ hq rp=>exact⟨q,_,rfl,rR.k (k:=.inr k) (g2.sub _ _ hq),by rw[rp.wN];exact kk _ bT H2 (g1.trans g2) (.bl _)⟩⟩⟩
 | true=>exact⟨Hf,S,fun v au H1 g1 r1=>⟨au,S.grow g1,fun w bT H2 g2 r2=>by
     cases r1
     cases r2 with
     | @dZ q kvs _ hq rp=>exact⟨q,_,rfl,rR.k (k:=.inr k) (g2.sub _ _ hq),by rw[rp.wN];exact kk _ bT H2 (g1.trans g2) (.bl _)⟩⟩⟩
theorem CT (hu:X.A.units+1 < cLine)(hi:EE X G dl i (.str k))(ho:EE X G dl o (.dZ kds))(hm:behindInMarks .NotIn o=false:=by rfl):EB X G dl (.Compare i [.NotIn] [o] pos) (!(kZ kds (.inr k)).isSome):=
 Rc (Fl (wF hu hi ho) hm) fun st H Q ⟨Hf,S,kk⟩=>Vu (neg:=true) st H _ ⟨Hf,S,fun v aF H' g r=>by cases r;exact⟨_,rfl,kk aF H' g⟩⟩
theorem z6:bootBuiltins "tuple"=some (.type "tuple"):=by decide +kernel
theorem J0 {ds:List Dt}(hm:X.mg "tuple"=none)(ha:EE X G dl a (.tup ds))(hg:Gl X "tuple":=by rfl)(he:starEach [a] X.env=[(false,eval a X.env)]:=by rfl):EE X G dl (.Call (.Name "tuple" p) [a] [] pos) (.tup ds):=
 fB (kg zx hg hm z6 (ae ha ai he) (he:=he)) fun st H Q ⟨Hf,S,k⟩=>⟨Hf,S,fun vs au H1 g1 r1=>by
   cases r1 with
   | cons r t=>cases t;cases r with
     | @tup q vs _ z r=>exact⟨q,vs,rfl,br g1.sub z,k _ au H1 g1 (.tup z r)⟩⟩
theorem CU:EO X G dl (.Dict [] [] pos) (.dZ []):=fB zD fun st H Q ⟨Hf,S,k⟩=>fun p hp=>k p Hf _ (.dH S.sub hp) hp (S.sub.free hp) ⟨[],aj,.nil⟩
noncomputable def uE (kds:List (Key×Dt))(k:Key)(v:Dt):List (Key×Dt):=
 if (kZ kds k).isSome=true then kds.map (fun kv=>if kv.1=k then (kv.1,v) else kv) else kds ++ [(k,v)]
theorem cB.map_put {K:W.Frag}{H:Hp}{k:Key}{v:V}{d:Dt}(q:Rep K H v d):∀ {kvs:List (Key×V)} {kds:List (Key×Dt)},cB K H kvs kds ->
   cB K H (kvs.map fun kv=>if kv.1=k then (kv.1,v) else kv) (kds.map fun kv=>if kv.1=k then (kv.1,d) else kv)
 | _,_,.nil=>.nil
 | (k1,v1)::r,(_,d1)::s,.cons h t=>by
   rw[List.map_cons,List.map_cons]
   by_cases e:k1=k
   . rw[if_pos e,if_pos e];exact .cons q (cB.map_put q t)
   . rw[if_neg e,if_neg e];exact .cons h (cB.map_put q t)
theorem cB.put {K:W.Frag}{H:Hp}{k:Key}{v:V}{d:Dt}{kvs:List (Key×V)}{kds:List (Key×Dt)}(q:Rep K H v d)(r:cB K H kvs kds):cB K H (putK kvs k v) (uE kds k d):=by
 unfold putK uE
 rw[pG,r.wN]
 by_cases h:(kZ kds k).isSome=true
 . rw[if_pos h,if_pos h];exact cB.map_put q r
 . rw[if_neg h,if_neg h];exact cB.snoc q r
theorem CV (n:Nat){ps pn:Pos}(hu:X.A.units+1 < cLine)(he:EE X G dl e d)(hb:EE X G dl b (.str k))(hl:kds.length < sizeLine)(hd:dl[n]?=some (.own (.dZ kds)):=by rfl)(hN:X.N[n]?=some x:=by rfl)(hv:vH X.env.scope x:=by first | exact Or.inl rfl | exact Or.inr (Or.inl rfl) | exact Or.inr (Or.inr rfl))(lN:(x == ("__debug__":Str))=false:=by decide)(lP:(x == ("__classdict__":Str))=false:=by decide)(hs:swapsWith e (some (.Subscript (.Name x pn) b ps)) pos.line X.env=pure false:=by rfl):ES X G E dl (.Assign [.Subscript (.Name x pn) b ps] e pos) (.nx (dl.set n (.own (.dZ (uE kds (.inr k) d))))):=
 wG (Cy hu (zN (p:=pn) n hd hN hv lN lP) hb he hs) fun D st H ⟨Hf,S,kk⟩=>⟨Hf,S,fun v au H1 g1 r1=>by
   have S1:=S.grow g1
   obtain⟨q,z1,z2,z3,z4⟩:=S1.own n _ hd
   refine⟨au,q,S1,z1,z2,z4,au,S1,fun iv bT H2 g2 r2=>?_⟩
   cases r2
   have S2:=S1.grow g2
   obtain⟨q',y1,y2,y3,kvs,y4,y5⟩:=S2.own n _ hd
   rw[z1] at y1;cases y1
   have Zh:kvs.length < sizeLine:=by rw[y5.length];exact hl
   exact⟨q,_,rfl,DW.k (k:=.inr k) y4 Zh,kk st bT _ (g1.aW.trans g2.aW) (S2.JG hd z1 ⟨_,aj,y5.put (r1.mono g2.aW)⟩)⟩⟩
noncomputable def oB (rows:List (Str×List Dt)):List (Key×Dt):=rows.map fun r=>(.inr r.1,.tup (.str r.1::r.2))
noncomputable def uF (r:Str×List Dt):Dt:=.tup (.str r.1::r.2)
theorem qO {k:Key}:∀ {kds:List (Key×Dt)},(∀ kv∈kds,kv.1≠k)->kZ kds k=none
 | [],_=>rfl
 | kv::r,h=>by
   rw[mY (h kv (List.mem_cons_self ..))]
   exact qO fun z hz=>h z (List.mem_cons_of_mem _ hz)
theorem Gw {rows:List (Str×List Dt)}(nd:(rows.map (·.1)).Nodup){j:Nat}(hj:j < rows.length):kZ (oB (rows.take j)) (.inr rows[j].1)=none:=by
 refine qO fun kv Vv=>?_
 obtain⟨r,hr,rfl⟩:=List.mem_map.mp Vv
 intro z
 have z:r.1=rows[j].1:=Sum.inr.inj z
 obtain⟨i,hi,e⟩:=List.mem_iff_getElem.mp hr
 have Tu:i < j:=by
   rw[List.length_take] at hi;omega
 rw[List.getElem_take] at e
 have QB:i < rows.length:=by omega
 have h:=List.pairwise_iff_getElem.mp nd i j (by rw[List.length_map];exact QB) (by rw[List.length_map];exact hj) Tu
 rw[List.getElem_map,List.getElem_map] at h
 exact h (by rw[e];exact z)
theorem Bw (rows:List (Str×List Dt)){j:Nat}(hj:j < rows.length):oB (rows.take (j+1))=oB (rows.take j) ++ [(.inr rows[j].1,uF rows[j])]:=by
 unfold oB
 rw[List.take_add_one,List.getElem?_eq_getElem hj,List.map_append];rfl
theorem aP.ky {Hf H aF H':Hp}{a:Addr}{u:HO}(g:aP Hf H aF H')(n:Hf a=none)(h:H a=some u)(nk:¬ Kept u:=by exact fun z=>z):aF a=none:=by
 cases q:aF a with
 | none=>rfl
 | some o=>
   obtain⟨o',z⟩:=g.ua h nk q
   rw[n] at z;cases z
theorem nI {K:W.Frag}{st:L2.St}{Hf H:Hp}{dlu:List Slot}{p:Addr}{o:HO}(S:cS K G st Hf H dlu)(pj:noOwn dlu=true)(fp:Hf p=none)(gp:G.H p=none):cS K G st Hf (upd H p o) dlu:=
 ⟨⟨fun b u e=>by rw[ag (aw e gp)];exact S.gr.big _ _ e,S.gr.aW,fun b u e=>by rw[ag (aw e fp)];exact S.sub _ _ e,S.gr.new⟩,S.len,S.val,fun j o h=>absurd h (aU pj j o),fun j _ o _ _ h=>absurd h (aU pj j o)⟩
theorem Gx (nR nN:Nat){C z:Addr}{fs:List (Str×Dt)}{rows:List (Str×List Dt)}{f self rw_ rn:Str}{px pr pa pn p1 p3 p4 p5 p6 pi:Pos}{ie ve:Expr}{dlu:List Slot}(hu:X.A.units+1 < cLine)(hN:X.N.Nodup)(pJ:X.calm=true)(hp:PassesOwn (model X.prog X.w) X.A X.env X.xe)(cl:rP X.K C)(na:bB X.K C f)(hd:dl[0]?=some (.own (.zH z C fs)))(Zi:dl.set 0 .bV=dlu)(pj:noOwn dlu=true)(hr:dlu[nR]?=some (.val (.lst (rows.map uF))))(Vw:nN≠0)(hnR:nN≠nR)(Zj:dlu[nN]?=some .bV)(nd:(rows.map (·.1)).Nodup)(hlen:rows.length < sizeLine)(hi:∀ r:Str×List Dt,EE X G (dlu.set nN (.val (uF r))) ie (.str r.1))(hv:∀ r:Str×List Dt,EE X G (dlu.set nN (.val (uF r))) ve (uF r))(hl:Nat.ble fs.length 999=true:=by rfl)(Qd:X.N[0]?=some self:=by rfl)(Zk:X.N[nR]?=some rn:=by rfl)(Zl:X.N[nN]?=some rw_:=by rfl)(Zm:vH X.env.scope self:=by first | exact Or.inl rfl | exact Or.inr (Or.inl rfl) | exact Or.inr (Or.inr rfl))(Zn:vH X.env.scope rn:=by first | exact Or.inl rfl | exact Or.inr (Or.inl rfl) | exact Or.inr (Or.inr rfl))(lN:(self == ("__debug__":Str))=false:=by decide)(lP:(self == ("__classdict__":Str))=false:=by decide)(Vx:(rn == ("__debug__":Str))=false:=by decide)(Vy:(rn == ("__classdict__":Str))=false:=by decide)(hx:Loc X.env.scope rw_:=by first | exact Or.inl rfl | exact Or.inr rfl)(hf:X.fn rw_=true\/X.env.scope.names.lookup rw_=some .local:=by first | exact .inl rfl | exact .inr rfl | assumption)(FV:swapsWith (.Dict [] [] p1) (some (.Attribute (.Name self pn) f pa)) pos.line X.env=pure false:=by rfl)(A2:swapsWith ve (some (.Subscript (.Attribute (.Name self p3) f p4) ie p5)) p6.line X.env=pure false:=by rfl)(hb:attributeBase (.Name self p3) f X.env (eval (.Name self p3) X.env)=eval (.Name self p3) X.env:=by rfl)(Zo:∀ z,foldedSetIterable (.Name rn pr) X.env z=pure z:=by intro _;rfl):lu X G E dl [.Assign [.Attribute (.Name self pn) f pa] (.Dict [] [] p1) pos,.For (.Name rw_ px) (.Name rn pr) [.Assign [.Subscript (.Attribute (.Name self p3) f p4) ie p5] ve p6] [] pi] (.nx (dlu.set 0 (.own (.zH z C (putD f (.dZ (oB rows)) fs))))):=by
 have L6:∀ {p:Pos},PE X (.Name self p) fun st H Q=>∃ v,st[0]?=some (some v)/\Q v H:=fun {p}=>iO Qd Zm lN lP
 have pB:=kL (Cy (pos:=p6) (pos':=p5) hu (tY (pos:=p4) (L6 (p:=p3)) hb) (fun pins s st H Q I (q:∃ r,tD X.K G (dlu.set nN (.val (uF r))) (.str r.1) st H Q)=>let ⟨r,q⟩:=q;hi r pins s st H Q I q) (fun pins s st H Q I (q:∃ r,tD X.K G (dlu.set nN (.val (uF r))) (uF r) st H Q)=>let ⟨r,q⟩:=q;hv r pins s st H Q I q) A2)
 refine rT (gb (tZ (pos:=pos) (pos':=pa) (L6 (p:=pn)) zD FV) (kL (xq hp pJ (jI (iO (pos:=pr) Zk Zn Vx Vy)) (ck hN Zl hx hf) pB Zo))) fun D st H ⟨Hf,S,k⟩=>?_
 obtain⟨a,sa,fa,ga,ea,dx,fv,ha,rf⟩:=S.own 0 _ hd
 intro p Gy
 have TQ:a≠p:=aw ha Gy
 have fp:Hf p=none:=S.sub.free Gy
 have gp:G.H p=none:=S.gr.big.free Gy
 have N6:(upd H p (.dK [])) a=some (.ins C dx fv):=by rw[ag TQ];exact ha
 refine⟨.ref a,sa,a,C,dx,fv,rfl,N6,cl,na,by rw[rf.length];exact Nat.lt_succ_of_le (Nat.le_of_ble_eq_true hl),?_⟩
 have S0:cS X.K G st Hf H dlu:=by
   subst Zi
   refine⟨S.gr,by simp[S.len],fun j d h=>?_,fun j o h=>absurd h (aU pj j o),fun j _ o _ _ h=>absurd h (aU pj j o)⟩
   by_cases e:0=j
   . subst e
     by_cases Qe:0 < dl.length
     . rw[List.getElem?_set_self Qe] at h;cases h
     . exact absurd (List.getElem?_eq_some_iff.mp hd).1 Qe
   . rw[List.getElem?_set_ne e] at h;exact S.val j d h
 have Su:cS X.K G st Hf (upd (upd H p (.dK [])) a (.ins C dx (eO f (.ref p) fv))) dlu:=nI (nI S0 pj fp gp) pj fa ga
 obtain⟨lv,J1,P5⟩:=Su.val nR _ hr
 cases P5 with
 | @lst la vs _ hq rp=>
   have Vz:vs.length=rows.length:=by rw[rp.length,List.length_map]
   refine⟨.ref la,J1,la,rfl,⟨vs,.of (Su.sub _ _ hq)⟩,zp (xs:=vs) (fun j jr H'=>∃ aF kvs,cS X.K G jr aF H' dlu/\aD Hf aF/\jr[0]?=some (some (.ref a))/\aF a=none/\aF p=none/\H' a=some (.ins C dx (eO f (.ref p) fv))/\H' p=some (.dK kvs)/\cB X.K aF kvs (oB (rows.take j)))
     ⟨Hf,[],Su,aD.refl _,sa,fa,fp,aj,by rw[ag (Ne.symm TQ)];exact aj,by rw[List.take_zero];exact .nil⟩ ?_ ?_ ?_⟩
   . rintro j jr H' _ ⟨aF,kvs,S',sm,_⟩
     exact .of (S'.sub _ _ (sm _ _ hq))
   . rintro j v jr H' Nd ⟨aF,kvs,S',sm,s0,VA,VB,RH,TR,rk⟩
     obtain⟨dz,hz,rz⟩:=rp.get' Nd
     have hj:j < rows.length:=by
       have:=(List.getElem?_eq_some_iff.mp Nd).1
       omega
     rw[List.getElem?_map,List.getElem?_eq_getElem hj] at hz
     cases hz
     have Sp:cS X.K G (jr.set nN (some v)) aF H' (dlu.set nN (.val (uF rows[j]))):=S'.set (rz.mono sm)
     have Xz:(jr.set nN (some v))[0]?=some (some (.ref a)):=by rw[List.getElem?_set_ne Vw];exact s0
     refine⟨rows[j],aF,Sp,fun w au H1 g1 r1=>⟨.ref a,Xz,a,C,dx,_,.ref p,rfl,.of (g1.big _ _ RH),cl,na,by rw[mQ,if_pos rfl],rows[j],au,Sp.grow g1,fun y bT H2 g2 r2=>?_⟩⟩
     cases r2
     have g:=g1.trans g2
     have xD:H2 p=some (.dK kvs):=g.big _ _ TR
     have IZ:H2 a=some (.ins C dx (eO f (.ref p) fv)):=g.big _ _ RH
     have VC:bT p=none:=g.ky VB TR
     have Zp:bT a=none:=g.ky VA RH
     have RI:=rk.mono g.aW
     have RJ:kvs.length < sizeLine:=by
       rw[rk.length]
       unfold oB
       rw[List.length_map,List.length_take];omega
     have DV:(mU kvs (.inr rows[j].1)).isSome=false:=by rw[rk.wN,Gw nd hj];rfl
     have Sw:cS X.K G (jr.set nN (some v)) bT H2 dlu:=(Sp.grow g).weak ⟨by simp,fun i s e n=>by
       by_cases hi:nN=i
       . subst hi;rw[Zj] at e;cases e;exact absurd rfl n
       . rw[List.getElem?_set_ne hi];exact e⟩
     refine⟨p,_,rfl,DW.k (k:=.inr rows[j].1) xD RJ,bT,_,nI Sw pj VC gp,sm.trans g.aW,Xz,Zp,VC,by rw[ag TQ];exact IZ,aj,?_⟩
     rw[CS DV,Bw rows hj]
     exact RI.snoc (r1.mono g2.aW)
   . rintro jr H' ⟨aF,kvs,S',sm,s0,VA,VB,RH,TR,rk⟩
     rw[Vz,List.take_length] at rk
     have RK:aD aF (upd aF p (.dK kvs)):=a5 VB
     have l0:0 < dlu.length:=by
       rw[<- S'.len]
       exact(List.getElem?_eq_some_iff.mp s0).1
     refine k jr (upd aF p (.dK kvs)) H' (sm.trans RK) ⟨⟨S'.gr.big,S'.gr.aW.trans RK,fun b u e=>?_,fun b u e=>?_⟩,by simp[S'.len],fun j d h=>?_,fun j o h=>?_,fun i j o o' q h1 h2 h3 h4=>?_⟩
     . by_cases hb:b=p
       . subst hb;rw[aj] at e;cases e;exact TR
       . rw[ag hb] at e;exact S'.sub _ _ e
     . by_cases hb:b=p
       . subst hb;exact .inr (.inl gp)
       . rw[ag hb] at e;exact S'.gr.new b u e
     . by_cases e:0=j
       . subst e;rw[List.getElem?_set_self l0] at h;cases h
       . rw[List.getElem?_set_ne e] at h
         obtain⟨v,z1,z2⟩:=S'.val j d h
         exact⟨v,z1,z2.mono RK⟩
     . by_cases e:0=j
       . subst e
         rw[List.getElem?_set_self l0] at h;cases h
         exact⟨a,s0,by rw[ag TQ];exact VA,ga,ea,dx,_,RH,(rf.mono (sm.trans RK)).put (.dZ aj (rk.mono RK))⟩
       . rw[List.getElem?_set_ne e] at h;exact absurd h (aU pj j o)
     . have z:∀ (i:Nat) o,(dlu.set 0 (.own (.zH z C (putD f (.dZ (oB rows)) fs))))[i]?=some (.own o)->0=i:=fun i o h=>by
         by_cases e:0=i
         . exact e
         . rw[List.getElem?_set_ne e] at h;exact absurd h (aU pj i o)
       rw[<- z i o h1,<- z j o' h2]
end
theorem CW:∀ {xs:List V} {us:List Value},xs.length=us.length->(∀ (j:Nat) x u,xs[j]?=some x->us[j]?=some u->RelV x u)->Vals xs us
 | [],[],_,_=>.nil
 | [],_::_,h,_=>by cases h
 | _::_,[],h,_=>by cases h
 | x::xs,u::us,h,f=>.cons (f 0 x u rfl rfl) (CW (Nat.succ.inj h) fun j a b h1 h2=>f (j+1) a b (by simpa using h1) (by simpa using h2))
theorem Gz:∀ {kvs:List (Key×V)} {vs:List (Key×Value)},KV kvs vs->∀ {j:Nat} {q:Key×Value},vs[j]?=some q->∃ p,kvs[j]?=some p/\p.1=q.1/\RelV p.2 q.2
 | _,_,.nil,j,q,h=>by simp at h
 | _,_,.cons r t,0,q,h=>by simp at h;subst h;exact⟨_,rfl,r⟩
 | _,_,.cons r t,j+1,q,h=>by
   obtain⟨p,h1,h2⟩:=Gz t (j:=j) (q:=q) (by simpa using h)
   exact⟨p,by simpa using h1,h2⟩
theorem Bx:∀ {kvs:List (Key×V)} {vs:List (Key×Value)},KV kvs vs->kvs.length=vs.length
 | _,_,.nil=>rfl
 | _,_,.cons r t=>congrArg (·+1) (Bx t)
section
variable {X:Cx}{G:Gr}{dl:List Slot}{a o:Expr}{kds:List (Key×Dt)}{pos p:Pos}
theorem By (hc:X.calm=true):jE X (.type "list") (fun xs H Q=>∃ (d:Addr) (kvs:List (Key×V)),xs=[.ref d]/\H d=some (.dK kvs)/\∀ l,H l=none->Q (.ref l) (upd H l (.lst (kvs.map fun kv=>kV kv.1)))):=by
 intro pins s σ H xs us Q I r h
 obtain⟨d,kvs,rfl,hq,q⟩:=h
 obtain⟨u,rfl,rx⟩:=vals1 r
 cases rx
 obtain⟨hz,lo,vs,kv,o,es,ep,ho,hr⟩:=I.bb d _ hq
 have hl:=Bx kv
 refine W.kdl_call (W.kdl_dict (knd:=cA X.prog X.w) (kvs:=vs) (ep:=ep) lo) (I.ok.hd hc) ⟨o,es,ho,hr⟩ (by omega) fun h' tk RL c' kp e it=>?_
 refine⟨.ref s.heap.objs.size,_,I.laid (t':=tk) kp (Nat.le_refl _) (show aK X.prog X.w _ h' _ (.lst _) from⟨by rw[List.length_map];exact hz,RL.toList,c',CW ?_ fun j x u h1 h2=>?_,e⟩),rfl,q _ (I.bb.fresh (Nat.le_refl _))⟩
 . have e1:RL.toList.length=vs.length:=by rw[Array.length_toList];exact it.1
   rw[List.length_map,e1,hl]
 . rw[Array.getElem?_toList] at h2
   obtain⟨k,y,z1,z2⟩:=it.2 j u h2
   obtain⟨p,z3,z4,_⟩:=Gz kv z1
   rw[List.getElem?_map,z3] at h1
   cases h1
   have z4:p.1=k:=z4
   show RelV (kV p.1) u
   rw[z4]
   rcases cE z2 with⟨i,t,rfl,rfl⟩ | ⟨i,t,rfl,rfl⟩
   . exact⟨t,rfl⟩
   . exact⟨t,rfl⟩
noncomputable def kD:Key->Dt
 | .inl i=>.int i
 | .inr x=>.str x
theorem qP {K:W.Frag}{H:Hp}:∀ {kvs:List (Key×V)} {kds:List (Key×Dt)},cB K H kvs kds->bc K H (kvs.map fun kv=>kV kv.1) (kds.map fun kd=>kD kd.1)
 | _,_,.nil=>.nil
 | (.inl i,_)::_,_,.cons _ t=>.cons (.int i) (qP t)
 | (.inr i,_)::_,_,.cons _ t=>.cons (.str i) (qP t)
theorem GA (hm:X.mg "list"=none)(hc:X.calm=true)(ha:EE X G dl a (.dZ kds))(hg:Gl X "list":=by rfl)(he:starEach [a] X.env=[(false,eval a X.env)]:=by rfl):EO X G dl (.Call (.Name "list" p) [a] [] pos) (.lst (kds.map fun kd=>kD kd.1)):=
 fB (kg (By hc) hg hm boot_list (ae ha ai he) (he:=he)) fun st H Q ⟨Hf,S,k⟩=>⟨Hf,S,fun vs au H1 g1 r1=>by
   cases r1 with
   | cons r t=>cases t;cases r with
     | @dZ q kvs _ z r=>exact⟨q,kvs,rfl,g1.sub _ _ z,fun l hl=>k l au _ (g1.trans (.dH g1.sub hl)) (g1.big.free hl) (g1.sub.free hl) ⟨_,aj,qP r⟩⟩⟩
end
section
variable {X:Cx}{G:Gr}{dl:List Slot}{a:Expr}{pos p:Pos}{u:Bool}
theorem CY (hm:X.mg "int"=none)(ha:EE X G dl a (.bl u))(hg:Gl X "int":=by rfl)(he:starEach [a] X.env=[(false,eval a X.env)]:=by rfl):EE X G dl (.Call (.Name "int" p) [a] [] pos) (.int (if u then 1 else 0)):=
 fB (kg DP hg hm boot_int (ae ha ai he) (he:=he)) fun st H Q ⟨Hf,S,k⟩=>⟨Hf,S,fun vs au H1 g1 r1=>by
   cases r1 with
   | cons r t=>cases t;cases r;exact .inr ⟨u,rfl,k _ au H1 g1 (.int _)⟩⟩
end
noncomputable def RN (x:Str):It:=
 ⟨fun i H=>∃ c,x.cps[i]?=some c,fun i H v H'=>∃ p c,v=.ref p/\H p=none/\H'=upd H p (.tup [.int i,.str ⟨#[c]⟩])/\x.cps[i]?=some c,fun i H=>i=x.cps.size⟩
theorem Bz {P:Program}{w:World}{K:W.Frag}{elts:List Expr}{kt:Nat}{xu:Pos}(x:Str)(t:Tok)(e it:Addr)(Qc:e≠it):Turn P w K (.Tuple elts kt xu) (RN x) [e,it] e (fun i h=>(∃ old,IsEnum h e it i old)/\h.IsStrIter it "str_ascii_iterator" x t i) where
 mem:=by simp
 obj:=fun i h st b hb=>by
   obtain⟨⟨old,he⟩,o,e2,c,d⟩:=st
   rcases List.mem_cons.mp hb with rfl | hb
   . exact⟨_,he,fun v z=>by cases z⟩
   . have:b=it:=by simpa using hb
     subst this
     exact⟨o,e2,fun v z=>by rw[d] at z;cases z⟩
 keep:=fun i h h' st k=>by
   obtain⟨⟨old,he⟩,o,e2,r⟩:=st
   exact⟨⟨old,k e (by simp) _ he⟩,o,k it (by simp) o e2,r⟩
 item:=by
   intro X hP hw hK hc i pins s σ H E I hf st hg
   subst hP hw hK
   obtain⟨c,hx⟩:=hg
   obtain⟨⟨old,he⟩,hit⟩:=st
   have RE:e < s.heap.objs.size:=Heap.lt_size he
   have Vr:it < s.heap.objs.size:=by obtain⟨_,z,_⟩:=hit;exact Heap.lt_size z
   have d5:i < x.cps.size:=(Array.getElem?_eq_some_iff.mp hx).1
   refine wpAny_pyNext_enum_itemD (Draws.strAscii (A:=X.A.in1) (I.ok.hd hc) it x t) he hit d5 Qc (by simpa using Qc) fun u h1 tk hP ho N2 hT hsz hk=>?_
   obtain⟨c',u',A1,rfl⟩:=hP
   rw[hx] at A1;cases A1
   refine⟨_,rfl,wpAny_letOwnedTupleGo_enum ho fun h2 NJ A2=>?_⟩
   have Vs:h2.get? s.heap.objs.size=some { cls:=.type "tuple",data:=.seq #[.int i tk,.str ⟨#[c]⟩ u']}:=(A2.2 _ (Nat.ne_of_gt RE)).trans hT
   have k2:∀ b o,b ∉ [e,it]->s.heap.get? b=some o->h2.get? b=some o:=fun b o hb q=>(A2.2 b fun z=>hb (by simp[z])).trans (hk b o (fun z=>hb (by simp[z])) (fun z=>hb (by simp[z])) q)
   have hp:H s.heap.objs.size=none:=I.bb.fresh (Nat.le_refl _)
   have I2:L2.Inv X pins σ (upd H s.heap.objs.size (.tup [.int i,.str ⟨#[c]⟩])) { s with heap:=h2,toks:=tk+1}:=zY I hf k2 (Nat.le_refl _) ⟨Nat.le_of_ble_eq_true rfl,[.int i tk,.str ⟨#[c]⟩ u'],.cons ⟨_,rfl⟩ (.cons ⟨_,rfl⟩ .nil),_,Vs,rfl,_,rfl⟩
   refine⟨.ref s.heap.objs.size,_,I2,rfl,⟨_,c,rfl,hp,rfl,hx⟩,⟨⟨_,by simpa using NJ⟩,let ⟨o,z1,z2⟩:=N2;⟨o,(A2.2 it (Ne.symm Qc)).trans z1,z2⟩⟩,fun b hb=>?_⟩
   have:b≠s.heap.objs.size:=by
     rcases List.mem_cons.mp hb with rfl | hb
     . exact Nat.ne_of_lt RE
     . have:b=it:=by simpa using hb
       subst this
       exact Nat.ne_of_lt Vr
   rw[ag this]
   exact(hf b hb).1
 done:=by
   intro X hP hw hK hc i pins s σ H E I hf st hg
   subst hP hw hK
   have hg:i=x.cps.size:=hg
   subst hg
   obtain⟨⟨old,he⟩,hit⟩:=st
   obtain⟨f0,f1,f2,f3,f4,f5⟩:=hf it (by simp)
   exact wpAny_pyNext_enum_endD (Draws.strAscii (A:=X.A.in1) (I.ok.hd hc) it x t) he hit fun h' eb=>⟨rfl,I.turned (t':=s.toks) (fun b o hb q=>eb b o hb q) f0 f1 f3 f4 f5⟩
 self:=fun _ i s Q E st h=>by
   obtain⟨⟨old,he⟩,_⟩:=st
   exact wpAny_pyIter_enum he h
section
variable {X:Cx}{G:Gr}{dl:List Slot}{a:Expr}{x:Str}{p pos:Pos}
noncomputable def GB (ta:TA):TI:=fun σ H R=>ta σ H fun vs H1=>∃ x,vs=[.str x]/\jx x=true/\R (RN x) H1
theorem GC {elts:List Expr}{kt:Nat}{xu:Pos}{ta:TA}(hg:Gl X "enumerate")(hm:X.mg "enumerate"=none)(ha:PA X [a] ta)(hs:starEach [a] X.env=[(false,eval a X.env)]:=by rfl):PI X (.Tuple elts kt xu) (.Call (.Name "enumerate" p) [a] [] pos) (GB ta):=by
 intro pins s σ H R I h
 refine Call_ (qr I hg hm boot_enumerate (PyProof.Rows.callWith_type1 (bQ (ha pos pins s σ H _ I h) fun us s1 ⟨vs,H1,I1,r1,q1⟩=>?_) hs rfl))
 obtain⟨x,e,N7,q⟩:=q1
 subst e
 cases r1 with
 | cons r rr=>
   cases rr
   obtain⟨t,rfl⟩:=r
   refine call_enumerate_str fun h' he hit hsz k=>wpAny_pyIter_enum he ?_
   have QY:strIterType x="str_ascii_iterator":=by unfold strIterType;rw[show x.cps.all (· < 128)=true from N7];rfl
   rw[QY] at hit
   have I2:L2.Inv X pins σ H1 { s1 with heap:=h'}:=I1.kept (t':=s1.toks) k
   refine⟨s1.heap.objs.size+1,[s1.heap.objs.size+1,s1.heap.objs.size],_,_,H1,rfl,I2,Bz x t _ s1.heap.objs.size (Nat.succ_ne_self _),⟨⟨_,he⟩,hit⟩,fun b hb=>?_,q⟩
   have NF:s1.heap.objs.size<=b:=by
     rcases List.mem_cons.mp hb with rfl | hb
     . exact Nat.le_succ _
     . have:b=s1.heap.objs.size:=by simpa using hb
       rw[this];exact Nat.le_refl _
   exact I1.vI NF (I1.bb.fresh NF)
theorem BA (hx:jx x=true):rW X G dl (rK (Sg.signs x)) (GB (Tv X.K G dl [.str x])):=fun st H R ⟨Hf,S,k⟩=>⟨Hf,S,fun vs au H1 g1 r1=>by
 cases r1 with
 | cons r t=>
   cases t
   cases r
   refine⟨x,rfl,hx,k _ au H1 g1 fun bT H2 s1 s2 i=>⟨fun z hz=>?_,fun hi=>?_⟩⟩
   . have hi:i < (Sg.signs x).length:=by
       have:=(List.getElem?_eq_some_iff.mp hz).1
       unfold rK at this
       simpa using this
     unfold rK at hz
     rw[List.getElem?_map,List.getElem?_range hi] at hz
     cases hz
     have zo:(Sg.signs x)[i]?=some ((Sg.signs x).getD i .cF):=by rw[List.getD_eq_getElem?_getD,List.getElem?_eq_getElem hi];rfl
     rw[signs_get] at zo
     cases q:x.cps[i]? with
     | none=>rw[q] at zo;cases zo
     | some c=>
       rw[q] at zo
       have zo:Dt.str ⟨#[c]⟩=(Sg.signs x).getD i .cF:=Option.some.inj zo
       refine⟨⟨c,q⟩,fun v H3 ⟨p,c',e1,e2,e3,e4⟩=>?_⟩
       rw[q] at e4;cases e4
       subst e1 e3
       show ∃ iP,aP bT H2 iP _/\Rep X.K iP (V.ref p) (Dt.tup [Dt.int i,(Sg.signs x).getD i Dt.cF])
       rw[<- zo]
       exact⟨upd bT p (.tup [.int i,.str ⟨#[c]⟩]),.alloc s2 e2,.tup (.of aj) (.cons (.int _) (.cons (.str _) .nil))⟩
   . show i=x.cps.size
     unfold rK at hi
     rw[List.length_map,List.length_range,qM] at hi
     exact hi⟩
end
theorem N8 {us:List Value}{d:Value}(h:(us ++ [d]).length=3):∃ a b,us=[a,b]:=by
 rw[List.length_append] at h
 have h:us.length=2:=Nat.succ.inj h
 match us,h with
 | [a,b],_=>exact⟨a,b,rfl⟩
end Sg
namespace Sg
open PySem PySem.Spec PyProof.Rows L2
open Sem (wp)
structure VD (z tI tO j1 j2:Addr)(f1 f2:List Addr):Prop where
 tz:tI≠z
 oz:tO≠z
 az:j1≠z
 bz:j2≠z
 to:tI≠tO
 ta:tI≠j1
 tb:tI≠j2
 oa:tO≠j1
 ob:tO≠j2
 ab:j1≠j2
 z1:z ∉ f1
 o1:tO ∉ f1
 b1:j2 ∉ f1
 z2:z ∉ f2
 o2:tO ∉ f2
 a2:j1 ∉ f2
inductive ZS where
 | txt (x:Str) (t:Tok)
 | lst (l:Addr)
noncomputable def ZS.val:ZS->Value
 | .txt x t=>.str x t
 | .lst l=>.ref l
noncomputable def ZS.obj:ZS->Obj
 | .txt x t=>{ cls:=.type (strIterType x),data:=.fields #[.str x t,.int 0 0]}
 | .lst l=>{ cls:=.type "list_iterator",data:=.fields #[.ref l,.int 0 0]}
noncomputable def ZS.ok (h:Heap):ZS->Prop
 | .txt x _=>jx x=true
 | .lst l=>∃ xs,h.IsList l xs
noncomputable def ZS.at (it:Addr)(i:Nat)(h:Heap):ZS->Prop
 | .txt x t=>h.IsStrIter it "str_ascii_iterator" x t i
 | .lst l=>h.IsListIter it l i
noncomputable def ZS.v:ZS->V
 | .txt x _=>.str x
 | .lst l=>.ref l
section
inductive ZD:Dt->List Dt->Prop
 | lst (xs:List Dt):ZD (.lst xs) xs
 | str (x:Str):jx x=true->ZD (.str x) (Sg.signs x)
end
noncomputable def Zq (C t:Addr)(od:Option Addr):Obj:={ cls:=.ref C,dict:=od,data:=.fields #[.ref t,.none,.none,.none,.bool false,.none]}
noncomputable def Zr (h:Heap)(e C:Addr)(od:Option Addr):Prop:=∃ t:Addr,h.get? e=some (Zq C t od)
section
variable {C:Addr}
structure StX (K:W.Frag)(C:Addr)(f:Str):Prop where
 sa:W.findIn K (.ref C) "__setattr__"=some (some (.builtin "object.__setattr__"))
 na:W.findIn K (.ref C) f=some none
 ob:W.mroIn K C (.type "object")=some true
 mr:∃ G,(W.clsIn K C).map (·.mro)=some [.ref C,.ref G,.type "ValueError",.type "Exception",.type "BaseException",.type "object"]
 hd:(W.clsIn K C).map (·.hasDict)=some true
end
noncomputable def N9 (K:PySem.W.Frag)(C:Addr)(XA:List Value)(nw:String)(fI:Addr):Bool:=match K.lookup C with
 | some ⟨.type "type",_,.cls cd,sl⟩=>(match cd.mro,sl.toList with
   | .ref D::tl,[_,_,_,_,some (.builtin n),_]=>D == C && (n == nw && (!cd.hasDel && (PySem.W.tailIn K XA tl && (PySem.W.nsOkIn K cd.ns && (PySem.W.nsIn K cd.ns "__init__" == some (some (.ref fI)))))))
   | _,_=>false)
 | _=>false
structure Zt (K:W.Frag)(C fI:Addr):Prop where
 ex:N9 K C Xn "ValueError.__new__" fI=true
 fn:W.typeIn K (.ref fI)=some (.type "function")
 kp:W.keepIn K (.ref C)=true
structure XcB (K:W.Frag)(G:Addr):Prop where
 sp:W.specialIn K (.ref G) "__getattribute__"=some (some (.builtin "type.__getattribute__"))
 rd:W.readsIn K G (.type "type")=true
 fc:W.findCls K (.ref G) (.type "type") "__init__"=some (.val (.builtin "ValueError.__init__"))
noncomputable abbrev xT (z C:Addr)(od:Option Addr):HO:=.ext fun h=>Zr h z C od
noncomputable def Zu (K:W.Frag)(C:Addr)(f:Str)(ok:Dt->Prop):Sp:=fun vs H Q E=>∃ Hf H1 z v d,vs=[.ref z,v]/\H=upd H1 z (xT z C none)/\H1 z=none/\aD Hf H1/\Rep K Hf v d/\ok d /\
 ∀ bT H2 dx,aP Hf H bT H2->H2 dx=none->dx≠z->Q .cF (upd (upd H2 dx (.xd [(f,v)])) z (xT z C (some dx)))
structure XF (P:Program)(w:World)(K:W.Frag)(mg:Str->Option Value)(base:Heap)(CX:pA)(k:Nat)(x:Str)(C:Addr)(f:Str)(ok:Dt->Prop):Prop where
 ex:∃ fI fd ps,iL P w K mg base CX k fI fd ps (Zu K C f ok)/\Zt K C fI/\mg x=some (.ref C)/\Binds K fd ps []
mutual
noncomputable def VF:Dt->Bool
 | .lst _=>false
 | .oy _=>false
 | .tup ds=>RO ds
 | .dZ kds=>RP kds
 | .obj _ fs=>RS fs
 | .oO _=>false
 | .xo _=>false
 | .A3 _ _=>false
 | .c9 _=>false
 | .memo _ _ _ _=>false
 | .dq _ _ _ _=>false
 | .vL _ _ _=>false
 | .qz _ _ _ _ _=>false
 | .kW _=>false
 | _=>true
noncomputable def RO:List Dt->Bool
 | []=>true
 | d::r=>VF d && RO r
noncomputable def RP:List (Key×Dt)->Bool
 | []=>true
 | (_,d)::r=>VF d && RP r
noncomputable def RS:List (Str×Dt)->Bool
 | []=>true
 | (_,d)::r=>VF d && RS r
end
structure RT (k:Nat)(A:Around):Prop where
 dp:A.depth+3 * k+5 < recursionLimit
 un:A.units+16 * k+200 < cLine
structure RU (P:Program)(w:World)(K:W.Frag)(mg:Str->Option Value)(base:Heap)(CX:pA)(k:Nat)(f:Addr)(fd:FuncData)(ps:List Str)(sp:Sp):Prop where
 len:∀ vs H Q E,sp vs H Q E->vs.length=ps.length
 run:∀ (A:Around) (outer:List Env) (s:Shared) (H:Hp) (args:Args) (us:List Value) (vs:List V) (Q:VK) (E:XK),RT k A->zq P w K mg base A outer s H->BindsTo s fd args (ps.zip us)->Vals vs us->sp vs H Q E ->
   codeAny (model P w) A (.call (.ref f) args) (CR CX outer P w H s Q E) s
structure GFH (P:Program)(w:World)(K:W.Frag)(mg:Str->Option Value)(base:Heap)(CX:pA)(k:Nat)(x:Str)(n:Nat)(R:List Dt->Res->Prop):Prop where
 ex:∃ f fd ps,RU P w K mg base CX k f fd ps (CD K n R)/\mg x=some (.ref f)/\W.keepIn K (.ref f)=true/\Binds K fd ps []
theorem uG:typeLookup (.type "list") "keys"=pure none:=am_miss_of_fast (by decide +kernel)
theorem Ei {prog:Program}{w:World}{A:Around}{E:Value->Shared->Prop}{s:Shared}{a:Addr}{o:Obj}{xs:Array Value}{k:Nat}{Q:Option Value->Shared->Prop}(hx:s.heap.get? a=some o)(hc:o.cls=.type "list")(RV:o.data=.seq xs k)(hd:o.dict=none)(hA:A.handled=none)(h:∀ h' tk,(∀ b u,s.heap.get? b=some u->h'.get? b=some u)->Q none { s with heap:=h',toks:=tk}):wpAny (model prog w) A (getAttr? (.ref a) "keys") Q E s:=by
 obtain⟨c,dct,dat,sl⟩:=o
 simp only at hc RV hd
 subst hc RV hd
 obtain⟨hp,g,d,tk,os⟩:=s
 have hT:∀ XB,(⟨hp,g,d,XB,os⟩:Shared).TypeIs (.ref a) "list":=fun _=>⟨_,hx,rfl⟩
 have f1:=sub_AttributeError
 have f3:=F.slot_list_getattribute.lookup
 have f4:=F.slot_list_getattribute.bind (.ref a)
 have f5:=am_list_getattr_none
 unfold getAttr? getAttrBy? getAttrBy
 repeat (any_goals (first | assumption | exact hT _ | ((with_reducible show wpAny _ _ (call (Value.builtin "list.__getattribute__") _ _) _ _ _);refine call_meets F.slot_list_getattribute (hT _) am_entry_list_getattribute (F.args_list_getattribute_2 _ _) (meets_getattribute_miss_list a xs k sl "keys" _ uG (by decide +kernel)) ⟨hx,hA,fun h' XB e zo=>?_⟩) | wp_step))
 obtain⟨t',u',he⟩:=zo.there
 show wpAny _ _ (getattributeRaised _ _ _ _ _ _ _) _ _ _
 unfold getattributeRaised
 repeat (any_goals (first | assumption | wp_step))
 exact h _ _ zo.keeps
theorem i0:plainId "dict.update.loop"=true:=by decide +kernel
theorem oC:entryFor table "dict.update.loop"=some Builtin.«dict.update.loop»:=entryFor_of_fast (by kernel_rfl)
inductive E5 (K:W.Frag)(H:Hp):List V->List (Key×V)->Prop
 | nil:E5 K H [] []
 | cons {t:Addr} {k:Key} {v:V} {xs:List V} {kvs:List (Key×V)}:sD K H t [kV k,v]->E5 K H xs kvs->E5 K H (.ref t::xs) ((k,v)::kvs)
theorem E5.length {K:W.Frag}{H:Hp}:∀ {xs:List V} {kvs:List (Key×V)},E5 K H xs kvs->xs.length=kvs.length
 | _,_,.nil=>rfl
 | _,_,.cons _ r=>congrArg (·+1) (E5.length r)
theorem E5.get {K:W.Frag}{H:Hp}:∀ {xs:List V} {kvs:List (Key×V)} {i:Nat} {kv:Key×V},E5 K H xs kvs->kvs[i]?=some kv->∃ t,xs[i]?=some (.ref t)/\sD K H t [kV kv.1,kv.2]
 | _,_,_,_,.nil,e=>by simp at e
 | _,_,0,_,.cons h _,e=>by simp at e;subst e;exact⟨_,rfl,h⟩
 | _,_,i+1,_,.cons _ r,e=>by
   obtain⟨t,h1,h2⟩:=E5.get (i:=i) r (by simpa using e)
   exact⟨t,by simpa using h1,h2⟩
theorem z7 {kvs:List (Key×V)}{k:Key}(h:k ∉ kvs.map (·.1)):(mU kvs k).isSome=false:=by
 induction kvs with
 | nil=>rfl
 | cons p r ih=>
   have h1:¬ p.1=k:=fun e=>h (by simp[e])
   rw[lr h1]
   exact ih fun z=>h (by simp at z ⊢;exact .inr z)
section
variable {X:Cx}{pins:List (Addr×Obj)}{σ:L2.St}{H:Hp}{A:Around}{R:Result->Shared->Prop}{L d it:Addr}{xs:List V}{kvs:List (Key×V)}
theorem GD (hA:A.handled=none)(hL:mK X.K H L xs)(hp:E5 X.K H xs kvs)(nd:(kvs.map (·.1)).Nodup)(hd:H d=none)(hf:kj X pins H it)(VG:d≠it)(hz:kvs.length<=sizeLine)(hR:∀ s',L2.Inv X pins σ (upd H d (.dK kvs)) s'->R (.ok (.ret .none)) s'):∀ (k i:Nat) (s:Shared) (tk:Tok),kvs.length - i=k->i<=kvs.length->L2.Inv X pins σ (upd H d (.dK (kvs.take i))) s->s.heap.IsListIter it L i->codeAny (model X.prog X.w) A (.builtin "dict.update.loop" ⟨[.ref d,.ref it,.int i tk,.none],[]⟩) R s:=by
 have hlen:=hp.length
 have sm:∀ o,aD H (upd H d o):=fun o=>a5 hd
 obtain⟨f0,f1,f2,f3,f4,f5⟩:=hf
 intro k
 induction k with
 | zero=>
   intro i s tk hk hi I st
   have TU:i=kvs.length:=by omega
   subst TU
   obtain⟨aH,rv,p,TV⟩:=I.list ((sm _).seq hL)
   have hl:=rv.length
   refine codeAny_builtin oC ?_
   rw[Around.under_plainId i0 _]
   show wpAny _ A.in1 (pyNext (.ref it) >>= _) _ _ s
   refine wpAny_bind (wpAny_pyNext_list_end (show A.in1.handled=none from hA) st p.isList (by simp;omega) fun h' eb=>?_)
   have I1:L2.Inv X pins σ (upd H d (.dK (kvs.take kvs.length))) { s with heap:=h'}:=I.turned (t':=s.toks) (fun b o hb e=>eb b o hb e) (by rw[ag (Ne.symm VG)];exact f0) f1 f3 f4 f5
   rw[List.take_length] at I1
   show wpAny _ A.in1 (Builtin.Dict.addKeywords d [] >>= _) _ _ _
   exact wpAny_bind (wpAny_pure (wpAny_pure (hR _ I1)))
 | succ k ih=>
   intro i s tk hk hi I st
   have d5:i < kvs.length:=by omega
   obtain⟨t,Zv,Zw⟩:=hp.get (List.getElem?_eq_getElem d5)
   obtain⟨aH,rv,p,TV⟩:=I.list ((sm _).seq hL)
   obtain⟨u,hu,ru⟩:=rv.get Zv
   cases (show u=Value.ref t from ru)
   refine codeAny_builtin oC ?_
   rw[Around.under_plainId i0 _]
   show wpAny _ A.in1 (pyNext (.ref it) >>= _) _ _ s
   refine wpAny_bind (wpAny_pyNext_list_item st p.isList (x:=.ref t) (by simpa using hu) fun h' jr sb=>?_)
   have I1:L2.Inv X pins σ (upd H d (.dK (kvs.take i))) { s with heap:=h'}:=I.turned (t':=s.toks) (fun b o hb e=>(sb.2 b hb).trans e) (by rw[ag (Ne.symm VG)];exact f0) f1 f3 f4 f5
   obtain⟨pit,rp,pt,hzt⟩:=I1.tuple (br (sm _) Zw)
   cases rp with
   | cons rk rp=>cases rp with
     | cons Zx rp=>
       cases rp
       rename_i ku vu
       obtain⟨ot,eo,VH,nn,Zy⟩:=pt
       refine wpAny_bind (wpAny_holding (wpAny_bind (wpAny_tryCatch ?_)))
       unfold Builtin.Dict.pairItems
       refine wpAny_bind (wpAny_typeOf (T:="tuple") ⟨_,eo,VH⟩ ?_)
       simp only[show((Value.type "tuple" == Value.type "list") || (Value.type "tuple" == Value.type "tuple"))=true by decide,if_true]
       refine wpAny_bind (wpAny_seqItems eo Zy (wpAny_pure ?_))
       show wpAny _ A.in1 (holding [ku,vu] (dictSet d ku vu)) _ _ _
       refine wpAny_holding ?_
       have ed:(upd H d (HO.dK (kvs.take i))) d=some (.dK (kvs.take i)):=aj
       obtain⟨z,Zz,vs,rel,dd⟩:=LM I1.bb ed
       have ZA:vs.length<=sizeLine:=by rw[<- rel.length];exact z
       have RW:putK (kvs.take i) kvs[i].1 kvs[i].2=kvs.take (i+1):=by
         rw[CS (z7 ?_),List.take_succ,List.getElem?_eq_getElem d5];rfl
         rw[List.map_take]
         intro hm
         obtain⟨j,hj,e⟩:=List.mem_iff_getElem.mp hm
         rw[List.length_take,List.length_map] at hj
         rw[List.getElem_take,List.getElem_map] at e
         have:=List.pairwise_iff_getElem.mp nd j i (by rw[List.length_map];omega) (by rw[List.length_map];omega) (by omega)
         rw[List.getElem_map,List.getElem_map] at this
         exact this e
       refine wpAny_dictSet_pairs (hsz:=ZA) (zA rk) dd fun h2 Nr hs=>?_
       have he:∃ q,h2.get? d=some q:=let ⟨q,_,_,hq,_⟩:=Nr;⟨q,hq⟩
       have I2:L2.Inv X pins σ (upd (upd H d (.dK (kvs.take i))) d (.dK (putK (kvs.take i) kvs[i].1 kvs[i].2))) { s with heap:=h2,toks:=s.toks+1}:=lV (s:={ s with heap:=h'}) (t':=s.toks+1) I1 (by rw[ed];exact True.intro) hs he (FK (by rw[RW,List.length_take];omega) Zz (rel.put _ Zx) Nr)
       rw[sy,RW] at I2
       exact wpAny_pure ⟨plainId_quiet i0 _,ih (i+1) _ _ (by omega) (by omega) I2 (jr.at fun o e=>(hs.2 it (Ne.symm VG)).trans e)⟩
theorem xX (hc:X.calm=true):jE X (.type "dict") (fun xs H Q=>∃ L ys kvs,xs=[.ref L]/\H L=some (.lst ys)/\E5 X.K H ys kvs/\(kvs.map (·.1)).Nodup/\kvs.length<=sizeLine/\∀ l,H l=none->Q (.ref l) (upd H l (.dK kvs))):=by
 intro pins s σ H xs us Q I r h
 obtain⟨L,ys,kvs,rfl,hL,hp,nd,hz,q⟩:=h
 obtain⟨u,rfl,rx⟩:=vals1 r
 cases rx
 refine callType_codes (Q₁:=fun obj s₁=>obj=.ref s.heap.objs.size/\s₁={ s with heap:=s.heap.push { cls:=.type "dict",data:=.dict #[]}}) F.kt_called_dict (F.kt_typeCall_dict_1 _) F.entry_dict_init (kt_code_dict_new _ ⟨rfl,rfl⟩) ?_
 rintro obj s₁ ⟨rfl,rfl⟩
 have DV:(s.heap.push { cls:=.type "dict",data:=.dict #[]}).DictOf (cA X.prog X.w) s.heap.objs.size []:=Heap.DictOf.new s.heap
 have hn:=I.bb.fresh (Nat.le_refl _)
 have I1:L2.Inv X pins σ (upd H s.heap.objs.size (.dK [])) { s with heap:=s.heap.push { cls:=.type "dict",data:=.dict #[]}}:=I.laid (a:=s.heap.objs.size) (o:=.dK []) (t':=s.toks) (fun _ _ q=>Heap.get?_push_of_some _ q) (Nat.le_refl _) (zC s.heap I.big)
 refine⟨DV.typeIs,F.args_dict_init_2 _ _,?_⟩
 unfold Builtin.«dict.__init__»
 refine wpAny_bind ?_
 unfold Builtin.Dict.selfAndRest
 refine wpAny_bind (wpAny_notOrdered_dict DV.typeIs ?_)
 show wpAny _ _ (pure (s.heap.objs.size,[Value.ref L])) _ _ _
 refine wpAny_pure ?_
 show wpAny _ _ (Builtin.Dict.updateFrom "dict.__init__" s.heap.objs.size (.ref L) [] .none) _ _ _
 unfold Builtin.Dict.updateFrom
 have ZC:s.heap.objs.size≠L:=fun e=>by rw[<- e,hn] at hL;cases hL
 have ZE:(upd H s.heap.objs.size (HO.dK [])) L=some (.lst ys):=by rw[ag (Ne.symm ZC)];exact hL
 obtain⟨TV,aH,n,rv,eL⟩:=(show aK X.prog X.w _ _ L (.lst ys) from I1.bb L _ ZE)
 have hA:X.A.handled=none:=I.ok.hd hc
 refine wpAny_bind (wpAny_typeOf (T:="list") ⟨_,eL,rfl⟩ ?_)
 rw[if_pos (by decide)]
 refine wpAny_bind (Ei eL rfl rfl rfl (by exact hA) fun h1 RX XC=>?_)
 rw[if_pos (by rfl)]
 have I2:L2.Inv X pins σ (upd H s.heap.objs.size (.dK [])) { s with heap:=h1,toks:=RX}:=I1.kept (t':=RX) XC
 have ZF:h1.get? L=some { cls:=.type "list",data:=.seq aH.toArray n}:=XC _ _ eL
 refine wpAny_bind (wpAny_rule (wpAny_bind (wpAny_pyIter_list (s:={ s with heap:=h1,toks:=RX}) (items:=aH.toArray) ⟨_,ZF,rfl,n,rfl⟩ ?_)))
 have I3:L2.Inv X pins σ (upd H s.heap.objs.size (.dK [])) { s with heap:=h1.push { cls:=.type "list_iterator",data:=.fields #[.ref L,.int 0 0]},toks:=RX}:=I2.kept (t':=RX) fun b o e=>Heap.get?_push_of_some _ e
 have hsz:s.heap.objs.size < h1.objs.size:=I2.bb.lt aj
 have YZ:s.heap.objs.size<=h1.objs.size:=Nat.le_of_lt hsz
 have VI:H h1.objs.size=none:=by
   have:=I2.bb.fresh (Nat.le_refl h1.objs.size)
   rw[ag (Nat.ne_of_gt hsz)] at this
   exact this
 refine wpAny_pure ⟨plainId_quiet i0 _,GD (kvs:=kvs) (by exact hA) (.of hL) hp nd hn (I2.vI (b:=h1.objs.size) (Nat.le_refl _) VI) (Nat.ne_of_lt hsz) hz (fun s' I'=>⟨rfl,.ref _,_,I',rfl,q _ hn⟩) kvs.length 0 _ _ (by omega) (by omega) I3 ⟨_,Heap.get?_push_size _ rfl,rfl,rfl⟩⟩
end
section
variable {X:Cx}{G:Gr}{dl:List Slot}{a:Expr}{pos p:Pos}{kds:List (Key×Dt)}
noncomputable def Ja (kd:Key×Dt):Dt:=.tup [kD kd.1,kd.2]
theorem GG {K:W.Frag}{Hf H:Hp}(sm:aD Hf H):∀ {ys:List V} {kds:List (Key×Dt)},bc K Hf ys (kds.map Ja)->∃ kvs,E5 K H ys kvs/\cB K Hf kvs kds
 | _,[],.nil=>⟨[],.nil,.nil⟩
 | _,(k,d)::kds,.cons r t=>by
   obtain⟨kvs,h1,h2⟩:=GG sm t
   cases r with
   | @tup a vs _ hs rp=>
     cases rp with
     | @cons v1 _ _ _ r1 r2=>cases r2 with
       | @cons v2 _ _ _ r2 r3=>
         cases r3
         have e1:v1=kV k:=by
           cases k with
           | inl i=>cases r1;rfl
           | inr x=>cases r1;rfl
         subst e1
         exact⟨(k,v2)::kvs,.cons (br sm hs) h1,.cons r2 h2⟩
theorem cB.keys {K:W.Frag}{H:Hp}:∀ {v:List (Key×V)} {d:List (Key×Dt)},cB K H v d->v.map (·.1)=d.map (·.1)
 | _,_,.nil=>rfl
 | _,_,.cons _ r=>by rw[List.map_cons,List.map_cons,cB.keys r]
theorem lx (hm:X.mg "dict"=none)(hc:X.calm=true)(ha:EE X G dl a (.lst (kds.map Ja)))(nd:(kds.map (·.1)).Nodup)(hz:kds.length<=sizeLine)(hg:Gl X "dict":=by rfl)(he:starEach [a] X.env=[(false,eval a X.env)]:=by rfl):EO X G dl (.Call (.Name "dict" p) [a] [] pos) (.dZ kds):=
 fB (kg (xX hc) hg hm boot_dict (ae ha ai he) (he:=he)) fun st H Q ⟨Hf,S,k⟩=>⟨Hf,S,fun vs au H1 g1 r1=>by
   cases r1 with
   | cons r t=>cases t;cases r with
     | @lst q vs _ z r=>
       obtain⟨kvs,h1,h2⟩:=GG g1.sub r
       exact⟨q,vs,kvs,rfl,g1.sub _ _ z,h1,by rw[h2.keys];exact nd,by rw[h2.length];exact hz,fun l hl=>k l au _ (g1.trans (.dH g1.sub hl)) (g1.big.free hl) (g1.sub.free hl) ⟨kvs,aj,h2⟩⟩⟩
theorem Ej:P4 X "str.count" (fun x vs H Q=>∃ z y:Str,x=.str z/\vs=[.str y]/\Q (.int (Txt.count z y)) H):=by
 intro pins s σ H x vs v us Q I rx rv ⟨z,y,e1,e2,q⟩
 subst e1 e2
 obtain⟨t,rfl⟩:=(show ∃ t,v=Value.str z t from rx)
 obtain⟨u,rfl,ru⟩:=vals1 rv
 obtain⟨t',rfl⟩:=(show ∃ t,u=Value.str y t from ru)
 exact PySem.SC.count ⟨.int (Txt.count z y),H,I.tok _,⟨_,rfl⟩,q⟩
end
section
inductive GH:List (Key×Value)->List (Key×Value)->Prop
 | nil:GH [] []
 | cons {k:Key} {i:Int} {t u:Tok} {xs ys:List (Key×Value)}:GH xs ys->GH ((k,.int i t)::xs) ((k,.int i u)::ys)
end
theorem uH {H:Hp}{q:Addr}{o:HO}(h:H q=some o):upd H q o=H:=by
 funext b
 by_cases e:b=q
 . subst e;rw[aj,h]
 . rw[ag e]
section
variable {X:Cx}{G:Gr}{dl:List Slot}{a b:Expr}{x:Str}{apos b6:Pos}{kds:List (Key×Dt)}
noncomputable def dI (kds:List (Key×Int)):List (Key×Dt):=kds.map fun kd=>(kd.1,Dt.int kd.2)
theorem J2 {K:W.Frag}{H:Hp}:∀ {kds:List (Key×Int)} {kvs:List (Key×V)},cB K H kvs (dI kds)->kvs=kds.map fun kd=>(kd.1,V.int kd.2)
 | [],_,.nil=>rfl
 | (k,i)::kds,_,.cons r t=>by
   cases r
   rw[J2 (kds:=kds) t];rfl
theorem Ek {z w:Str}(ha:EE X G dl a (.str z))(hb:EE X G dl b (.str w))(kl:attributeBase a "count" X.env (eval a X.env)=eval a X.env:=by rfl)
   (t8:((backTo b6 (starEach [b] X.env)).all (fun x=>!x.1) && (backToKw b6 (keywordEach [] X.env)).all (fun x=>x.1.isSome) && decide ([b].length+([]:List Keyword).length+(if ([]:List Keyword).isEmpty then 0 else 1) < 30))=true:=by rfl)
   (km:(apos.endLine == b6.line)=true:=by rfl) (oM:starEach [b] X.env=(false,eval b X.env)::starEach [] X.env:=by rfl):EE X G dl (.Call (.Attribute a "count" apos) [b] [] b6) (.int (Txt.count z w)):=
 fB (t7 PySem.F.plainAttrs_str PySem.F.slot_str_count PySem.F.type_str_count Ej ha (ae hb ai oM) kl t8 km oM rfl) fun st H Q ⟨Hf,S,k⟩=>⟨Hf,S,fun v au H1 g1 r1=>by
   cases r1
   exact⟨rfl,au,S.grow g1,fun vs bT H2 g2 r2=>by
     cases r2 with
     | cons r t=>cases t;cases r;exact⟨z,w,rfl,rfl,k _ bT H2 (g1.trans g2) (.int _)⟩⟩⟩
end
structure xY (X:Cx)(N:List Str)(xt:Str)(ix:List Nat)(sc:Scope):Prop where
 nd:N.Nodup
 nm:N=xt::ix.map (fun j=>X.N.getD j "")
 kind:sc.kind=.function
 one:sc.names.filter (fun y=>y.2 == .cell)=[(xt,.cell)]
 names:∀ y∈sc.names,y.2=.local->sc.names.lookup y.1=some .local
 hx:sc.names.lookup xt=some .cell
 MN:∀ y∈sc.names,y.2=.free->y.1≠xt
 fr:∀ y∈sc.names,y.2=.free->X.env.kindOf y.1=some .cell\/X.env.kindOf y.1=some .free
 Rk:∀ j∈ix,∃ y,X.N[j]?=some y/\sc.names.lookup y=some .free
noncomputable def kK (X:Cx)(N:List Str)(sc:Scope)(xt:Str)(c C:Addr)(fp:List Addr)(s:Shared)(H:Hp):Cx:=
 { X with N:=N,s₀:=s,H₀:=H,env:=compEnvC sc ((xt,c)::kJ sc X.env) C X.env,outer:=X.stack,stack:=X.stack,ex:=fp,fn:=fun y=>y == xt,pn:=[],xe:=vM}
theorem CZ:∀ {names:List (Str×NameKind)} {acc:List (Str×Addr)} {n:Nat} {h:Heap},names.filter (fun y=>y.2 == .cell)=[]->cellsFrom n names acc=acc/\pushCells h names=h
 | [],_,_,_,_=>⟨rfl,rfl⟩
 | (y,k)::r,acc,n,h,e=>by
   by_cases hk:(k == NameKind.cell)=true
   . rw[List.filter_cons_of_pos (by exact hk)] at e;cases e
   . rw[List.filter_cons_of_neg (by exact hk)] at e
     unfold cellsFrom pushCells
     rw[if_neg hk,if_neg hk]
     exact CZ e
theorem z8 {x:Str}:∀ {names:List (Str×NameKind)} {acc:List (Str×Addr)} {n:Nat} {h:Heap},names.filter (fun y=>y.2 == .cell)=[(x,.cell)]->cellsFrom n names acc=(x,n)::acc/\pushCells h names=h.push { cls:=.type "cell",data:=.cell none}
 | [],_,_,_,e=>by cases e
 | (y,k)::r,acc,n,h,e=>by
   by_cases hk:(k == NameKind.cell)=true
   . rw[List.filter_cons_of_pos (by exact hk)] at e
     injection e with e1 e2
     cases e1
     unfold cellsFrom pushCells
     rw[if_pos hk,if_pos hk]
     exact CZ e2
   . rw[List.filter_cons_of_neg (by exact hk)] at e
     unfold cellsFrom pushCells
     rw[if_neg hk,if_neg hk]
     exact z8 e
theorem J3 {M:Model}{A:Around}{E:Value->Shared->Prop}{s:Shared}{sc:Scope}{globals:Addr}{cl:List (Str×Addr)}{qual:Str}{around:Env}{x:Str}{Q:Env->Shared->Prop}(h1:sc.names.filter (fun y=>y.2 == .cell)=[(x,.cell)])(hQ:Q { scope:=sc,locals:=s.heap.objs.size,globals:=globals,cells:=(x,s.heap.objs.size+1)::cl,qual:=qual,func:=none,code:=around.code,frame:=around.frame,builtins:=around.builtins} { s with heap:=(s.heap.push { cls:=.type "dict",data:=.dict #[]}).push { cls:=.type "cell",data:=.cell none}}):wpAny M A (newFunctionEnv sc globals cl [] qual none .none (some around)) Q E s:=by
 simp only[newFunctionEnv,Option.isSome_some,if_true]
 refine wpAny_bind (wpAny_alloc ?_)
 refine wpAny_bind (wpAny_layCells _ (fun name kind cells=>by cases ZG:kind == NameKind.cell <;> simp[ZG]) _ _ _ _ ?_)
 obtain⟨e1,e2⟩:=z8 (acc:=cl) (n:=(s.heap.push { cls:=.type "dict",data:=.dict #[]}).objs.size) (h:=s.heap.push { cls:=.type "dict",data:=.dict #[]}) h1
 show wpAny M A (forIn [] PUnit.unit _ >>= _) Q E _
 rw[List.forIn_nil]
 refine wpAny_bind (wpAny_pure (wpAny_pure ?_))
 dsimp only
 rw[e1,e2,Heap.size_push]
 exact hQ
section
variable {X:Cx}{N:List Str}{xt:Str}{ix:List Nat}{sc:Scope}{pins:List (Addr×Obj)}{st:L2.St}{H H':Hp}{s s':Shared}{c C D:Addr}{fp:List Addr}{h1:Heap}
theorem J4 (B:xY X N xt ix sc)(ok:X.Ok):closureFor sc X.env=pure (kJ sc X.env):=xN fun y hy hk=>ok.has y.1 (B.fr y hy hk)
theorem nJ (B:xY X N xt ix sc)(ok:X.Ok){y:Str}{c:Addr}(h:(kJ sc X.env).lookup y=some c):X.env.cells.lookup y=some c/\(y,NameKind.free)∈sc.names:=by
 rcases pK _ _ h with⟨h1,h2⟩ | h1
 . obtain⟨c',h3⟩:=ok.has y (B.fr _ h1 rfl)
   rw[h3] at h2
   cases h2
   exact⟨h3,h1⟩
 . cases h1
theorem iT {y xt:Str}{c d:Addr}{cl:List (Str×Addr)}(h:((xt,c)::cl).lookup y=some d):(y=xt/\d=c)\/(y≠xt/\cl.lookup y=some d):=by
 rw[List.lookup_cons] at h
 cases q:(y == xt) with
 | true=>rw[q] at h;exact .inl ⟨by simpa using q,(Option.some.inj h).symm⟩
 | false=>rw[q] at h;exact .inr ⟨by simpa using q,h⟩
theorem sN (B:xY X N xt ix sc)(I:L2.Inv X pins st H s)(hC:s.heap.objs.size<=C)(hc:s.heap.objs.size<=c)(hf:∀ b∈fp,kj X pins H b)(d5:∀ b∈fp,b < s.heap.objs.size):(kK X N sc xt c C fp s H).Ok where
 mod:=I.ok.mod
 kind:=B.kind
 glob:=I.ok.glob
 blt:=I.ok.blt
 above:=hC
 inj:=fun y z d h1 h2=>by
   have old:∀ {y:Str},(kJ sc X.env).lookup y=some c->False:=fun {y} h=>by
     obtain⟨v,q⟩:=I.cell y c (nJ B I.ok h).1
     exact absurd (Nat.lt_of_lt_of_le q.lt hc) (Nat.lt_irrefl _)
   rcases iT h1 with⟨e1,e2⟩ | ⟨e1,e2⟩ <;> rcases iT h2 with⟨e3,e4⟩ | ⟨e3,e4⟩
   . rw[e1,e3]
   . rw[e2] at e4;exact(old e4).elim
   . rw[e4] at e2;exact(old e2).elim
   . exact I.ok.inj y z d (nJ B I.ok e2).1 (nJ B I.ok e4).1
 has:=fun y hy=>by
   have hy:(relabel sc X.env).names.lookup y=some .cell\/(relabel sc X.env).names.lookup y=some .free:=hy
   show ∃ d,((xt,c)::kJ sc X.env).lookup y=some d
   by_cases e:y=xt
   . subst e;exact⟨c,by simp[List.lookup_cons]⟩
   . have nc:(y,NameKind.cell) ∉ sc.names:=fun hm=>by
       have:(y,NameKind.cell)∈sc.names.filter (fun y=>y.2 == .cell):=List.mem_filter.mpr ⟨hm,rfl⟩
       rw[B.one] at this
       have:=List.mem_singleton.mp this
       exact e (congrArg Prod.fst this)
     have:(y,NameKind.free)∈sc.names:=by
       rcases hy with hy | hy
       . obtain⟨k',h1,h2⟩:=fo hy
         rcases h2 with h2 | h2
         . subst h2;exact absurd h1 nc
         . subst h2;exact h1
       . obtain⟨k',h1,h2⟩:=fo hy
         rcases h2 with h2 | h2 <;> subst h2 <;> exact h1
     obtain⟨d,hd⟩:=jg (cells:=X.env.cells) sc.names [] (.inl this)
     refine⟨d,?_⟩
     rw[List.lookup_cons,show(y == xt)=false by simpa using e]
     exact hd
 PY:=fun y d h1 h2=>by
   rcases iT h2 with⟨_,e⟩ | ⟨e,_⟩
   . rw[e];exact hc
   . exact absurd (by have h1:(y == xt)=true:=h1;simpa using h1) e
 hd:=I.ok.hd
 frames:=I.ok.frames
 Qo:=.inl rfl
 Jj:=fun b hb=>⟨Nat.ne_of_lt (Nat.lt_of_lt_of_le (d5 b hb) hC),fun y d h=>by
   rcases iT h with⟨_,e⟩ | ⟨_,e⟩
   . rw[e];exact Nat.ne_of_gt (Nat.lt_of_lt_of_le (d5 b hb) hc)
   . exact(hf b hb).2.2.2.2.1 y d (nJ B I.ok e).1⟩
 bs:=I.bs
 Cg:=Nat.le_trans I.ok.Cg I.sz
 zi:=fun b o e hb=>by
   rcases (hf b hb).2.2.2.1 with z | z
   . exact I.ok.zi b o e z
   . exact absurd (Nat.lt_of_lt_of_le (Heap.lt_size e) (Nat.le_trans I.ok.Cg z)) (Nat.lt_irrefl _)
 zj:=fun b hb z=>by
   rcases List.mem_cons.mp (I.tV b z) with z | z
   . exact(hf b hb).2.1 z
   . exact(hf b hb).2.2.1 z
 qo:=I.stack
 LD:=I.sA
theorem BB (B:xY X N xt ix sc)(I:L2.Inv X pins st H s)(hf:∀ b∈fp,kj X pins H b)(d5:∀ b∈fp,b < s.heap.objs.size)(hC:C=s.heap.objs.size+1)(Qr:c=s.heap.objs.size+2)(k:∀ b o,s.heap.get? b=some o->h1.get? b=some o)(hn:h1.Ns C fun _=>none)(VJ:h1.IsCell c none)(hD:h1.get? s.heap.objs.size=some { cls:=.type "list",data:=.seq ([]:List Value).toArray 0}){t':Nat}:L2.Inv (kK X N sc xt c C fp s H) [] (List.replicate 1 none ++ frees ix st) (upd H s.heap.objs.size (.lst [])) { s with heap:=h1,toks:=t'}:=by
 have LR:s.heap.objs.size<=C:=by rw[hC];exact Nat.le_succ _
 have A1:s.heap.objs.size<=c:=by rw[Qr];exact Nat.le_add_right _ _
 have fr:∀ a,s.heap.objs.size<=a->H a=none:=fun a ha=>I.bb.fresh ha
 have ok:=sN (c:=c) B I LR A1 hf d5
 have A0:∀ y c,(kJ sc X.env).lookup y=some c->H c=none/\c < s.heap.objs.size/\∃ v,s.heap.IsCell c v:=fun y c h=>by
   have h:=(nJ B I.ok h).1
   obtain⟨v,q⟩:=I.cell y c h
   exact⟨I.ow y c h,q.lt,v,q⟩
 refine⟨ok,rfl,I.bare,Un.laid k (Nat.le_refl _) (fr _ (Nat.le_refl _)),⟨_,hn,fun i y v e1 e2 e3=>?_⟩,fun y d h=>?_,?_,fun y d h=>?_,fun p hp=>absurd (show p∈([]:List (Addr×Obj)) from hp) (by simp),?_,?_⟩
 . have e1:N[i]?=some y:=e1
   cases i with
   | zero=>cases e2
   | succ i=>
     rw[B.nm,List.getElem?_cons_succ,List.getElem?_map] at e1
     have e2:(frees ix st)[i]?=some (some v):=e2
     unfold frees at e2
     rw[List.getElem?_map] at e2
     cases q:ix[i]? with
     | none=>rw[q] at e1;cases e1
     | some j=>
       rw[q] at e1 e2
       obtain⟨y',IY,LU⟩:=B.Rk j (List.mem_of_getElem? q)
       have JM:=PySem.mem_of_lookup LU
       have ey:y=y':=by
         have e1:X.N.getD j ""=y:=Option.some.inj e1
         rw[List.getD_eq_getElem?_getD,IY] at e1
         exact e1.symm
       subst ey
       have e2:(st[j]?).join=some v:=Option.some.inj e2
       have Rm:st[j]?=some (some v):=by
         cases q2:st[j]? with
         | none=>rw[q2] at e2;cases e2
         | some z=>rw[q2] at e2;rw[show z=some v from e2]
       have kd:=B.fr _ JM rfl
       have nx:y≠xt:=B.MN _ JM rfl
       have Rn:vH X.env.scope y:=by
         rcases kd with z | z
         . exact .inr (.inl z)
         . exact .inr (.inr z)
       obtain⟨m,_,hl⟩:=I.loc
       obtain⟨u,r,l⟩:=hl j y v IY Rm Rn
       refine⟨u,r,.inr ?_⟩
       rcases l with⟨z,_⟩ | ⟨_,d,hd,ic⟩
       . rcases kd with z' | z' <;> rw[z] at z' <;> cases z'
       . obtain⟨d',PZ⟩:=jg (cells:=X.env.cells) sc.names [] (.inl JM)
         have:=(nJ B I.ok PZ).1
         rw[hd] at this;cases this
         obtain⟨oc,Cj,Bl⟩:=ic
         refine⟨?_,d,?_,oc,k _ _ Cj,Bl⟩
         . rcases e3 with e3 | e3 | e3
           . have e3:(relabel sc X.env).names.lookup y=some .local:=e3
             rcases lW (env:=X.env) LU with z | z
             . exact absurd (e3.symm.trans z) (by decide)
             . exact absurd (e3.symm.trans z) (by decide)
           . exact .inl e3
           . exact .inr e3
         . show((xt,c)::kJ sc X.env).lookup y=some d
           rw[List.lookup_cons,show(y == xt)=false by simpa using nx]
           exact PZ
 . rcases iT h with⟨_,e⟩ | ⟨_,e⟩
   . rw[e];exact⟨none,VJ⟩
   . obtain⟨_,_,v,oc,Cj,hd⟩:=A0 y d e
     exact⟨v,oc,k _ _ Cj,hd⟩
 . show upd H s.heap.objs.size (.lst []) C=none
   rw[ag (by rw[hC];exact Nat.succ_ne_self _)]
   exact fr _ LR
 . show upd H s.heap.objs.size (.lst []) d=none
   rcases iT h with⟨_,e⟩ | ⟨_,e⟩
   . rw[e,ag (by rw[Qr];exact Nat.ne_of_gt (Nat.lt_add_of_pos_right (by decide)))]
     exact fr _ A1
   . obtain⟨q1,q2,_⟩:=A0 y d e
     rw[ag (Nat.ne_of_lt q2)]
     exact q1
 . exact I.bb.laid k (Nat.le_refl _) ⟨Nat.zero_le _,[],0,.nil,hD⟩
 . show(List.replicate 1 none ++ frees ix st).length=N.length
   rw[B.nm]
   unfold frees
   simp
theorem GI {elt iter tg:Expr}{ifs:List Expr}{pos:Pos}{g:TG}{tt:TT}{te:TE}{J:It}{it:Addr}{tj:Nat->Heap->Prop}{Q:Addr->List V->Hp->Prop}{RR:Value->Addr->Result->Shared->Prop}{E:Value->Shared->Prop}(hc:X.calm=true)(B:xY X N xt ix sc)(hg:∀ c C fp s H,PG (kK X N sc xt c C fp s H) tg g)(ht:∀ c C fp s H,LZ (kK X N sc xt c C fp s H) ifs tt)(ju:∀ c C fp s H,PE (kK X N sc xt c C fp s H) elt te)(I:L2.Inv X pins st H s)(T:Turn X.prog X.w X.K tg J fp it tj)(h0:tj 0 s.heap)(hf:∀ b∈fp,kj X pins H b)(hq:∀ D,H D=none->CO 1 g tt te (frees ix st) J D (Q D) H)(Ro:∀ D C ys H' s',L2.Inv X pins st H' s'->(∃ m,s'.heap.Ns C m)->kj X pins H' C->Q D ys H'->RR (.ref D) C (.ok .next) s'):wpAny (model X.prog X.w) X.A (newList []) (fun acc s3=>wpAny (model X.prog X.w) X.A (newFunctionEnv sc X.env.globals (kJ sc X.env) [] X.env.qual none .none (some X.env)) (fun zK s4=>codeAny (model X.prog X.w) X.A (.compStart (.ListComp elt [⟨tg,iter,ifs,0⟩] sc pos) 0 (.ref it) acc { zK with scope:=relabel sc X.env}) (RR acc zK.locals) s4) E s3) E s:=by
 have d5:∀ b∈fp,b < s.heap.objs.size:=fun b hb=>by
   obtain⟨o,e,_⟩:=T.obj _ _ h0 b hb
   exact Heap.lt_size e
 refine wpAny_newObj_type (J3 B.one ?_)
 dsimp only
 generalize hG:s.heap.push { cls:=.type "list",dict:=none,data:=.seq ([]:List Value).toArray}=g'
 generalize TX:(g'.push { cls:=.type "dict",data:=.dict #[]}).push { cls:=.type "cell",data:=.cell none}=h1
 have hC:g'.objs.size=s.heap.objs.size+1:=by rw[<- hG,Heap.size_push]
 have TF:s.heap.objs.size≠g'.objs.size:=by rw[hC];exact Nat.ne_of_lt (Nat.lt_succ_self _)
 have old:∀ b o,s.heap.get? b=some o->h1.get? b=some o:=fun b o e=>by
   rw[<- TX,<- hG]
   exact Heap.get?_push_of_some _ (Heap.get?_push_of_some _ (Heap.get?_push_of_some _ e))
 have F1:h1.get? s.heap.objs.size=some { cls:=.type "list",data:=.seq ([]:List Value).toArray 0}:=by
   rw[<- TX,<- hG]
   exact Heap.get?_push_of_some _ (Heap.get?_push_of_some _ (Heap.get?_push_size _ rfl))
 have E2:h1.Ns g'.objs.size fun _=>none:=by
   rw[<- TX]
   exact(Heap.Ns.new g' (.type "dict")).keeps fun b o e=>Heap.get?_push_of_some _ e
 have VJ:h1.IsCell (g'.objs.size+1) none:=by
   rw[<- TX]
   have e:g'.objs.size+1=(g'.push { cls:=.type "dict",data:=.dict #[]}).objs.size:=by rw[Heap.size_push]
   rw[e]
   exact⟨_,Heap.get?_push_size _ rfl,rfl⟩
 have hD:H s.heap.objs.size=none:=I.bb.fresh (Nat.le_refl _)
 obtain⟨W,⟨m0,w0⟩,turn⟩:=hq _ hD
 have I0:=BB (t':=s.toks) B I hf d5 hC (show g'.objs.size+1=s.heap.objs.size+2 by rw[hC]) old E2 VJ F1
 have LV:tj 0 h1:=T.keep _ _ _ h0 fun b _ o e=>old b o e
 have mX:s.heap.objs.size<=g'.objs.size:=by rw[hC];exact Nat.le_succ _
 have oN:∀ {H':Hp},(∀ b∈fp,H' b=none)->∀ b∈fp,kj (kK X N sc xt (g'.objs.size+1) g'.objs.size fp s H) [] H' b:=fun {H'} hn b hb=>
   ⟨hn b hb,((sN B I mX (Nat.le_trans mX (Nat.le_succ _)) hf d5).Jj b hb).1,(sN B I mX (Nat.le_trans mX (Nat.le_succ _)) hf d5).zj b hb,.inl hb,((sN B I mX (Nat.le_trans mX (Nat.le_succ _)) hf d5).Jj b hb).2,fun p hp=>absurd (show p∈([]:List (Addr×Obj)) from hp) (by simp)⟩
 have loop:∀ s3:Shared,s3={ s with heap:=h1} ->
     codeAny (model X.prog X.w) X.A (.compLoop (.ListComp elt [⟨tg,iter,ifs,0⟩] sc pos) 0 (.ref it) (.ref s.heap.objs.size) (compEnvC sc ((xt,g'.objs.size+1)::kJ sc X.env) g'.objs.size X.env)) (RR (.ref s.heap.objs.size) g'.objs.size) s3:=by
   rintro s3 rfl
   refine zU (fun n s'=>∃ i ys σ H',σ.length=1/\L2.Inv (kK X N sc xt (g'.objs.size+1) g'.objs.size fp s H) [] (σ ++ frees ix st) H' s'/\tj i s'.heap/\(∀ b∈fp,H' b=none)/\W i n ys H') ?_ m0
     ⟨0,[],List.replicate 1 none,_,by simp,I0,LV,fun b hb=>?_,w0⟩
   . rintro n s5 ⟨i,ys,σ,H5,hσ,I5,E1,IU,w5⟩
     rcases turn i n ys H5 w5 with⟨stop,qn⟩ | ⟨go,hz,step⟩
     . refine bQ (T.done (kK X N sc xt (g'.objs.size+1) g'.objs.size fp s H) rfl rfl rfl hc i [] s5 _ H5 vM I5 (oN IU) E1 stop) fun r s6 ⟨hr,I6⟩=>?_
       subst hr
       refine Ro _ _ ys H5 s6 ?_ ?_ (I.vI mX I6.free) qn
       . exact I.Fi I6.os I6.base I6.bb I6.bare fun b hb=>⟨(hf b hb).2.2.2.1,(hf b hb).2.1,(hf b hb).2.2.2.2.1,(hf b hb).2.2.2.2.2⟩
       . obtain⟨m,hm,_⟩:=I6.loc
         exact⟨m,hm⟩
     . refine bQ (T.item (kK X N sc xt (g'.objs.size+1) g'.objs.size fp s H) rfl rfl rfl hc i [] s5 _ H5 vM I5 (oN IU) E1 go) fun r s6 ⟨u,hr,h6⟩=>?_
       subst hr
       refine bQ h6 fun _ s7 ⟨v,H7,I7,r7,y7,F3,Rp⟩=>?_
       have Rq:=I7.pinned (oN Rp) (T.obj _ _ F3)
       refine bQ (hg (g'.objs.size+1) g'.objs.size fp s H _ s7 _ H7 v u _ Rq r7 (step σ hσ v H7 y7)) fun _ s8 h8=>?_
       obtain⟨σ8,H8,I8,σ',e8,RC,h8⟩:=h8
       subst e8
       have pinned:∀ {σ9:L2.St} {H9:Hp} {s9:Shared},L2.Inv (kK X N sc xt (g'.objs.size+1) g'.objs.size fp s H) ([] ++ qu fp s7.heap) σ9 H9 s9->tj (i+1) s9.heap/\∀ b∈fp,H9 b=none:=fun {σ9 H9 s9} I9=>by
         refine⟨T.keep _ _ _ F3 fun b hb o e=>(I9.pin (b,o) (List.mem_append_right _ (List.mem_append_right _ (fk hb e)))).1,fun b hb=>?_⟩
         obtain⟨o,e,d⟩:=T.obj _ _ F3 b hb
         exact(I9.pin (b,o) (List.mem_append_right _ (List.mem_append_right _ (fk hb e)))).2.1
       refine bQ (ht (g'.objs.size+1) g'.objs.size fp s H _ s8 _ H8 _ I8 h8) fun ok Vh JQ=>?_
       obtain⟨Vi,JR,JQ⟩:=JQ
       cases ok with
       | false=>
         obtain⟨m',hm,w8⟩:=JQ
         exact⟨m',hm,i+1,ys,σ',_,RC,JR.jf (pins:=[]),(pinned JR).1,(pinned JR).2,w8⟩
       | true=>
         refine bQ (ju (g'.objs.size+1) g'.objs.size fp s H _ Vh _ Vi _ JR JQ) fun z s9 ⟨y,H9,I9,r9,Rr,m',hm,w9⟩=>?_
         refine bQ (ll _ s9 _ H9 (.ref s.heap.objs.size) [y] (.ref s.heap.objs.size) [z] (fun _ H'=>H'=upd H9 s.heap.objs.size (.lst (ys ++ [y]))) I9 rfl (.cons r9 .nil) ⟨_,ys,y,rfl,rfl,Rr,hz,rfl⟩) fun _ Xp Rt=>?_
         obtain⟨_,Xq,F4,_,rfl⟩:=Rt
         exact⟨m',hm,i+1,ys ++ [y],σ',_,RC,F4.jf (pins:=[]),(pinned F4).1,(pinned F4).2,w9⟩
   . rw[ag (Nat.ne_of_lt (d5 b hb))]
     exact(hf b hb).1
 exact codeAny_compStart_list (loop _ rfl) (T.self _ 0 _ _ _ LV (loop _ rfl))
theorem uI {env:Env}{y:Str}:∀ {names:List (Str×NameKind)},names.lookup y=some .cell->(names.map fun(n,k)=>if (k == NameKind.free && env.scope.kind == .function && env.kindOf n == some .cell) then (n,NameKind.cell) else (n,k)).lookup y=some .cell
 | [],h=>by simp at h
 | (n,kk)::r,h=>by
   rw[List.map_cons,List.lookup_cons]
   rw[List.lookup_cons] at h
   cases q:(y == n) with
   | true=>
     rw[q] at h
     have:kk=.cell:=Option.some.inj h
     subst this
     simp[q]
   | false=>
     rw[q] at h
     have ih:=uI (env:=env) h
     by_cases hc:(kk == NameKind.free && env.scope.kind == .function && env.kindOf n == some .cell)=true
     . simp only[hc,if_true,q];exact ih
     . simp only[hc,Bool.false_eq_true,if_false,q];exact ih
end
section
variable {X:Cx}{G:Gr}{dl:List Slot}{a b elt iter tg:Expr}{ifs:List Expr}{pos px:Pos}{o:Out}{xt:Str}{N:List Str}{ix:List Nat}{sc:Scope}
variable {α:Type}{as:List α}{z f:α->Dt}{sl:α->List Slot}{keep:α->Bool}{g:TG}{wi:TI}
inductive xZ (X:Cx)(N:List Str)(xt:Str)(sc:Scope)(dl:List Slot)(ix:List Nat)(as:List α)(sl:α->List Slot)(keep:α->Bool):List Expr->Prop
 | nil:(∀ a∈as,keep a=true)->xZ X N xt sc dl ix as sl keep []
 | one {ce:Expr}:(∀ a∈as,∀ c C fp s H G',EB (kK X N sc xt c C fp s H) G' (sl a ++ iN dl ix) ce (keep a))->xZ X N xt sc dl ix as sl keep [ce]
theorem J5 (h:xZ X N xt sc dl ix as sl keep ifs):∀ c C fp s H,LZ (kK X N sc xt c C fp s H) ifs (JS X.K dl ix as sl keep):=fun c C fp s H=>by
 cases h with
 | nil h=>exact fun pins s' st H' Q I ⟨a,G',ha,Hf,S,k⟩=>wpAny_tests_nil ⟨H',I,by have:=k Hf H' (.refl S.sub);rw[h a ha] at this;exact this⟩
 | one h=>exact CN fun pins s' st H' Q I ⟨a,G',ha,q⟩=>h a ha c C fp s H G' pins s' st H' Q I q
noncomputable def RY (X:Cx)(N:List Str)(xt:Str)(sc:Scope)(dl:List Slot)(ix:List Nat)(as:List α)(sl:α->List Slot)(keep:α->Bool)(f:α->Dt)(elt:Expr):Prop:=∀ a∈as,keep a=true->∀ c C fp s H G',EE (kK X N sc xt c C fp s H) G' (sl a ++ iN dl ix) elt (f a)
theorem Oa (h:RY X N xt sc dl ix as sl keep f elt):∀ c C fp s H,PE (kK X N sc xt c C fp s H) elt (JT X.K dl ix as sl keep f):=fun c C fp s H pins s' st H' Q I ⟨a,G',ha,hk,q⟩=>h a ha hk c C fp s H G' pins s' st H' Q I q
theorem Ob {tt:TT}{te:TE}(hc:X.calm=true)(B:xY X N xt ix sc)(hi:PI X tg iter wi)(hg:∀ c C fp s H,PG (kK X N sc xt c C fp s H) tg g)(ht:∀ c C fp s H,LZ (kK X N sc xt c C fp s H) ifs tt)(ju:∀ c C fp s H,PE (kK X N sc xt c C fp s H) elt te)(hs:∀ z,foldedSetIterable iter X.env z=pure z):PE X (.ListComp elt [⟨tg,iter,ifs,0⟩] sc pos) (JU wi 1 ix g tt te):=by
 intro pins s st H Q I h
 rw[eval_ListComp]
 refine wpAny_comprehension_free (use:=none) rfl hs (J4 B I.ok) B.kind B.names (bQ (hi pins s st H _ I h) fun v s1 h1=>bQ h1 fun M0 s2 h2=>?_)
 obtain⟨it,fp,tj,J,H2,e,I2,T,EZ,f2,hq⟩:=h2
 subst e
 refine GI (RR:=fun acc C=>compPost (model X.prog X.w) X.A X.xe none (EP X pins st Q) acc C) hc B hg ht ju I2 T EZ f2 hq ?_
 intro D C ws H' s' I' ⟨m,hn⟩ og q
 exact⟨m,hn,fun h' JP=>⟨.ref D,H',I'.turned (t':=s'.toks) (it:=C) (fun b o hb e=>(JP.2 b hb).trans e) og.1 og.2.1 og.2.2.2.1 og.2.2.2.2.1 og.2.2.2.2.2,rfl,q⟩⟩
theorem Oc (as:List α)(z f:α->Dt)(sl:α->List Slot)(keep:α->Bool)(hc:X.calm=true)(B:xY X N xt ix sc)(hi:PI X tg iter wi)(hg:∀ c C fp s H,PG (kK X N sc xt c C fp s H) tg g)(uz:rW X G dl (as.map z) wi)(Gg:∀ a∈as,Qb X.K 1 g (z a) (sl a))(Gh:xZ X N xt sc dl ix as sl keep ifs)(ju:RY X N xt sc dl ix as sl keep f elt)(hn:as.length<=sizeLine)(hs:∀ z,foldedSetIterable iter X.env z=pure z:=by intro _;rfl):EO X G dl (.ListComp elt [⟨tg,iter,ifs,0⟩] sc pos) (.lst ((as.filter keep).map f)):=fB (Ob hc B hi hg (J5 Gh) (Oa ju) hs) (qL uz Gg hn)
theorem GJ {px:Pos}(B:xY X N xt ix sc):∀ c C fp s H,PG (kK X N sc xt c C fp s H) (.Name xt px) (rE 0):=fun c C fp s H=>by
 have hN:(kK X N sc xt c C fp s H).N[0]?=some xt:=by
   show N[0]?=some xt
   rw[B.nm];rfl
 have F2:(kK X N sc xt c C fp s H).env.scope.names.lookup xt=some .cell:=uI B.hx
 exact ck (X:=kK X N sc xt c C fp s H) B.nd hN (.inr F2) (.inl (by show(xt == xt)=true;simp))
end
noncomputable def GK (sc zT:Scope)(XN N:List Str)(xt:Str)(ix:List Nat):Bool:=
 decide N.Nodup && (decide (N=xt::ix.map (fun j=>XN.getD j "")) && (decide (sc.kind=.function) && (decide (sc.names.filter (fun y=>y.2 == .cell)=[(xt,.cell)]) && (sc.names.all (fun y=>decide (y.2=.local->sc.names.lookup y.1=some .local)) && (decide (sc.names.lookup xt=some .cell) && (sc.names.all (fun y=>decide (y.2=.free->y.1≠xt)) &&
   (sc.names.all (fun y=>decide (y.2=.free->zT.names.lookup y.1=some .cell\/zT.names.lookup y.1=some .free)) && ix.all (fun j=>decide (sc.names.lookup (XN.getD j "")=some .free) && decide (j < XN.length)))))))))
theorem L7 {X:Cx}{sc zT:Scope}{XN N:List Str}{xt:Str}{ix:List Nat}(h:GK sc zT XN N xt ix=true)(e1:X.env.scope=zT:=by rfl)(e2:X.N=XN:=by rfl):xY X N xt ix sc:=by
 subst e1 e2
 unfold GK at h
 simp only[Bool.and_eq_true,List.all_eq_true,decide_eq_true_eq] at h
 obtain⟨h1,h2,h3,h4,h5,h6,ZH,h7,h8⟩:=h
 refine⟨h1,h2,h3,h4,h5,h6,ZH,h7,fun j hj=>?_⟩
 obtain⟨q1,q2⟩:=h8 j hj
 refine⟨X.N.getD j "",?_,q1⟩
 rw[List.getD_eq_getElem?_getD,List.getElem?_eq_getElem q2];rfl
noncomputable def mk:HO->Bool
 | .memo _=>true
 | .bw _ _=>true
 | _=>false
theorem Rd.ex {H:Hp}{a C dx:Addr}{fs:List (Str×V)}(h:Rd H a (.ins C dx fs)):∃ o,H a=some o/\mk o=false/\(∀ x,o≠.dK x)/\∀ H':Hp,H' a=some o->Rd H' a (.ins C dx fs):=by
 rcases h with h | ⟨o,h⟩ | ⟨tg,o,kvs,h,z⟩ | ⟨o,h⟩
 . exact⟨_,h,rfl,(fun _ z=>nomatch z),fun H' e=>.inl e⟩
 . exact⟨_,h,rfl,(fun _ z=>nomatch z),fun H' e=>.inr (.inl ⟨o,e⟩)⟩
 . cases z
 . exact⟨_,h,rfl,(fun _ z=>nomatch z),fun H' e=>.inr (.inr (.inr ⟨o,e⟩))⟩
theorem bO.XD {H:Hp}{a:Addr}{ls:iK}(h:bO H a ls):∃ o,H a=some o/\mk o=true:=by
 rcases h with h | ⟨ns,h⟩
 . exact⟨_,h,rfl⟩
 . exact⟨_,h,rfl⟩
theorem bO.inj {H:Hp}{a:Addr}{ls ls':iK}(h:bO H a ls)(h':bO H a ls'):ls=ls':=by
 rcases h with h | ⟨ns,h⟩ <;> rcases h' with h' | ⟨ZI,h'⟩ <;> rw[h] at h' <;> cases h' <;> rfl
section
variable {K:W.Frag}{Hf H:Hp}{a:Addr}{ls:iK}{u:HO}
theorem J6 (hm:bO Hf a ls){b:Addr}{o:HO}(h:Hf b=some o)(n:mk o=false):b≠a:=fun e=>by
 obtain⟨o',h1,h2⟩:=hm.XD
 rw[e,h1] at h;cases h
 rw[h2] at n;cases n
theorem a0 (hm:bO Hf a ls){b:Addr}{o:HO}(h:Hf b=some o)(n:mk o=false):(upd Hf a u) b=some o:=by rw[ag (J6 hm h n)];exact h
theorem pO (hm:bO Hf a ls)(hu:mk u=true):Kp Hf (upd Hf a u):=⟨fun b o e kq=>a0 hm e (by cases o <;> first | rfl | exact(show False from kq).elim),fun b e=>by
 by_cases q:b=a
 . rw[q,aj]
   cases u <;> first | trivial | cases hu
 . rw[ag q];exact e,fun b x e=>a0 hm e rfl⟩
noncomputable def ly (ls:iK)(u:HO):Prop:=u=.memo ls\/∃ ns,u=.bw ls ns
theorem ly.mk {ls:iK}{u:HO}(h:ly ls u):mk u=true:=by rcases h with rfl | ⟨ns,rfl⟩ <;> rfl
theorem El (hm:bO Hf a ls)(hu:ly ls u){b:Addr}{ls':iK}(h:bO Hf b ls'):bO (upd Hf a u) b ls':=by
 by_cases e:b=a
 . subst e
   rw[h.inj hm]
   rcases hu with rfl | ⟨ns,rfl⟩
   . exact .inl aj
   . exact .inr ⟨ns,aj⟩
 . rcases h with h | ⟨ns,h⟩
   . exact .inl (by rw[ag e];exact h)
   . exact .inr ⟨ns,by rw[ag e];exact h⟩
theorem lZ (hm:bO Hf a ls)(hu:ly ls u){p:Addr}{f:Nat->List (Key×FD)}{n:Nat}(h:Known Hf p f n):Known (upd Hf a u) p f n:=fun i hi=>let ⟨q,o,kvs,h1,h2⟩:=h i hi;⟨q,o,kvs,a0 hm h1 rfl,h2.kp (pO hm hu.mk)⟩
theorem Od (hm:bO Hf a ls){b:Addr}{vs:List V}(s:sD K Hf b vs):sD K (upd Hf a u) b vs:=by
 rcases s with s | s
 . exact .inl (a0 hm s rfl)
 . exact .inr s
theorem GL (hm:bO Hf a ls){b C dx:Addr}{fs:List (Str×V)}(s:Rd Hf b (.ins C dx fs)):Rd (upd Hf a u) b (.ins C dx fs):=by
 rcases s with s | ⟨o,s⟩ | ⟨_,_,_,_,s⟩ | ⟨o,s⟩
 . exact .inl (a0 hm s rfl)
 . exact .inr (.inl ⟨o,a0 hm s rfl⟩)
 . cases s
 . exact .inr (.inr (.inr ⟨o,a0 hm s rfl⟩))
theorem Oe (hm:bO Hf a ls){b:Addr}{vs:List V}(s:mK K Hf b vs):mK K (upd Hf a u) b vs:=by
 rcases s with(s | ⟨o,s⟩ | ⟨_,_,_,_,s⟩ | ⟨o,s⟩) | s
 . exact .inl (.inl (a0 hm s rfl))
 . exact .inl (.inr (.inl ⟨o,a0 hm s rfl⟩))
 . cases s
 . exact .inl (.inr (.inr (.inr ⟨o,a0 hm s rfl⟩)))
 . exact .inr s
mutual
noncomputable def qQ (a:Addr):Dt->Bool
 | .tup ds=>GN a ds
 | .lst ds=>GN a ds
 | .dZ kds=>x3 a kds
 | .oO kds=>x3 a kds
 | .c9 kds=>x3 a kds
 | .obj _ fs=>jM a fs
 | .A3 _ fs=>jM a fs
 | .memo b _ _ _=>decide (b≠a)
 | .qz _ _ _ _ _=>false
 | _=>true
noncomputable def GN (a:Addr):List Dt->Bool
 | []=>true
 | d::r=>qQ a d && GN a r
noncomputable def x3 (a:Addr):List (Key×Dt)->Bool
 | []=>true
 | (_,d)::r=>qQ a d && x3 a r
noncomputable def jM (a:Addr):List (Str×Dt)->Bool
 | []=>true
 | (_,d)::r=>qQ a d && jM a r
end
mutual
theorem gZ (hm:bO Hf a ls)(hu:ly ls u):∀ {v:V} {d:Dt},qQ a d=true->Rep K Hf v d->Rep K (upd Hf a u) v d
 | _,_,_,.cF=>.cF
 | _,_,_,.bl b=>.bl b
 | _,_,_,.int i=>.int i
 | _,_,_,.str x=>.str x
 | _,.tup ds,h,.tup s r=>.tup (Od hm s) (qR hm hu (by rw[qQ] at h;exact h) r)
 | _,.lst ds,h,.lst s r=>.lst (a0 hm s rfl) (qR hm hu (by rw[qQ] at h;exact h) r)
 | _,_,_,.oy s=>.oy (Oe hm s)
 | _,.dZ _,h,.dZ s r=>.dZ (a0 hm s rfl) (nK hm hu (by rw[qQ] at h;exact h) r)
 | _,.obj _ _,h,.obj s r=>.obj (GL hm s) (iU hm hu (by rw[qQ] at h;exact h) r)
 | _,_,_,.ty n=>.ty n
 | _,_,_,.cls C=>.cls C
 | _,_,_,.xo s r=>.xo (a0 hm s rfl) r
 | _,.oO _,h,.oO s r=>.oO (a0 hm s rfl) (nK hm hu (by rw[qQ] at h;exact h) r)
 | _,.A3 _ _,h,.A3 s q g r=>.A3 (a0 hm s rfl) q (a0 hm g rfl) (iU hm hu (by rw[qQ] at h;exact h) r)
 | _,.c9 _,h,.c9 s r=>.c9 (a0 hm s rfl) (nK hm hu (by rw[qQ] at h;exact h) r)
 | _,.memo b _ _ _,h,.memo h1 h2 h3 h4=>.memo h1 (by rw[qQ] at h;rw[ag (of_decide_eq_true h)];exact h2) (h3.imp id fun z=>a0 hm z rfl) (lZ hm hu h4)
 | _,_,_,.dq h1 h2 h3 h4=>.dq h1 (El hm hu h2) (h3.imp id fun z=>a0 hm z rfl) (lZ hm hu h4)
 | _,_,_,.vL h=>.vL fun j p f z=>lZ hm hu (h j p f z)
 | _,.qz _ _ _ _ _,h,.qz _ _ _=>by rw[qQ] at h;cases h
 | _,_,_,.gW s=>.gW (s.st (pO hm hu.mk).st)
 | _,_,_,.kW s=>.kW (a0 hm s rfl)
theorem qR (hm:bO Hf a ls)(hu:ly ls u):∀ {v:List V} {d:List Dt},GN a d=true->bc K Hf v d->bc K (upd Hf a u) v d
 | _,_,_,.nil=>.nil
 | _,d::ds,h,.cons r t=>by
   rw[GN,Bool.and_eq_true] at h
   exact .cons (gZ hm hu h.1 r) (qR hm hu h.2 t)
theorem nK (hm:bO Hf a ls)(hu:ly ls u):∀ {v:List (Key×V)} {d:List (Key×Dt)},x3 a d=true->cB K Hf v d->cB K (upd Hf a u) v d
 | _,_,_,.nil=>.nil
 | _,(k,d)::ds,h,.cons r t=>by
   rw[x3,Bool.and_eq_true] at h
   exact .cons (gZ hm hu h.1 r) (nK hm hu h.2 t)
theorem iU (hm:bO Hf a ls)(hu:ly ls u):∀ {v:List (Str×V)} {d:List (Str×Dt)},jM a d=true->aZ K Hf v d->aZ K (upd Hf a u) v d
 | _,_,_,.nil=>.nil
 | _,(k,d)::ds,h,.cons r t=>by
   rw[jM,Bool.and_eq_true] at h
   exact .cons (gZ hm hu h.1 r) (iU hm hu h.2 t)
end
noncomputable def iV (Hf H:Hp):Hp:=fun b=>match H b with
 | some (.kd tg o kvs)=>some (.kd tg o kvs)
 | some (.kx o u)=>some (.kx o u)
 | some (.tup xs)=>some (.tup xs)
 | _=>Hf b
theorem x4 {b:Addr}{u:HO}(h:H b=some u)(k:Kept u):iV Hf H b=some u:=by
 unfold iV;rw[h]
 cases u <;> first | rfl | exact(show False from k).elim
theorem C0 {b:Addr}{tg:Option (Addr×Nat)}{o:Obj}{kvs:List (Key×V)}(h:H b=some (.kd tg o kvs)):iV Hf H b=some (.kd tg o kvs):=by unfold iV;rw[h]
theorem nL (b:Addr):(∃ u,H b=some u/\Kept u/\iV Hf H b=some u)\/iV Hf H b=Hf b:=by
 unfold iV
 cases h:H b with
 | none=>exact .inr rfl
 | some u=>cases u <;> first | exact .inr rfl | exact .inl ⟨_,rfl,trivial,rfl⟩
theorem fC (s:aD Hf H):aD Hf (iV Hf H):=fun b u e=>by
 rcases nL (Hf:=Hf) (H:=H) b with⟨u',h1,_,h3⟩ | h
 . rw[s _ _ e] at h1;cases h1;exact h3
 . rw[h];exact e
theorem mZ (s:aD Hf H):aD (iV Hf H) H:=fun b u e=>by
 rcases nL (Hf:=Hf) (H:=H) b with⟨u',h1,_,h3⟩ | h
 . rw[h3] at e;cases e;exact h1
 . rw[h] at e;exact s _ _ e
theorem nM (s:aD Hf H):aP Hf H (iV Hf H) H:=⟨aD.refl _,fC s,mZ s,fun b u e=>by
 rcases nL (Hf:=Hf) (H:=H) b with⟨u',h1,h2,h3⟩ | h
 . rw[h3] at e;cases e;exact .inr (.inr h2)
 . rw[h] at e;exact .inl ⟨u,e⟩⟩
end
noncomputable def TY:FD->Dt
 | .int i=>.int i
 | .dZ kds=>.c9 (dI kds)
 | d=>.gW d
noncomputable def mL (fd:List (Key×FD)):List (Key×Dt):=fd.map fun kd=>(kd.1,TY kd.2)
theorem wO {K:W.Frag}{H:Hp}:∀ (kds:List (Key×Int)),cB K H (kds.map fun kd=>(kd.1,V.int kd.2)) (dI kds)
 | []=>.nil
 | (k,i)::r=>.cons (.int i) (wO r)
theorem GO {K:W.Frag}{H:Hp}:∀ {v:V} {d:FD},Fz H v d->Rep K H v (TY d)
 | _,_,.int i=>.int i
 | _,_,.dZ e=>.c9 e (wO _)
 | _,_,.lst e=>.gW (.lst e)
 | _,_,.tup e=>.gW (.tup e)
 | _,_,.obj e f=>.gW (.obj e f)
theorem sO {K:W.Frag}{H:Hp}:∀ {kvs:List (Key×V)} {fd:List (Key×FD)},qm H kvs fd->cB K H kvs (mL fd)
 | _,_,.nil=>.nil
 | _,_,.cons h t=>.cons (GO h) (sO t)
theorem L8 {K:W.Frag}{H:Hp}:∀ {v:V} {d:FD},Rep K H v (TY d)->Fz H v d
 | _,.int i,r=>by cases r;exact .int i
 | _,.lst ns,r=>by cases r with | gW h=>exact h
 | _,.tup K ns,r=>by cases r with | gW h=>exact h
 | _,.obj C fs,r=>by cases r with | gW h=>exact h
 | _,.dZ kds,r=>by
   cases r with
   | @c9 a tg ob kvs _ h r=>
     rw[J2 r] at h
     exact .dZ h
theorem oR {K:W.Frag}{H:Hp}:∀ {kvs:List (Key×V)} {fd:List (Key×FD)},cB K H kvs (mL fd)->qm H kvs fd
 | _,[],.nil=>.nil
 | _,(k,d)::fd,.cons h t=>.cons (L8 h) (oR t)
theorem Of {H H':Hp}(k:∀ b u,H b=some u->Kept u->H' b=some u){v:V}{d:FD}(h:Fz H v d):Fz H' v d:=h.st k
theorem fE {H H':Hp}(k:∀ b u,H b=some u->Kept u->H' b=some u):∀ {kvs:List (Key×V)} {kds:List (Key×FD)},qm H kvs kds->qm H' kvs kds
 | _,_,.nil=>.nil
 | _,_,.cons h t=>.cons (Of k h) (fE k t)
section
variable {X:Cx}{G:Gr}{dl:List Slot}{a b e i:Expr}{pos p:Pos}{ls:iK}{j n:Nat}{l:Addr}{f:Nat->List (Key×FD)}{ns:List Nat}
theorem J7:P2 X (fun x y H Q=>∃ (p:Addr) (k:Nat) (q:Addr) (o:Obj) (kvs:List (Key×V)),x=.ref p/\y=.int (k:Int)/\H q=some (.kd (some (p,k)) o kvs)/\k < 10000/\Q (.ref q) H):=by
 intro value slice pins s σ H x y v u Q I rx ry h hs
 obtain⟨p,k,q,o,kvs,rfl,rfl,hq,hk,kk⟩:=h
 cases rx
 obtain⟨t,rfl⟩:=ry
 obtain⟨_,_,hm⟩:=(show aK X.prog X.w H s.heap q (.kd (some (p,k)) o kvs) from I.bb q _ hq)
 obtain⟨_,aH,c,e1,e2⟩:=hm p k rfl
 have hn:=kU
 exact item_listR (items:=aH.toArray) ⟨_,e1,rfl,c,rfl⟩ (by omega) (by omega) (by rw[Int.toNat_natCast];simpa using e2) ⟨.ref q,H,I,rfl,kk⟩ hs
theorem BC {k:Nat}(hb:EE X G dl b (.memo l ls j n))(hi:EE X G dl i (.int (k:Int)))(hf:(ls.map (·.2))[j]?=some f)(hk:k < n)(hn:n<=1000)(hs:jK i:=by intro _ _;rfl):EE X G dl (.Subscript b i pos) (.c9 (mL (f k))):=
 fB (rG J7 hb hi hs) fun st H Q ⟨Hf,S,kk⟩=>⟨Hf,S,fun v au H1 g1 r1=>⟨au,S.grow g1,fun w bT H2 g2 r2=>by
   cases r2
   cases r1 with
   | @memo _ p _ _ _ f' h1 h2 h3 h4=>
     have e:f'=f:=by
       rw[List.getElem?_map,h1] at hf
       exact Option.some.inj hf
     subst e
     obtain⟨q,o,kvs,q1,q2⟩:=h4 k hk
     exact⟨p,k,q,o,kvs,rfl,rfl,g2.big _ _ (g1.sub _ _ q1),by omega,kk _ bT H2 (g1.trans g2) (.c9 (g2.aW _ _ q1) (sO (q2.kp (.of g2.aW))))⟩⟩⟩
theorem GP:P2 X (fun x y H Q=>∃ (a:Addr) (ls:iK) (ns:List Nat) (j:Nat) (p:Addr) (f:Nat->List (Key×FD)) (N:Nat),x=.ref p/\y=.int (-1)/\H a=some (.bw ls ns)/\ls[j]?=some (p,f)/\ns[j]?=some N/\0 < N/\∀ q o kvs,H q=some (.kd (some (p,N - 1)) o kvs)->qm H kvs (f (N - 1))->Q (.ref q) H):=by
 intro value slice pins s σ H x y v u Q I rx ry h hs
 obtain⟨a,ls,ns,j,p,f,N,rfl,rfl,ha,hj,hN,h0,kk⟩:=h
 cases rx
 obtain⟨t,rfl⟩:=ry
 obtain⟨_,_,_,_,_,h5,h6⟩:=(show aK X.prog X.w H s.heap a (.bw ls ns) from I.bb a _ ha)
 obtain⟨aH,c,e1,e2,e3⟩:=h6 j p f N hj hN
 obtain⟨q,o,kvs,q1,q2,q3⟩:=e3 (N - 1) (by omega)
 have hn:=kU
 have ZJ:=h5 N (List.mem_of_getElem? hN)
 have hl:Heap.IsList s.heap p aH.toArray:=⟨_,e1,rfl,c,rfl⟩
 exact subscriptTail_builtinR (x:=.ref q) hl.typeIs slot_list_getitem.lookup
     (wpAny_getItem_list_neg (Q:=fun r s'=>r=.ref q/\EP X pins σ Q r s') hl (by omega) (by rw[List.size_toArray] <;> omega) (by omega) (by rw[List.size_toArray,e2,show((-1:Int)+(N:Nat)).toNat=N - 1 by omega];simpa using q1) ⟨rfl,.ref q,H,I,rfl,kk q o kvs q2 q3⟩) hs
theorem z9 {N:Nat}(hx:G.Hf l=some (.bw ls ns))(hb:EE X G dl b (.dq l ls j n))(hi:EE X G dl i (.int (-1)))(hf:(ls.map (·.2))[j]?=some f)(hN:ns[j]?=some N)(h0:0 < N)(hs:jK i:=by intro _ _;rfl):EE X G dl (.Subscript b i pos) (.c9 (mL (f (N - 1)))):=
 fB (rG GP hb hi hs) fun st H Q ⟨Hf,S,kk⟩=>⟨Hf,S,fun v au H1 g1 r1=>⟨au,S.grow g1,fun w bT H2 g2 r2=>by
   cases r2
   cases r1 with
   | @dq _ p _ _ _ f' h1 h2 h3 h4=>
     have e:f'=f:=by
       rw[List.getElem?_map,h1] at hf
       exact Option.some.inj hf
     subst e
     have g:=g1.trans g2
     refine⟨l,ls,ns,j,p,f',N,rfl,rfl,g.sub _ _ (g.aW _ _ (S.gr.aW _ _ hx)),h1,hN,h0,fun q o kvs q1 q2=>?_⟩
     have ga:=nM g2.sub
     exact kk _ _ H2 (g.trans ga) (.c9 (C0 q1) (sO (fE (fun b u e kq=>x4 e kq) q2)))⟩⟩
theorem Em:jE X (.builtin "len") (fun xs H Q=>∃ (a:Addr) (ls:iK) (ns:List Nat) (j:Nat) (p:Addr) (f:Nat->List (Key×FD)) (N:Nat),xs=[.ref p]/\H a=some (.bw ls ns)/\ls[j]?=some (p,f)/\ns[j]?=some N/\Q (.int (N:Nat)) H):=by
 intro pins s σ H xs us Q I r h
 obtain⟨a,ls,ns,j,p,f,N,rfl,ha,hj,hN,q⟩:=h
 obtain⟨u,rfl,rx⟩:=vals1 r
 cases rx
 obtain⟨_,_,_,_,_,h5,h6⟩:=(show aK X.prog X.w H s.heap a (.bw ls ns) from I.bb a _ ha)
 obtain⟨aH,c,e1,e2,e3⟩:=h6 j p f N hj hN
 have hn:=kU
 have ZJ:=h5 N (List.mem_of_getElem? hN)
 have hl:Heap.IsList s.heap p aH.toArray:=⟨_,e1,rfl,c,rfl⟩
 exact Calls.call_len_list hl (by simp only[List.size_toArray] <;> omega) ⟨.int (N:Nat),H,I.tok _,⟨s.toks+1,by rw[List.size_toArray,e2]⟩,q⟩
theorem C1 {N:Nat}(hm:X.mg "len"=none)(hx:G.Hf l=some (.bw ls ns))(hb:EE X G dl b (.dq l ls j n))(hN:ns[j]?=some N)(hg:Gl X "len":=by rfl)(he:starEach [b] X.env=[(false,eval b X.env)]:=by rfl):EE X G dl (.Call (.Name "len" p) [b] [] pos) (.int (N:Nat)):=
 fB (fm Em hg hm PySem.boot_len (ae hb ai he) (he:=he)) fun st H Q ⟨Hf,S,kk⟩=>⟨Hf,S,fun vs au H1 g1 r1=>by
   cases r1 with
   | cons r t=>cases t;cases r with
     | @dq _ p _ _ _ f' h1 h2 h3 h4=>exact⟨l,ls,ns,j,p,f',N,rfl,g1.sub _ _ (g1.aW _ _ (S.gr.aW _ _ hx)),h1,hN,kk _ au H1 g1 (.int _)⟩⟩
theorem lz {d:Dt}{k:Str}{kds:List (Key×Dt)}(hu:X.A.units+1 < cLine)(ho:EE X G dl b (.c9 kds))(hi:EE X G dl i (.str k))(h:kZ kds (.inr k)=some d)(hs:JA i):EE X G dl (.Subscript b i pos) d:=
 fB (Cw hu ho hi hs) fun st H Q ⟨Hf,S,kk⟩=>⟨Hf,S,fun v au H1 g1 r1=>⟨au,S.grow g1,fun w bT H2 g2 r2=>by
   cases r2
   cases r1 with
   | @c9 q tg ob kvs _ hq rp=>
     obtain⟨y,z1,z2⟩:=rp.val h
     have e:rR H2 q (kV (.inr k)) (mU kvs (.inr k)):=.inl ⟨kvs,.inr k,.inr (.inr (.inl ⟨tg,ob,kvs,g2.big _ _ (g1.sub _ _ hq),rfl⟩)),rfl,rfl⟩
     rw[z1] at e
     exact⟨q,y,rfl,e,kk y bT H2 (g1.trans g2) (z2.mono g2.aW)⟩⟩⟩
theorem L9 {kds:List (Key×Dt)}(h:EO X G dl e (.dZ kds)):EE X G dl e (.c9 kds):=by
 intro pins s st H Q I ⟨Hf,S,kk⟩
 refine bQ (h pins s st H (fun v H'=>∃ p aF,v=.ref p/\aP Hf H aF H'/\H p=none/\aF p=none/\gd X.K aF H' p (.dZ kds)) I ⟨Hf,S,fun p aF H' g n n' r=>⟨p,aF,rfl,g,n,n',r⟩⟩) fun u s1 ⟨v,H',I1,rv,q,aF,ev,g,n,n',kvs,hq,rp⟩=>?_
 subst ev
 obtain⟨hz,lo,vs,kv,ob,es,ep,ho,hr⟩:=(show aK X.prog X.w H' s1.heap q (.dK kvs) from I1.bb q _ hq)
 have I2:L2.Inv X pins st (upd H' q (.kd none ob kvs)) s1:=lV (h':=s1.heap) (t':=s1.toks) I1 (by rw[hq];trivial) ⟨rfl,fun _ _=>rfl⟩ ⟨ob,ho⟩ ⟨ho,⟨hz,lo,vs,kv,ob,es,ep,ho,hr⟩,fun p i z=>by cases z⟩
 have sm:aD aF (upd aF q (.kd none ob kvs)):=a5 n'
 refine⟨.ref q,_,I2,rv,kk _ (upd aF q (.kd none ob kvs)) _ ⟨fun b o hb=>?_,g.aW.trans sm,cH g.sub,fun b o hb=>?_⟩ (.c9 aj (rp.mono sm))⟩
 . rw[ag (aw hb n)];exact g.big _ _ hb
 . by_cases e:b=q
   . subst e;exact .inr (.inl n)
   . rw[ag e] at hb;exact g.new b o hb
theorem BD:P4 X "dict.values" (fun x xs H Q=>∃ (d:Addr) (kvs:List (Key×V)),x=.ref d/\xs=[]/\Rd H d (.dK kvs)/\∀ l,H l=none->Q (.ref l) (upd H l (.ext fun h=>h.IsValuesView l d))):=by
 intro pins s σ H x xs v us Q I rx rv ⟨d,kvs,e1,e2,hq,q⟩
 subst e1 e2
 cases rx
 cases rv
 obtain⟨hz,lo,vs,kv,hD⟩:=rJ I.bb hq
 refine call_meetsIn PySem.F.slot_dict_values hD.typeIs PySem.F.entry_dict_values (PySem.F.args_dict_values_1 _) (meets_dict_values (cA X.prog X.w) d lo) ⟨⟨vs,hD⟩,?_⟩
 refine⟨.ref s.heap.objs.size,_,I.laid (a:=s.heap.objs.size) (t':=s.toks) (o:=.ext fun h=>h.IsValuesView s.heap.objs.size d) (fun b o e=>Heap.get?_push_of_some _ e) (Nat.le_refl _) ?_,rfl,q _ (I.bb.fresh (Nat.le_refl _))⟩
 exact⟨⟨_,Heap.get?_push_size _ rfl,rfl,rfl⟩,⟨_,Heap.get?_push_size _ rfl⟩,fun h1 h2 ⟨ox,z1,z2⟩ kk=>⟨ox,kk _ z1,z2⟩⟩
theorem GQ:∀ {kds:List (Key×Int)} {vs:List (Key×Value)} {i:Nat} {k:Key} {v:Value},KV (kds.map fun kd=>(kd.1,V.int kd.2)) vs->vs[i]?=some (k,v)->∃ t,v=.int ((kds.map (·.2)).getD i 0) t
 | [],_,_,_,_,.nil,e=>by simp at e
 | (k0,z)::kds,_,0,_,_,.cons r _,e=>by
   simp at e
   subst e
   obtain⟨_,t,q⟩:=r
   exact⟨t,q⟩
 | (k0,z)::kds,_,i+1,_,_,.cons _ t,e=>by
   obtain⟨t',q⟩:=GQ (i:=i) t (by simpa using e)
   exact⟨t',by simpa using q⟩
theorem En (hc:X.calm=true):jE X (.builtin "sum") (fun xs H Q=>∃ (v d:Addr) (φ:Heap->Prop) (kds:List (Key×Int)),xs=[.ref v]/\H v=some (.ext φ)/\(∀ h,φ h->h.IsValuesView v d)/\Rd H d (.dK (kds.map fun kd=>(kd.1,V.int kd.2)))/\Q (.int (kds.map (·.2)).sum) H):=by
 intro pins s σ H xs us Q I r h
 obtain⟨v,d,φ,kds,rfl,hv,hφ,hq,q⟩:=h
 obtain⟨u,rfl,rx⟩:=vals1 r
 cases rx
 obtain⟨hz,lo,vs,kv,o,es,ep,ho,hr⟩:=rJ I.bb hq
 have ZK:=hφ _ (I.bb v _ hv).1
 have hl:=Bx kv
 rw[List.length_map] at hl
 have hA:X.A.handled=none:=I.ok.hd hc
 refine call_sum_walkAnyS ?_
 have Ks:=PySem.W.kdl_values (prog:=X.prog) (w:=X.w) (knd:=cA X.prog X.w) (r:=v) (d:=d) (kvs:=vs) (ep:=ep)
 have bb:s.heap.IsValuesView v d/\s.heap.DictAt (cA X.prog X.w) d vs ep:=⟨ZK,o,es,ho,hr⟩
 obtain⟨oI,St,hit,W,st⟩:=Ks.iter X.A.in1 s hA bb
 refine hit _ _ ⟨s.heap.objs.size,_,_,_,vs.length,_,_,fun i=>(kds.map (·.2)).getD i 0,rfl,W.toS,st,fun b hb=>?_,fun i w ⟨k,hk⟩=>GQ kv hk,fun s' t' hm=>?_⟩
 . show b < (s.heap.push oI).objs.size
   rw[Heap.size_push]
   rcases List.mem_cons.mp hb with e | hb
   . rw[e];exact Nat.lt_succ_self _
   . rw[List.mem_singleton.mp hb];exact Nat.lt_succ_of_lt (Ks.there _ bb).2
 . have hk:∀ b o,s.heap.get? b=some o->s'.heap.get? b=some o:=fun b o e=>
     hm.heap b o (fun hI=>absurd (Heap.lt_size e) (by rw[List.mem_singleton.mp hI];exact Nat.lt_irrefl _)) (Heap.get?_push_of_some _ e)
   have es:preSum (fun i=>(kds.map (·.2)).getD i 0) vs.length=(kds.map (·.2)).sum:=by
     rw[qN _ _ (by rw[List.length_map];omega),List.take_of_length_le (by rw[List.length_map];omega)]
   rw[es,Moved.eq_with hm]
   exact⟨.int _,H,I.kept (t':=s'.toks) hk,⟨t',rfl⟩,q⟩
noncomputable def intsOf (d:Dt)(kds:List (Key×Int)):Prop:=d=.c9 (dI kds)\/d=.dZ (dI kds)
theorem J8 {kds:List (Key×Int)}{d:Dt}{apos b6:Pos}(hm:X.mg "sum"=none)(hc:X.calm=true)(ha:EE X G dl a d)(hd:intsOf d kds)(hg:Gl X "sum":=by rfl)(kl:attributeBase a "values" X.env (eval a X.env)=eval a X.env:=by rfl)(km:(apos.endLine == b6.line)=true:=by rfl)(he:starEach [.Call (.Attribute a "values" apos) [] [] b6] X.env=[(false,eval (.Call (.Attribute a "values" apos) [] [] b6) X.env)]:=by rfl):EE X G dl (.Call (.Name "sum" p) [.Call (.Attribute a "values" apos) [] [] b6] [] pos) (.int (kds.map (·.2)).sum):=
 fB (fm (En hc) hg hm boot_sum (d7 (Nl PySem.F.plainAttrs_dict PySem.F.slot_dict_values PySem.F.type_dict_values BD ha kl km) lS he) (he:=he)) fun st H Q ⟨Hf,S,k⟩=>⟨Hf,S,fun v au H1 g1 r1=>by
   have key:∃ q,v=.ref q/\Rd H1 q (.dK (kds.map fun kd=>(kd.1,V.int kd.2)))/\Ts X.K "dict" v H1:=by
     rcases hd with rfl | rfl
     . cases r1 with
       | @c9 q tg ob kvs _ hq rp=>
         rw[J2 rp] at hq
         exact⟨q,rfl,.inr (.inr (.inl ⟨tg,ob,_,g1.sub _ _ hq,rfl⟩)),.inr (.inr (.inl ⟨rfl,.inr (.inr ⟨tg,ob,_,g1.sub _ _ hq⟩)⟩))⟩
     . cases r1 with
       | @dZ q kvs _ hq rp=>
         rw[J2 rp] at hq
         exact⟨q,rfl,.inl (g1.sub _ _ hq),.inr (.inr (.inl ⟨rfl,.inl ⟨_,g1.sub _ _ hq⟩⟩))⟩
   obtain⟨q,rfl,hq,ty⟩:=key
   refine⟨ty,q,_,rfl,rfl,hq,fun v hv=>⟨v,q,_,kds,rfl,aj,fun h x=>x,?_,k _ au _ (g1.trans (.dH g1.sub hv)) (.int _)⟩⟩
   exact dt (a5 hv) hq⟩
variable {pins:List (Addr×Obj)}{σ:L2.St}{H:Hp}{s:Shared}
theorem Inv.flip {u:HO}(I:L2.Inv X pins σ H s)(hm:bO H l ls)(hu:ly ls u)(new:aK X.prog X.w (upd H l u) s.heap l u):L2.Inv X pins σ (upd H l u) s:=by
 refine I.un (h':=s.heap) (t':=s.toks) ⟨fun b o e _ _ _=>e,fun b o e _ _ _=>⟨o.slots,e⟩,fun b o e n _=>?_,fun b o e _=>⟨o,e⟩,fun b xs e=>a0 hm e rfl,fun b o u e=>a0 hm e rfl,fun b ps e=>⟨#[],by rw[a0 hm e rfl];simp⟩⟩ fun b o e=>?_
 . rw[ag (fun z=>by obtain⟨o',h1,_⟩:=hm.XD;rw[z,h1] at n;cases n)];exact n
 . by_cases eb:b=l
   . subst eb;rw[aj] at e;cases e;exact new
   . rw[ag eb] at e
     exact(I.bb b o e).xj (fun _ _ _ q=>q) (fun c q=>a0 hm q rfl) (fun c xs q=>a0 hm q rfl) (pO hm hu.mk)
theorem Inv.exact(I:L2.Inv X pins σ H s)(hm:H l=some (.memo ls)):∃ n,0 < n/\n<=10000/\L2.Inv X pins σ (upd H l (.bw ls (List.replicate ls.length n))) s:=by
 obtain⟨ho,n,hn,q⟩:=(show aK X.prog X.w H s.heap l (.memo ls) from I.bb l _ hm)
 have hl:0 < ls.length:=by
   obtain⟨⟨f,hf⟩,_⟩:=q
   exact(List.getElem?_eq_some_iff.mp hf).1
 have h5:n<=10000:=q.2.2.2.2.1 n (by rw[List.mem_replicate];exact⟨by omega,rfl⟩)
 exact⟨n,hn,h5,Inv.flip I (.inl hm) (.inr ⟨_,rfl⟩) ⟨ho,q.kp (pO (.inl hm) rfl) fun _ _ _ e=>e⟩⟩
theorem Inv.pack {n:Nat}(I:L2.Inv X pins σ H s)(hm:H l=some (.bw ls (List.replicate ls.length n)))(hn:0 < n):L2.Inv X pins σ (upd H l (.memo ls)) s:=by
 obtain⟨ho,q⟩:=(show aK X.prog X.w H s.heap l (.bw ls _) from I.bb l _ hm)
 exact Inv.flip I (.inr ⟨_,hm⟩) (.inl rfl) ⟨ho,n,hn,q.kp (pO (.inr ⟨_,hm⟩) rfl) fun _ _ _ e=>e⟩
theorem oS:P4 X "list.append" (fun x vs H Q=>∃ (a:Addr) (ls:iK) (ns:List Nat) (j:Nat) (p:Addr) (f:Nat->List (Key×FD)) (N:Nat) (q:Addr) (kvs:List (Key×V)),x=.ref p/\vs=[.ref q]/\H a=some (.bw ls ns)/\ls[j]?=some (p,f)/\ns[j]?=some N/\N < 9000/\H q=some (.dK kvs)/\qm H kvs (f N)/\∀ o,Q .cF (upd (upd H a (.bw ls (ns.set j (N+1)))) q (.kd (some (p,N)) o kvs))):=by
 intro pins s σ H x vs v us Q I rx rv ⟨a,ls,ns,j,p,f,N,q,kvs,e1,e2,ha,hj,hN,hN9,hq,ZL,kk⟩
 subst e1 e2
 cases (show v=Value.ref p from rx)
 obtain⟨u,rfl,ru⟩:=vals1 rv
 cases (show u=Value.ref q from ru)
 obtain⟨⟨oa,ZM⟩,⟨f0,h1⟩,h2,h3,h4,h5,h6⟩:=(show aK X.prog X.w H s.heap a (.bw ls ns) from I.bb a _ ha)
 obtain⟨aH,c,e,hlen,hit⟩:=h6 j p f N hj hN
 obtain⟨hz,lo,vs,kv,oq,es,ep,ZN,hr⟩:=(show aK X.prog X.w H s.heap q (.dK kvs) from I.bb q _ hq)
 have Og:kT (H p):=by
   rcases h3 j p f hj with z | z
   . rw[z,ha];trivial
   . rw[z];trivial
 have ZO:p≠q:=fun z=>by rw[z,hq] at Og;exact Og
 have ZP:a≠q:=fun z=>by rw[z,hq] at ha;cases ha
 have Xm:=kU
 refine call_meets PySem.F.slot_list_append ⟨_,e,rfl⟩ PySem.F.entry_list_append (PySem.F.args_list_append_2 _ _) (PySem.list_append p aH.toArray c (.ref q) (by rw[List.size_toArray];exact Nat.le_trans (show aH.length<=10000 by omega) (by decide))) ⟨e,?_⟩
 have e':=PySem.IsL.update e (fun x=>x.push (Value.ref q))
 rw[show aH.toArray.push (Value.ref q)=(aH ++ [Value.ref q]).toArray by simp] at e'
 generalize ZQ:s.heap.update p (Obj.mapSeq fun x=>x.push (Value.ref q))=h' at e'
 have BE:∀ b o,b≠p->s.heap.get? b=some o->h'.get? b=some o:=fun b o hb z=>by rw[<- ZQ];exact(Heap.get?_update_other s.heap _ (Ne.symm hb)).trans z
 let H':Hp:=upd (upd H a (.bw ls (ns.set j (N+1)))) q (.kd (some (p,N)) oq kvs)
 have rX:∀ b o,H b=some o->b≠a->b≠q->H' b=some o:=fun b o z n1 n2=>by show(upd (upd H a _) q _) b=_;rw[ag n2,ag n1];exact z
 have nk:∀ b o,H b=some o->mk o=false->b≠a:=fun b o z n z'=>by rw[z',ha] at z;cases z;cases n
 have nq:∀ b o,H b=some o->(∀ x,o≠.dK x)->b≠q:=fun b o z n z'=>by rw[z',hq] at z;exact n _ (Option.some.inj z).symm
 have kp:Kp H H':=⟨fun b o z kq=>rX b _ z (nk b _ z (by cases o <;> first | rfl | exact(show False from kq).elim)) (nq b _ z fun x y=>by subst y;exact kq),fun b z=>by
   by_cases ba:b=a
   . rw[ba];show kT ((upd (upd H a _) q _) a);rw[ag ZP,aj];trivial
   . have bq:b≠q:=fun z'=>by rw[z',hq] at z;exact z
     show kT ((upd (upd H a _) q _) b);rw[ag bq,ag ba];exact z,fun b x z=>rX b _ z (nk b _ z rfl) (nq b _ z fun x y=>by cases y)⟩
 have hl:∀ p' i c',kT (H p')->Qm s.heap p' i c'->Qm h' p' i c':=fun p' i c' _ ⟨its',n',z1,z2⟩=>by
   by_cases pp:p'=p
   . subst pp
     rw[e] at z1
     have z3:its'=aH:=by
       have:=congrArg (fun o:Option Obj=>o.map (·.data)) z1
       simp at this
       exact this.1.symm
     subst z3
     exact⟨_,_,e',by rw[List.getElem?_append_left (List.getElem?_eq_some_iff.mp z2).1];exact z2⟩
   . exact⟨its',n',BE _ _ pp z1,z2⟩
 have J1:Qm h' p N q:=⟨_,_,e',by rw[List.getElem?_append_right (by omega),hlen,Nat.sub_self];rfl⟩
 have ZR:qm H' kvs (f N):=ZL.kp kp
 have XE:h'.get? q=some oq:=BE _ _ (Ne.symm ZO) ZN
 have RZ:∀ b,H b=none->H' b=none:=fun b n=>by
   have n1:b≠a:=fun z=>by rw[z,ha] at n;cases n
   have n2:b≠q:=fun z=>by rw[z,hq] at n;cases n
   show(upd (upd H a _) q _) b=none
   rw[ag n2,ag n1];exact n
 have XG:∀ b,H b=none->b≠p:=fun b n z=>by rw[<- z,n] at Og;exact Og
 have XH:∀ b o,s.heap.get? b=some o->∃ o',h'.get? b=some o':=fun b o z=>by
   by_cases bp:b=p
   . rw[bp];exact⟨_,e'⟩
   . exact⟨o,BE _ _ bp z⟩
 refine⟨.cF,H',I.un (h':=h') (t':=s.toks) ⟨fun b o z n _ _=>BE b o (XG b n) z,fun b o z n _ _=>⟨o.slots,BE b o (XG b n) z⟩,fun b o _ n _=>RZ b n,fun b o z _=>XH b o z,fun b xs z=>rX b _ z (nk b _ z rfl) (nq b _ z fun x y=>by cases y),
   fun b o u z=>rX b _ z (nk b _ z rfl) (nq b _ z fun x y=>by cases y),fun b ps z=>⟨#[],by rw[rX b _ z (nk b _ z rfl) (nq b _ z fun x y=>by cases y)];simp⟩⟩ fun b u z=>?_,rfl,kk oq⟩
 by_cases bq:b=q
 . subst bq
   have z:(upd (upd H a _) b _) b=some u:=z
   rw[aj] at z;cases z
   refine⟨XE,⟨hz,lo,vs,kv,oq,es,ep,XE,hr⟩,fun p' i ht=>?_⟩
   cases ht
   exact⟨kp.mem _ Og,J1⟩
 . by_cases ba:b=a
   . subst ba
     have z:(upd (upd H b _) q _) b=some u:=z
     rw[ag bq,aj] at z;cases z
     refine⟨XH _ _ ZM,⟨f0,h1⟩,by rw[List.length_set];exact h2,fun j' p' f' z=>(h3 j' p' f' z).imp id fun z=>kp.part _ _ z,h4,fun n hn=>?_,fun j' p' f' n z1 z2=>?_⟩
     . obtain⟨i,hi,ei⟩:=List.mem_iff_getElem.mp hn
       rw[List.getElem_set] at ei
       split at ei
       . omega
       . rw[<- ei];exact h5 _ (List.getElem_mem _)
     . by_cases jj:j=j'
       . subst jj
         rw[hj] at z1;cases z1
         have ZT:j < ns.length:=(List.getElem?_eq_some_iff.mp hN).1
         rw[List.getElem?_set_self ZT] at z2;cases z2
         refine⟨_,_,e',by rw[List.length_append,hlen];rfl,fun i hi=>?_⟩
         by_cases ZU:i < N
         . obtain⟨q',o',ZV,w1,w2,w3⟩:=hit i ZU
           exact⟨q',o',ZV,by rw[List.getElem?_append_left (by omega)];exact w1,kp.kd _ _ _ _ w2,w3.kp kp⟩
         . have:i=N:=by omega
           subst this
           exact⟨q,oq,kvs,by rw[List.getElem?_append_right (by omega),hlen,Nat.sub_self];rfl,aj,ZR⟩
       . rw[List.getElem?_set_ne jj] at z2
         have pp:p'≠p:=fun z=>by
           subst z
           obtain⟨i1,e1⟩:=List.getElem?_eq_some_iff.mp hj
           obtain⟨i2,e2⟩:=List.getElem?_eq_some_iff.mp z1
           have pw:=List.pairwise_iff_getElem.mp h4
           rcases Nat.lt_or_gt_of_ne jj with lt | lt
           . have:=pw j j' (by rw[List.length_map];exact i1) (by rw[List.length_map];exact i2) lt
             rw[List.getElem_map,List.getElem_map,e1,e2] at this
             exact this rfl
           . have:=pw j' j (by rw[List.length_map];exact i2) (by rw[List.length_map];exact i1) lt
             rw[List.getElem_map,List.getElem_map,e1,e2] at this
             exact this rfl
         exact(h6 j' p' f' n z1 z2).kp kp fun u z=>BE _ _ pp z
   . have z0:H b=some u:=by
       have z:(upd (upd H a _) q _) b=some u:=z
       rw[ag bq,ag ba] at z;exact z
     by_cases bp:b=p
     . subst bp
       rcases h3 j b f hj with z1 | z1
       . exact absurd z1 ba
       . rw[z1] at z0;cases z0
         exact⟨_,e'⟩
     . refine(I.bb b u z0).LC (fun c' v' A1 z'=>BE c' v' ?_ z') (fun c' z'=>rX c' _ z' (nk c' _ z' rfl) (nq c' _ z' fun x y=>by cases y)) (fun c' xs z'=>rX c' _ z' (nk c' _ z' rfl) (nq c' _ z' fun x y=>by cases y)) kp hl
       rcases A1 with rfl | z1 | z1
       . exact bp
       . exact fun z'=>by rw[z'] at z1;rw[z1] at Og;exact Og
       . intro z'
         rw[z'] at z1
         rcases h3 j p f hj with z2 | z2
         . rw[z2,ha] at z1;cases z1
         . rw[z2] at z1;cases z1;exact ba rfl
end
noncomputable def oh (fs:List (Str×Dt))(nm:List Str)(a:Addr)(ls:iK)(n:Nat):List (Str×Dt):=fs ++ (List.range nm.length).map fun j=>(nm.getD j "",.dq a ls j n)
section
variable {K:W.Frag}{Hf H:Hp}
theorem aZ.split:∀ {Qf Qg:List (Str×Dt)} {fv:List (Str×V)},aZ K H fv (Qf ++ Qg)->∃ f1 f2,fv=f1 ++ f2/\aZ K H f1 Qf/\aZ K H f2 Qg
 | [],_,fv,r=>⟨[],fv,rfl,.nil,r⟩
 | (k,d)::Qf,Qg,_,.cons h t=>by
   obtain⟨f1,f2,e,r1,r2⟩:=aZ.split t
   exact⟨(k,_)::f1,f2,by rw[e];rfl,.cons h r1,r2⟩
theorem aZ.join:∀ {Qf Qg:List (Str×Dt)} {f1 f2:List (Str×V)},aZ K H f1 Qf->aZ K H f2 Qg->aZ K H (f1 ++ f2) (Qf ++ Qg)
 | _,_,_,_,.nil,r=>r
 | _,_,_,_,.cons h t,r=>.cons h (aZ.join t r)
theorem nO {nm:Nat->Str}{d d':Nat->Dt}{H':Hp}(h:∀ j v,Rep K H v (d j)->Rep K H' v (d' j)):∀ {js:List Nat} {fv:List (Str×V)},aZ K H fv (js.map fun j=>(nm j,d j))->aZ K H' fv (js.map fun j=>(nm j,d' j))
 | [],_,.nil=>.nil
 | j::js,_,.cons r t=>.cons (h j _ r) (nO h t)
noncomputable def sP (H:Hp)(ls:iK)(n:Nat):Prop:=∀ (j:Nat) (p:Addr) (f:Nat->List (Key×FD)),ls[j]?=some (p,f)->Known H p f n
variable {fs:List (Str×Dt)}{nm:List Str}{l:Addr}{ls:iK}{n m:Nat}{fv:List (Str×V)}{u:HO}
theorem uJ (hn:0 < nm.length)(r:aZ K Hf fv (ql fs nm l ls n)):Hf l=some (.memo ls):=by
 obtain⟨f1,f2,_,_,r2⟩:=aZ.split r
 cases hk:nm.length with
 | zero=>omega
 | succ k=>
   rw[hk,List.range_succ_eq_map,List.map_cons] at r2
   cases r2 with
   | cons h t=>cases h with
     | memo _ h2 _ _=>exact h2
theorem R0 (hs:jM l fs=true)(hm:Hf l=some (.memo ls))(hu:ly ls u)(r:aZ K Hf fv (ql fs nm l ls n)):aZ K (upd Hf l u) fv (oh fs nm l ls n):=by
 obtain⟨f1,f2,e,r1,r2⟩:=aZ.split r
 subst e
 refine aZ.join (iU (.inl hm) hu hs r1) (nO (fun j v q=>?_) r2)
 cases q with
 | memo h1 h2 h3 h4=>exact gZ (.inl hm) hu rfl (.dq h1 (.inl h2) h3 h4)
theorem Ma (hs:jM l fs=true)(hm:bO Hf l ls)(r:aZ K Hf fv (oh fs nm l ls n)):aZ K (upd Hf l (.memo ls)) fv (ql fs nm l ls n):=by
 obtain⟨f1,f2,e,r1,r2⟩:=aZ.split r
 subst e
 refine aZ.join (iU hm (.inl rfl) hs r1) (nO (fun j v q=>?_) r2)
 cases q with
 | dq h1 h2 h3 h4=>exact .memo h1 aj (h3.imp id fun z=>a0 hm z rfl) (lZ hm (.inl rfl) h4)
theorem GR (hk:sP Hf ls m)(r:aZ K Hf fv (ql fs nm l ls n)):aZ K Hf fv (ql fs nm l ls m):=by
 obtain⟨f1,f2,e,r1,r2⟩:=aZ.split r
 subst e
 refine aZ.join r1 (nO (fun j v q=>?_) r2)
 cases q with
 | memo h1 h2 h3 h4=>exact .memo h1 h2 h3 (hk _ _ _ h1)
theorem J9 (hl:ls.length<=nm.length)(r:aZ K Hf fv (ql fs nm l ls n)):sP Hf ls n:=fun j p f e=>by
 obtain⟨f1,f2,_,_,r2⟩:=aZ.split r
 have hj:j < nm.length:=Nat.lt_of_lt_of_le (List.getElem?_eq_some_iff.mp e).1 hl
 have key:∀ {js:List Nat} {fv:List (Str×V)},aZ K Hf fv (js.map fun j=>(nm.getD j "",Dt.memo l ls j n))->j∈js->Known Hf p f n:=by
   intro js
   induction js with
   | nil=>intro fv _ h;cases h
   | cons i js ih=>
     intro fv r h
     cases r with
     | cons q t=>
       rcases List.mem_cons.mp h with z | z
       . subst z
         cases q with
         | memo h1 h2 h3 h4=>rw[e] at h1;cases h1;exact h4
       . exact ih t z
 exact key r2 (List.mem_range.mpr hj)
theorem Oh {A B bT H2:Hp}(hA:A l=some (.memo ls))(hB:B l=some (.memo ls))(g:aP (upd A l u) (upd B l u) bT H2):aP A B (upd bT l (.memo ls)) (upd H2 l (.memo ls)):=by
 refine⟨fun b o e=>?_,fun b o e=>?_,cH g.sub,fun b o e=>?_⟩
 . by_cases hb:b=l
   . subst hb;rw[hB] at e;cases e;exact aj
   . rw[ag hb];exact g.big _ _ (by rw[ag hb];exact e)
 . by_cases hb:b=l
   . subst hb;rw[hA] at e;cases e;exact aj
   . rw[ag hb];exact g.aW _ _ (by rw[ag hb];exact e)
 . by_cases hb:b=l
   . subst hb;exact .inl ⟨_,hA⟩
   . rw[ag hb] at e
     rcases g.new b o e with⟨o',z⟩ | z | z
     . rw[ag hb] at z;exact .inl ⟨o',z⟩
     . rw[ag hb] at z;exact .inr (.inl z)
     . exact .inr (.inr z)
variable {G G0:Gr}{st:L2.St}{dl:List Slot}
theorem cS.rebase (S:cS K G0 st Hf H dl)(no:noOwn dl=true)(g:aP G.Hf G.H G0.Hf G0.H):cS K G st Hf H dl:=⟨g.trans S.gr,S.len,S.val,fun i o h=>absurd h (aU no i o),fun i j o o' a h=>absurd h (aU no i o)⟩
noncomputable def pP (a:Addr):List Slot->Bool
 | []=>true
 | .bV::r=>pP a r
 | .val d::r=>qQ a d && pP a r
 | .own _::_=>false
theorem lC {l:Addr}:∀ {tl:List Slot} {i:Nat} {d:Dt},pP l tl=true->tl[i]?=some (.val d)->qQ l d=true
 | [],_,_,_,e=>by simp at e
 | .bV::r,0,_,_,e=>by simp at e
 | .bV::r,i+1,_,h,e=>lC (tl:=r) (i:=i) h (by simpa using e)
 | .val d::r,0,_,h,e=>by
   rw[pP,Bool.and_eq_true] at h
   simp at e
   subst e
   exact h.1
 | .val d::r,i+1,_,h,e=>by
   rw[pP,Bool.and_eq_true] at h
   exact lC (tl:=r) (i:=i) h.2 (by simpa using e)
theorem gh {l:Addr}:∀ {tl:List Slot},pP l tl=true->noOwn tl=true
 | [],_=>rfl
 | .bV::r,h=>gh (tl:=r) h
 | .val d::r,h=>by
   rw[pP,Bool.and_eq_true] at h
   exact gh (tl:=r) h.2
variable {C:Addr}{tl:List Slot}
noncomputable abbrev yZ (C:Addr)(fs:List (Str×Dt))(nm:List Str)(l:Addr)(ls:iK)(n:Nat)(tl:List Slot):List Slot:=.val (.obj C (ql fs nm l ls n))::tl
noncomputable abbrev VL (C:Addr)(fs:List (Str×Dt))(nm:List Str)(l:Addr)(ls:iK)(n:Nat)(tl:List Slot):List Slot:=.val (.obj C (oh fs nm l ls n))::tl
theorem cS.R1 {m:Nat}(S:cS K G st Hf H (yZ C fs nm l ls n tl))(kn:sP Hf ls m):cS K G st Hf H (yZ C fs nm l ls m tl):=by
 have own:∀ {i:Nat} {o:Own},(yZ C fs nm l ls m tl)[i]?=some (.own o)->(yZ C fs nm l ls n tl)[i]?=some (.own o):=fun {i o} h=>by
   cases i with
   | zero=>cases h
   | succ i=>exact h
 refine⟨S.gr,S.len,fun i d h=>?_,fun i o h=>S.own i o (own h),fun i j o o' a h1 h2=>S.D2 i j o o' a (own h1) (own h2)⟩
 cases i with
 | zero=>
   cases h
   obtain⟨v,hv,rv⟩:=S.val 0 _ rfl
   cases rv with
   | obj q r=>exact⟨_,hv,.obj q (GR kn r)⟩
 | succ i=>exact S.val (i+1) d h
noncomputable def R3 (G0:Gr)(l:Addr)(u:HO):Gr:=⟨upd G0.Hf l u,upd G0.H l u⟩
theorem cS.VM (S:cS K G st Hf H (yZ C fs nm l ls n tl))(hs:jM l fs=true)(ht:pP l tl=true)(hn:0 < nm.length)(hu:ly ls u):Hf l=some (.memo ls)/\cS K (R3 ⟨iV Hf H,H⟩ l u) st (upd (iV Hf H) l u) (upd H l u) (VL C fs nm l ls n tl):=by
 obtain⟨v,hv,rv⟩:=S.val 0 _ rfl
 have sm:=fC S.sub
 cases rv with
 | @obj a _ dx fv _ q r=>
   have hm:=uJ hn r
   have VN:iV Hf H l=some (.memo ls):=sm _ _ hm
   refine⟨hm,⟨.refl (cH (mZ S.sub)),S.len,fun i d h=>?_,fun i o h=>?_,fun i j o o' a h=>?_⟩⟩
   . cases i with
     | zero=>
       cases h
       exact⟨_,hv,.obj (GL (.inl VN) (dt sm q)) (R0 hs VN hu (r.mono sm))⟩
     | succ i=>
       have h:tl[i]?=some (.val d):=h
       obtain⟨w,w1,w2⟩:=S.val (i+1) d h
       exact⟨w,w1,gZ (.inl VN) hu (lC ht h) (w2.mono sm)⟩
   . cases i with
     | zero=>cases h
     | succ i=>exact absurd h (aU (gh ht) i o)
   . cases i with
     | zero=>cases h
     | succ i=>exact absurd h (aU (gh ht) i o)
end
section
variable {X:Cx}{G:Gr}{E:XK}{dl:List Slot}{c e:Expr}{body:List Stmt}{pos p:Pos}{fs:List (Str×Dt)}{nm:List Str}{l C:Addr}{ls:iK}{n m age:Nat}{tl:List Slot}
noncomputable def Oi (X:Cx)(c:Expr):TT:=fun st H Q=>∃ G dl b,EB X G dl c b/\Tw X.K G dl b st H Q
theorem GS:PT X c (Oi X c):=fun pins s st H Q I ⟨G,dl,b,h,q⟩=>h pins s st H Q I q
noncomputable def Oj (X:Cx)(E:XK)(body:List Stmt):TS:=fun D st H=>∃ G pre o,lu X G E pre body o/\tO X.K G E pre o D st H
theorem Eo {body:List Stmt}:tW X body (Oj X E body):=fun pins s st H D J ⟨G,pre,o,h,q⟩=>h pins s st H D J q
noncomputable def RM (K:W.Frag)(G0:Gr)(C:Addr)(fs:List (Str×Dt))(nm:List Str)(l:Addr)(ls:iK)(n:Nat)(tl:List Slot)(M:Nat):L2.St->Hp->Prop:=fun st H=>H l=some (.bw ls (List.replicate ls.length M))/\∃ Hf,cS K G0 st Hf (upd H l (.memo ls)) (yZ C fs nm l ls n tl)
theorem wQ (hp:PassesOwn (model X.prog X.w) X.A X.env X.xe)(hs:jM l fs=true)(ht:pP l tl=true)(hn:0 < nm.length)(Aa:age < 9000)(hc:∀ (N:Nat) (G:Gr),G.Hf l=some (.bw ls (List.replicate ls.length N))->EB X G (VL C fs nm l ls n tl) c (decide (N<=age)))(hb:∀ N,0 < N->N<=age->∀ G0:Gr,G0.Hf l=some (.memo ls)->G0.H l=some (.memo ls)->lu X (R3 G0 l (.bw ls (List.replicate ls.length N))) E (VL C fs nm l ls n tl) body (.raw (RM X.K G0 C fs nm l ls n tl (N+1)))):ES X G E (yZ C fs nm l ls n tl) (.While c body [] pos) (.nx (yZ C fs nm l ls (age+1) tl)):=by
 intro pins s st H D I ⟨Hf,S,k⟩
 have no:noOwn (yZ C fs nm l ls n tl)=true:=show noOwn tl=true from gh ht
 have hm:Hf l=some (.memo ls):=(S.VM (u:=.memo ls) hs ht hn (.inl rfl)).1
 obtain⟨N0,h0,h1,IX⟩:=Inv.exact I (S.sub _ _ hm)
 let XX:Nat->HO:=fun N=>.bw ls (List.replicate ls.length N)
 have mu:∀ N,ly ls (XX N):=fun N=>.inr ⟨_,rfl⟩
 let W:Nat->L2.St->Hp->Prop:=fun m st H=>∃ N,m=age+1 - N/\0 < N/\H l=some (XX N)/\∃ au,aD Hf au/\cS X.K G st au (upd H l (.memo ls)) (yZ C fs nm l ls n tl)
 refine bQ (Fs (pos:=pos) hp (GS (X:=X) (c:=c)) (Eo (E:=E)) pins s st _ { D with nx:=fun jr H'=>∃ N,age < N/\H' l=some (XX N)/\∃ au,aD Hf au/\cS X.K G jr au (upd H' l (.memo ls)) (yZ C fs nm l ls n tl)} IX ?_) fun f s7 q7=>?_
 . refine⟨W,⟨_,N0,rfl,h0,aj,Hf,aD.refl _,by rw[sy,uH (S.sub _ _ hm)];exact S⟩,?_⟩
   rintro mm Vl H1 ⟨N,rfl,hN,J1,au,s1,S1⟩
   have eH:upd (upd H1 l (.memo ls)) l (XX N)=H1:=by rw[sy,uH J1]
   obtain⟨XI,SX⟩:=S1.VM (u:=XX N) hs ht hn (mu N)
   rw[eH] at SX
   have hA:iV au (upd H1 l (.memo ls)) l=some (.memo ls):=fC S1.sub _ _ XI
   refine⟨_,_,decide (N<=age),hc N (R3 ⟨iV au (upd H1 l (.memo ls)),upd H1 l (.memo ls)⟩ l (XX N)) aj,_,SX,fun bT H2 g2=>?_⟩
   have ZW:aP (upd (iV au (upd H1 l (.memo ls))) l (XX N)) (upd (upd H1 l (.memo ls)) l (XX N)) bT H2:=by rw[eH];exact g2
   have gp:=Oh (ls:=ls) hA aj ZW
   have gg:=(nM S1.sub).trans gp
   have S2:=S1.grow gg
   have P5:H2 l=some (XX N):=g2.big _ _ J1
   by_cases hle:N<=age
   . rw[decide_eq_true hle]
     have ZX:upd (upd H2 l (.memo ls)) l (XX N)=H2:=by rw[sy,uH P5]
     obtain⟨XJ,XM⟩:=S2.VM (u:=XX N) hs ht hn (mu N)
     rw[ZX] at XM
     have ZY:iV (upd bT l (.memo ls)) (upd H2 l (.memo ls)) l=some (.memo ls):=fC S2.sub _ _ XJ
     refine Bi ⟨fun jr H'=>H' l=some (XX (N+1))/\∃ au,aD Hf au/\cS X.K G jr au (upd H' l (.memo ls)) (yZ C fs nm l ls n tl),fun jr H' ⟨z1,z2⟩=>⟨age+1 - (N+1),by omega,N+1,rfl,by omega,z1,z2⟩,?_⟩
     refine⟨_,_,_,hb N hN hle ⟨iV (upd bT l (.memo ls)) (upd H2 l (.memo ls)),upd H2 l (.memo ls)⟩ ZY aj,_,XM,fun jr H' ⟨z1,aF,z2⟩=>⟨z1,aF,?_,?_⟩⟩
     . exact((s1.trans gg.aW).trans (fC S2.sub)).trans z2.gr.aW
     . exact z2.rebase no (S2.gr.trans (nM S2.sub))
   . rw[decide_eq_false hle]
     exact zF ⟨N,by omega,P5,_,s1.trans gg.aW,S2⟩
 . cases f with
   | next=>
     obtain⟨σ7,H7,I7,N,hN,VO,R4,ZZ,S7⟩:=q7
     have I8:=Inv.pack I7 VO (by omega)
     refine⟨σ7,_,I8,?_⟩
     obtain⟨_,_,hlen,_,_,_,h6⟩:=(show aK X.prog X.w H7 s7.heap l (XX N) from I7.bb l _ VO)
     have kn:sP (iV R4 (upd H7 l (.memo ls))) ls (age+1):=fun j p f e i hi=>by
       have hj:j < ls.length:=(List.getElem?_eq_some_iff.mp e).1
       obtain⟨aH,cc,e1,e2,e3⟩:=h6 j p f N e (by rw[List.getElem?_replicate,if_pos hj])
       obtain⟨q,o,kvs,q1,q2,q3⟩:=e3 i (by omega)
       have key:∀ b u,H7 b=some u->Kept u->iV R4 (upd H7 l (.memo ls)) b=some u:=fun b u z kq=>x4 (by rw[ag (fun zz=>by rw[zz,VO] at z;cases z;exact kq)];exact z) kq
       exact⟨q,o,kvs,key _ _ q2 trivial,fE key q3⟩
     have S8:=S7.grow (nM S7.sub)
     exact k σ7 _ _ (ZZ.trans (fC S7.sub)) (S8.R1 kn)
   | cont=>exact q7
   | brk=>exact q7
   | ret v=>exact q7
theorem uK (he:EE X G (yZ C fs nm l ls n tl) e (.vL l ls m))(hs:swapsWith e none pos.line X.env=pure false:=by rfl):ES X G E (yZ C fs nm l ls n tl) (.Expr e pos) (.nx (yZ C fs nm l ls m tl)):=
 wG (lQ he hs) fun D st H ⟨Hf,S,k⟩=>⟨Hf,S,fun v au H1 g1 r1=>by
   have S1:=S.grow g1
   cases r1 with
   | vL kn=>
     exact k st au H1 g1.aW (S1.R1 kn)⟩
theorem qS (hl:ls.length<=nm.length):Comes (.nx (yZ C fs nm l ls n tl)) (.ret (.vL l ls n)):=.kn fun K G st Hf H S=>by
 obtain⟨v,hv,rv⟩:=S.val 0 _ rfl
 cases rv with
 | obj q r=>exact .vL (J9 hl r)
theorem GU (i:Nat){o:Out}{sts:List Stmt}{gs:List (Nat->List (Key×FD))}(h:∀ l ls,ls.map (·.2)=gs->lu X G E (dl.set i (.val (.obj C (ql fs nm l ls n)))) sts o)(hd:dl[i]?=some (.val (.qz C fs gs nm n)):=by rfl):lu X G E dl sts o:=by
 intro pins s st H D I ⟨Hf,S,k⟩
 obtain⟨v,hv,rv⟩:=S.val i _ hd
 cases rv with
 | @qz s' a _ dx fv _ _ _ _ ls' e q r=>
   refine h a ls' e pins s st H D I ⟨Hf,⟨S.gr,by simp[S.len],fun j d hj=>?_,fun j o' hj=>?_,fun j m o1 o2 c q1 q2 q3 q4=>?_⟩,k⟩
   . by_cases ej:i=j
     . subst ej
       have hl:i < dl.length:=(List.getElem?_eq_some_iff.mp hd).1
       rw[List.getElem?_set_self hl] at hj;cases hj
       exact⟨_,hv,.obj q r⟩
     . rw[List.getElem?_set_ne ej] at hj;exact S.val j d hj
   . have ej:i≠j:=fun z=>by
       subst z
       rw[List.getElem?_set_self (List.getElem?_eq_some_iff.mp hd).1] at hj;cases hj
     rw[List.getElem?_set_ne ej] at hj;exact S.own j o' hj
   . have ne:∀ {j:Nat} {o':Own},(dl.set i (.val (.obj C (ql fs nm a ls' n))))[j]?=some (.own o')->dl[j]?=some (.own o'):=fun {j o'} hj=>by
       have ej:i≠j:=fun z=>by
         subst z
         rw[List.getElem?_set_self (List.getElem?_eq_some_iff.mp hd).1] at hj;cases hj
       rw[List.getElem?_set_ne ej] at hj;exact hj
     exact S.D2 j m o1 o2 c (ne q1) (ne q2) q3 q4
end
theorem Ab {l:Addr}:∀ (a b:List (Str×Dt)),jM l (a ++ b)=(jM l a && jM l b)
 | [],b=>by rw[List.nil_append,jM];rfl
 | (k,d)::a,b=>by rw[List.cons_append,jM,jM,Ab a b,Bool.and_assoc]
theorem GV (nm:Nat->Str)(l:Addr)(ls:iK)(n:Nat):∀ js:List Nat,jM l (js.map fun j=>(nm j,Dt.dq l ls j n))=true
 | []=>rfl
 | j::js=>by rw[List.map_cons,jM,GV nm l ls n js];rfl
theorem wR {fs:List (Str×Dt)}{nm:List Str}{l:Addr}{ls:iK}{n:Nat}(h:jM l fs=true):jM l (oh fs nm l ls n)=true:=by
 unfold oh
 rw[Ab,h,GV];rfl
section
variable {X:Cx}{G0:Gr}{E:XK}{arg:Expr}{fs:List (Str×Dt)}{l C:Addr}{ls:iK}{n N:Nat}{tl:List Slot}{f g:Nat->List (Key×FD)}{n0 n1 x0 xg:Str}{p1 p2 p3 p4 p5 a1 a2 c1 c2 q1 q2:Pos}
theorem Ac (ng:Nat)(hs:jM l fs=true)(ht:pP l tl=true)(hu:tl[ng]?=some .bV)(sQ:ls.map (·.2)=[f,g])(hN:N < 9000)(cl:rP X.K C)(Ol:bB X.K C n0)(VP:bB X.K C n1)(hA:G0.Hf l=some (.memo ls))(hB:G0.H l=some (.memo ls))
   (VQ:∀ G2,EO X G2 (.val (.obj C (oh fs [n0,n1] l ls n))::tl.set ng (.val (.c9 (mL (f N))))) arg (.dZ (mL (g N))))
   (Qe:(oh fs [n0,n1] l ls n).lookup n0=some (.dq l ls 0 n):=by rfl) (J1:(oh fs [n0,n1] l ls n).lookup n1=some (.dq l ls 1 n):=by rfl)
   (Qd:X.N[0]?=some x0:=by rfl) (TZ:vH X.env.scope x0:=by first | exact Or.inl rfl | exact Or.inr (Or.inl rfl) | exact Or.inr (Or.inr rfl)) (T3:(x0 == ("__debug__":Str))=false:=by decide) (T4:(x0 == ("__classdict__":Str))=false:=by decide)
   (VR:X.N[ng+1]?=some xg:=by rfl) (VS:vH X.env.scope xg:=by first | exact Or.inl rfl | exact Or.inr (Or.inl rfl) | exact Or.inr (Or.inr rfl)) (VT:(xg == ("__debug__":Str))=false:=by decide) (VU:(xg == ("__classdict__":Str))=false:=by decide)
   (R5:attributeBase (.Name x0 p1) n0 X.env (eval (.Name x0 p1) X.env)=eval (.Name x0 p1) X.env:=by rfl) (VV:attributeBase (.Name x0 p4) n1 X.env (eval (.Name x0 p4) X.env)=eval (.Name x0 p4) X.env:=by rfl)
   (BF:attributeBase (.Attribute (.Name x0 p1) n0 p2) "append" X.env (eval (.Attribute (.Name x0 p1) n0 p2) X.env)=eval (.Attribute (.Name x0 p1) n0 p2) X.env:=by rfl)
   (Om:attributeBase (.Attribute (.Name x0 p4) n1 p5) "append" X.env (eval (.Attribute (.Name x0 p4) n1 p5) X.env)=eval (.Attribute (.Name x0 p4) n1 p5) X.env:=by rfl)
   (GW:((backTo c1 (starEach [.Name xg p3] X.env)).all (fun x=>!x.1) && (backToKw c1 (keywordEach [] X.env)).all (fun x=>x.1.isSome) && decide ([Expr.Name xg p3].length+([]:List Keyword).length+(if ([]:List Keyword).isEmpty then 0 else 1) < 30))=true:=by rfl)
   (R6:((backTo c2 (starEach [arg] X.env)).all (fun x=>!x.1) && (backToKw c2 (keywordEach [] X.env)).all (fun x=>x.1.isSome) && decide ([arg].length+([]:List Keyword).length+(if ([]:List Keyword).isEmpty then 0 else 1) < 30))=true:=by rfl)
   (BG:(a1.endLine == c1.line)=true:=by rfl) (Oo:(a2.endLine == c2.line)=true:=by rfl) (x5:starEach [.Name xg p3] X.env=(false,eval (.Name xg p3) X.env)::starEach [] X.env:=by rfl) (Ka:starEach [arg] X.env=(false,eval arg X.env)::starEach [] X.env:=by rfl)
   (FV:swapsWith (.Call (.Attribute (.Attribute (.Name x0 p1) n0 p2) "append" a1) [.Name xg p3] [] c1) none q1.line X.env=pure false:=by rfl) (A2:swapsWith (.Call (.Attribute (.Attribute (.Name x0 p4) n1 p5) "append" a2) [arg] [] c2) none q2.line X.env=pure false:=by rfl) :
   lu X (R3 G0 l (.bw ls (List.replicate ls.length N))) E (.val (.obj C (oh fs [n0,n1] l ls n))::tl.set ng (.own (.dZ (mL (f N)))))
     [.Expr (.Call (.Attribute (.Attribute (.Name x0 p1) n0 p2) "append" a1) [.Name xg p3] [] c1) q1,.Expr (.Call (.Attribute (.Attribute (.Name x0 p4) n1 p5) "append" a2) [arg] [] c2) q2] (.raw (RM X.K G0 C fs [n0,n1] l ls n tl (N+1))):=by
 have R7:PE X arg (fun st H Q=>∃ G2,TH X.K G2 (.val (.obj C (oh fs [n0,n1] l ls n))::tl.set ng (.val (.c9 (mL (f N))))) (.dZ (mL (g N))) st H Q):=fun pins s st H Q I ⟨G2,q⟩=>VQ G2 pins s st H Q I q
 refine rT (gb (lQ (t7 PySem.F.plainAttrs_list PySem.F.slot_list_append PySem.F.type_list_append oS (tY (iO (pos:=p1) Qd TZ T3 T4) R5) (d7 (iO (pos:=p3) VR VS VT VU) lS x5) BF GW BG x5 rfl) FV)
   (kL (lQ (t7 PySem.F.plainAttrs_list PySem.F.slot_list_append PySem.F.type_list_append oS (tY (iO (pos:=p4) Qd TZ T3 T4) VV) (d7 R7 lS Ka) Om R6 Oo Ka rfl) A2))) fun D st H ⟨Hf,S,k⟩=>?_
 have e2:ls.length=2:=by have:=congrArg List.length sQ;simpa using this
 have eR:∀ M:Nat,List.replicate ls.length M=[M,M]:=fun M=>by rw[e2];rfl
 rw[eR] at S
 have R8:ng < tl.length:=(List.getElem?_eq_some_iff.mp hu).1
 obtain⟨v0,hv,rv⟩:=S.val 0 _ rfl
 cases rv with
 | @obj sa _ dx fv _ Oq rf=>
   obtain⟨oa,BH,T5,_,back⟩:=Rd.ex Oq
   have Ot:Hf l=some (.bw ls [N,N]):=S.gr.aW _ _ aj
   have Mb:H l=some (.bw ls [N,N]):=S.sub _ _ Ot
   have hm:bO Hf l ls:=.inr ⟨_,Ot⟩
   obtain⟨y0,VW,VX⟩:=rf.lookup Qe
   obtain⟨y1,IY,Z0⟩:=rf.lookup J1
   obtain⟨qa,hq,R9,VY,kvs,Mc,rk⟩:=S.own (ng+1) (.dZ (mL (f N))) (by show(tl.set ng _)[ng]?=_;rw[List.getElem?_set_self R8])
   cases VX with
   | @dq _ p _ _ _ f0 Gy _ VZ _=>cases Z0 with
     | @dq _ pp _ _ _ f1 V0 _ Z1 _=>
       have V1:f0=f:=by
         have:=congrArg (fun z=>z[0]?) sQ
         simp only[List.getElem?_map,Gy] at this
         exact Option.some.inj this
       have Z2:f1=g:=by
         have:=congrArg (fun z=>z[1]?) sQ
         simp only[List.getElem?_map,V0] at this
         exact Option.some.inj this
       subst V1 Z2
       have T6:qm H kvs (f0 N):=fE (fun b u e _=>S.sub _ _ e) (oR rk)
       have V2:qa≠l:=fun z=>by rw[z,Mb] at Mc;cases Mc
       have Sa:sa≠l:=fun z=>by rw[z,Ot] at BH;cases BH;cases T5
       have XO:sa≠qa:=fun z=>by rw[z,R9] at BH;cases BH
       refine⟨_,hv,sa,C,dx,fv,_,rfl,back _ (S.sub _ _ BH),cl,Ol,VW,.inr (.inr (.inr (.inr ⟨rfl,l,ls,[N,N],0,f0,N,Mb,Gy,rfl⟩))),_,hq,l,ls,[N,N],0,p,f0,N,qa,kvs,rfl,rfl,Mb,Gy,rfl,hN,Mc,T6,fun oq=>?_⟩
       let H4:Hp:=upd (upd H l (.bw ls ([N,N].set 0 (N+1)))) qa (.kd (some (p,N)) oq kvs)
       let u4:HO:=.bw ls [N+1,N]
       have T7:H4 l=some u4:=by show(upd (upd H l _) qa _) l=_;rw[ag (Ne.symm V2),aj];rfl
       have XQ:H4 qa=some (.kd (some (p,N)) oq kvs):=aj
       have T8:∀ b o,H b=some o->b≠l->b≠qa->H4 b=some o:=fun b o e n1 n2=>by show(upd (upd H l _) qa _) b=_;rw[ag n2,ag n1];exact e
       have Z3:∀ b,H4 b=none->H b=none:=fun b e=>by
         have n1:b≠l:=fun z=>by rw[z,T7] at e;cases e
         have n2:b≠qa:=fun z=>by rw[z,XQ] at e;cases e
         have e:(upd (upd H l _) qa _) b=none:=e
         rw[ag n2,ag n1] at e;exact e
       have Z4:∀ b o,Hf b=some o->b≠qa:=fun b o e z=>by rw[z,R9] at e;cases e
       have x6:aD (upd Hf l u4) H4:=fun b o e=>by
         by_cases bl:b=l
         . rw[bl,aj] at e;cases e;rw[bl];exact T7
         . rw[ag bl] at e;exact T8 b o (S.sub _ _ e) bl (Z4 b o e)
       let E4:Hp:=iV (upd Hf l u4) H4
       have Sb:aD (upd Hf l u4) E4:=fC x6
       have T9:ly ls u4:=.inr ⟨_,rfl⟩
       have V3:∀ b u,H b=some u->Kept u->E4 b=some u:=fun b u e kq=>x4 (T8 b _ e (fun z=>by rw[z,Mb] at e;cases e;exact kq) (fun z=>by rw[z,Mc] at e;cases e;exact kq)) kq
       have S4:cS X.K ⟨E4,H4⟩ st E4 H4 (.val (.obj C (oh fs [n0,n1] l ls n))::tl.set ng (.val (.c9 (mL (f0 N))))):=by
         have no:∀ (i:Nat) o,(Slot.val (.obj C (oh fs [n0,n1] l ls n))::tl.set ng (.val (.c9 (mL (f0 N)))))[i]?≠some (.own o):=fun i o h=>by
           cases i with
           | zero=>cases h
           | succ i=>
             have h:(tl.set ng (.val (.c9 (mL (f0 N)))))[i]?=some (.own o):=h
             by_cases e:ng=i
             . subst e;rw[List.getElem?_set_self R8] at h;cases h
             . rw[List.getElem?_set_ne e] at h;exact aU (gh ht) i o h
         refine⟨.refl (mZ x6),by have:=S.len;simpa using this,fun i d h=>?_,fun i o h=>absurd h (no i o),fun i j o o' a h=>absurd h (no i o)⟩
         cases i with
         | zero=>
           cases h
           exact⟨_,hv,.obj (back _ (Sb _ _ (a0 hm BH T5))) ((iU hm T9 (wR hs) rf).mono Sb)⟩
         | succ i=>
           have h:(tl.set ng (.val (.c9 (mL (f0 N)))))[i]?=some (.val d):=h
           by_cases e:ng=i
           . subst e
             rw[List.getElem?_set_self R8] at h;cases h
             exact⟨_,hq,.c9 (C0 XQ) (sO (fE V3 T6))⟩
           . rw[List.getElem?_set_ne e] at h
             obtain⟨w,w1,w2⟩:=S.val (i+1) d (by show(tl.set ng _)[i]?=_;rw[List.getElem?_set_ne e];exact h)
             exact⟨w,w1,(gZ hm T9 (lC ht h) w2).mono Sb⟩
       refine⟨_,hv,sa,C,dx,fv,_,rfl,back _ (T8 _ _ (S.sub _ _ BH) Sa XO),cl,VP,IY,.inr (.inr (.inr (.inr ⟨rfl,l,ls,[N+1,N],1,f1,N,T7,V0,rfl⟩))),⟨E4,H4⟩,E4,S4,fun ra sM H5 g5 n5 Z5 ⟨Ou,LN,RI⟩=>?_⟩
       have XR:H5 l=some u4:=g5.big _ _ T7
       have Z6:ra≠l:=fun z=>by rw[z,XR] at LN;have LN:=Option.some.inj LN;have LN:HO.bw ls [N+1,N]=.dK Ou:=LN;cases LN
       refine⟨l,ls,[N+1,N],1,pp,f1,N,ra,Ou,rfl,rfl,XR,V0,rfl,hN,LN,fE (fun b u e _=>g5.sub _ _ e) (oR RI),fun or=>?_⟩
       let H6:Hp:=upd (upd H5 l (.bw ls ([N+1,N].set 1 (N+1)))) ra (.kd (some (pp,N)) or Ou)
       show D.nx st H6
       have V4:H6 l=some (.bw ls [N+1,N+1]):=by show(upd (upd H5 l _) ra _) l=_;rw[ag (Ne.symm Z6),aj];rfl
       have Sd:∀ b o,H5 b=some o->b≠l->b≠ra->(upd H6 l (.memo ls)) b=some o:=fun b o e n1 n2=>by
         rw[ag n1]
         show(upd (upd H5 l _) ra _) b=_
         rw[ag n2,ag n1];exact e
       have V5:∀ b o,sM b=some o->b≠ra:=fun b o e z=>by rw[z,Z5] at e;cases e
       have GX:aD (upd sM l (.memo ls)) (upd H6 l (.memo ls)):=fun b o e=>by
         by_cases bl:b=l
         . rw[bl,aj] at e ⊢;exact e
         . rw[ag bl] at e;exact Sd b o (g5.sub _ _ e) bl (V5 b o e)
       have GY:=fC GX
       have f4:∀ b o,Hf b=some o->b≠l->sM b=some o:=fun b o e n1=>g5.aW _ _ (Sb _ _ (by rw[ag n1];exact e))
       have g6:aP G0.Hf G0.H (iV (upd sM l (.memo ls)) (upd H6 l (.memo ls))) (upd H6 l (.memo ls)):=by
         refine⟨fun b o e=>?_,fun b o e=>?_,mZ GX,fun b o e=>?_⟩
         . by_cases bl:b=l
           . rw[bl,hB] at e;cases e;rw[bl];exact aj
           . have h3:H b=some o:=S.gr.big _ _ (by show(upd G0.H l _) b=_;rw[ag bl];exact e)
             have V6:b≠qa:=fun z=>by
               have:(upd G0.H l (.bw ls [N,N])) qa=none:=VY
               rw[<- z,ag bl,e] at this;cases this
             have h4:=T8 b o h3 bl V6
             exact Sd b o (g5.big _ _ h4) bl (fun z=>by have n5:H4 ra=none:=n5;rw[z,n5] at h4;cases h4)
         . by_cases bl:b=l
           . rw[bl,hA] at e;cases e;rw[bl];exact GY _ _ aj
           . have h3:Hf b=some o:=S.gr.aW _ _ (by show(upd G0.Hf l _) b=_;rw[ag bl];exact e)
             exact GY _ _ (by rw[ag bl];exact f4 b o h3 bl)
         . rcases nL (Hf:=upd sM l (.memo ls)) (H:=upd H6 l (.memo ls)) b with⟨u',z1,z2,z3⟩ | z
           . rw[z3] at e;cases e;exact .inr (.inr z2)
           . rw[z] at e
             by_cases bl:b=l
             . rw[bl];exact .inl ⟨_,hA⟩
             . rw[ag bl] at e
               rcases g5.new b o e with⟨o',w⟩ | w | w
               . have eo:o'=o:=by have:=g5.aW _ _ w;rw[e] at this;exact(Option.some.inj this).symm
                 subst eo
                 rcases nL (Hf:=upd Hf l u4) (H:=H4) b with⟨u',z1,z2,z3⟩ | z'
                 . have w:iV (upd Hf l u4) H4 b=some o':=w
                   rw[z3] at w;cases w;exact .inr (.inr z2)
                 . have w:iV (upd Hf l u4) H4 b=some o':=w
                   rw[z',ag bl] at w
                   rcases S.gr.new b o' w with⟨Nx,y⟩ | y | y
                   . have y:(upd G0.Hf l _) b=some Nx:=y
                     rw[ag bl] at y;exact .inl ⟨Nx,y⟩
                   . have y:(upd G0.H l _) b=none:=y
                     rw[ag bl] at y;exact .inr (.inl y)
                   . exact .inr (.inr y)
               . have y:(upd G0.H l (.bw ls [N,N])) b=none:=S.gr.big.free (Z3 b w)
                 rw[ag bl] at y;exact .inr (.inl y)
               . exact .inr (.inr w)
       have V7:aD (upd Hf l u4) sM:=Sb.trans g5.aW
       have XS:bO sM l ls:=.inr ⟨_,V7 _ _ aj⟩
       have Ov:∀ {v:V} {d:Dt},qQ l d=true->Rep X.K Hf v d->Rep X.K (iV (upd sM l (.memo ls)) (upd H6 l (.memo ls))) v d:=fun {v d} hn r=>(gZ XS (.inl rfl) hn ((gZ hm T9 hn r).mono V7)).mono GY
       refine k st H6 ⟨by rw[eR];exact V4,_,⟨g6,by have:=S.len;simpa using this,fun i d h=>?_,fun i o h=>?_,fun i j o o' a h=>?_⟩⟩
       . cases i with
         | zero=>
           cases h
           refine⟨_,hv,.obj (back _ (GY _ _ (by rw[ag Sa];exact f4 _ _ BH Sa))) ?_⟩
           have r5:=(iU hm T9 (wR hs) rf).mono V7
           exact(Ma hs XS r5).mono GY
         | succ i=>
           have h:tl[i]?=some (.val d):=h
           have e:ng≠i:=fun z=>by rw[<- z,hu] at h;cases h
           obtain⟨w,w1,w2⟩:=S.val (i+1) d (by show(tl.set ng _)[i]?=_;rw[List.getElem?_set_ne e];exact h)
           exact⟨w,w1,Ov (lC ht h) w2⟩
       . cases i with
         | zero=>cases h
         | succ i=>exact absurd h (aU (gh ht) i o)
       . cases i with
         | zero=>cases h
         | succ i=>exact absurd h (aU (gh ht) i o)
end
noncomputable def XT:HO->Bool
 | .lst _=>true
 | .dK _=>true
 | _=>false
noncomputable def conv (H:Hp)(p p2 q1 q2:Addr)(u1 u2 u3 u4:HO):Hp:=upd (upd (upd (upd H p u1) p2 u2) q1 u3) q2 u4
section
variable {X:Cx}{pins:List (Addr×Obj)}{σ:L2.St}{H:Hp}{s:Shared}{p p2 q1 q2:Addr}{mE zb:List (Key×V)}{f g:Nat->List (Key×FD)}
theorem Inv.Ow (I:L2.Inv X pins σ H s)(hp:H p=some (.lst [.ref q1]))(xD:H p2=some (.lst [.ref q2]))(Jb:H q1=some (.dK mE))(Se:H q2=some (.dK zb))(f1:qm H mE (f 0))(f2:qm H zb (g 0))(n1:p≠p2)(n2:q1≠q2):∃ o1 o2,L2.Inv X pins σ (conv H p p2 q1 q2 (.memo [(p,f),(p2,g)]) (.part p) (.kd (some (p,0)) o1 mE) (.kd (some (p2,0)) o2 zb)) s:=by
 obtain⟨z1,i1,c1,r1,e1⟩:=(show aK X.prog X.w H s.heap p (.lst [.ref q1]) from I.bb p _ hp)
 obtain⟨z2,i2,c2,r2,e2⟩:=(show aK X.prog X.w H s.heap p2 (.lst [.ref q2]) from I.bb p2 _ xD)
 obtain⟨Kb,lo1,V8,V9,o1,Wa,Wb,Sf,Wc⟩:=(show aK X.prog X.w H s.heap q1 (.dK mE) from I.bb q1 _ Jb)
 obtain⟨Z7,Z8,Z9,kr2,o2,es2,ep2,XU,hr2⟩:=(show aK X.prog X.w H s.heap q2 (.dK zb) from I.bb q2 _ Se)
 obtain⟨u1,rfl,w1⟩:=vals1 r1
 obtain⟨u2,rfl,w2⟩:=vals1 r2
 cases (show u1=Value.ref q1 from w1)
 cases (show u2=Value.ref q2 from w2)
 refine⟨o1,o2,?_⟩
 have m1:p≠q1:=fun z=>by rw[z,Jb] at hp;cases hp
 have m2:p≠q2:=fun z=>by rw[z,Se] at hp;cases hp
 have m3:p2≠q1:=fun z=>by rw[z,Jb] at xD;cases xD
 have m4:p2≠q2:=fun z=>by rw[z,Se] at xD;cases xD
 generalize Kc:conv H p p2 q1 q2 (.memo [(p,f),(p2,g)]) (.part p) (.kd (some (p,0)) o1 mE) (.kd (some (p2,0)) o2 zb)=H'
 have Sh:H' p=some (.memo [(p,f),(p2,g)]):=by rw[<- Kc];unfold conv;rw[ag m2,ag m1,ag n1,aj]
 have Ox:H' p2=some (.part p):=by rw[<- Kc];unfold conv;rw[ag m4,ag m3,aj]
 have GZ:H' q1=some (.kd (some (p,0)) o1 mE):=by rw[<- Kc];unfold conv;rw[ag n2,aj]
 have Si:H' q2=some (.kd (some (p2,0)) o2 zb):=by rw[<- Kc];unfold conv;rw[aj]
 have BE:∀ b,b≠p->b≠p2->b≠q1->b≠q2->H' b=H b:=fun b a1 a2 a3 a4=>by rw[<- Kc];unfold conv;rw[ag a4,ag a3,ag a2,ag a1]
 have rX:∀ b o,H b=some o->XT o=false->H' b=some o:=fun b o e n=>by
   rw[BE b (fun z=>by rw[z,hp] at e;cases e;cases n) (fun z=>by rw[z,xD] at e;cases e;cases n) (fun z=>by rw[z,Jb] at e;cases e;cases n) (fun z=>by rw[z,Se] at e;cases e;cases n)]
   exact e
 have kp:Kp H H':=⟨fun b o e kq=>rX b _ e (by cases o <;> first | rfl | exact(show False from kq).elim),fun b e=>by
   cases q:H b with
   | none=>rw[q] at e;exact e.elim
   | some u=>
     rw[q] at e
     rw[rX b u q (by cases u <;> first | rfl | exact e.elim)]
     exact e,fun b x e=>rX b _ e rfl⟩
 refine I.un (h':=s.heap) (t':=s.toks) ⟨fun b o e _ _ _=>e,fun b o e _ _ _=>⟨o.slots,e⟩,fun b o e n _=>?_,fun b o e _=>⟨o,e⟩,fun b xs e=>rX b _ e rfl,fun b o u e=>rX b _ e rfl,fun b ps e=>⟨#[],by rw[rX b _ e rfl];simp⟩⟩ fun b u e=>?_
 . rw[BE b (fun z=>by rw[z,hp] at n;cases n) (fun z=>by rw[z,xD] at n;cases n) (fun z=>by rw[z,Jb] at n;cases n) (fun z=>by rw[z,Se] at n;cases n)]
   exact n
 . by_cases b1:b=p
   . subst b1
     rw[Sh] at e;cases e
     refine⟨⟨_,e1⟩,1,by decide,⟨f,rfl⟩,rfl,fun j a h hj=>?_,by simp[n1],fun n hn=>by rw[List.mem_replicate] at hn;omega,fun j a h n hj hn=>?_⟩
     . match j,hj with
       | 0,hj=>cases hj;exact .inl rfl
       | 1,hj=>cases hj;exact .inr Ox
     . match j,hj,hn with
       | 0,hj,hn=>
         cases hj;cases hn
         refine⟨_,_,e1,rfl,fun i hi=>?_⟩
         have:i=0:=by omega
         subst this
         exact⟨q1,o1,mE,rfl,GZ,f1.kp kp⟩
       | 1,hj,hn=>
         cases hj;cases hn
         refine⟨_,_,e2,rfl,fun i hi=>?_⟩
         have:i=0:=by omega
         subst this
         exact⟨q2,o2,zb,rfl,Si,f2.kp kp⟩
   . by_cases b2:b=p2
     . subst b2;rw[Ox] at e;cases e;exact⟨_,e2⟩
     . by_cases b3:b=q1
       . subst b3;rw[GZ] at e;cases e
         refine⟨Sf,⟨Kb,lo1,V8,V9,o1,Wa,Wb,Sf,Wc⟩,fun a i ht=>?_⟩
         cases ht
         exact⟨by rw[Sh];trivial,_,_,e1,rfl⟩
       . by_cases b4:b=q2
         . subst b4;rw[Si] at e;cases e
           refine⟨XU,⟨Z7,Z8,Z9,kr2,o2,es2,ep2,XU,hr2⟩,fun a i ht=>?_⟩
           cases ht
           exact⟨by rw[Ox];trivial,_,_,e2,rfl⟩
         . rw[BE b b1 b2 b3 b4] at e
           exact(I.bb b u e).xj (fun _ _ _ q=>q) (fun c q=>rX c _ q rfl) (fun c xs q=>rX c _ q rfl) kp
end
theorem C3 (n0:Str)(v:V):∀ fv:List (Str×V),(eO n0 v fv).length<=fv.length+1
 | []=>Nat.le_refl _
 | (k,w)::r=>by
   have ih:=C3 n0 v r
   unfold eO
   split
   . simp
   . simp only[List.length_cons];omega
section
variable {X:Cx}{G:Gr}{E:XK}{e1 e2:Expr}{fs:List (Str×Dt)}{z C:Addr}{tl:List Slot}{f g:Nat->List (Key×FD)}{n0 n1 x0:Str}{Oy Wd Oz We OA Wf q1 q2:Pos}
theorem x8 (no:noOwn tl=true)(cl:rP X.K C)(Ol:bB X.K C n0)(VP:bB X.K C n1)(Wg:EO X G (.own (.zH z C fs)::tl) e1 (.dZ (mL (f 0))))(NJ:EO X G (.bV::tl) e2 (.dZ (mL (g 0))))(OB:∀ p ls,putD n1 (.memo p ls 1 1) (putD n0 (.memo p ls 0 1) fs)=ql fs [n0,n1] p ls 1:=by intro _ _;rfl)(hlen:Nat.ble fs.length 990=true:=by rfl)(hN:X.N[0]?=some x0:=by rfl)(hv:vH X.env.scope x0:=by first | exact Or.inl rfl | exact Or.inr (Or.inl rfl) | exact Or.inr (Or.inr rfl))(lN:(x0 == ("__debug__":Str))=false:=by decide)(lP:(x0 == ("__classdict__":Str))=false:=by decide)(x5:starEach [e1] X.env=[(false,eval e1 X.env)]:=by rfl)(Ka:starEach [e2] X.env=[(false,eval e2 X.env)]:=by rfl)(FV:swapsWith (.List [e1] OA) (some (.Attribute (.Name x0 Oy) n0 Oz)) q1.line X.env=pure false:=by rfl)(A2:swapsWith (.List [e2] Wf) (some (.Attribute (.Name x0 Wd) n1 We)) q2.line X.env=pure false:=by rfl):lu X G E (.own (.zH z C fs)::tl) [.Assign [.Attribute (.Name x0 Oy) n0 Oz] (.List [e1] OA) q1,.Assign [.Attribute (.Name x0 Wd) n1 We] (.List [e2] Wf) q2] (.nx (.own (.xE z C fs [f,g] [n0,n1] 1)::tl)):=by
 intro pins s st H D I ⟨Hf,S,k⟩
 have base:=gb (tZ (pos:=q1) (pos':=Oz) (iO (pos:=Oy) hN hv lN lP) (t5 (pos:=OA) (d7 Wg lS x5)) FV) (kL (tZ (pos:=q2) (pos':=We) (iO (pos:=Wd) hN hv lN lP) (t5 (pos:=Wf) (d7 NJ lS Ka)) A2))
 let RQ:L2.St->Hp->Prop:=fun jr H'=>∃ p p2 a1 a2 mE zb,H' p=some (.lst [.ref a1])/\H' p2=some (.lst [.ref a2])/\H' a1=some (.dK mE)/\H' a2=some (.dK zb)/\qm H' mE (f 0)/\qm H' zb (g 0)/\p≠p2/\a1≠a2/\ ∀ o1 o2,D.nx jr (conv H' p p2 a1 a2 (.memo [(p,f),(p2,g)]) (.part p) (.kd (some (p,0)) o1 mE) (.kd (some (p2,0)) o2 zb))
 refine bQ (base pins s st H { D with nx:=RQ} I ?_) fun fl s7 q7=>?_
 . obtain⟨za,hz,Wh,Qh,ez,dx,fv,Kd,rf⟩:=S.own 0 _ rfl
   subst ez
   refine⟨Hf,S,fun a1 au H1 g1 Sk OC ⟨mE,N6,Wi⟩=>⟨Nat.le_of_ble_eq_true rfl,fun p hp=>?_⟩⟩
   have Kb:H1 za=some (.ins C dx fv):=g1.big _ _ Kd
   have Jc:za≠p:=aw Kb hp
   have Sl:a1≠p:=aw N6 hp
   have Md:za≠a1:=fun w=>by rw[w,Sk] at Kd;cases Kd
   have Wj:(upd H1 p (.lst [.ref a1])) za=some (.ins C dx fv):=by rw[ag Jc];exact Kb
   refine⟨_,hz,za,C,dx,fv,rfl,Wj,cl,Ol,by rw[rf.length];exact Nat.lt_of_le_of_lt (Nat.le_of_ble_eq_true hlen) (by decide),?_⟩
   let H2:Hp:=upd (upd H1 p (.lst [.ref a1])) za (.ins C dx (eO n0 (.ref p) fv))
   have Ep:au za=none:=g1.ky Wh Kd
   have Wk:aP au H1 au (upd H1 p (.lst [.ref a1])):=.dH g1.sub hp
   have S0:cS X.K G st Hf H (.bV::tl):=S.weak ⟨rfl,fun i s' e n=>by
     cases i with
     | zero=>cases e;exact absurd rfl n
     | succ i=>exact e⟩
   have Ua:noOwn (.bV::tl)=true:=no
   have S2:cS X.K G st au H2 (.bV::tl):=nI ((S0.grow g1).grow Wk) Ua Ep Qh
   refine⟨au,S2,fun a2 iP H3 g3 n3 n3' ⟨zb,IZ,RI⟩=>⟨Nat.le_of_ble_eq_true rfl,fun p2 xD=>?_⟩⟩
   have Wl:H2 a2=none:=n3
   have Ub:H2 za=some (.ins C dx (eO n0 (.ref p) fv)):=aj
   have Uc:H2 p=some (.lst [.ref a1]):=by show(upd (upd H1 p _) za _) p=_;rw[ag (Ne.symm Jc),aj]
   have Ud:H2 a1=some (.dK mE):=by show(upd (upd H1 p _) za _) a1=_;rw[ag (Ne.symm Md),ag Sl];exact N6
   have XW:=g3.big _ _ Ub
   have XY:=g3.big _ _ Uc
   have XZ:=g3.big _ _ Ud
   have Ke:za≠p2:=aw XW xD
   have OD:p≠p2:=aw XY xD
   have Me:a1≠p2:=aw XZ xD
   have Mf:a2≠p2:=aw IZ xD
   have OE:za≠a2:=fun w=>by rw[w,Wl] at Ub;cases Ub
   have Wm:p≠a2:=fun w=>by rw[w,Wl] at Uc;cases Uc
   have Sm:a1≠a2:=fun w=>by rw[w,Wl] at Ud;cases Ud
   have Wn:(upd H3 p2 (.lst [.ref a2])) za=some (.ins C dx (eO n0 (.ref p) fv)):=by rw[ag Ke];exact XW
   refine⟨_,hz,za,C,dx,_,rfl,Wn,cl,VP,?_,?_⟩
   . have:=C3 n0 (.ref p) fv
     have h9:=Nat.le_of_ble_eq_true hlen
     have:=rf.length
     omega
   let H4:Hp:=upd (upd H3 p2 (.lst [.ref a2])) za (.ins C dx (eO n1 (.ref p2) (eO n0 (.ref p) fv)))
   have Wo:H4 p=some (.lst [.ref a1]):=by show(upd (upd H3 p2 _) za _) p=_;rw[ag (Ne.symm Jc),ag OD];exact XY
   have Wq:H4 p2=some (.lst [.ref a2]):=by show(upd (upd H3 p2 _) za _) p2=_;rw[ag (Ne.symm Ke),aj]
   have OF:H4 a1=some (.dK mE):=by show(upd (upd H3 p2 _) za _) a1=_;rw[ag (Ne.symm Md),ag Me];exact XZ
   have Wr:H4 a2=some (.dK zb):=by show(upd (upd H3 p2 _) za _) a2=_;rw[ag (Ne.symm OE),ag Mf];exact IZ
   have Ws:H4 za=some (.ins C dx (eO n1 (.ref p2) (eO n0 (.ref p) fv))):=aj
   have Wt:iP za=none:=g3.ky Ep Ub
   have Ue:iP p=none:=g3.ky (g1.sub.free hp) Uc
   have Wu:iP a1=none:=g3.ky OC Ud
   have So:iP p2=none:=g3.sub.free xD
   have x6:aD iP H4:=fun b o e=>by
     have b1:b≠za:=fun w=>by rw[w,Wt] at e;cases e
     have b2:b≠p2:=fun w=>by rw[w,So] at e;cases e
     show(upd (upd H3 p2 _) za _) b=_
     rw[ag b1,ag b2];exact g3.sub _ _ e
   have S4:cS X.K G st iP H4 (.bV::tl):=nI ((S2.grow g3).grow (.dH g3.sub xD)) Ua Wt Qh
   have gp:G.H p=none:=S.gr.big.free (g1.big.free hp)
   have Sq:G.H a1=none:=S.gr.big.free Sk
   have X0:G.H p2=none:=S2.gr.big.free (g3.big.free xD)
   have X1:G.H a2=none:=S2.gr.big.free n3
   have Sr:qm iP mE (f 0):=oR (Wi.mono g3.aW)
   have X2:qm iP zb (g 0):=oR RI
   refine⟨p,p2,a1,a2,mE,zb,Wo,Wq,OF,Wr,fE (fun b u e _=>x6 _ _ e) Sr,fE (fun b u e _=>x6 _ _ e) X2,OD,Sm,fun o1 o2=>?_⟩
   let ls:iK:=[(p,f),(p2,g)]
   let u1:HO:=.memo ls
   let u3:HO:=.kd (some (p,0)) o1 mE
   let u4:HO:=.kd (some (p2,0)) o2 zb
   have m1:p≠a1:=Ne.symm Sl
   have cat:∀ (B:Hp),conv B p p2 a1 a2 u1 (.part p) u3 u4 p=some u1/\conv B p p2 a1 a2 u1 (.part p) u3 u4 p2=some (.part p)/\conv B p p2 a1 a2 u1 (.part p) u3 u4 a1=some u3/\conv B p p2 a1 a2 u1 (.part p) u3 u4 a2=some u4:=fun B=>by
     unfold conv
     refine⟨?_,?_,?_,?_⟩
     . rw[ag Wm,ag m1,ag OD,aj]
     . rw[ag (Ne.symm Mf),ag (Ne.symm Me),aj]
     . rw[ag Sm,aj]
     . rw[aj]
   have uL:∀ (B:Hp) b,b≠p->b≠p2->b≠a1->b≠a2->conv B p p2 a1 a2 u1 (.part p) u3 u4 b=B b:=fun B b c1 c2 c3 c4=>by unfold conv;rw[ag c4,ag c3,ag c2,ag c1]
   let sM:Hp:=conv iP p p2 a1 a2 u1 (.part p) u3 u4
   have E6:aD iP sM:=fun b o e=>by
     show conv iP p p2 a1 a2 u1 (.part p) u3 u4 b=some o
     rw[uL iP b (fun w=>by rw[w,Ue] at e;cases e) (fun w=>by rw[w,So] at e;cases e) (fun w=>by rw[w,Wu] at e;cases e) (fun w=>by rw[w,n3'] at e;cases e)]
     exact e
   have key:∀ (A B:Hp),aD A B->aD (conv A p p2 a1 a2 u1 (.part p) u3 u4) (conv B p p2 a1 a2 u1 (.part p) u3 u4):=fun A B sm=>cH (cH (cH (cH sm)))
   have OG:aD sM (conv H4 p p2 a1 a2 u1 (.part p) u3 u4):=key _ _ x6
   have G1:aZ X.K sM (eO n1 (.ref p2) (eO n0 (.ref p) fv)) (ql fs [n0,n1] p ls 1):=by
     rw[<- OB p ls]
     refine((rf.mono ((g1.aW.trans g3.aW).trans E6)).put (f:=n0) (d:=.memo p ls 0 1) ?_).put (f:=n1) (d:=.memo p ls 1 1) ?_
     . refine .memo (f:=f) rfl (cat iP).1 (.inl rfl) fun i hi=>?_
       have:i=0:=by omega
       subst this
       exact⟨a1,o1,mE,(cat iP).2.2.1,fE (fun b u e _=>E6 _ _ e) Sr⟩
     . refine .memo (f:=g) rfl (cat iP).1 (.inr (cat iP).2.1) fun i hi=>?_
       have:i=0:=by omega
       subst this
       exact⟨a2,o2,zb,(cat iP).2.2.2,fE (fun b u e _=>E6 _ _ e) X2⟩
   have Wv:conv H4 p p2 a1 a2 u1 (.part p) u3 u4 za=some (.ins C dx (eO n1 (.ref p2) (eO n0 (.ref p) fv))):=by rw[uL H4 za Jc Ke Md OE];exact Ws
   have Ww:sM za=none:=by show conv iP p p2 a1 a2 u1 (.part p) u3 u4 za=none;rw[uL iP za Jc Ke Md OE];exact Wt
   refine k st sM _ ((g1.aW.trans g3.aW).trans E6) ⟨⟨fun b o e=>?_,S4.gr.aW.trans E6,OG,fun b o e=>?_⟩,by have:=S4.len;simpa using this,fun i d h=>?_,fun i o h=>?_,fun i j o o' a w1 w2=>?_⟩
   . rw[uL H4 b (fun w=>by rw[w,gp] at e;cases e) (fun w=>by rw[w,X0] at e;cases e) (fun w=>by rw[w,Sq] at e;cases e) (fun w=>by rw[w,X1] at e;cases e)]
     exact S4.gr.big _ _ e
   . by_cases c1:b=p
     . rw[c1];exact .inr (.inl gp)
     . by_cases c2:b=p2
       . rw[c2];exact .inr (.inl X0)
       . by_cases c3:b=a1
         . rw[c3];exact .inr (.inl Sq)
         . by_cases c4:b=a2
           . rw[c4];exact .inr (.inl X1)
           . have e:conv iP p p2 a1 a2 u1 (.part p) u3 u4 b=some o:=e
             rw[uL iP b c1 c2 c3 c4] at e
             exact S4.gr.new b o e
   . cases i with
     | zero=>cases h
     | succ i=>
       obtain⟨w,w1,w2⟩:=S4.val (i+1) d h
       exact⟨w,w1,w2.mono E6⟩
   . cases i with
     | zero=>
       cases h
       exact⟨za,hz,Ww,Qh,rfl,dx,_,p,ls,rfl,Wv,G1⟩
     | succ i=>exact absurd h (aU no i o)
   . cases i with
     | zero=>cases j with
       | zero=>exact fun _ _=>rfl
       | succ j=>exact absurd w2 (aU no j o')
     | succ i=>exact absurd w1 (aU no i o)
 . cases fl with
   | next=>
     obtain⟨σ7,H7,I7,p,p2,a1,a2,mE,zb,y1,y2,y3,y4,y5,y6,y7,y8,kk⟩:=q7
     obtain⟨o1,o2,I8⟩:=Inv.Ow I7 y1 y2 y3 y4 y5 y6 y7 y8
     exact⟨σ7,_,I8,kk o1 o2⟩
   | cont=>exact q7
   | brk=>exact q7
   | ret v=>exact q7
end
section
variable {X:Cx}{G:Gr}{E:XK}{dl:List Slot}{a b e:Expr}{pos:Pos}{k:Str}
variable {d1 d2 d3 d4:Dt}
theorem Kf (n1 n2 n3 n4:Nat){a b c f:Str}{pa pb pc pf tp:Pos}{cx:Nat}(hN:X.N.Nodup)(hc:X.calm=true)(he:EE X G dl e (.tup [d1,d2,d3,d4]))(Vm:X.N[n1]?=some a:=by rfl)(Vn:X.N[n2]?=some b:=by rfl)(hi3:X.N[n3]?=some c:=by rfl)(hi4:X.N[n4]?=some f:=by rfl)(Vo:Loc X.env.scope a:=by first | exact Or.inl rfl | exact Or.inr rfl)(Q9:Loc X.env.scope b:=by first | exact Or.inl rfl | exact Or.inr rfl)(hx3:Loc X.env.scope c:=by first | exact Or.inl rfl | exact Or.inr rfl)(hx4:Loc X.env.scope f:=by first | exact Or.inl rfl | exact Or.inr rfl)(Vp:X.fn a=true\/X.env.scope.names.lookup a=some .local:=by first | exact .inl rfl | exact .inr rfl)(Vq:X.fn b=true\/X.env.scope.names.lookup b=some .local:=by first | exact .inl rfl | exact .inr rfl)(hf3:X.fn c=true\/X.env.scope.names.lookup c=some .local:=by first | exact .inl rfl | exact .inr rfl)(hf4:X.fn f=true\/X.env.scope.names.lookup f=some .local:=by first | exact .inl rfl | exact .inr rfl)(hn:(assignEach [.Name a pa,.Name b pb,.Name c pc,.Name f pf] X.env).length=4:=by rfl)(oM:(assignEach [.Name a pa,.Name b pb,.Name c pc,.Name f pf] X.env).findIdx? (·.1)=none:=by rfl)(q1:(assignEach [.Name a pa,.Name b pb,.Name c pc,.Name f pf] X.env).map (·.2)=assign (.Name a pa) X.env::(assignEach [.Name b pb,.Name c pc,.Name f pf] X.env).map (·.2):=by rfl)(q2:(assignEach [.Name b pb,.Name c pc,.Name f pf] X.env).map (·.2)=assign (.Name b pb) X.env::(assignEach [.Name c pc,.Name f pf] X.env).map (·.2):=by rfl)(q3:(assignEach [.Name c pc,.Name f pf] X.env).map (·.2)=assign (.Name c pc) X.env::(assignEach [.Name f pf] X.env).map (·.2):=by rfl)(q4:(assignEach [.Name f pf] X.env).map (·.2)=assign (.Name f pf) X.env::(assignEach [] X.env).map (·.2):=by rfl)(hs:swapsWithSole [.Tuple [.Name a pa,.Name b pb,.Name c pc,.Name f pf] cx tp] e pos.line X.env=pure false:=by rfl)(hw:swappedStores [.Tuple [.Name a pa,.Name b pb,.Name c pc,.Name f pf] cx tp] e X.env=pure none:=by rfl)(h1:(assignEach [.Tuple [.Name a pa,.Name b pb,.Name c pc,.Name f pf] cx tp] X.env).map (·.2)=[assign (.Tuple [.Name a pa,.Name b pb,.Name c pc,.Name f pf] cx tp) X.env]:=by rfl):ES X G E dl (.Assign [.Tuple [.Name a pa,.Name b pb,.Name c pc,.Name f pf] cx tp] e pos) (.nx ((((dl.set n1 (.val d1)).set n2 (.val d2)).set n3 (.val d3)).set n4 (.val d4))):=
 wG (A6 he (xn hc (gc (ck (pos:=pa) hN Vm Vo Vp) (gc (ck (pos:=pb) hN Vn Q9 Vq) (gc (ck (pos:=pc) hN hi3 hx3 hf3) (gc (ck (pos:=pf) hN hi4 hx4 hf4) sE q4) q3) q2) q1) hn oM) hs hw h1) fun D st H ⟨Hf,S,k⟩=>⟨Hf,S,fun v au H1 g1 r1=>by
   cases r1 with
   | @tup q vs _ hq rp=>
     cases rp with
     | cons r1 t1=>cases t1 with
       | cons r2 t2=>cases t2 with
         | cons r3 t3=>cases t3 with
           | cons r4 t4=>
             cases t4
             exact⟨q,_,rfl,br g1.sub hq,rfl,_,_,rfl,_,_,rfl,_,_,rfl,_,_,rfl,rfl,k _ au H1 g1.aW (((((S.grow g1).set r1).set r2).set r3).set r4)⟩⟩
end
section
variable {ns:List Int}
theorem nF:∀ {ns:List Int} {aH:List Value},Vals (ns.map V.int) aH->IntsAre aH ns
 | [],_,r=>by cases r;exact .nil
 | n::ns,_,r=>by
   cases r with
   | cons h t=>obtain⟨tk,rfl⟩:=h;exact .cons _ tk (nF t)
end
theorem wU {K:W.Frag}{H:Hp}:∀ (ns:List Int),bc K H (ns.map V.int) (ns.map Dt.int)
 | []=>.nil
 | n::r=>.cons (.int n) (wU r)
theorem pQ {K:W.Frag}{H:Hp}:∀ {ns:List Int} {vs:List V},bc K H vs (ns.map Dt.int)->vs=ns.map V.int
 | [],_,.nil=>rfl
 | n::r,_,.cons h t=>by cases h;rw[pQ t];rfl
noncomputable def E7 (fs:List (Str×FD)):List (Str×Dt):=fs.map fun kd=>(kd.1,TY kd.2)
theorem C4 {K:W.Frag}{H:Hp}:∀ {fv:List (Str×V)} {fs:List (Str×FD)},Fc H fv fs->aZ K H fv (E7 fs)
 | _,_,.nil=>.nil
 | _,_,.cons h t=>.cons (GO h) (C4 t)
theorem G3 {K:W.Frag}{H:Hp}:∀ {fv:List (Str×V)} {fs:List (Str×FD)},aZ K H fv (E7 fs)->Fc H fv fs
 | _,[],.nil=>.nil
 | _,(k,d)::fd,.cons h t=>.cons (L8 h) (G3 t)
section
variable {X:Cx}{G:Gr}{E:XK}{dl:List Slot}{e:Expr}{sts:List Stmt}{ou:Out}{C:Addr}{fs:List (Str×FD)}{ns:List Int}{K':W.Frag}
theorem Mg (h:EE X G dl e (.gW (.obj C fs))):EE X G dl e (.obj C (E7 fs)):=fB h fun st H Q ⟨Hf,S,k⟩=>⟨Hf,S,fun v au H1 g1 r1=>by
 cases r1 with
 | gW h=>cases h with
   | @obj a _ dx o fv _ e f=>exact k _ au H1 g1 (.obj (.inr (.inr (.inr ⟨o,e⟩))) (C4 f))⟩
theorem oT (h:EE X G dl e (.gW (.lst ns))):EE X G dl e (.oy ns):=fB h fun st H Q ⟨Hf,S,k⟩=>⟨Hf,S,fun v au H1 g1 r1=>by
 cases r1 with
 | gW h=>cases h with
   | @lst a o _ e=>exact k _ au H1 g1 (.oy (.inl (.inr (.inr (.inr ⟨o,e⟩)))))⟩
theorem OH (h:EE X G dl e (.gW (.tup K' ns)))(hK:K'=X.K):EE X G dl e (.tup (ns.map .int)):=fB h fun st H Q ⟨Hf,S,k⟩=>⟨Hf,S,fun v au H1 g1 r1=>by
 subst hK
 cases r1 with
 | gW h=>cases h with
   | tup e=>exact k _ au H1 g1 (.tup e (wU _))⟩
theorem OI (h:EE X G dl e (.tup (ns.map .int)))(hK:K'=X.K):EE X G dl e (.gW (.tup K' ns)):=fB h fun st H Q ⟨Hf,S,k⟩=>⟨Hf,S,fun v au H1 g1 r1=>by
 subst hK
 cases r1 with
 | tup s r=>
   rw[pQ r] at s
   exact k _ au H1 g1 (.gW (.tup s))⟩
theorem G4 (h:EO X G dl e (.obj C (E7 fs))):EE X G dl e (.gW (.obj C fs)):=by
 intro pins s st H Q I ⟨Hf,S,kk⟩
 refine bQ (h pins s st H (fun v H'=>∃ p aF,v=.ref p/\aP Hf H aF H'/\H p=none/\aF p=none/\gd X.K aF H' p (.obj C (E7 fs))) I ⟨Hf,S,fun p aF H' g n n' r=>⟨p,aF,rfl,g,n,n',r⟩⟩) fun u s1 ⟨v,H',I1,rv,q,aF,ev,g,n,n',dx,fv,hq,rp⟩=>?_
 subst ev
 obtain⟨hd,hz,ne,ho,mA,hr⟩:=(show aK X.prog X.w H' s1.heap q (.ins C dx fv) from I1.bb q _ hq)
 let ob:=W.instObj C dx
 have I2:L2.Inv X pins st (upd H' q (.kx ob (.ins C dx fv))) s1:=lV (h':=s1.heap) (t':=s1.toks) I1 (by rw[hq];trivial) ⟨rfl,fun _ _=>rfl⟩ ⟨ob,ho⟩ ⟨ho,⟨by rw[ag ne];exact hd,hz,ne,ho,mA,hr⟩⟩
 have sm:aD aF (upd aF q (.kx ob (.ins C dx fv))):=a5 n'
 refine⟨.ref q,_,I2,rv,kk _ (upd aF q (.kx ob (.ins C dx fv))) _ ⟨fun b o hb=>?_,g.aW.trans sm,cH g.sub,fun b o hb=>?_⟩ (.gW (.obj aj ((G3 rp).st fun b u e _=>sm b u e)))⟩
 . rw[ag (aw hb n)];exact g.big _ _ hb
 . by_cases e:b=q
   . subst e;exact .inr (.inl n)
   . rw[ag e] at hb;exact g.new b o hb
theorem OJ (h:EO X G dl e (.lst (ns.map .int))):EE X G dl e (.gW (.lst ns)):=by
 intro pins s st H Q I ⟨Hf,S,kk⟩
 refine bQ (h pins s st H (fun v H'=>∃ p aF,v=.ref p/\aP Hf H aF H'/\H p=none/\aF p=none/\gd X.K aF H' p (.lst (ns.map .int))) I ⟨Hf,S,fun p aF H' g n n' r=>⟨p,aF,rfl,g,n,n',r⟩⟩) fun u s1 ⟨v,H',I1,rv,q,aF,ev,g,n,n',vs,hq,rp⟩=>?_
 subst ev
 have ev:=pQ rp
 subst ev
 obtain⟨hz,aH,c,r,ho⟩:=(show aK X.prog X.w H' s1.heap q (.lst (ns.map V.int)) from I1.bb q _ hq)
 let ob:Obj:={ cls:=.type "list",data:=.seq aH.toArray c}
 have I2:L2.Inv X pins st (upd H' q (.kx ob (.lst (ns.map V.int)))) s1:=lV (h':=s1.heap) (t':=s1.toks) I1 (by rw[hq];trivial) ⟨rfl,fun _ _=>rfl⟩ ⟨ob,ho⟩ ⟨ho,hz,aH,c,r,ho⟩
 have sm:aD aF (upd aF q (.kx ob (.lst (ns.map V.int)))):=a5 n'
 refine⟨.ref q,_,I2,rv,kk _ (upd aF q (.kx ob (.lst (ns.map V.int)))) _ ⟨fun b o hb=>?_,g.aW.trans sm,cH g.sub,fun b o hb=>?_⟩ (.gW (.lst aj))⟩
 . rw[ag (aw hb n)];exact g.big _ _ hb
 . by_cases e:b=q
   . subst e;exact .inr (.inl n)
   . rw[ag e] at hb;exact g.new b o hb
theorem sS (n:Nat)(h:lu X G E (dl.set n (.val (.gW (.lst ns)))) sts ou)(hd:dl[n]?=some (.own (.lst (ns.map .int))):=by rfl):lu X G E dl sts ou:=by
 intro pins s st H D I ⟨Hf,S,k⟩
 have ln:=S.len
 obtain⟨q,h1,h2,h3,vs,h4,h5⟩:=S.own n _ hd
 have ev:=pQ h5
 subst ev
 have hl:n < dl.length:=(List.getElem?_eq_some_iff.mp hd).1
 obtain⟨hz,aH,c,r,ho⟩:=(show aK X.prog X.w H s.heap q (.lst (ns.map V.int)) from I.bb q _ h4)
 let ob:Obj:={ cls:=.type "list",data:=.seq aH.toArray c}
 have I':L2.Inv X pins st (upd H q (.kx ob (.lst (ns.map V.int)))) s:=lV (h':=s.heap) (t':=s.toks) I (by rw[h4];trivial) ⟨rfl,fun _ _=>rfl⟩ ⟨ob,ho⟩ ⟨ho,hz,aH,c,r,ho⟩
 have sm:aD Hf (upd Hf q (.kx ob (.lst (ns.map V.int)))):=a5 h2
 refine h pins s st _ D I' ⟨upd Hf q (.kx ob (.lst (ns.map V.int))),⟨⟨fun b o hb=>?_,S.gr.aW.trans sm,cH S.sub,fun c o hc=>?_⟩,by simp[S.len],fun j y hj=>?_,fun j o' hj=>?_,fun j m o1 o2 c q1 q2 q3 q4=>?_⟩,k.mono sm⟩
 . rw[ag (aw hb h3)];exact S.gr.big _ _ hb
 . by_cases hb:c=q
   . subst hb;exact .inr (.inl h3)
   . rw[ag hb] at hc;exact S.gr.new c o hc
 . by_cases e:n=j
   . subst e
     rw[List.getElem?_set_self hl] at hj;cases hj
     exact⟨_,h1,.gW (.lst aj)⟩
   . rw[List.getElem?_set_ne e] at hj
     obtain⟨v,z1,z2⟩:=S.val j y hj
     exact⟨v,z1,z2.mono sm⟩
 . by_cases e:n=j
   . subst e;rw[List.getElem?_set_self hl] at hj;cases hj
   . rw[List.getElem?_set_ne e] at hj
     obtain⟨c,z1,z2,z3,z4⟩:=S.own j o' hj
     have ne:c≠q:=fun z=>by subst z;exact e (S.D2 n j _ _ _ hd hj h1 z1)
     exact⟨c,z1,by rw[ag ne];exact z2,z3,z4.grow (ag ne) sm⟩
 . have nj:n≠j:=fun e=>by subst e;rw[List.getElem?_set_self hl] at q1;cases q1
   have nm:n≠m:=fun e=>by subst e;rw[List.getElem?_set_self hl] at q2;cases q2
   rw[List.getElem?_set_ne nj] at q1
   rw[List.getElem?_set_ne nm] at q2
   exact S.D2 j m o1 o2 c q1 q2 q3 q4
theorem Kg {zs:List Int}:F9 X G dl zs.length (fun k=>(zs.map Dt.int).getD k .cF) (Ft X.K (tD X.K G dl (.oy zs))):=fun st H R ⟨Hf,S,k⟩=>⟨Hf,S,fun v au H1 g1 r1=>by
 cases r1 with
 | @oy q _ hq=>
   refine⟨q,rfl,⟨_,g1.sub.seq hq⟩,k _ au H1 g1 fun bT H2 g2 i=>⟨fun hi=>?_,fun hi=>⟨_,g2.big.seq (g1.sub.seq hq),by rw[List.length_map];omega⟩⟩⟩
   have hs:mK X.K H2 q (zs.map V.int):=g2.big.seq (g1.sub.seq hq)
   have z1:(zs.map V.int)[i]?=some (.int zs[i]):=by rw[List.getElem?_map,List.getElem?_eq_getElem hi];rfl
   refine⟨⟨_,_,hs,z1⟩,fun v H3 hy=>?_⟩
   obtain⟨e1,e2⟩:=hy
   have e2:=e2 _ hs
   rw[z1] at e2;cases e2
   refine⟨e1,?_⟩
   have e3:(zs.map Dt.int).getD i .cF=.int zs[i]:=by rw[List.getD_eq_getElem?_getD,List.getElem?_map,List.getElem?_eq_getElem hi];rfl
   show Rep _ _ _ ((zs.map Dt.int).getD i .cF)
   rw[e3];exact .int _⟩
theorem Ad {x:Str}{p pos:Pos}(M:NH X.K C)(hm:X.mg x=some (.ref C))(hg:Gl X x:=by rfl)(lN:(x == ("__debug__":Str))=false:=by decide):EE X G dl (.Call (.Name x p) [] [] pos) (.gW (.obj C [])):=by
 refine G4 (fs:=[]) ?_
 intro pins s st H Q I ⟨Hf,S,k⟩
 refine wpAny_Call_Name_kw (sC I hg hm ?_ lN)
 refine W.callWith_K0 I.lO M.kp (D6 M I fun x dx hx NV ne=>?_)
 have zo:(upd H dx (.own x)) x=none:=by rw[ag (Ne.symm ne)];exact hx
 have g1:aP Hf H Hf (upd H dx (.own x)):=.dH S.sub NV
 have g2:aP Hf (upd H dx (.own x)) Hf (upd (upd H dx (.own x)) x (.ins C dx [])):=.dH g1.sub zo
 exact k _ _ _ (g1.trans g2) hx (S.sub.free hx) ⟨dx,[],aj,.nil⟩
end
noncomputable def g8 (H:Hp)(p q1:Addr)(u1 u3:HO):Hp:=upd (upd H p u1) q1 u3
section
variable {X:Cx}{pins:List (Addr×Obj)}{σ:L2.St}{H:Hp}{s:Shared}{p q1:Addr}{mE:List (Key×V)}{f:Nat->List (Key×FD)}
theorem Inv.Kh (I:L2.Inv X pins σ H s)(hp:H p=some (.lst [.ref q1]))(Jb:H q1=some (.dK mE))(f1:qm H mE (f 0)):∃ o1,L2.Inv X pins σ (g8 H p q1 (.memo [(p,f)]) (.kd (some (p,0)) o1 mE)) s:=by
 obtain⟨z1,i1,c1,r1,e1⟩:=(show aK X.prog X.w H s.heap p (.lst [.ref q1]) from I.bb p _ hp)
 obtain⟨Kb,lo1,V8,V9,o1,Wa,Wb,Sf,Wc⟩:=(show aK X.prog X.w H s.heap q1 (.dK mE) from I.bb q1 _ Jb)
 obtain⟨u1,rfl,w1⟩:=vals1 r1
 cases (show u1=Value.ref q1 from w1)
 refine⟨o1,?_⟩
 have m1:p≠q1:=fun z=>by rw[z,Jb] at hp;cases hp
 generalize Kc:g8 H p q1 (.memo [(p,f)]) (.kd (some (p,0)) o1 mE)=H'
 have Sh:H' p=some (.memo [(p,f)]):=by rw[<- Kc];unfold g8;rw[ag m1,aj]
 have GZ:H' q1=some (.kd (some (p,0)) o1 mE):=by rw[<- Kc];unfold g8;rw[aj]
 have BE:∀ b,b≠p->b≠q1->H' b=H b:=fun b a1 a3=>by rw[<- Kc];unfold g8;rw[ag a3,ag a1]
 have rX:∀ b o,H b=some o->XT o=false->H' b=some o:=fun b o e n=>by
   rw[BE b (fun z=>by rw[z,hp] at e;cases e;cases n) (fun z=>by rw[z,Jb] at e;cases e;cases n)]
   exact e
 have kp:Kp H H':=⟨fun b o e kq=>rX b _ e (by cases o <;> first | rfl | exact(show False from kq).elim),fun b e=>by
   cases q:H b with
   | none=>rw[q] at e;exact e.elim
   | some u=>
     rw[q] at e
     rw[rX b u q (by cases u <;> first | rfl | exact e.elim)]
     exact e,fun b x e=>rX b _ e rfl⟩
 refine I.un (h':=s.heap) (t':=s.toks) ⟨fun b o e _ _ _=>e,fun b o e _ _ _=>⟨o.slots,e⟩,fun b o e n _=>?_,fun b o e _=>⟨o,e⟩,fun b xs e=>rX b _ e rfl,fun b o u e=>rX b _ e rfl,fun b ps e=>⟨#[],by rw[rX b _ e rfl];simp⟩⟩ fun b u e=>?_
 . rw[BE b (fun z=>by rw[z,hp] at n;cases n) (fun z=>by rw[z,Jb] at n;cases n)]
   exact n
 . by_cases b1:b=p
   . subst b1
     rw[Sh] at e;cases e
     refine⟨⟨_,e1⟩,1,by decide,⟨f,rfl⟩,rfl,fun j a h hj=>?_,by simp,fun n hn=>by rw[List.mem_replicate] at hn;omega,fun j a h n hj hn=>?_⟩
     . match j,hj with
       | 0,hj=>cases hj;exact .inl rfl
     . match j,hj,hn with
       | 0,hj,hn=>
         cases hj;cases hn
         refine⟨_,_,e1,rfl,fun i hi=>?_⟩
         have:i=0:=by omega
         subst this
         exact⟨q1,o1,mE,rfl,GZ,f1.kp kp⟩
   . by_cases b3:b=q1
     . subst b3;rw[GZ] at e;cases e
       refine⟨Sf,⟨Kb,lo1,V8,V9,o1,Wa,Wb,Sf,Wc⟩,fun a i ht=>?_⟩
       cases ht
       exact⟨by rw[Sh];trivial,_,_,e1,rfl⟩
     . rw[BE b b1 b3] at e
       exact(I.bb b u e).xj (fun _ _ _ q=>q) (fun c q=>rX c _ q rfl) (fun c xs q=>rX c _ q rfl) kp
end
section
variable {X:Cx}{G:Gr}{E:XK}{e1:Expr}{fs:List (Str×Dt)}{z C:Addr}{tl:List Slot}{f:Nat->List (Key×FD)}{n0 x0:Str}{Oy Oz OA q1:Pos}
theorem vO (no:noOwn tl=true)(cl:rP X.K C)(Ol:bB X.K C n0)(Wg:EO X G (.own (.zH z C fs)::tl) e1 (.dZ (mL (f 0))))(OB:∀ p ls,putD n0 (.memo p ls 0 1) fs=ql fs [n0] p ls 1:=by intro _ _;rfl)(hlen:Nat.ble fs.length 990=true:=by rfl)(hN:X.N[0]?=some x0:=by rfl)(hv:vH X.env.scope x0:=by first | exact Or.inl rfl | exact Or.inr (Or.inl rfl) | exact Or.inr (Or.inr rfl))(lN:(x0 == ("__debug__":Str))=false:=by decide)(lP:(x0 == ("__classdict__":Str))=false:=by decide)(x5:starEach [e1] X.env=[(false,eval e1 X.env)]:=by rfl)(FV:swapsWith (.List [e1] OA) (some (.Attribute (.Name x0 Oy) n0 Oz)) q1.line X.env=pure false:=by rfl):lu X G E (.own (.zH z C fs)::tl) [.Assign [.Attribute (.Name x0 Oy) n0 Oz] (.List [e1] OA) q1] (.nx (.own (.xE z C fs [f] [n0] 1)::tl)):=by
 intro pins s st H D I ⟨Hf,S,k⟩
 have base:=kL (tZ (pos:=q1) (pos':=Oz) (iO (pos:=Oy) hN hv lN lP) (t5 (pos:=OA) (d7 Wg lS x5)) FV)
 let RQ:L2.St->Hp->Prop:=fun jr H'=>∃ p a1 mE,H' p=some (.lst [.ref a1])/\H' a1=some (.dK mE)/\qm H' mE (f 0)/\∀ o1,D.nx jr (g8 H' p a1 (.memo [(p,f)]) (.kd (some (p,0)) o1 mE))
 refine bQ (base pins s st H { D with nx:=RQ} I ?_) fun fl s7 q7=>?_
 . obtain⟨za,hz,Wh,Qh,ez,dx,fv,Kd,rf⟩:=S.own 0 _ rfl
   subst ez
   refine⟨Hf,S,fun a1 au H1 g1 Sk OC ⟨mE,N6,Wi⟩=>⟨Nat.le_of_ble_eq_true rfl,fun p hp=>?_⟩⟩
   have Kb:H1 za=some (.ins C dx fv):=g1.big _ _ Kd
   have Jc:za≠p:=aw Kb hp
   have Sl:a1≠p:=aw N6 hp
   have Md:za≠a1:=fun w=>by rw[w,Sk] at Kd;cases Kd
   have Wj:(upd H1 p (.lst [.ref a1])) za=some (.ins C dx fv):=by rw[ag Jc];exact Kb
   refine⟨_,hz,za,C,dx,fv,rfl,Wj,cl,Ol,by rw[rf.length];exact Nat.lt_of_le_of_lt (Nat.le_of_ble_eq_true hlen) (by decide),?_⟩
   let H4:Hp:=upd (upd H1 p (.lst [.ref a1])) za (.ins C dx (eO n0 (.ref p) fv))
   have Ep:au za=none:=g1.ky Wh Kd
   have Wk:aP au H1 au (upd H1 p (.lst [.ref a1])):=.dH g1.sub hp
   have S0:cS X.K G st Hf H (.bV::tl):=S.weak ⟨rfl,fun i s' e n=>by
     cases i with
     | zero=>cases e;exact absurd rfl n
     | succ i=>exact e⟩
   have Ua:noOwn (.bV::tl)=true:=no
   have S4:cS X.K G st au H4 (.bV::tl):=nI ((S0.grow g1).grow Wk) Ua Ep Qh
   have Ws:H4 za=some (.ins C dx (eO n0 (.ref p) fv)):=aj
   have Wo:H4 p=some (.lst [.ref a1]):=by show(upd (upd H1 p _) za _) p=_;rw[ag (Ne.symm Jc),aj]
   have OF:H4 a1=some (.dK mE):=by show(upd (upd H1 p _) za _) a1=_;rw[ag (Ne.symm Md),ag Sl];exact N6
   have Ue:au p=none:=g1.sub.free hp
   have x6:aD au H4:=fun b o e=>by
     have b1:b≠za:=fun w=>by rw[w,Ep] at e;cases e
     have b2:b≠p:=fun w=>by rw[w,Ue] at e;cases e
     show(upd (upd H1 p _) za _) b=_
     rw[ag b1,ag b2];exact g1.sub _ _ e
   have gp:G.H p=none:=S.gr.big.free (g1.big.free hp)
   have Sq:G.H a1=none:=S.gr.big.free Sk
   have Sr:qm au mE (f 0):=oR Wi
   refine⟨p,a1,mE,Wo,OF,fE (fun b u e _=>x6 _ _ e) Sr,fun o1=>?_⟩
   let ls:iK:=[(p,f)]
   let u1:HO:=.memo ls
   let u3:HO:=.kd (some (p,0)) o1 mE
   have m1:p≠a1:=Ne.symm Sl
   have cat:∀ (B:Hp),g8 B p a1 u1 u3 p=some u1/\g8 B p a1 u1 u3 a1=some u3:=fun B=>by
     unfold g8
     refine⟨?_,?_⟩
     . rw[ag m1,aj]
     . rw[aj]
   have uL:∀ (B:Hp) b,b≠p->b≠a1->g8 B p a1 u1 u3 b=B b:=fun B b c1 c3=>by unfold g8;rw[ag c3,ag c1]
   let sM:Hp:=g8 au p a1 u1 u3
   have E6:aD au sM:=fun b o e=>by
     show g8 au p a1 u1 u3 b=some o
     rw[uL au b (fun w=>by rw[w,Ue] at e;cases e) (fun w=>by rw[w,OC] at e;cases e)]
     exact e
   have key:∀ (A B:Hp),aD A B->aD (g8 A p a1 u1 u3) (g8 B p a1 u1 u3):=fun A B sm=>cH (cH sm)
   have OG:aD sM (g8 H4 p a1 u1 u3):=key _ _ x6
   have G1:aZ X.K sM (eO n0 (.ref p) fv) (ql fs [n0] p ls 1):=by
     rw[<- OB p ls]
     refine(rf.mono (g1.aW.trans E6)).put (f:=n0) (d:=.memo p ls 0 1) ?_
     refine .memo (f:=f) rfl (cat au).1 (.inl rfl) fun i hi=>?_
     have:i=0:=by omega
     subst this
     exact⟨a1,o1,mE,(cat au).2,fE (fun b u e _=>E6 _ _ e) Sr⟩
   have Wv:g8 H4 p a1 u1 u3 za=some (.ins C dx (eO n0 (.ref p) fv)):=by rw[uL H4 za Jc Md];exact Ws
   have Ww:sM za=none:=by show g8 au p a1 u1 u3 za=none;rw[uL au za Jc Md];exact Ep
   refine k st sM _ (g1.aW.trans E6) ⟨⟨fun b o e=>?_,S4.gr.aW.trans E6,OG,fun b o e=>?_⟩,by have:=S4.len;simpa using this,fun i d h=>?_,fun i o h=>?_,fun i j o o' a w1 w2=>?_⟩
   . rw[uL H4 b (fun w=>by rw[w,gp] at e;cases e) (fun w=>by rw[w,Sq] at e;cases e)]
     exact S4.gr.big _ _ e
   . by_cases c1:b=p
     . rw[c1];exact .inr (.inl gp)
     . by_cases c3:b=a1
       . rw[c3];exact .inr (.inl Sq)
       . have e:g8 au p a1 u1 u3 b=some o:=e
         rw[uL au b c1 c3] at e
         exact S4.gr.new b o e
   . cases i with
     | zero=>cases h
     | succ i=>
       obtain⟨w,w1,w2⟩:=S4.val (i+1) d h
       exact⟨w,w1,w2.mono E6⟩
   . cases i with
     | zero=>
       cases h
       exact⟨za,hz,Ww,Qh,rfl,dx,_,p,ls,rfl,Wv,G1⟩
     | succ i=>exact absurd h (aU no i o)
   . cases i with
     | zero=>cases j with
       | zero=>exact fun _ _=>rfl
       | succ j=>exact absurd w2 (aU no j o')
     | succ i=>exact absurd w1 (aU no i o)
 . cases fl with
   | next=>
     obtain⟨σ7,H7,I7,p,a1,mE,y1,y3,y5,kk⟩:=q7
     obtain⟨o1,I8⟩:=Inv.Kh I7 y1 y3 y5
     exact⟨σ7,_,I8,kk o1⟩
   | cont=>exact q7
   | brk=>exact q7
   | ret v=>exact q7
end
section
variable {X:Cx}{G0:Gr}{E:XK}{fs:List (Str×Dt)}{l C:Addr}{ls:iK}{n N:Nat}{tl:List Slot}{f:Nat->List (Key×FD)}{n0 x0 xg:Str}{p1 p2 p3 a1 c1 q1:Pos}
theorem Ae (ng:Nat)(hs:jM l fs=true)(ht:pP l tl=true)(hu:tl[ng]?=some .bV)(sQ:ls.map (·.2)=[f])(hN:N < 9000)(cl:rP X.K C)(Ol:bB X.K C n0)(hA:G0.Hf l=some (.memo ls))(hB:G0.H l=some (.memo ls))
   (Qe:(oh fs [n0] l ls n).lookup n0=some (.dq l ls 0 n):=by rfl)
   (Qd:X.N[0]?=some x0:=by rfl) (TZ:vH X.env.scope x0:=by first | exact Or.inl rfl | exact Or.inr (Or.inl rfl) | exact Or.inr (Or.inr rfl)) (T3:(x0 == ("__debug__":Str))=false:=by decide) (T4:(x0 == ("__classdict__":Str))=false:=by decide)
   (VR:X.N[ng+1]?=some xg:=by rfl) (VS:vH X.env.scope xg:=by first | exact Or.inl rfl | exact Or.inr (Or.inl rfl) | exact Or.inr (Or.inr rfl)) (VT:(xg == ("__debug__":Str))=false:=by decide) (VU:(xg == ("__classdict__":Str))=false:=by decide)
   (R5:attributeBase (.Name x0 p1) n0 X.env (eval (.Name x0 p1) X.env)=eval (.Name x0 p1) X.env:=by rfl)
   (BF:attributeBase (.Attribute (.Name x0 p1) n0 p2) "append" X.env (eval (.Attribute (.Name x0 p1) n0 p2) X.env)=eval (.Attribute (.Name x0 p1) n0 p2) X.env:=by rfl)
   (GW:((backTo c1 (starEach [.Name xg p3] X.env)).all (fun x=>!x.1) && (backToKw c1 (keywordEach [] X.env)).all (fun x=>x.1.isSome) && decide ([Expr.Name xg p3].length+([]:List Keyword).length+(if ([]:List Keyword).isEmpty then 0 else 1) < 30))=true:=by rfl)
   (BG:(a1.endLine == c1.line)=true:=by rfl) (x5:starEach [.Name xg p3] X.env=(false,eval (.Name xg p3) X.env)::starEach [] X.env:=by rfl)
   (FV:swapsWith (.Call (.Attribute (.Attribute (.Name x0 p1) n0 p2) "append" a1) [.Name xg p3] [] c1) none q1.line X.env=pure false:=by rfl) :
   lu X (R3 G0 l (.bw ls (List.replicate ls.length N))) E (.val (.obj C (oh fs [n0] l ls n))::tl.set ng (.own (.dZ (mL (f N)))))
     [.Expr (.Call (.Attribute (.Attribute (.Name x0 p1) n0 p2) "append" a1) [.Name xg p3] [] c1) q1] (.raw (RM X.K G0 C fs [n0] l ls n tl (N+1))):=by
 refine rT (kL (lQ (t7 PySem.F.plainAttrs_list PySem.F.slot_list_append PySem.F.type_list_append oS (tY (iO (pos:=p1) Qd TZ T3 T4) R5) (d7 (iO (pos:=p3) VR VS VT VU) lS x5) BF GW BG x5 rfl) FV)) fun D st H ⟨Hf,S,k⟩=>?_
 have e2:ls.length=1:=by have:=congrArg List.length sQ;simpa using this
 have eR:∀ M:Nat,List.replicate ls.length M=[M]:=fun M=>by rw[e2];rfl
 rw[eR] at S
 have R8:ng < tl.length:=(List.getElem?_eq_some_iff.mp hu).1
 obtain⟨v0,hv,rv⟩:=S.val 0 _ rfl
 cases rv with
 | @obj sa _ dx fv _ Oq rf=>
   obtain⟨oa,BH,T5,_,back⟩:=Rd.ex Oq
   have Ot:Hf l=some (.bw ls [N]):=S.gr.aW _ _ aj
   have Mb:H l=some (.bw ls [N]):=S.sub _ _ Ot
   have hm:bO Hf l ls:=.inr ⟨_,Ot⟩
   obtain⟨y0,VW,VX⟩:=rf.lookup Qe
   obtain⟨qa,hq,R9,VY,kvs,Mc,rk⟩:=S.own (ng+1) (.dZ (mL (f N))) (by show(tl.set ng _)[ng]?=_;rw[List.getElem?_set_self R8])
   cases VX with
   | @dq _ p _ _ _ f0 Gy _ VZ _=>
       have V1:f0=f:=by
         have:=congrArg (fun z=>z[0]?) sQ
         simp only[List.getElem?_map,Gy] at this
         exact Option.some.inj this
       subst V1
       have T6:qm H kvs (f0 N):=fE (fun b u e _=>S.sub _ _ e) (oR rk)
       have V2:qa≠l:=fun z=>by rw[z,Mb] at Mc;cases Mc
       have Sa:sa≠l:=fun z=>by rw[z,Ot] at BH;cases BH;cases T5
       have XO:sa≠qa:=fun z=>by rw[z,R9] at BH;cases BH
       refine⟨_,hv,sa,C,dx,fv,_,rfl,back _ (S.sub _ _ BH),cl,Ol,VW,.inr (.inr (.inr (.inr ⟨rfl,l,ls,[N],0,f0,N,Mb,Gy,rfl⟩))),_,hq,l,ls,[N],0,p,f0,N,qa,kvs,rfl,rfl,Mb,Gy,rfl,hN,Mc,T6,fun oq=>?_⟩
       let H6:Hp:=upd (upd H l (.bw ls ([N].set 0 (N+1)))) qa (.kd (some (p,N)) oq kvs)
       show D.nx st H6
       have V4:H6 l=some (.bw ls [N+1]):=by show(upd (upd H l _) qa _) l=_;rw[ag (Ne.symm V2),aj];rfl
       have Sd:∀ b o,H b=some o->b≠l->b≠qa->(upd H6 l (.memo ls)) b=some o:=fun b o e n1 n2=>by
         rw[ag n1]
         show(upd (upd H l _) qa _) b=_
         rw[ag n2,ag n1];exact e
       have V5:∀ b o,Hf b=some o->b≠qa:=fun b o e z=>by rw[z,R9] at e;cases e
       have GX:aD (upd Hf l (.memo ls)) (upd H6 l (.memo ls)):=fun b o e=>by
         by_cases bl:b=l
         . rw[bl,aj] at e ⊢;exact e
         . rw[ag bl] at e;exact Sd b o (S.sub _ _ e) bl (V5 b o e)
       have GY:=fC GX
       have g6:aP G0.Hf G0.H (iV (upd Hf l (.memo ls)) (upd H6 l (.memo ls))) (upd H6 l (.memo ls)):=by
         refine⟨fun b o e=>?_,fun b o e=>?_,mZ GX,fun b o e=>?_⟩
         . by_cases bl:b=l
           . rw[bl,hB] at e;cases e;rw[bl];exact aj
           . have h3:H b=some o:=S.gr.big _ _ (by show(upd G0.H l _) b=_;rw[ag bl];exact e)
             have V6:b≠qa:=fun z=>by
               have:(upd G0.H l (.bw ls [N])) qa=none:=VY
               rw[<- z,ag bl,e] at this;cases this
             exact Sd b o h3 bl V6
         . by_cases bl:b=l
           . rw[bl,hA] at e;cases e;rw[bl];exact GY _ _ aj
           . have h3:Hf b=some o:=S.gr.aW _ _ (by show(upd G0.Hf l _) b=_;rw[ag bl];exact e)
             exact GY _ _ (by rw[ag bl];exact h3)
         . rcases nL (Hf:=upd Hf l (.memo ls)) (H:=upd H6 l (.memo ls)) b with⟨u',z1,z2,z3⟩ | z
           . rw[z3] at e;cases e;exact .inr (.inr z2)
           . rw[z] at e
             by_cases bl:b=l
             . rw[bl];exact .inl ⟨_,hA⟩
             . rw[ag bl] at e
               rcases S.gr.new b o e with⟨Nx,y⟩ | y | y
               . have y:(upd G0.Hf l _) b=some Nx:=y
                 rw[ag bl] at y;exact .inl ⟨Nx,y⟩
               . have y:(upd G0.H l _) b=none:=y
                 rw[ag bl] at y;exact .inr (.inl y)
               . exact .inr (.inr y)
       have Ov:∀ {v:V} {d:Dt},qQ l d=true->Rep X.K Hf v d->Rep X.K (iV (upd Hf l (.memo ls)) (upd H6 l (.memo ls))) v d:=fun {v d} hn r=>(gZ hm (.inl rfl) hn r).mono GY
       refine k st H6 ⟨by rw[eR];exact V4,_,⟨g6,by have:=S.len;simpa using this,fun i d h=>?_,fun i o h=>?_,fun i j o o' a h=>?_⟩⟩
       . cases i with
         | zero=>
           cases h
           refine⟨_,hv,.obj (back _ (GY _ _ (by rw[ag Sa];exact BH))) ?_⟩
           exact(Ma hs hm rf).mono GY
         | succ i=>
           have h:tl[i]?=some (.val d):=h
           have e:ng≠i:=fun z=>by rw[<- z,hu] at h;cases h
           obtain⟨w,w1,w2⟩:=S.val (i+1) d (by show(tl.set ng _)[i]?=_;rw[List.getElem?_set_ne e];exact h)
           exact⟨w,w1,Ov (lC ht h) w2⟩
       . cases i with
         | zero=>cases h
         | succ i=>exact absurd h (aU (gh ht) i o)
       . cases i with
         | zero=>cases h
         | succ i=>exact absurd h (aU (gh ht) i o)
end
noncomputable abbrev Wx (g:Str)(C':Addr)(fs':List (Str×Dt))(nm':List Str)(l':Addr)(ls':iK)(n':Nat):List (Str×Dt):=[(g,.obj C' (ql fs' nm' l' ls' n'))]
section
variable {X:Cx}{G:Gr}{E:XK}{dl:List Slot}{sts:List Stmt}{o:Out}{C C' l l':Addr}{ls ls':iK}{n n':Nat}{nm nm':List Str}{fs':List (Str×Dt)}{g:Str}{K:W.Frag}{Hf H:Hp}{st:L2.St}
theorem Ki {fv:List (Str×V)}(r:aZ K Hf fv (ql (Wx g C' fs' nm' l' ls' n') nm l ls n)):∃ v f2,fv=(g,v)::f2/\Rep K Hf v (.obj C' (ql fs' nm' l' ls' n'))/\aZ K Hf f2 ((List.range nm.length).map fun j=>(nm.getD j "",.memo l ls j n)):=by
 have r:aZ K Hf fv ((g,.obj C' (ql fs' nm' l' ls' n'))::(List.range nm.length).map fun j=>(nm.getD j "",.memo l ls j n)):=r
 cases r with
 | cons h t=>exact⟨_,_,rfl,h,t⟩
theorem Er (i:Nat)(hn:0 < nm.length)(P0:0 < nm'.length)(hl:ls'.length≠ls.length)(h:l'≠l->lu X G E dl sts o)(hd:dl[i]?=some (.val (.obj C (ql (Wx g C' fs' nm' l' ls' n') nm l ls n))):=by rfl):lu X G E dl sts o:=by
 intro pins s st H D I ⟨Hf,S,k⟩
 obtain⟨v,hv,rv⟩:=S.val i _ hd
 refine h ?_ pins s st H D I ⟨Hf,S,k⟩
 cases rv with
 | obj q r=>
   obtain⟨v',f2,_,r1,r2⟩:=Ki r
   have h1:=uJ hn r
   cases r1 with
   | obj q' r'=>
     have h2:=uJ P0 r'
     intro z
     rw[z,h1] at h2
     have:=HO.memo.inj (Option.some.inj h2)
     exact hl (by rw[this])
end
structure Es (K:W.Frag)(G0 Hf H:Hp)(a p q:Addr)(ds xs ys:List Dt)(d6:Dt):Prop where
 tu:∃ vs v6,sD K Hf a (vs ++ [.ref p,.ref q,v6])/\bc K Hf vs ds/\Rep K Hf v6 d6
 lp:∃ vs,H p=some (.lst vs)/\bc K Hf vs xs
 lq:∃ vs,H q=some (.lst vs)/\bc K Hf vs ys
 ne:p≠q
 fp:Hf p=none
 fq:Hf q=none
 gp:G0 p=none
 gq:G0 q=none
section
variable {K:W.Frag}{G:Gr}{st:L2.St}{G0 Hf H aF H':Hp}{dl:List Slot}{a p q:Addr}{ds xs ys:List Dt}{d6:Dt}
theorem C5 {vs:List V}(g:aP Hf H aF H')(h:H p=some (.lst vs))(n:Hf p=none):aF p=none:=by
 cases e:aF p with
 | none=>rfl
 | some o=>
   obtain⟨o',h'⟩:=g.ua h (fun z=>z) e
   rw[n] at h';cases h'
theorem Es.grow (T:Es K G0 Hf H a p q ds xs ys d6)(g:aP Hf H aF H'):Es K G0 aF H' a p q ds xs ys d6:=by
 obtain⟨vs,v6,h1,h2,h3⟩:=T.tu
 obtain⟨vx,hx,rx⟩:=T.lp
 obtain⟨vy,hy,ry⟩:=T.lq
 exact⟨⟨vs,v6,br g.aW h1,h2.mono g.aW,h3.mono g.aW⟩,⟨vx,g.big _ _ hx,rx.mono g.aW⟩,⟨vy,g.big _ _ hy,ry.mono g.aW⟩,T.ne,C5 g hx T.fp,C5 g hy T.fq,T.gp,T.gq⟩
noncomputable def uM (dl:List Slot):Prop:=∀ (i:Nat) (o:Own),dl[i]?≠some (.own o)
theorem Es.aW (T:Es K G.H Hf H a p q ds xs ys d6)(S:cS K G st Hf H dl){n:Nat}(hn:st[n]?=some (some (.ref a)))(no:uM dl):∃ aF,aD Hf aF/\cS K G st aF H (dl.set n (.val (.tup (ds ++ [.lst xs,.lst ys,d6])))):=by
 obtain⟨vs,v6,h1,h2,h3⟩:=T.tu
 obtain⟨vx,hx,rx⟩:=T.lp
 obtain⟨vy,hy,ry⟩:=T.lq
 have s1:aD Hf (upd Hf p (.lst vx)):=a5 T.fp
 have fq':upd Hf p (.lst vx) q=none:=by rw[ag (Ne.symm T.ne)];exact T.fq
 have s2:aD (upd Hf p (.lst vx)) (upd (upd Hf p (.lst vx)) q (.lst vy)):=a5 fq'
 have sm:=s1.trans s2
 have ep:upd (upd Hf p (.lst vx)) q (.lst vy) p=some (.lst vx):=by rw[ag T.ne,aj]
 have rp:Rep K (upd (upd Hf p (.lst vx)) q (.lst vy)) (.ref a) (.tup (ds ++ [.lst xs,.lst ys,d6])):=
   .tup (br sm h1) ((h2.mono sm).append (.cons (.lst ep (rx.mono sm)) (.cons (.lst aj (ry.mono sm)) (.cons (h3.mono sm) .nil))))
 refine⟨_,sm,⟨S.gr.big,S.gr.aW.trans sm,fun b o h=>?_,fun b o h=>?_⟩,by simp[S.len],fun j d h=>?_,fun j o h=>?_,fun i j o o' b h=>?_⟩
 . by_cases e:b=q
   . subst e;rw[aj] at h;cases h;exact hy
   . rw[ag e] at h
     by_cases e':b=p
     . subst e';rw[aj] at h;cases h;exact hx
     . rw[ag e'] at h;exact S.gr.sub _ _ h
 . by_cases e:b=q
   . subst e;exact .inr (.inl T.gq)
   . rw[ag e] at h
     by_cases e':b=p
     . subst e';exact .inr (.inl T.gp)
     . rw[ag e'] at h;exact S.gr.new b o h
 . by_cases e:n=j
   . subst e
     have hl:n < dl.length:=by
       have:=(List.getElem?_eq_some_iff.mp hn).1
       rw[S.len] at this;exact this
     rw[List.getElem?_set_self hl] at h;cases h
     exact⟨_,hn,rp⟩
   . rw[List.getElem?_set_ne e] at h
     obtain⟨v,z1,z2⟩:=S.val j d h
     exact⟨v,z1,z2.mono sm⟩
 . by_cases e:n=j
   . subst e
     by_cases hl:n < dl.length
     . rw[List.getElem?_set_self hl] at h;cases h
     . rw[List.getElem?_eq_none (by simp;omega)] at h;cases h
   . rw[List.getElem?_set_ne e] at h;exact absurd h (no j o)
 . by_cases e:n=i
   . subst e
     by_cases hl:n < dl.length
     . rw[List.getElem?_set_self hl] at h;cases h
     . rw[List.getElem?_eq_none (by simp;omega)] at h;cases h
   . rw[List.getElem?_set_ne e] at h;exact absurd h (no i o)
end
noncomputable def X3 (K:PySem.W.Frag)(G:Gr)(dl:List Slot)(ds xs ys:List Dt)(d6:Dt):TE:=fun st H Q=>∃ Hf,cS K G st Hf H dl/\∀ a p q aF H',aP Hf H aF H'->Es K H aF H' a p q ds xs ys d6->Q (.ref a) H'
noncomputable def Ss (K:PySem.W.Frag)(n:Nat)(R:List Dt->List Dt->List Dt->List Dt->Dt->Prop):Sp:=fun vs H Q _=>∃ Hf as ds xs ys d6,aD Hf H/\bc K Hf vs as/\as.length=n/\R as ds xs ys d6/\∀ a p q aF H',aP Hf H aF H'->Es K H aF H' a p q ds xs ys d6->Q (.ref a) H'
noncomputable def BI (K:PySem.W.Frag)(G:Gr)(E:XK)(dl:Addr->List Slot)(ds xs ys:List Dt)(d6:Dt)(o:Out):TS:=fun D st H=>∃ Hf a p q,cS K G st Hf H (dl a)/\Es K G.H Hf H a p q ds xs ys d6/\ub K G E D Hf o
section
variable {X:Cx}{G:Gr}{E:XK}{dl dl1:Addr->List Slot}{e c:Expr}{ds xs ys:List Dt}{d d6:Dt}{s:Stmt}{sts b:List Stmt}{o:Out}{pos pos':Pos}{x m:Str}{C:Addr}{fs:List (Str×Dt)}{n:Nat}
theorem Kj {CX:pA}{f:Addr}{fd:FuncData}{ps:List Str}{k k':Nat}{ob:Expr}{apos:Pos}{Qi:List Slot}{R:List Dt->List Dt->List Dt->List Dt->Dt->Prop}{pl:Sem Bool}(he:EE X G Qi ob (.obj C fs))(c:rP X.K C)(hm:Meth X.K C m f)(F:iL X.prog X.w X.K X.mg X.base CX k f fd ps (Ss X.K 1 R))(nx:xG CX)(hr:di k' X.A)(hb:Binds X.K fd ps [])
   (h:R [.obj C fs] ds xs ys d6) (rV:k<=k':=by decide) (pj:fs.lookup m=none:=by rfl)
   (ht:eval (.Call (.Attribute ob m apos) [] [] pos) X.env=(do
     let ov <- eval ob X.env
     standAt apos.atName
     let (f,first) <- holding [ov] (getMethod ov m pl)
     callWith pos f first (backTo pos (starEach [] X.env)) (backToKw pos (keywordEach [] X.env))):=by rfl):PE X (.Call (.Attribute ob m apos) [] [] pos) (X3 X.K G Qi ds xs ys d6):=
 fB (t6 (pl:=pl) (E:=E0) he c hm F (hr.mono rV) hb .nil nx.passes ht) fun st H Q ⟨Hf,S,k⟩=>⟨Hf,S,fun v au H1 g1 r1=>by
   cases r1 with
   | @obj a _ dx fv _ q r=>
     refine⟨a,dx,fv,rfl,dt g1.sub q,r.none_of pj,au,_,ds,xs,ys,d6,g1.sub,.cons (.obj q r) .nil,rfl,h,fun a p q iP H3 g3 T=>k a p q iP H3 (g1.trans g3) ⟨T.tu,T.lp,T.lq,T.ne,T.fp,T.fq,g1.big.free T.gp,g1.big.free T.gq⟩⟩⟩
theorem OK (n:Nat){Qi:List Slot}(hN:X.N.Nodup)(he:PE X e (X3 X.K G Qi ds xs ys d6))(h2:tW X sts (BI X.K G E (fun a=>Qi.set n (.val (.cls a))) ds xs ys d6 o))(hi:X.N[n]?=some x:=by rfl)(hx:Loc X.env.scope x:=by first | exact Or.inl rfl | exact Or.inr rfl)(hs:swapsWith e (some (.Name x pos')) pos.line X.env=pure false:=by rfl)(hf:X.fn x=true\/X.env.scope.names.lookup x=some .local:=by first | exact .inl rfl | exact .inr rfl):lu X G E Qi (.Assign [.Name x pos'] e pos::sts) o:=
 rT (gb (xp hN hi hx he hs hf) h2) fun D st H ⟨Hf,S,k⟩=>⟨Hf,S,fun a p q au H1 g1 T=>⟨au,a,p,q,(S.grow g1).set (.cls a),⟨T.tu,T.lp,T.lq,T.ne,T.fp,T.fq,S.gr.big.free T.gp,S.gr.big.free T.gq⟩,k.mono g1.aW⟩⟩
theorem C6 (no:∀ a,uM (dl a))(hs:∀ G' a,ES X G' E (dl a) s (.nx (dl1 a)))(h2:tW X sts (BI X.K G E dl1 ds xs ys d6 o)):tW X (s::sts) (BI X.K G E dl ds xs ys d6 o):=by
 have h1:PS X s (fun D st H=>∃ Hf a p q,cS X.K G st Hf H (dl a)/\Es X.K G.H Hf H a p q ds xs ys d6/\∀ jr aF H',aD Hf aF->cS X.K G jr aF H' (dl1 a)->Es X.K G.H aF H' a p q ds xs ys d6->D.nx jr H'):=fun pins s0 st H D I ⟨Hf,a,p,q,S,T,k⟩=>by
   have S2:cS X.K ⟨Hf,H⟩ st Hf H (dl a):=⟨.refl S.sub,S.len,S.val,fun i o h=>absurd h (no a i o),fun i j o o' b h=>absurd h (no a i o)⟩
   refine hs ⟨Hf,H⟩ a pins s0 st H D I ⟨Hf,S2,fun jr aF H' sm S'=>k jr aF H' sm ⟨S.gr.trans S'.gr,S'.len,S'.val,fun i o h=>?_,S'.D2⟩ (T.grow S'.gr)⟩
   obtain⟨b,z1,z2,z3,z4⟩:=S'.own i o h
   exact⟨b,z1,z2,S.gr.big.free z3,z4⟩
 exact rT (gb h1 h2) fun D st H ⟨Hf,a,p,q,S,T,k⟩=>⟨Hf,a,p,q,S,T,fun jr aF H' sm S' T'=>⟨aF,a,p,q,S',T',k.mono sm⟩⟩
theorem Sv (n:Nat)(no:∀ a,uM (dl a))(hd:∀ a,(dl a)[n]?=some (.val (.cls a)))(hc:∀ a,EB X G ((dl a).set n (.val (.tup (ds ++ [.lst xs,.lst ys,d6])))) c false)(h2:tW X sts (BI X.K G E dl ds xs ys d6 o)):tW X (.If c b [] pos::sts) (BI X.K G E dl ds xs ys d6 o):=by
 have h1:PS X (.If c b [] pos) (fun D st H=>∃ Hf a p q,cS X.K G st Hf H (dl a)/\Es X.K G.H Hf H a p q ds xs ys d6/\∀ H',cS X.K G st Hf H' (dl a)->Es X.K G.H Hf H' a p q ds xs ys d6->D.nx st H'):=fun pins s0 st H D I ⟨Hf,a,p,q,S,T,k⟩=>by
   obtain⟨v,hv,rv⟩:=S.val n _ (hd a)
   cases rv
   obtain⟨au,_,S1⟩:=T.aW S hv (no a)
   refine Fn (hc a) (nB (sts:=b)) Ck pins s0 st H D I ⟨au,S1,fun aF H' g=>zF ?_⟩
   exact k H' (S.grow (L3 S.sub g)) (T.grow (L3 S.sub g))
 exact rT (gb h1 h2) fun D st H ⟨Hf,a,p,q,S,T,k⟩=>⟨Hf,a,p,q,S,T,fun H' S' T'=>⟨Hf,a,p,q,S',T',k⟩⟩
theorem Et (n:Nat){i:Int}{pn pq pi apos b6:Pos}{ji:Nat}(no:∀ a,uM (dl a))(hd:∀ a,(dl a)[n]?=some (.val (.cls a)))(hi:i=(ds.length:Int))(he:∀ a,EE X G (dl a) e d)(hl:xs.length < sizeLine)(h2:∀ a,lu X G E ((dl a).set n (.val (.tup (ds ++ [.lst (xs ++ [d]),.lst ys,d6])))) sts o)
   (hN:X.N[n]?=some x:=by rfl) (hv:vH X.env.scope x:=by first | exact Or.inl rfl | exact Or.inr (Or.inl rfl) | exact Or.inr (Or.inr rfl)) (lN:(x == ("__debug__":Str))=false:=by decide) (lP:(x == ("__classdict__":Str))=false:=by decide)
   (kl:attributeBase (.Subscript (.Name x pn) (.Constant (.int i) ji pi) pq) "append" X.env (eval (.Subscript (.Name x pn) (.Constant (.int i) ji pi) pq) X.env)=eval (.Subscript (.Name x pn) (.Constant (.int i) ji pi) pq) X.env:=by rfl)
   (t8:((backTo b6 (starEach [e] X.env)).all (fun x=>!x.1) && (backToKw b6 (keywordEach [] X.env)).all (fun x=>x.1.isSome) && decide ([e].length+([]:List Keyword).length+(if ([]:List Keyword).isEmpty then 0 else 1) < 30))=true:=by rfl)
   (km:(apos.endLine == b6.line)=true:=by rfl) (oM:starEach [e] X.env=(false,eval e X.env)::starEach [] X.env:=by rfl) (hs:swapsWith (.Call (.Attribute (.Subscript (.Name x pn) (.Constant (.int i) ji pi) pq) "append" apos) [e] [] b6) none pos.line X.env=pure false:=by rfl) :
   tW X (.Expr (.Call (.Attribute (.Subscript (.Name x pn) (.Constant (.int i) ji pi) pq) "append" apos) [e] [] b6) pos::sts) (BI X.K G E dl ds xs ys d6 o):=fun pins s0 st H D I ⟨Hf,a,p,q,S,T,k⟩=>by
 obtain⟨v,Nd,rv⟩:=S.val n _ (hd a)
 cases rv
 obtain⟨vs,v6,t1,t2,t3⟩:=T.tu
 obtain⟨vx,hx,rx⟩:=T.lp
 have Wy:lj (vs ++ [V.ref p,.ref q,v6]) i=some (.ref p):=by
   unfold lj zy
   have Vz:=t2.length
   rw[hi,<- Vz]
   simp
   rw[if_pos (by omega)]
   simp
 refine gb (lQ (t7 PySem.F.plainAttrs_list PySem.F.slot_list_append PySem.F.type_list_append ll (rG FG (iO (pos:=pn) hN hv lN lP) Fj (by intro _ _;rfl)) (ae (he a) ai oM) kl t8 km oM rfl) hs) (h2 a) pins s0 st H D I ?_
 refine⟨_,Nd,a,_,i,_,rfl,rfl,br S.sub t1,Wy,.inl ⟨rfl,vx,.of hx⟩,Hf,S,fun us au H1 g1 r1=>?_⟩
 cases r1 with
 | @cons y _ _ _ r1 tt=>
   cases tt
   have T1:=T.grow g1
   have S1:=S.grow g1
   obtain⟨Sx,zo,X4⟩:=T1.lp
   have ev:Sx=vx:=by
     have:=g1.big _ _ hx
     rw[zo] at this;cases this;rfl
   subst ev
   refine⟨p,Sx,_,rfl,rfl,zo,by rw[X4.length];exact hl,?_⟩
   have g2:aP G.Hf G.H au (upd H1 p (.lst (Sx ++ [y]))):=⟨fun b u e=>by rw[ag (aw e T1.gp)];exact S1.gr.big _ _ e,S1.gr.aW,qA S1.sub T1.fp,S1.gr.new⟩
   have S2:cS X.K G st au (upd H1 p (.lst (Sx ++ [y]))) (dl a):=⟨g2,S1.len,S1.val,fun i o h=>absurd h (no a i o),fun i j o o' b h=>absurd h (no a i o)⟩
   obtain⟨vy,hy,ry⟩:=T1.lq
   have T2:Es X.K G.H au (upd H1 p (.lst (Sx ++ [y]))) a p q ds (xs ++ [d]) ys d6:=⟨T1.tu,⟨_,aj,X4.append (.cons r1 .nil)⟩,⟨vy,by rw[ag (Ne.symm T1.ne)];exact hy,ry⟩,T1.ne,T1.fp,T1.fq,T1.gp,T1.gq⟩
   obtain⟨iP,sm,S3⟩:=T2.aW S2 Nd (no a)
   exact⟨iP,S3,k.mono (g1.aW.trans sm)⟩
end
section
variable {X:Cx}{G:Gr}{E:XK}{dl:List Slot}{e:Expr}{o:Out}{pos pos' OL p:Pos}{x y:Str}{C C2:Addr}{fs:List (Str×Dt)}{gs gs2:List (Nat->List (Key×FD))}{nm nm2:List Str}{j j2:Nat}{CX:pA}{k k':Nat}{R:List Dt->Res->Prop}{sts:List Stmt}{fs2:Addr->iK->List (Str×Dt)}
theorem Eu (nn:Nat)(hN:X.N.Nodup)(F:NU X.prog X.w X.K X.mg X.base CX k x C2 2 R)(nx:xG CX)(hr:di k' X.A)(ha:EE X G dl e (.qz C fs gs nm j))(h:∀ l ls,(ls:iK).map (·.2)=gs->R [.obj C (ql fs nm l ls j)] (.own (.oP C2 (fs2 l ls) gs2 nm2 j2)))(h2:∀ l ls,(ls:iK).map (·.2)=gs->lu X G E (dl.set nn (.val (.qz C2 (fs2 l ls) gs2 nm2 j2))) sts o)(rV:k+1<=k':=by decide)(hg:Gl X x:=by rfl)(lN:(x == ("__debug__":Str))=false:=by decide)(he:starEach [e] X.env=(false,eval e X.env)::starEach [] X.env:=by rfl)(mD:(backTo OL (starEach [] X.env)).any (·.1)=false:=by rfl)(hi:X.N[nn]?=some y:=by rfl)(hx:Loc X.env.scope y:=by first | exact Or.inl rfl | exact Or.inr rfl)(hs:swapsWith (.Call (.Name x p) [e] [] OL) (some (.Name y pos')) pos.line X.env=pure false:=by rfl)(hf:X.fn y=true\/X.env.scope.names.lookup y=some .local:=by first | exact .inl rfl | exact .inr rfl):lu X G E dl (.Assign [.Name y pos'] (.Call (.Name x p) [e] [] OL) pos::sts) o:=by
 obtain⟨f,fd,ps,Fo,M,hm,hb⟩:=F.ex
 have hu:tW X sts (fun D st H=>∃ l ls,(ls:iK).map (·.2)=gs/\tO X.K G E (dl.set nn (.val (.qz C2 (fs2 l ls) gs2 nm2 j2))) o D st H):=fun pins s st H D I ⟨l,ls,hl,q⟩=>h2 l ls hl pins s st H D I q
 refine rT (gb (xp hN hi hx (xw (E:=E0) M Fo (hr.mono rV) hg hm hb .nil nx.passes (ae ha ai he) lN he mD) hs hf) hu) fun D st H ⟨Hf,S,kk⟩=>⟨Hf,S,fun vs au H1 g1 r1 z dx hz NV ne=>?_⟩
 cases r1 with
 | cons r tt=>
   cases tt
   cases r with
   | @qz s' a _ TL fv _ _ _ _ ls' e1 q1 q2=>
     have TV:(upd H1 dx (.own z)) z=none:=by rw[ag (Ne.symm ne)];exact hz
     have g2:aP au H1 au (upd H1 dx (.own z)):=.dH g1.sub NV
     refine⟨au,upd H1 dx (.own z),z,dx,[.ref s'] ++ [],[.obj C (ql fs nm a ls' j)],.own (.oP C2 (fs2 a ls') gs2 nm2 j2),rfl,rfl,TV,g2.sub,by rw[List.append_nil];exact .cons (.obj q1 q2) .nil,rfl,h a ls' e1,.inr ⟨fs2 a ls',gs2,nm2,j2,rfl⟩,fun aF H' g n1 r=>⟨rfl,?_⟩⟩
     have g3:=(g1.trans g2).trans g
     obtain⟨u,hu',rp⟩:=xP r n1
     have g4:=zL g3 (g1.big.free hz) n1 hu'
     exact⟨a,ls',e1,_,(S.grow g4).set rp,kk.mono g4.aW⟩
theorem OM {pl:Sem Bool}{ob e:Expr}{es:List Expr}{ds:List Dt}{d:Dt}{m:Str}{n:Nat}{apos:Pos}(he:EE X G dl ob (.qz C fs gs nm j))(F:MF X.prog X.w X.K X.mg X.base CX k C m n R)(nx:xG CX)(hr:di k' X.A)(ha:EA X G dl (e::es) ds)(h:∀ l ls,(ls:iK).map (·.2)=gs->R (.obj C (ql fs nm l ls j)::ds) (.ret d))(pj:∀ l ls,(ql fs nm l ls j).lookup m=none)(rV:k<=k':=by decide)(hl:ds.length+1=n:=by rfl)
   (oM:starEach (e::es) X.env=(false,eval e X.env)::starEach es X.env:=by rfl) (mD:(backTo pos (starEach es X.env)).any (·.1)=false:=by rfl)
   (ht:eval (.Call (.Attribute ob m apos) (e::es) [] pos) X.env=(do
     let ov <- eval ob X.env
     standAt apos.atName
     let (f,first) <- holding [ov] (getMethod ov m pl)
     callWith pos f first (backTo pos (starEach (e::es) X.env)) (backToKw pos (keywordEach [] X.env))):=by rfl):EE X G dl (.Call (.Attribute ob m apos) (e::es) [] pos) d:=by
 obtain⟨f,fd,ps,Fo,hm,hb⟩:=F.ex
 refine fB (xv (pl:=pl) (E:=E0) he F.cl hm Fo (hr.mono rV) hb .nil nx.passes ha oM mD ht) fun st H Q ⟨Hf,S,kk⟩=>⟨Hf,S,fun v au H1 g1 r1=>?_⟩
 cases r1 with
 | @qz s' a _ TL fv _ _ _ _ ls' e1 q1 q2=>
   exact⟨s',TL,fv,rfl,dt g1.sub q1,q2.none_of (pj a ls'),au,S.grow g1,fun vs bT H2 g2 r2=>⟨bT,.obj C (ql fs nm a ls' j)::ds,.ret d,g2.sub,.cons (.obj (dt g2.aW q1) (q2.mono g2.aW)) (by rw[List.append_nil];exact r2),hl,h a ls' e1,fun v iP H3 g3 r3=>kk v iP H3 ((g1.trans g2).trans g3) r3⟩⟩
end
end Sg
namespace Pf
open PySem PySem.Spec PyProof.Rows L2 Sg
structure gX (K:W.Frag)(x q:Str)(st:Stmt)(ps:List Str)(f:Addr)(d:FuncData):Prop where
 F:P6 K x q st f d
 b:Binds K d ps []
structure Kk (K:W.Frag)(x q:Str)(st:Stmt)(ps:List Str)(f:Addr)(d:FuncData):Prop where
 F:zR K x q st f d
 b:Binds K d ps []
structure jy (K:W.Frag)(x:Str)(st:Stmt)(ps:List Str)(f:Addr)(d:FuncData):Prop where
 F:P6 K x x st f d
 b:Binds K d ps []
 a:W.nsIn K mainGlobals x=some (some (.ref f))
structure Ew (K:W.Frag)(x:Str)(C:Addr):Prop where
 a:W.nsIn K mainGlobals x=some (some (.ref C))
 cl:rP K C
 kc:W.keepIn K (.ref C)=true
noncomputable abbrev ON (x q:Str)(st:Stmt)(ps:List Str):Prop:=∀ (kV doc pm:Value) (an:Option Addr) (bx ct:Value) (us:List Value),us.length=ps.length->bindArgs (W.fnOf x q (bR st) (aG st) (ah st) .none kV doc pm an bx ct) ⟨us,[]⟩=pure (ps.zip us)
section
variable {K:W.Frag}{x q:Str}{st:Stmt}{ps:List Str}{f:Addr}{oc:Value}{od an:Option Addr}{vJ:Array (Option Value)}{kV doc pm bx ct:Value}
theorem OO (l:K.lookup f=some ⟨oc,od,.func (W.fnOf x q (bR st) (aG st) (ah st) .none kV doc pm an bx ct),vJ⟩)(c:W.codeIn K bx q=true)(k:W.keepIn K (.ref f)=true)(b:ON x q st ps):gX K x q st ps f (W.fnOf x q (bR st) (aG st) (ah st) .none kV doc pm an bx ct):=⟨t9 l c k,(t9 l c k).binds b⟩
theorem OP (l:K.lookup f=some ⟨oc,od,.func (W.fnOf x q (bR st) (aG st) (ah st) .none kV doc pm an bx ct),vJ⟩)(c:W.codeIn K bx q=true)(k:W.keepIn K (.ref f)=true)(b:ON x q st ps):Kk K x q st ps f (W.fnOf x q (bR st) (aG st) (ah st) .none kV doc pm an bx ct):=⟨pL l c,(t9 l c k).binds b⟩
theorem OQ (a:W.nsIn K mainGlobals q=some (some (.ref f)))(l:K.lookup f=some ⟨oc,od,.func (W.fnOf q q (bR st) (aG st) (ah st) .none kV doc pm an bx ct),vJ⟩)(c:W.codeIn K bx q=true)(k:W.keepIn K (.ref f)=true)(b:ON q q st ps):jy K q st ps f (W.fnOf q q (bR st) (aG st) (ah st) .none kV doc pm an bx ct):=⟨t9 l c k,(t9 l c k).binds b,a⟩
theorem OR {C:Addr}(a:W.nsIn K mainGlobals x=some (some (.ref C)))(p:W.plainGet K C Str.empty=true)(h:W.hasDictIn K C=true)(o:W.plainOver K C=true)(s:W.findIn K (.ref C) "__setattr__"=some (some (.builtin "object.__setattr__")))(k:W.keepIn K (.ref C)=true):Ew K x C:=⟨a,⟨p,h,o,s⟩,k⟩
end
theorem gO {N P:List Str}{sc:Scope}(h:(sc.kind == .function && !sc.isCoroutine && !sc.isGenerator && decide N.Nodup && decide (N.take P.length=P) && P.all (fun x=>decide (sc.names.lookup x=some .local\/sc.names.lookup x=some .cell)) && sc.names.all fun y=>decide (y.2≠.free))=true):aq N P sc:=by
 simp only[Bool.and_eq_true,List.all_eq_true,decide_eq_true_eq,Bool.not_eq_true',beq_iff_eq] at h
 exact⟨h.1.1.1.1.1.1,h.1.1.1.1.1.2,h.1.1.1.1.2,h.1.1.1.2,h.1.1.2,h.1.2,h.2⟩
noncomputable def top (i:Nat):Stmt:=PySem.Challenge.pw_strokegrow_k51_whole_letter_by_its_word.main.body.getD i (.Pass ⟨0,0,0,0⟩)
noncomputable abbrev x9:Stmt:=top 13
noncomputable abbrev ya:Stmt:=top 14
noncomputable abbrev kz:Stmt:=top 15
noncomputable abbrev l1:Stmt:=inClass (top 16) 3
noncomputable abbrev l2:Stmt:=inClass (top 16) 4
noncomputable abbrev oU:Stmt:=inClass (top 16) 5
noncomputable abbrev m7:Stmt:=inClass (top 16) 6
noncomputable abbrev kA:Stmt:=inClass (top 17) 0
noncomputable abbrev eY:Stmt:=inClass (top 17) 1
noncomputable abbrev jz:Stmt:=inClass (top 17) 2
noncomputable abbrev l3:Stmt:=inClass (top 18) 0
noncomputable abbrev fR:Stmt:=inClass (top 18) 1
noncomputable abbrev k4:Stmt:=inClass (top 18) 2
noncomputable abbrev uN:Stmt:=top 19
noncomputable abbrev l6:Stmt:=inClass (top 21) 0
noncomputable abbrev l7:Stmt:=inClass (top 21) 1
noncomputable abbrev l8:Stmt:=inClass (top 21) 2
noncomputable abbrev jA:Stmt:=inClass (top 21) 3
noncomputable abbrev b7:Stmt:=inClass (top 21) 4
noncomputable abbrev eP:Stmt:=inClass (top 21) 5
noncomputable abbrev b8:Stmt:=inClass (top 21) 6
noncomputable abbrev b9:Stmt:=inClass (top 21) 7
noncomputable abbrev l9:Stmt:=inClass (top 21) 8
noncomputable abbrev kB:Stmt:=inClass (top 21) 10
noncomputable abbrev ma:Stmt:=inClass (top 21) 11
noncomputable abbrev yb:Stmt:=top 22
noncomputable abbrev cv:Stmt:=top 23
noncomputable abbrev oV:Stmt:=top 24
noncomputable abbrev k6:Stmt:=top 27
noncomputable abbrev pR:Stmt:=top 28
noncomputable abbrev ft:Stmt:=inClass (top 30) 0
noncomputable abbrev gQ:Stmt:=inClass (top 30) 1
noncomputable abbrev bL:Stmt:=inClass (top 30) 2
noncomputable abbrev gi:Stmt:=inClass (top 30) 3
noncomputable abbrev jl:Stmt:=top 32
noncomputable abbrev dj:Stmt:=inClass (top 34) 0
noncomputable abbrev fS:Stmt:=inClass (top 34) 1
noncomputable abbrev bE:Stmt:=inClass (top 34) 3
noncomputable abbrev kC:Stmt:=inClass (top 34) 4
noncomputable abbrev cN:Stmt:=inClass (top 34) 7
noncomputable abbrev cV:Stmt:=inClass (top 34) 9
noncomputable abbrev g9:Stmt:=top 38
noncomputable abbrev fu:Stmt:=top 39
noncomputable abbrev d9:Stmt:=top 40
noncomputable abbrev jN:Stmt:=inClass (top 41) 0
noncomputable abbrev m8:Stmt:=inClass (top 41) 1
noncomputable abbrev jB:Stmt:=inClass (top 41) 2
noncomputable abbrev hE:Stmt:=inClass (top 41) 4
noncomputable abbrev md:Stmt:=inClass (top 41) 5
noncomputable abbrev me:Stmt:=inClass (top 41) 6
noncomputable abbrev aX:Stmt:=inClass (top 41) 7
noncomputable abbrev BJ:Stmt:=top 43
noncomputable abbrev yc:Stmt:=top 44
noncomputable abbrev oW:Stmt:=top 45
noncomputable abbrev BK:Stmt:=top 46
noncomputable abbrev yd:Stmt:=top 47
noncomputable abbrev uO:Stmt:=top 49
noncomputable abbrev ye:Stmt:=top 50
noncomputable abbrev yf:Stmt:=top 51
noncomputable abbrev BL:Stmt:=top 52
noncomputable abbrev qT:Stmt:=top 53
noncomputable abbrev pS:Stmt:=top 54
noncomputable abbrev G5:Stmt:=top 55
noncomputable abbrev Kl:List Str:=["one","other"]
theorem G6:aq Kl ["one","other"] (ah x9):=gO (by decide +kernel)
noncomputable abbrev Km:List Str:=["one","other"]
theorem G7:aq Km ["one","other"] (ah ya):=gO (by decide +kernel)
noncomputable abbrev uP:List Str:=["deed"]
theorem rY:aq uP ["deed"] (ah kz):=gO (by decide +kernel)
noncomputable abbrev yg:List Str:=["self","number"]
theorem vP:aq yg ["self","number"] (ah l1):=gO (by decide +kernel)
noncomputable abbrev yh:List Str:=["self","spot","by","turns"]
theorem k7:aq yh ["self","spot","by"] (ah l2):=gO (by decide +kernel)
noncomputable abbrev BM:List Str:=["self","way"]
theorem Af:aq BM ["self","way"] (ah oU):=gO (by decide +kernel)
noncomputable abbrev Ag:List Str:=["self","deed","spot","way"]
theorem pT:aq Ag ["self","deed","spot","way"] (ah m7):=gO (by decide +kernel)
noncomputable abbrev uQ:List Str:=["self"]
theorem rZ:aq uQ ["self"] (ah kA):=gO (by decide +kernel)
noncomputable abbrev mM:List Str:=["self","spot"]
theorem mf:aq mM ["self","spot"] (ah eY):=gO (by decide +kernel)
noncomputable abbrev r8:List Str:=["self","way","spot","x","y"]
theorem iW:aq r8 ["self","way","spot"] (ah jz):=gO (by decide +kernel)
noncomputable abbrev yi:List Str:=["self"]
theorem vQ:aq yi ["self"] (ah l3):=gO (by decide +kernel)
noncomputable abbrev oi:List Str:=["self","spot"]
theorem m9:aq oi ["self","spot"] (ah fR):=gO (by decide +kernel)
noncomputable abbrev vR:List Str:=["self","way","spot","x","y"]
theorem kE:aq vR ["self","way","spot"] (ah k4):=gO (by decide +kernel)
noncomputable abbrev G8:List Str:=["ways"]
theorem Ex:aq G8 ["ways"] (ah uN):=gO (by decide +kernel)
noncomputable abbrev yj:List Str:=["self","pen","deed_count","last_way","last_spot","stroke_count","reaches","touches","crosses"]
theorem vS:aq yj ["self","pen","deed_count","last_way","last_spot","stroke_count","reaches","touches","crosses"] (ah l6):=gO (by decide +kernel)
noncomputable abbrev yk:List Str:=["self"]
theorem vT:aq yk ["self"] (ah l7):=gO (by decide +kernel)
noncomputable abbrev yl:List Str:=["self"]
theorem vU:aq yl ["self"] (ah l8):=gO (by decide +kernel)
noncomputable abbrev sd:List Str:=["self"]
theorem qU:aq sd ["self"] (ah jA):=gO (by decide +kernel)
noncomputable abbrev vV:List Str:=["self","first"]
theorem uR:aq vV ["self","first"] (ah b7):=gO (by decide +kernel)
noncomputable abbrev mF:List Str:=["self","numbers","first"]
theorem qV:aq mF ["self","numbers","first"] (ah eP):=gO (by decide +kernel)
noncomputable abbrev vW:List Str:=["self","first"]
theorem uS:aq vW ["self","first"] (ah b8):=gO (by decide +kernel)
noncomputable abbrev vX:List Str:=["self","first"]
theorem uT:aq vX ["self","first"] (ah b9):=gO (by decide +kernel)
noncomputable abbrev ym:List Str:=["self"]
theorem vY:aq ym ["self"] (ah l9):=gO (by decide +kernel)
noncomputable abbrev uU:List Str:=["self","other","pen","shift","reaches","touches","way"]
theorem mG:aq uU ["self","other"] (ah kB):=gO (by decide +kernel)
noncomputable abbrev mh:List Str:=["self"]
theorem oE:aq mh ["self"] (ah ma):=gO (by decide +kernel)
noncomputable abbrev Kn:List Str:=["pen"]
theorem G9:aq Kn ["pen"] (ah yb):=gO (by decide +kernel)
noncomputable abbrev jC:List Str:=["pen","deed","behind","spot","reaches","touches"]
theorem lE:aq jC ["pen","deed"] (ah cv):=gO (by decide +kernel)
noncomputable abbrev BN:List Str:=["pen","deeds","track","deed"]
theorem rL:aq BN ["pen","deeds"] (ah oV):=gO (by decide +kernel)
noncomputable abbrev vZ:List Str:=["age","first","last"]
theorem uV:aq vZ ["age","first","last"] (ah k6):=gO (by decide +kernel)
noncomputable abbrev C7:List Str:=["rules","word"]
theorem Ah:aq C7 ["rules","word"] (ah pR):=gO (by decide +kernel)
noncomputable abbrev nh:List Str:=["self","growth","rules"]
theorem mH:aq nh ["self","growth"] (ah ft):=gO (by decide +kernel)
noncomputable abbrev oX:List Str:=["self","tracks","whole","track"]
theorem jF:aq oX ["self","tracks"] (ah gQ):=gO (by decide +kernel)
noncomputable abbrev jG:List Str:=["self","age","rules","last","grown","letter"]
theorem jm:aq jG ["self","age"] (ah bL):=gO (by decide +kernel)
noncomputable abbrev se:List Str:=["self","age","letter"]
theorem qW:aq se ["self","age","letter"] (ah gi):=gO (by decide +kernel)
noncomputable abbrev Ai:List Str:=["tallies","letters"]
theorem wV:aq Ai ["tallies","letters"] (ah jl):=gO (by decide +kernel)
noncomputable abbrev k8:List Str:=["self","rules","start"]
theorem ni:aq k8 ["self","rules","start"] (ah dj):=gO (by decide +kernel)
noncomputable abbrev oj:List Str:=["self"]
theorem nr:aq oj ["self"] (ah fS):=gO (by decide +kernel)
noncomputable abbrev gR:List Str:=["self","age","letters","last","grown","letter"]
theorem jH:aq gR ["self","age"] (ah bE):=gO (by decide +kernel)
noncomputable abbrev uW:List Str:=["self","age"]
theorem sf:aq uW ["self","age"] (ah kC):=gO (by decide +kernel)
noncomputable abbrev mN:List Str:=["self","letter"]
theorem mi:aq mN ["self","letter"] (ah cN):=gO (by decide +kernel)
noncomputable abbrev mI:List Str:=["self","age"]
theorem qX:aq mI ["self","age"] (ah cV):=gO (by decide +kernel)
noncomputable abbrev pU:List Str:=["text"]
theorem oY:aq pU ["text"] (ah g9):=gO (by decide +kernel)
noncomputable abbrev nu:List Str:=["word","letters"]
theorem sh:aq nu ["word","letters"] (ah fu):=gO (by decide +kernel)
noncomputable abbrev mj:List Str:=["rows","firsts","letters","number","row","letter_fits"]
theorem oF:aq mj ["rows"] (ah d9):=gO (by decide +kernel)
noncomputable abbrev yn:List Str:=["self","ways","rows","drawer","row"]
theorem oG:aq yn ["self","ways","rows"] (ah jN):=gO (by decide +kernel)
noncomputable abbrev Aj:List Str:=["self"]
theorem yo:aq Aj ["self"] (ah m8):=gO (by decide +kernel)
noncomputable abbrev si:List Str:=["self"]
theorem qY:aq si ["self"] (ah jB):=gO (by decide +kernel)
noncomputable abbrev uX:List Str:=["self","letter"]
theorem sj:aq uX ["self","letter"] (ah hE):=gO (by decide +kernel)
noncomputable abbrev yp:List Str:=["self","letter"]
theorem v5:aq yp ["self","letter"] (ah md):=gO (by decide +kernel)
noncomputable abbrev yq:List Str:=["self","letter"]
theorem v7:aq yq ["self","letter"] (ah me):=gO (by decide +kernel)
noncomputable abbrev sk:List Str:=["self","text","most","at","sign"]
theorem lF:aq sk ["self","text","most"] (ah aX):=gO (by decide +kernel)
noncomputable abbrev OS:List Str:=["_law_script","_law_k","_law_cell_here","_law_low"]
theorem sU:aq OS ["_law_script","_law_k"] (ah BJ):=gO (by decide +kernel)
noncomputable abbrev Ko:List Str:=["_law_found"]
theorem Hc:aq Ko ["_law_found"] (ah yc):=gO (by decide +kernel)
noncomputable abbrev BO:List Str:=["_law_cell_here","_law_many","_law_free","_law_found","_law_k","_law_at"]
theorem rM:aq BO ["_law_cell_here","_law_many"] (ah oW):=gO (by decide +kernel)
noncomputable abbrev OT:List Str:=["_law_number","_law_alphabet_here","_law_most","_law_found","_law_size","_law_k"]
theorem C8:aq OT ["_law_number","_law_alphabet_here","_law_most"] (ah BK):=gO (by decide +kernel)
noncomputable abbrev Kq:List Str:=["_law_script","_law_far","_law_first","_law_way","_law_age","_law_many","_law_most","_law_alphabet_here","_law_rows","_law_k","_law_cell_here","_law_deed_here","_law_start"]
theorem Ak:aq Kq ["_law_script","_law_far"] (ah yd):=gO (by decide +kernel)
noncomputable abbrev Hd:List Str:=["_law_ways","_law_spot","_law_by","_law_x","_law_y","_law_k"]
theorem wW:aq Hd ["_law_ways","_law_spot","_law_by"] (ah uO):=gO (by decide +kernel)
noncomputable abbrev Kr:List Str:=["_law_ways","_law_spot","_law_x","_law_y"]
theorem Al:aq Kr ["_law_ways","_law_spot"] (ah ye):=gO (by decide +kernel)
noncomputable abbrev Kt:List Str:=["_law_ways","_law_one","_law_other","_law_far","_law_spot","_law_along_here","_law_reach","_law_touch","_law_w","_law_v","_law_area"]
theorem Am:aq Kt ["_law_ways","_law_one","_law_other"] (ah yf):=gO (by decide +kernel)
noncomputable abbrev OU:List Str:=["_law_ways"]
theorem Ku:aq OU ["_law_ways"] (ah BL):=gO (by decide +kernel)
noncomputable abbrev BP:List Str:=["_law_ways","_law_deed_here","_law_track_here","_law_reach"]
theorem C9:aq BP ["_law_ways","_law_deed_here"] (ah qT):=gO (by decide +kernel)
noncomputable abbrev Dc:List Str:=["_law_found","_law_ways","_law_one","_law_wholes"]
theorem An:aq Dc ["_law_found","_law_ways"] (ah pS):=gO (by decide +kernel)
noncomputable abbrev Sy:List Str:=["_law_script","_law_ways","_law_rows","_law_start","_law_age","_law_rules","_law_drawing","_law_row_here","_law_found","_law_due","_law_letter"]
theorem He:aq Sy ["_law_script"] (ah G5):=gO (by decide +kernel)
set_option genInjectivity false in
set_option genSizeOf false in
structure ee where
 (sV sW hU dc de fw d0 dM bo cW fF bM eQ pV fG fH fJ cX cb cY cf cg fK dN eh sX gj ml i3 sY dO bW bf cw nv eV bN bF dP aQ cy fh hV jO er gU cZ cK fL fM aY yr sZ mn yt tf pW tm tq yu yw tw pX:Addr)
 (tE tF hW jP jQ mq kN hX cO gk jR dv i4 pY jS jT jU gu i5 gv i6 i7 jV hZ ia tG gw mv i8 tH ib eu dw gz pZ i9 dy eA ig cP gA fi ij jW jX kO gB ik jY jZ gC yx tJ mw yy tK p0 tL tM yz yA tN uY:FuncData)
 (ja jb jc gD:Tok)
 (aM bS aL ay av aC j0 cG:Addr)
 (Ao uZ yB:Tok)
 K:W.Frag
structure Txt (K:W.Frag)(mg:Str->Option Value)(t:ee):Prop where
 hK:t.K=K
 g:∀ {x:Str} {v:Value},W.nsIn K mainGlobals x=some (some v)->mg x=some v
 gn:∀ {x:Str},W.nsIn K mainGlobals x=some none->mg x=none
 iX:Ew K "Quarter" t.aM
 mx:Ew K "Sixth" t.bS
 dA:Ew K "Rules" t.aL
 bG:Ew K "Growth" t.ay
 ax:Ew K "Track" t.av
 bX:Ew K "Drawing" t.aC
 oZ:NH K t.aM
 u0:NH K t.bS
 u6:L2.Mk K t.aL t.er
 qZ:L2.Mk K t.ay t.eV
 u7:L2.Mk K t.av t.fG
 o3:L2.Mk K t.aC t.dO
 gE:bB K t.aL "drawer"
 aO:bB K t.aL "row_by_letter"
 c6:bB K t.ay "rules"
 il:bB K t.ay "seed"
 cm:bB K t.ay "tallies"
 cn:bB K t.ay "lengths"
 c7:bB K t.av "drawer"
 bg:bB K t.av "deed_count"
 bj:bB K t.av "last_way"
 aV:bB K t.av "last_spot"
 bU:bB K t.av "stroke_count"
 bY:bB K t.av "reaches"
 dQ:bB K t.av "touches"
 dR:bB K t.av "crosses"
 cq:bB K t.aC "growth"
 bJ:bB K t.aC "tracks"
 yC:mg "DEEDS"=some (.ref t.j0)
 yD:∀ H,Rep K H (.ref t.j0) (.tup [.str "stroke",.str "step",.str "left",.str "right",.str "rest"])
 oH:mg "GOING_DEEDS"=some (.ref t.cG)
 oJ:∀ H,Rep K H (.ref t.cG) (.tup [.str "stroke",.str "step"])
 Ap:mg "MOST_ROWS"=some (.int 6 t.Ao)
 va:mg "MOST_IN_WORD"=some (.int 8 t.uZ)
 p7:mg "LAST_ROUND"=some (.int 200 t.yB)
 nP:jy K "added" x9 ["one","other"] t.sV t.tE
 nQ:jy K "cross" ya ["one","other"] t.sW t.tF
 dS:jy K "turn_of_deed" kz ["deed"] t.hU t.hW
 eZ:Meth K t.aM "way_of" t.dc
 fT:Meth K t.bS "way_of" t.dc
 j3:gX K "way_of" "Pen.way_of" l1 ["self","number"] t.dc t.jP
 fe:Meth K t.aM "turned" t.de
 fU:Meth K t.bS "turned" t.de
 j4:gX K "turned" "Pen.turned" l2 ["self","spot","by"] t.de t.jQ
 fV:Meth K t.aM "step" t.fw
 ip:Meth K t.bS "step" t.fw
 my:gX K "step" "Pen.step" oU ["self","way"] t.fw t.mq
 fz:Meth K t.aM "after" t.d0
 gS:Meth K t.bS "after" t.d0
 kP:gX K "after" "Pen.after" m7 ["self","deed","spot","way"] t.d0 t.kN
 dU:Meth K t.aM "ways" t.dM
 iq:gX K "ways" "Quarter.ways" kA ["self"] t.dM t.hX
 bZ:Meth K t.aM "turned_left" t.bo
 cQ:gX K "turned_left" "Quarter.turned_left" eY ["self","spot"] t.bo t.cO
 dk:Meth K t.aM "along" t.cW
 gF:gX K "along" "Quarter.along" jz ["self","way","spot"] t.cW t.gk
 fW:Meth K t.bS "ways" t.fF
 j5:gX K "ways" "Sixth.ways" l3 ["self"] t.fF t.jR
 cL:Meth K t.bS "turned_left" t.bM
 dB:gX K "turned_left" "Sixth.turned_left" fR ["self","spot"] t.bM t.dv
 fA:Meth K t.bS "along" t.eQ
 jd:gX K "along" "Sixth.along" k4 ["self","way","spot"] t.eQ t.i4
 lG:jy K "pen_of" uN ["ways"] t.pV t.pY
 j6:Kk K "__init__" "Track.__init__" l6 ["self","pen","deed_count","last_way","last_spot","stroke_count","reaches","touches","crosses"] t.fG t.jS
 fX:Meth K t.av "many" t.fH
 j7:gX K "many" "Track.many" l7 ["self"] t.fH t.jT
 fY:Meth K t.av "turn" t.fJ
 j8:gX K "turn" "Track.turn" l8 ["self"] t.fJ t.jU
 eB:Meth K t.av "strokes" t.cX
 gG:gX K "strokes" "Track.strokes" jA ["self"] t.cX t.gu
 df:Meth K t.av "shift" t.cb
 vb:Binds K t.i5 ["self","first"] [.int 0 t.ja]
 v8:zR K "shift" "Track.shift" b7 t.cb t.i5
 Jd:W.keepIn K (.ref t.cb)=true
 v9:Binds K t.i5 ["self","first"] []
 eC:Meth K t.av "by_ways" t.cY
 gH:gX K "by_ways" "Track.by_ways" eP ["self","numbers","first"] t.cY t.gv
 dg:Meth K t.av "reach" t.cf
 vc:Binds K t.i6 ["self","first"] [.int 0 t.jb]
 wa:zR K "reach" "Track.reach" b8 t.cf t.i6
 Je:W.keepIn K (.ref t.cf)=true
 wb:Binds K t.i6 ["self","first"] []
 dh:Meth K t.av "touch" t.cg
 vd:Binds K t.i7 ["self","first"] [.int 0 t.jc]
 wc:zR K "touch" "Track.touch" b9 t.cg t.i7
 Jf:W.keepIn K (.ref t.cg)=true
 we:Binds K t.i7 ["self","first"] []
 fZ:Meth K t.av "area" t.fK
 j9:gX K "area" "Track.area" l9 ["self"] t.fK t.jV
 ff:Meth K t.av "joined" t.dN
 ir:gX K "joined" "Track.joined" kB ["self","other"] t.dN t.hZ
 dC:Meth K t.av "told" t.eh
 fN:gX K "told" "Track.told" ma ["self"] t.eh t.ia
 nS:jy K "still" yb ["pen"] t.sX t.tG
 c8:jy K "track_of_deed" cv ["pen","deed"] t.gj t.gw
 iY:jy K "track_of" oV ["pen","deeds"] t.ml t.mv
 eW:jy K "check_round" k6 ["age","first","last"] t.i3 t.i8
 nT:jy K "tally" pR ["rules","word"] t.sY t.tH
 iu:Kk K "__init__" "Drawing.__init__" ft ["self","growth"] t.dO t.ib
 cC:Meth K t.aC "join_all" t.bW
 eD:gX K "join_all" "Drawing.join_all" gQ ["self","tracks"] t.bW t.eu
 cz:Meth K t.aC "deepen_to" t.bf
 dD:gX K "deepen_to" "Drawing.deepen_to" bL ["self","age"] t.bf t.dw
 dm:Meth K t.aC "whole" t.cw
 gI:gX K "whole" "Drawing.whole" gi ["self","age","letter"] t.cw t.gz
 lH:jy K "summed" jl ["tallies","letters"] t.nv t.pZ
 je:Kk K "__init__" "Growth.__init__" dj ["self","rules","start"] t.eV t.i9
 cD:Meth K t.ay "rules_told" t.bN
 dF:gX K "rules_told" "Growth.rules_told" fS ["self"] t.bN t.dy
 cM:Meth K t.ay "deepen_to" t.bF
 eE:gX K "deepen_to" "Growth.deepen_to" bE ["self","age"] t.bF t.eA
 eF:Meth K t.ay "enter" t.dP
 iw:gX K "enter" "Growth.enter" kC ["self","age"] t.dP t.ig
 cj:Meth K t.ay "check_letter" t.aQ
 cR:gX K "check_letter" "Growth.check_letter" cN ["self","letter"] t.aQ t.cP
 dW:Meth K t.ay "length" t.cy
 gJ:gX K "length" "Growth.length" cV ["self","age"] t.cy t.gA
 cu:jy K "is_small_letter" g9 ["text"] t.fh t.fi
 dX:jy K "is_word_over" fu ["word","letters"] t.hV t.ij
 fO:jy K "check_rows" d9 ["rows"] t.jO t.jW
 ka:Kk K "__init__" "Rules.__init__" jN ["self","ways","rows"] t.er t.jX
 gT:Meth K t.aL "pen" t.gU
 kQ:gX K "pen" "Rules.pen" m8 ["self"] t.gU t.kO
 eG:Meth K t.aL "letters" t.cZ
 gK:gX K "letters" "Rules.letters" jB ["self"] t.cZ t.gB
 fg:Meth K t.aL "row_of" t.cK
 iy:gX K "row_of" "Rules.row_of" hE ["self","letter"] t.cK t.ik
 f6:Meth K t.aL "deed" t.fL
 ke:gX K "deed" "Rules.deed" md ["self","letter"] t.fL t.jY
 f7:Meth K t.aL "word" t.fM
 kf:gX K "word" "Rules.word" me ["self","letter"] t.fM t.jZ
 eI:Meth K t.aL "word_of" t.aY
 q8:Binds K t.gC ["self","text","most"] [.int 8 t.gD]
 sq:zR K "word_of" "Rules.word_of" aX t.aY t.gC
 E8:W.keepIn K (.ref t.aY)=true
 E9:Binds K t.gC ["self","text","most"] []
 q9:jy K "_law_cell" BJ ["_law_script","_law_k"] t.yr t.yx
 nU:jy K "_law_whole" yc ["_law_found"] t.sZ t.tJ
 iZ:jy K "_law_alphabet" oW ["_law_cell_here","_law_many"] t.mn t.mw
 rb:jy K "_law_text" BK ["_law_number","_law_alphabet_here","_law_most"] t.yt t.yy
 nV:jy K "_law_shape" yd ["_law_script","_law_far"] t.tf t.tK
 lI:jy K "_law_turned" uO ["_law_ways","_law_spot","_law_by"] t.pW t.p0
 nW:jy K "_law_along" ye ["_law_ways","_law_spot"] t.tm t.tL
 nX:jy K "_law_after" yf ["_law_ways","_law_one","_law_other"] t.tq t.tM
 rg:jy K "_law_none" BL ["_law_ways"] t.yu t.yz
 rh:jy K "_law_deed" qT ["_law_ways","_law_deed_here"] t.yw t.yA
 nY:jy K "_law_track" pS ["_law_found","_law_ways"] t.tw t.tN
 Aq:jy K "law" G5 ["_law_script"] t.pX t.uY
 Dd:mg "all"=none
 BQ:mg "bool"=none
 ny:mg "dict"=none
 kR:mg "enumerate"=none
 Ar:mg "int"=none
 eJ:mg "isinstance"=none
 iz:mg "len"=none
 nz:mg "list"=none
 De:mg "max"=none
 Hg:mg "min"=none
 iC:mg "range"=none
 As:mg "sum"=none
 p8:mg "tuple"=none
theorem OV {K:W.Frag}{h:Heap}{mg:Str->Option Value}(X:K.In h)(G:h.Ns mainGlobals mg){sV sW hU dc de fw d0 dM bo cW fF bM eQ pV fG fH fJ cX cb cY cf cg fK dN eh sX gj ml i3 sY dO bW bf cw nv eV bN bF dP aQ cy fh hV jO er gU cZ cK fL fM aY yr sZ mn yt tf pW tm tq yu yw tw pX aM bS aL ay av aC j0 cG:Addr}{tE tF hW jP jQ mq kN hX cO gk jR dv i4 pY jS jT jU gu gv jV hZ ia tG gw mv i8 tH ib eu dw gz pZ i9 dy eA ig cP gA fi ij jW jX kO gB ik jY jZ yx tJ mw yy tK p0 tL tM yz yA tN uY:FuncData}{ja jb jc gD y0 y1 y2:Tok}{y3:Option Addr}{y4:Nat}{y5:Array (Option Value)}{Hh Hi Hj Hk Hl:Tok}{y6:Option Addr}{y7:Nat}{y8:Array (Option Value)}{vf vg:Tok}{y9 X5:Option Addr}{y11:Array (Option Value)}{y12 X6 X7 X8 Wz X9:Value}{k9:Addr}{y18:Option Addr}{y19:Value}{y20:Nat}{y21:Array (Option Value)}{y22 Ya:Option Addr}{y24:Array (Option Value)}{y25 Yb Yc Yd WA Ye:Value}{lb:Addr}{y31:Option Addr}{y32:Value}{y33:Nat}{y34:Array (Option Value)}{y35 Yf:Option Addr}{y37:Array (Option Value)}{y38 Yg Yh Yi WB Yj:Value}{lg:Addr}{y44:Option Addr}{y45:Value}{y46:Nat}{y47:Array (Option Value)}{y48 Yk:Option Addr}{y50:Array (Option Value)}{y51 Yl Ym Yn WC Yo:Value}{jD:Addr}{y57:Option Addr}{y58:Value}{y59:Nat}{y60:Array (Option Value)}
   (iX:Ew K "Quarter" aM)
   (mx:Ew K "Sixth" bS)
   (dA:Ew K "Rules" aL)
   (bG:Ew K "Growth" ay)
   (ax:Ew K "Track" av)
   (bX:Ew K "Drawing" aC)
   (oZ:NH K aM)
   (u0:NH K bS)
   (u6:L2.Mk K aL er)
   (qZ:L2.Mk K ay eV)
   (u7:L2.Mk K av fG)
   (o3:L2.Mk K aC dO)
   (gE:W.findIn K (.ref aL) "drawer"=some none)
   (aO:W.findIn K (.ref aL) "row_by_letter"=some none)
   (c6:W.findIn K (.ref ay) "rules"=some none)
   (il:W.findIn K (.ref ay) "seed"=some none)
   (cm:W.findIn K (.ref ay) "tallies"=some none)
   (cn:W.findIn K (.ref ay) "lengths"=some none)
   (c7:W.findIn K (.ref av) "drawer"=some none)
   (bg:W.findIn K (.ref av) "deed_count"=some none)
   (bj:W.findIn K (.ref av) "last_way"=some none)
   (aV:W.findIn K (.ref av) "last_spot"=some none)
   (bU:W.findIn K (.ref av) "stroke_count"=some none)
   (bY:W.findIn K (.ref av) "reaches"=some none)
   (dQ:W.findIn K (.ref av) "touches"=some none)
   (dR:W.findIn K (.ref av) "crosses"=some none)
   (cq:W.findIn K (.ref aC) "growth"=some none)
   (bJ:W.findIn K (.ref aC) "tracks"=some none)
   (Hm:W.nsIn K mainGlobals "DEEDS"=some (some (.ref j0)))
   (Hn:K.lookup j0=some ⟨.type "tuple",y3,.seq #[.str "stroke" Hh,.str "step" Hi,.str "left" Hj,.str "right" Hk,.str "rest" Hl] y4,y5⟩)
   (vh:W.nsIn K mainGlobals "GOING_DEEDS"=some (some (.ref cG)))
   (vi:K.lookup cG=some ⟨.type "tuple",y6,.seq #[.str "stroke" vf,.str "step" vg] y7,y8⟩)
   (yE:W.nsIn K mainGlobals "MOST_ROWS"=some (some (.int 6 y0)))
   (su:W.nsIn K mainGlobals "MOST_IN_WORD"=some (some (.int 8 y1)))
   (wg:W.nsIn K mainGlobals "LAST_ROUND"=some (some (.int 200 y2)))
   (nP:jy K "added" x9 ["one","other"] sV tE)
   (nQ:jy K "cross" ya ["one","other"] sW tF)
   (dS:jy K "turn_of_deed" kz ["deed"] hU hW)
   (eZ:Meth K aM "way_of" dc)
   (fT:Meth K bS "way_of" dc)
   (j3:gX K "way_of" "Pen.way_of" l1 ["self","number"] dc jP)
   (fe:Meth K aM "turned" de)
   (fU:Meth K bS "turned" de)
   (j4:gX K "turned" "Pen.turned" l2 ["self","spot","by"] de jQ)
   (fV:Meth K aM "step" fw)
   (ip:Meth K bS "step" fw)
   (my:gX K "step" "Pen.step" oU ["self","way"] fw mq)
   (fz:Meth K aM "after" d0)
   (gS:Meth K bS "after" d0)
   (kP:gX K "after" "Pen.after" m7 ["self","deed","spot","way"] d0 kN)
   (dU:Meth K aM "ways" dM)
   (iq:gX K "ways" "Quarter.ways" kA ["self"] dM hX)
   (bZ:Meth K aM "turned_left" bo)
   (cQ:gX K "turned_left" "Quarter.turned_left" eY ["self","spot"] bo cO)
   (dk:Meth K aM "along" cW)
   (gF:gX K "along" "Quarter.along" jz ["self","way","spot"] cW gk)
   (fW:Meth K bS "ways" fF)
   (j5:gX K "ways" "Sixth.ways" l3 ["self"] fF jR)
   (cL:Meth K bS "turned_left" bM)
   (dB:gX K "turned_left" "Sixth.turned_left" fR ["self","spot"] bM dv)
   (fA:Meth K bS "along" eQ)
   (jd:gX K "along" "Sixth.along" k4 ["self","way","spot"] eQ i4)
   (lG:jy K "pen_of" uN ["ways"] pV pY)
   (j6:Kk K "__init__" "Track.__init__" l6 ["self","pen","deed_count","last_way","last_spot","stroke_count","reaches","touches","crosses"] fG jS)
   (fX:Meth K av "many" fH)
   (j7:gX K "many" "Track.many" l7 ["self"] fH jT)
   (fY:Meth K av "turn" fJ)
   (j8:gX K "turn" "Track.turn" l8 ["self"] fJ jU)
   (eB:Meth K av "strokes" cX)
   (gG:gX K "strokes" "Track.strokes" jA ["self"] cX gu)
   (df:Meth K av "shift" cb)
   (y61:K.lookup cb=some ⟨y12,y9,.func (W.fnOf "shift" "Track.shift" (bR b7) (aG b7) (ah b7) (.ref k9) X6 X7 X8 X5 Wz X9),y11⟩)
   (Yp:K.lookup k9=some ⟨y19,y18,.seq #[.int 0 ja] y20,y21⟩)
   (y63:W.codeIn K Wz "Track.shift"=true)
   (y64:W.keepIn K (.ref cb)=true)
   (eC:Meth K av "by_ways" cY)
   (gH:gX K "by_ways" "Track.by_ways" eP ["self","numbers","first"] cY gv)
   (dg:Meth K av "reach" cf)
   (y65:K.lookup cf=some ⟨y25,y22,.func (W.fnOf "reach" "Track.reach" (bR b8) (aG b8) (ah b8) (.ref lb) Yb Yc Yd Ya WA Ye),y24⟩)
   (Yq:K.lookup lb=some ⟨y32,y31,.seq #[.int 0 jb] y33,y34⟩)
   (y67:W.codeIn K WA "Track.reach"=true)
   (y68:W.keepIn K (.ref cf)=true)
   (dh:Meth K av "touch" cg)
   (y69:K.lookup cg=some ⟨y38,y35,.func (W.fnOf "touch" "Track.touch" (bR b9) (aG b9) (ah b9) (.ref lg) Yg Yh Yi Yf WB Yj),y37⟩)
   (Yr:K.lookup lg=some ⟨y45,y44,.seq #[.int 0 jc] y46,y47⟩)
   (y71:W.codeIn K WB "Track.touch"=true)
   (y72:W.keepIn K (.ref cg)=true)
   (fZ:Meth K av "area" fK)
   (j9:gX K "area" "Track.area" l9 ["self"] fK jV)
   (ff:Meth K av "joined" dN)
   (ir:gX K "joined" "Track.joined" kB ["self","other"] dN hZ)
   (dC:Meth K av "told" eh)
   (fN:gX K "told" "Track.told" ma ["self"] eh ia)
   (nS:jy K "still" yb ["pen"] sX tG)
   (c8:jy K "track_of_deed" cv ["pen","deed"] gj gw)
   (iY:jy K "track_of" oV ["pen","deeds"] ml mv)
   (eW:jy K "check_round" k6 ["age","first","last"] i3 i8)
   (nT:jy K "tally" pR ["rules","word"] sY tH)
   (iu:Kk K "__init__" "Drawing.__init__" ft ["self","growth"] dO ib)
   (cC:Meth K aC "join_all" bW)
   (eD:gX K "join_all" "Drawing.join_all" gQ ["self","tracks"] bW eu)
   (cz:Meth K aC "deepen_to" bf)
   (dD:gX K "deepen_to" "Drawing.deepen_to" bL ["self","age"] bf dw)
   (dm:Meth K aC "whole" cw)
   (gI:gX K "whole" "Drawing.whole" gi ["self","age","letter"] cw gz)
   (lH:jy K "summed" jl ["tallies","letters"] nv pZ)
   (je:Kk K "__init__" "Growth.__init__" dj ["self","rules","start"] eV i9)
   (cD:Meth K ay "rules_told" bN)
   (dF:gX K "rules_told" "Growth.rules_told" fS ["self"] bN dy)
   (cM:Meth K ay "deepen_to" bF)
   (eE:gX K "deepen_to" "Growth.deepen_to" bE ["self","age"] bF eA)
   (eF:Meth K ay "enter" dP)
   (iw:gX K "enter" "Growth.enter" kC ["self","age"] dP ig)
   (cj:Meth K ay "check_letter" aQ)
   (cR:gX K "check_letter" "Growth.check_letter" cN ["self","letter"] aQ cP)
   (dW:Meth K ay "length" cy)
   (gJ:gX K "length" "Growth.length" cV ["self","age"] cy gA)
   (cu:jy K "is_small_letter" g9 ["text"] fh fi)
   (dX:jy K "is_word_over" fu ["word","letters"] hV ij)
   (fO:jy K "check_rows" d9 ["rows"] jO jW)
   (ka:Kk K "__init__" "Rules.__init__" jN ["self","ways","rows"] er jX)
   (gT:Meth K aL "pen" gU)
   (kQ:gX K "pen" "Rules.pen" m8 ["self"] gU kO)
   (eG:Meth K aL "letters" cZ)
   (gK:gX K "letters" "Rules.letters" jB ["self"] cZ gB)
   (fg:Meth K aL "row_of" cK)
   (iy:gX K "row_of" "Rules.row_of" hE ["self","letter"] cK ik)
   (f6:Meth K aL "deed" fL)
   (ke:gX K "deed" "Rules.deed" md ["self","letter"] fL jY)
   (f7:Meth K aL "word" fM)
   (kf:gX K "word" "Rules.word" me ["self","letter"] fM jZ)
   (eI:Meth K aL "word_of" aY)
   (y73:K.lookup aY=some ⟨y51,y48,.func (W.fnOf "word_of" "Rules.word_of" (bR aX) (aG aX) (ah aX) (.ref jD) Yl Ym Yn Yk WC Yo),y50⟩)
   (Ys:K.lookup jD=some ⟨y58,y57,.seq #[.int 8 gD] y59,y60⟩)
   (y75:W.codeIn K WC "Rules.word_of"=true)
   (y76:W.keepIn K (.ref aY)=true)
   (q9:jy K "_law_cell" BJ ["_law_script","_law_k"] yr yx)
   (nU:jy K "_law_whole" yc ["_law_found"] sZ tJ)
   (iZ:jy K "_law_alphabet" oW ["_law_cell_here","_law_many"] mn mw)
   (rb:jy K "_law_text" BK ["_law_number","_law_alphabet_here","_law_most"] yt yy)
   (nV:jy K "_law_shape" yd ["_law_script","_law_far"] tf tK)
   (lI:jy K "_law_turned" uO ["_law_ways","_law_spot","_law_by"] pW p0)
   (nW:jy K "_law_along" ye ["_law_ways","_law_spot"] tm tL)
   (nX:jy K "_law_after" yf ["_law_ways","_law_one","_law_other"] tq tM)
   (rg:jy K "_law_none" BL ["_law_ways"] yu yz)
   (rh:jy K "_law_deed" qT ["_law_ways","_law_deed_here"] yw yA)
   (nY:jy K "_law_track" pS ["_law_found","_law_ways"] tw tN)
   (Aq:jy K "law" G5 ["_law_script"] pX uY)
   (Dd:W.nsIn K mainGlobals "all"=some none)
   (BQ:W.nsIn K mainGlobals "bool"=some none)
   (ny:W.nsIn K mainGlobals "dict"=some none)
   (kR:W.nsIn K mainGlobals "enumerate"=some none)
   (Ar:W.nsIn K mainGlobals "int"=some none)
   (eJ:W.nsIn K mainGlobals "isinstance"=some none)
   (iz:W.nsIn K mainGlobals "len"=some none)
   (nz:W.nsIn K mainGlobals "list"=some none)
   (De:W.nsIn K mainGlobals "max"=some none)
   (Hg:W.nsIn K mainGlobals "min"=some none)
   (iC:W.nsIn K mainGlobals "range"=some none)
   (As:W.nsIn K mainGlobals "sum"=some none)
   (p8:W.nsIn K mainGlobals "tuple"=some none)
   : ∃ t,Txt K mg t/\t.pX=pX:=
 ⟨⟨sV,sW,hU,dc,de,fw,d0,dM,bo,cW,fF,bM,eQ,pV,fG,fH,fJ,cX,cb,cY,cf,cg,fK,dN,eh,sX,gj,ml,i3,sY,dO,bW,bf,cw,nv,eV,bN,bF,dP,aQ,cy,fh,hV,jO,er,gU,cZ,cK,fL,fM,aY,yr,sZ,mn,yt,tf,pW,tm,tq,yu,yw,tw,pX,tE,tF,hW,jP,jQ,mq,kN,hX,cO,gk,jR,dv,i4,pY,jS,jT,jU,gu,(W.fnOf "shift" "Track.shift" (bR b7) (aG b7) (ah b7) (.ref k9) X6 X7 X8 X5 Wz X9),gv,(W.fnOf "reach" "Track.reach" (bR b8) (aG b8) (ah b8) (.ref lb) Yb Yc Yd Ya WA Ye),(W.fnOf "touch" "Track.touch" (bR b9) (aG b9) (ah b9) (.ref lg) Yg Yh Yi Yf WB Yj),jV,hZ,ia,tG,gw,mv,i8,tH,ib,eu,dw,gz,pZ,i9,dy,eA,ig,cP,gA,fi,ij,jW,jX,kO,gB,ik,jY,jZ,(W.fnOf "word_of" "Rules.word_of" (bR aX) (aG aX) (ah aX) (.ref jD) Yl Ym Yn Yk WC Yo),yx,tJ,mw,yy,tK,p0,tL,tM,yz,yA,tN,uY,ja,jb,jc,gD,aM,bS,aL,ay,av,aC,j0,cG,y0,y1,y2,K⟩,⟨rfl,
   W.mg_of X G,
   W.mg_none_of X G,
   iX,
   mx,
   dA,
   bG,
   ax,
   bX,
   oZ,
   u0,
   u6,
   qZ,
   u7,
   o3,
   gE,
   aO,
   c6,
   il,
   cm,
   cn,
   c7,
   bg,
   bj,
   aV,
   bU,
   bY,
   dQ,
   dR,
   cq,
   bJ,
   W.mg_of X G Hm,
   fun H=>.tup (vs:=[.str "stroke",.str "step",.str "left",.str "right",.str "rest"]) (.inr ⟨_,_,_,Hn,rfl,rfl,Nat.le_of_ble_eq_true rfl,.cons ⟨_,rfl⟩ (.cons ⟨_,rfl⟩ (.cons ⟨_,rfl⟩ (.cons ⟨_,rfl⟩ (.cons ⟨_,rfl⟩ (.nil)))))⟩) (.cons (.str _) (.cons (.str _) (.cons (.str _) (.cons (.str _) (.cons (.str _) (.nil)))))),
   W.mg_of X G vh,
   fun H=>.tup (vs:=[.str "stroke",.str "step"]) (.inr ⟨_,_,_,vi,rfl,rfl,Nat.le_of_ble_eq_true rfl,.cons ⟨_,rfl⟩ (.cons ⟨_,rfl⟩ (.nil))⟩) (.cons (.str _) (.cons (.str _) (.nil))),
   W.mg_of X G yE,
   W.mg_of X G su,
   W.mg_of X G wg,
   nP,
   nQ,
   dS,
   eZ,
   fT,
   j3,
   fe,
   fU,
   j4,
   fV,
   ip,
   my,
   fz,
   gS,
   kP,
   dU,
   iq,
   bZ,
   cQ,
   dk,
   gF,
   fW,
   j5,
   cL,
   dB,
   fA,
   jd,
   lG,
   j6,
   fX,
   j7,
   fY,
   j8,
   eB,
   gG,
   df,
   fun s us X hl=>by obtain⟨z,rfl⟩:=Bp hl;exact BindsTo.of_defaults rfl (X _ _ Yp) rfl rfl rfl,
   pL (st:=b7) y61 y63,
   y64,
   fun s us X hl=>by obtain⟨z,y,rfl⟩:=xS hl;exact BindsTo.of_defaults rfl (X _ _ Yp) rfl rfl rfl,
   eC,
   gH,
   dg,
   fun s us X hl=>by obtain⟨z,rfl⟩:=Bp hl;exact BindsTo.of_defaults rfl (X _ _ Yq) rfl rfl rfl,
   pL (st:=b8) y65 y67,
   y68,
   fun s us X hl=>by obtain⟨z,y,rfl⟩:=xS hl;exact BindsTo.of_defaults rfl (X _ _ Yq) rfl rfl rfl,
   dh,
   fun s us X hl=>by obtain⟨z,rfl⟩:=Bp hl;exact BindsTo.of_defaults rfl (X _ _ Yr) rfl rfl rfl,
   pL (st:=b9) y69 y71,
   y72,
   fun s us X hl=>by obtain⟨z,y,rfl⟩:=xS hl;exact BindsTo.of_defaults rfl (X _ _ Yr) rfl rfl rfl,
   fZ,
   j9,
   ff,
   ir,
   dC,
   fN,
   nS,
   c8,
   iY,
   eW,
   nT,
   iu,
   cC,
   eD,
   cz,
   dD,
   dm,
   gI,
   lH,
   je,
   cD,
   dF,
   cM,
   eE,
   eF,
   iw,
   cj,
   cR,
   dW,
   gJ,
   cu,
   dX,
   fO,
   ka,
   gT,
   kQ,
   eG,
   gK,
   fg,
   iy,
   f6,
   ke,
   f7,
   kf,
   eI,
   fun s us X hl=>by obtain⟨z,y,rfl⟩:=N8 hl;exact BindsTo.of_defaults rfl (X _ _ Ys) rfl rfl rfl,
   pL (st:=aX) y73 y75,
   y76,
   fun s us X hl=>match us,hl with | [_,_,_],_=>BindsTo.of_defaults rfl (X _ _ Ys) rfl rfl rfl,
   q9,
   nU,
   iZ,
   rb,
   nV,
   lI,
   nW,
   nX,
   rg,
   rh,
   nY,
   Aq,
   W.mg_none_of X G Dd,
   W.mg_none_of X G BQ,
   W.mg_none_of X G ny,
   W.mg_none_of X G kR,
   W.mg_none_of X G Ar,
   W.mg_none_of X G eJ,
   W.mg_none_of X G iz,
   W.mg_none_of X G nz,
   W.mg_none_of X G De,
   W.mg_none_of X G Hg,
   W.mg_none_of X G iC,
   W.mg_none_of X G As,
   W.mg_none_of X G p8⟩,rfl⟩
theorem OW {K:W.Frag}{mg:Str->Option Value}{t:ee}(T:Txt K mg t)(s:Shared)(u:Value):BindsTo s t.uY ⟨[u],[]⟩ [("_law_script",u)]:=by
 obtain⟨oc,od,kV,doc,pm,an,bx,ct,vJ,e,lk,lP⟩:=T.Aq.F.ex
 rw[e];exact .of_eq rfl
noncomputable abbrev CX:pA:=Xk
noncomputable def sg (c:Nat):Str:=⟨#[c]⟩
noncomputable def tx (w:List Nat):Str:=⟨w.toArray⟩
structure Row where
 c:Nat
 d:Str
 w:List Nat
noncomputable def mJ:List Str:=["stroke","step","left","right","rest"]
noncomputable def mO (r:Row):Dt:=.tup [.str (sg r.c),.str r.d,.str (tx r.w)]
noncomputable def small (c:Nat):Prop:=97<=c/\c<=122
structure dn (rows:List Row):Prop where
 pos:0 < rows.length
 le:rows.length<=6
 nd:(rows.map (·.c)).Nodup
 sm:∀ r∈rows,small r.c
 dd:∀ r∈rows,r.d∈mJ
 wp:∀ r∈rows,0 < r.w.length/\r.w.length<=8
 wo:∀ r∈rows,∀ x∈r.w,x∈rows.map (·.c)
noncomputable def rj (rows:List Row):List (Key×Dt):=rows.map fun r=>(.inr (sg r.c),mO r)
noncomputable abbrev Rl:=List Dt->Res->Prop
noncomputable def wy (six:Bool):Int:=if six then 6 else 4
noncomputable def ee.pc (t:ee)(six:Bool):Addr:=if six then t.bS else t.aM
noncomputable def ee.yF (t:ee)(six:Bool)(rows:List Row):Dt:=.obj t.aL [("drawer",.gW (.obj (t.pc six) [])),("row_by_letter",.dZ (rj rows))]
theorem rm {a b:Nat}(h:sg a=sg b):a=b:=by
 have:=congrArg (fun s:Str=>s.cps.toList) h
 simpa [sg] using this
theorem Ho {c:Nat}{L:List Nat}:sg c∈L.map sg ↔ c∈L:=by
 constructor
 . intro h
   obtain⟨x,hx,e⟩:=List.mem_map.mp h
   rw[<- rm e];exact hx
 . exact fun h=>List.mem_map.mpr ⟨c,h,rfl⟩
theorem WD {c:Nat}(h:97<=c):N4 "a" (sg c)=true:=by
 have e:("a":Str).cps.toList=[97]:=rfl
 unfold N4
 rw[e]
 show(!decide ([c] < [97]))=true
 have:¬ ([c] < [97]):=by
   intro z
   rcases List.cons_lt_cons_iff.mp z with z | ⟨_,z⟩
   . omega
   . exact absurd z (by simp)
 simp[this]
theorem WE {c:Nat}(h:c<=122):N4 (sg c) "z"=true:=by
 have e:("z":Str).cps.toList=[122]:=rfl
 unfold N4
 rw[e]
 show(!decide ([122] < [c]))=true
 have:¬ ([122] < [c]):=by
   intro z
   rcases List.cons_lt_cons_iff.mp z with z | ⟨_,z⟩
   . omega
   . exact absurd z (by simp)
 simp[this]
theorem vj (w:List Nat):Sg.signs (tx w)=(w.map sg).map Dt.str:=by
 unfold Sg.signs tx
 rw[List.map_map];rfl
theorem iD (w:List Nat):(tx w).length=w.length:=by show w.toArray.size=w.length;simp
theorem iE {w:List Nat}(h:∀ x∈w,x < 128):jx (tx w)=true:=by
 unfold jx tx
 rw[Array.all_eq_true_iff_forall_mem]
 intro x hx
 exact decide_eq_true (h x (by simpa using hx))
theorem rq:∀ {rows:List Row},(rows.map (·.c)).Nodup->∀ {r:Row},r∈rows->kZ (rj rows) (.inr (sg r.c))=some (mO r)
 | [],_,r,h=>by cases h
 | q::rows,nd,r,h=>by
   rw[List.map_cons,List.nodup_cons] at nd
   rcases List.mem_cons.mp h with rfl | h
   . exact pN (p:=(.inr (sg r.c),mO r)) rfl
   . have ne:¬ (Sum.inr (sg q.c):Key)=.inr (sg r.c):=fun z=>nd.1 (by
       rw[rm (Sum.inr.inj z)]
       exact List.mem_map.mpr ⟨r,h,rfl⟩)
     show kZ ((.inr (sg q.c),mO q)::rj rows) _=_
     rw[mY (p:=(.inr (sg q.c),mO q)) ne]
     exact rq nd.2 h
theorem sv {n:Nat}(h:n<=2000):n<=sizeLine:=Nat.le_trans h (by decide)
noncomputable def Kv:Rl:=fun ds r=>∃ c,ds=[.str (sg c)]/\small c/\r=.ret (.bl true)
noncomputable def OX:Rl:=fun ds r=>∃ (w L:List Nat),ds=[.str (tx w),.lst ((L.map sg).map .str)]/\(0 < w.length/\w.length<=8)/\(∀ x∈w,x∈L)/\(∀ x∈L,small x)/\r=.ret (.bl true)
noncomputable def Kw:Rl:=fun ds r=>∃ rows,ds=[.lst (rows.map mO)]/\dn rows/\r=.ret .cF
noncomputable def OY:Stmt->Scope
 | .Return (some (.BoolOp _ [_,.Call _ [.ListComp _ _ sc _] _ _] _)) _=>sc
 | _=>ah (.Pass ⟨0,0,0,0⟩)
noncomputable abbrev Kx:Scope:=OY ((aG fu).getD 0 (.Pass ⟨0,0,0,0⟩))
theorem Df:jk Kx (ah fu) nu ["sign","letters"] ["sign"] [1]=true:=by decide +kernel
noncomputable abbrev Ey:Scope:=Qa ((aG d9).getD 2 (.Pass ⟨0,0,0,0⟩))
theorem wX:jk Ey (ah d9) mj ["row"] ["row"] []=true:=by decide +kernel
noncomputable abbrev Ky:Scope:=Qa ((aG d9).getD 3 (.Pass ⟨0,0,0,0⟩))
theorem Dg:jk Ky (ah d9) mj ["first"] ["first"] []=true:=by decide +kernel
theorem fj {X:Cx}{G:Gr}{dl:List Slot}{zs Yt:List Dt}{wi:TI}(h:rW X G dl zs wi)(e:Yt=zs):rW X G dl Yt wi:=by subst e;exact h
variable {P:Program}{w:World}{K:W.Frag}{mg:Str->Option Value}{base:Heap}{t:ee}
theorem Hq (T:Txt K mg t):GF P w K mg base CX 1 "is_small_letter" 1 Kv:=by
 refine⟨_,_,_,iR T.cu.F oY rfl fun bx A outer s H E G ds r hr hl hR=>?_,(T.g T.cu.a),T.cu.F.kp,T.cu.b⟩
 obtain⟨c,rfl,⟨h1,h2⟩,rfl⟩:=hR
 exact⟨_,.rt _,ao (aE (uo (u:=true) (v:=true) (bu (NN (xI T.iz (aa 0 rfl) (sv (n:=1) (by decide))) af) rfl) fun _=>(pI (bu (Gp bP (aa 0 rfl) bP) (by rw[WD h1,WE h2];rfl)))))⟩
theorem Kz (T:Txt K mg t):GF P w K mg base CX 1 "is_word_over" 2 OX:=by
 refine⟨_,_,_,iR T.dX.F sh rfl fun bx A outer s H E G ds r hr hl hR=>?_,(T.g T.dX.a),T.dX.F.kp,T.dX.b⟩
 obtain⟨wd,L,rfl,⟨h0,h8⟩,hw,hL,rfl⟩:=hR
 have N7:jx (tx wd)=true:=iE fun x hx=>by have:=hL x (hw x hx);unfold small at this;omega
 have hlen:=iD wd
 have e1:(decide ((1:Int)<=((tx wd).length:Nat)) && decide (((tx wd).length:Nat)<=(8:Int)))=true:=by
   rw[hlen,decide_eq_true (by omega),decide_eq_true (by omega)];rfl
 have e2:(((wd.filter fun _=>true).map fun x=>Dt.bl (decide (sg x∈L.map sg))))=((List.replicate wd.length true).map Dt.bl):=by
   rw[List.filter_eq_self.mpr (fun _ _=>rfl)]
   refine List.ext_getElem (by simp) fun i h1 h2=>?_
   simp only[List.getElem_map,List.getElem_replicate]
   have hi:i < wd.length:=by simpa using h1
   rw[decide_eq_true (Ho.mpr (hw _ (List.getElem_mem hi)))]
 have e3:(List.replicate wd.length true).all id=true:=by simp
 have es:wd.map (fun x=>Dt.str (sg x))=Sg.signs (tx wd):=by rw[vj,List.map_map];rfl
 refine⟨_,.rt _,ao (aE (uo (u:=true) (v:=true) (bu (Gq af (xI T.iz (aa 0 rfl) (sv (by omega))) (jL (w:=.int 8) T.va ⟨_,rfl⟩ fun _=>.int 8)) (congrArg Dt.bl e1)) fun _=>(pI (bu (Gu (bs:=List.replicate wd.length true) T.Dd rfl (bu (kr (jw wd (fun x=>Dt.str (sg x)) (fun x=>.bl (decide (sg x∈L.map sg))) (fun x=>[.val (.str (sg x))]) (fun _=>true) rfl (cU Df) (iS (aa 0 rfl)) (cJ (cU Df) rfl) (fj (dJ N7) es) (fun a _=>du) (.nil fun _ _=>rfl)
   (fun a ha _ C fp s' H' G'=>N5 (aa 0 rfl) (aa 1 rfl)) (sv (by omega)))) (congrArg Dt.lst e2))) (congrArg Dt.bl e3)))))⟩
theorem BR {k:Nat}{ds:List Dt}{K:W.Frag}{H:Hp}{vs:List V}(r:bc K H vs ds)(hk:k<=ds.length):bc K H (DU vs none (some (k:Int))) (ds.take k):=by
 unfold DU
 rw[HT.FF,HT.Ju,List.drop_zero,r.length,Nat.min_eq_left hk,Nat.sub_zero]
 exact r.take k
theorem KA {X:Cx}{G:Gr}{dl:List Slot}{a b:Expr}{ds:List Dt}{k:Nat}{pos p2:Pos}(ha:EE X G dl a (.lst ds))(hb:EE X G dl b (.int (k:Int)))(hk:k<=ds.length):EO X G dl (.Subscript a (.Slice none (some b) none p2) pos) (.lst (ds.take k)):=
 fB (zv Jw ha Cr (Cs hb)) fun st H Q ⟨Hf,S,kk⟩=>⟨Hf,S,fun v au H1 g1 r1=>by
   cases r1 with
   | @lst q vs _ hq rp=>
     refine⟨au,S.grow g1,fun z bT H2 g2 r2=>?_⟩
     cases r2
     have g:=g1.trans g2
     refine⟨(k:Int),rfl,q,vs,rfl,.of (g2.big _ _ (g1.sub _ _ hq)),fun p hp=>kk p bT _ (g.trans (.dH g.sub hp)) (g.big.free hp) (g.sub.free hp) ⟨_,aj,BR (rp.mono g2.aW) hk⟩⟩⟩
theorem iG {L:List Dt}{L':List Dt}(e:L=L'){X:Cx}{G:Gr}{dl:List Slot}{z:Expr}(h:EO X G dl z (.lst L)):EE X G dl z (.lst L'):=by subst e;exact kr h
theorem Hr (T:Txt K mg t):GF P w K mg base CX 2 "check_rows" 1 Kw:=by
 refine⟨_,_,_,iR T.fO.F oF rfl fun bx A outer s H E G ds r hr hl hR=>?_,(T.g T.fO.a),T.fO.F.kp,T.fO.b⟩
 obtain⟨rows,rfl,ok,rfl⟩:=hR
 have Dh:=Hq (P:=P) (w:=w) (base:=base) T
 have OZ:=Kz (P:=P) (w:=w) (base:=base) T
 have nd:=oF.nd
 have hp:=ok.pos
 have hl6:=ok.le
 let cs:=rows.map (·.c)
 let lt:List Dt:=(cs.map sg).map Dt.str
 have e0:(decide ((((rows.map mO).length:Nat):Int)=0))=false:=by rw[List.length_map];exact decide_eq_false (by omega)
 have e1:(decide ((6:Int) < (((rows.map mO).length:Nat):Int)))=false:=by rw[List.length_map];exact decide_eq_false (by omega)
 have ef:((rows.filter fun _=>true).map fun r=>Dt.str (sg r.c))=lt:=by
   rw[List.filter_eq_self.mpr (fun _ _=>rfl)]
   show _=((rows.map (·.c)).map sg).map Dt.str
   rw[List.map_map,List.map_map];rfl
 have ez:(rows.map fun r=>Dt.str (sg r.c))=lt:=by
   show _=((rows.map (·.c)).map sg).map Dt.str
   rw[List.map_map,List.map_map];rfl
 have hsz:rows.length<=sizeLine:=sv (by omega)
 let S:Nat->List Slot:=fun _=>[.val (.lst (rows.map mO)),.val (.lst lt),.val (.lst lt),.bV,.bV,.bV]
 let xs:=rows.map mO
 have Qj:xs.length=rows.length:=List.length_map ..
 refine⟨.nx (S rows.length),.nx _,ak (bh (u:=false) (da (kY (sH T.iz (aa 0 rfl)) af) e0) (fun h=>nomatch h) (fun h=>bC))
   (ak (bh (u:=false) (da (wH (sH T.iz (aa 0 rfl)) (jL (w:=.int 6) T.Ap ⟨_,rfl⟩ fun _=>.int 6)) e1) (fun h=>nomatch h) (fun h=>bC))
   (ak (Bv 1 rows mO (fun r=>Dt.str (sg r.c)) (fun r=>[.val (mO r)]) (fun _=>true) rfl nd (cU wX) (jI (aa 0 rfl)) (cJ (cU wX) rfl) kh (fun a _=>du) (.nil fun _ _=>rfl) (fun a ha _ C fp s' H' G'=>ar (aa 0 rfl) af rfl) hsz)
   ?r1))⟩
 rw[ef]
 refine qJ 1 (w:=.lst lt) (ak (Bv 2 rows (fun r=>Dt.str (sg r.c)) (fun r=>Dt.str (sg r.c)) (fun r=>[.val (.str (sg r.c))]) (fun _=>true) rfl nd (cU Dg) (jI (aa 1 rfl)) (cJ (cU Dg) rfl) (fj kh ez) (fun a _=>du)
   (.one fun a ha C fp s' H' G'=>ug (b5 Dh aA hr (ae (aa 0 rfl) ai) ⟨a.c,rfl,ok.sm a ha,rfl⟩)) (fun a ha _ C fp s' H' G'=>aa 0 rfl) hsz) ?r2)
 rw[ef]
 refine qJ 2 (w:=.lst lt) (ao (nH (o:=.nx (S rows.length)) (m:=rows.length) (List.range xs.length) (fun(j:Nat)=>.tup [.int j,xs.getD j .cF]) (fun(j:Nat) dl=>(dl.set 3 (.val (.int j))).set 4 (.val (xs.getD j .cF))) S rfl PassesOwn.leaving
   (JV rfl T.kR (ae (aa 0 rfl) ai)) (Ef (xs:=xs)) (xn rfl (gc (ck nd rfl (.inl rfl)) (gc (ck nd rfl (.inl rfl)) sE))) (fun a _=>CP) (Le.of ⟨rfl,rfl,rfl,trivial⟩) (by rw[List.length_range,Qj];exact Nat.le_refl _) (fun j a hj ha=>?l) (by rw[List.length_range,Qj];exact .all rfl)))
 rw[List.getElem?_range (by omega)] at ha
 cases ha
 have ex:xs.getD j .cF=mO rows[j]:=by
   show(rows.map mO).getD j .cF=_
   rw[List.getD_eq_getElem?_getD,List.getElem?_map,List.getElem?_eq_getElem hj];rfl
 have hm:=List.getElem_mem hj
 have VH:cs.length=rows.length:=List.length_map ..
 have eT:lt.take j=((cs.take j).map sg).map Dt.str:=by
   show((cs.map sg).map Dt.str).take j=_
   rw[<- List.map_take,<- List.map_take]
 have d5:lt.length=rows.length:=by show((cs.map sg).map Dt.str).length=_;rw[List.length_map,List.length_map,VH]
 have WG:sg rows[j].c ∉ (cs.take j).map sg:=by
   intro z
   have z:=Ho.mp z
   obtain⟨i,hi,e⟩:=List.mem_iff_getElem.mp z
   rw[List.length_take] at hi
   rw[List.getElem_take] at e
   have h:=List.pairwise_iff_getElem.mp ok.nd i j (by rw[List.length_map];omega) (by rw[List.length_map];exact hj) (by omega)
   exact h (e.trans (List.getElem_map (f:=Row.c) (l:=rows) (i:=j) (h:=by rw[List.length_map];exact hj)).symm)
 have en:(!decide (sg rows[j].c∈(cs.take j).map sg))=true:=by rw[decide_eq_false WG];rfl
 have v4:∀ {X:Cx} {G:Gr} {dl:List Slot} {e:Expr},EE X G dl e (xs.getD j .cF)->EE X G dl e (.tup [.str (sg rows[j].c),.str rows[j].d,.str (tx rows[j].w)]):=fun h=>by rw[ex] at h;exact h
 refine .nx (ak (aB 5 nd (uo (u:=true) (v:=true) (b5 Dh aA hr (ae (ar (v4 (aa 4 rfl)) af rfl) ai) ⟨_,rfl,ok.sm _ hm,rfl⟩) fun _=>(pI (bu (JW (xs:=(cs.take j).map sg) (ar (v4 (aa 4 rfl)) af rfl) (iG eT (KA (aa 1 rfl) (aa 3 rfl) (by rw[d5];exact Nat.le_of_lt hj)))) (congrArg Dt.bl en)))))
   (ao (bh (u:=false) (um (u:=true) (D4 (FR (u:=true) (v:=true) (ug (aa 5 rfl)) fun _=>(FR (u:=true) (v:=true) (da (Bs (xs:=mJ) (ar (v4 (aa 4 rfl)) af rfl) (jL (w:=.ref t.j0) T.yC rfl T.yD)) (decide_eq_true (ok.dd _ hm))) fun _=>(JJ (ug (b5 OZ aA hr (ae (ar (v4 (aa 4 rfl)) af rfl) (ae (aa 2 rfl) ai)) ⟨rows[j].w,cs,rfl,ok.wp _ hm,ok.wo _ hm,fun x hx=>?_,rfl⟩))))))) (fun h=>nomatch h) (fun h=>bC)))) (Le.of ⟨rfl,rfl,rfl,trivial⟩)
 obtain⟨r,hr',rfl⟩:=List.mem_map.mp hx
 exact ok.sm r hr'
noncomputable def Hs (t:ee):Rl:=fun ds r=>∃ six,ds=[.int (wy six)]/\r=.ret (.gW (.obj (t.pc six) []))
noncomputable def KC (t:ee):Rl:=fun ds r=>∃ six rows,ds=[.int (wy six),.lst (rows.map mO)]/\dn rows/\r=.own (.obj t.aL [("drawer",.gW (.obj (t.pc six) [])),("row_by_letter",.dZ (rj rows))])
noncomputable def rr (r:Row):Str×List Dt:=(sg r.c,[.str r.d,.str (tx r.w)])
theorem Di (rows:List Row):rows.map mO=(rows.map rr).map uF:=by rw[List.map_map];rfl
theorem O0 (rows:List Row):rj rows=oB (rows.map rr):=by unfold oB rj;rw[List.map_map];rfl
theorem Sz {rows:List Row}(nd:(rows.map (·.c)).Nodup):((rows.map rr).map (·.1)).Nodup:=by
 have e:(rows.map rr).map (·.1)=(rows.map (·.c)).map sg:=by rw[List.map_map,List.map_map];rfl
 rw[e]
 exact List.Pairwise.map sg (fun a b h z=>h (rm z)) nd
theorem Ez (T:Txt K mg t):GF P w K mg base CX 1 "pen_of" 1 (Hs t):=by
 refine⟨_,_,_,iR T.lG.F Ex rfl fun bx A outer s H E G ds r hr hl hR=>?_,(T.g T.lG.a),T.lG.F.kp,T.lG.b⟩
 obtain⟨six,rfl,rfl⟩:=hR
 cases six with
 | false=>exact⟨_,.rt _,kM (bh (kY (aa 0 rfl) af) (fun h=>ao (aE (Ad T.oZ (T.g T.iX.a)))) (fun h=>absurd h (by decide)))⟩
 | true=>exact⟨_,.rt _,ak (bh (kY (aa 0 rfl) af) (fun h=>absurd h (by decide)) (fun h=>bC)) (kM (bh (kY (aa 0 rfl) af) (fun h=>ao (aE (Ad T.u0 (T.g T.mx.a)))) (fun h=>absurd h (by decide))))⟩
theorem Ht (T:Txt K mg t):NU P w K mg base CX 3 "Rules" t.aL 3 (KC t):=by
 refine⟨_,_,_,TK T.ka.F oG rfl fun bx A outer s H E G z ds r hr hl hR=>?_,T.u6,(T.g T.dA.a),T.ka.b⟩
 obtain⟨six,rows,rfl,ok,rfl⟩:=hR
 have SA:=Ez (P:=P) (w:=w) (base:=base) T
 have KD:=Hr (P:=P) (w:=w) (base:=base) T
 have nd:=oG.nd
 have hu:(A.deeper (envOfC "Rules.__init__" (ah jN) s.heap.objs.size t.er bx)).units+1 < cLine:=by have:=hr.units;omega
 rw[O0,Di]
 refine⟨_,.nx ?fin,ak (aB 3 nd (b5 SA aA hr (ae (aa 1 rfl) ai) ⟨six,rfl,rfl⟩))
   (ak (sG (b5 KD aA hr (ae (aa 2 rfl) ai) ⟨rows,by rw[Di],ok,rfl⟩))
   (ak (jv (aa 3 rfl) T.dA.cl T.gE)
   (Gx 2 4 (C:=t.aL) (rows:=rows.map rr) (dlu:=[.bV,.val (.int (wy six)),.val (.lst ((rows.map rr).map uF)),.val (.gW (.obj (t.pc six) [])),.bV]) hu nd rfl PassesOwn.leaving T.dA.cl T.aO rfl rfl rfl rfl (by decide) (by decide) rfl (Sz ok.nd) (by rw[List.length_map];exact Nat.lt_of_le_of_lt ok.le (by decide))
     (fun r=>ar (aa 4 rfl) af (jJ (j:=0) rfl)) (fun r=>J0 T.p8 (aa 4 rfl)))))⟩
 rfl
open PySem.Builtin.Str in
theorem wY (x:Str){a b:Nat}(Yu:a<=b)(hb:b<=x.length){l u:Option Int}(h:strSliceIndices l u 1 x.length=strSliceIndices (some (a:Int)) (some (b:Int)) 1 x.length):Txt.slice x l u=⟨((x.cps.toList.drop a).take (b - a)).toArray⟩:=by
 unfold Txt.slice
 rw[h,PySem.StrLaws.sliced_plain x Yu hb]
 split
 . rename_i q
   rw[PySem.StrLaws.strSliceIndices_plain Yu hb,List.length_map,List.length_range] at q
   have q:b - a=x.length:=by simpa using q
   have ea:a=0:=by omega
   have eb:b=x.length:=by omega
   subst ea eb
   rw[List.drop_zero,Nat.sub_zero]
   have:x.cps.toList.take x.length=x.cps.toList:=List.take_of_length_le (by simp[Str.length])
   rw[this]
 . rfl
open PySem.Builtin.Str in
theorem Hu (L:List Nat){k:Nat}(h:k<=L.length):Txt.slice (tx L) none (some (k:Int))=tx (L.take k):=by
 rw[wY (tx L) (a:=0) (b:=k) (Nat.zero_le _) (by rw[iD];exact h)]
 . show(⟨(((L.toArray.toList).drop 0).take (k - 0)).toArray⟩:Str)=_
   simp[tx]
 . simp[strSliceIndices]
   have e:max (0:Int) (min 0 ((tx L).length:Int))=0:=by omega
   rw[e]
open PySem.Builtin.Str in
theorem BS (L:List Nat){k:Nat}(h:k<=L.length):Txt.slice (tx L) (some (k:Int)) none=tx (L.drop k):=by
 rw[wY (tx L) (a:=k) (b:=(tx L).length) (by rw[iD];exact h) (Nat.le_refl _)]
 . show(⟨(((L.toArray.toList).drop k).take ((tx L).length - k)).toArray⟩:Str)=_
   rw[iD,List.toList_toArray,List.take_of_length_le (by rw[List.length_drop];exact Nat.le_refl _)]
   rfl
 . simp[strSliceIndices]
   have e:max (0:Int) (min (if ((tx L).length:Int) < 0 then ((tx L).length:Int)+(tx L).length else (tx L).length) ((tx L).length:Int))=(tx L).length:=by
     rw[if_neg (by omega)];omega
   rw[e]
theorem O1 (a b:List Nat):tx a ++ tx b=tx (a ++ b):=by
 show(⟨a.toArray ++ b.toArray⟩:Str)=⟨(a ++ b).toArray⟩
 simp
theorem SD (L:List Nat){k:Nat}(h:k < L.length):lj (tx L).cps.toList (k:Int)=some (L.getD k 0):=by
 show lj L.toArray.toList (k:Int)=_
 rw[List.toList_toArray]
 refine jJ ?_
 rw[List.getD_eq_getElem?_getD,List.getElem?_eq_getElem h];rfl
section
variable {X:Cx}{G:Gr}{dl:List Slot}{a b:Expr}{L M:List Nat}{k:Nat}{pos p p2:Pos}
theorem yG (ha:EE X G dl a (.str (tx L)))(hb:EE X G dl b (.str (tx M)))(h:L.length+M.length<=2000):EE X G dl (.BinOp a .Add b pos) (.str (tx (L ++ M))):=
 bu (NA ha hb (by rw[iD,iD];exact sv h)) (by rw[O1])
theorem yH (ha:EE X G dl a (.str (tx L)))(hb:EE X G dl b (.int (k:Int)))(h:k < L.length)(hl:L.length<=2000)(hs:jK b:=by intro _ _;rfl):EE X G dl (.Subscript a b pos) (.str (tx [L.getD k 0])):=
 ND ha hb (SD L h) (by rw[iD];exact sv hl) hs
theorem KG (ha:EE X G dl a (.str (tx L)))(hb:EE X G dl b (.int (k:Int)))(h:k<=L.length)(hl:L.length<=2000):EE X G dl (.Subscript a (.Slice none (some b) none p2) pos) (.str (tx (L.take k))):=
 bu (Gk ha Gj (CQ hb) (by rw[iD];exact sv hl)) (by rw[Hu L h])
theorem EC (ha:EE X G dl a (.str (tx L)))(hb:EE X G dl b (.int (k:Int)))(h:k<=L.length)(hl:L.length<=2000):EE X G dl (.Subscript a (.Slice (some b) none none p2) pos) (.str (tx (L.drop k))):=
 bu (Gk ha (CQ hb) Gj (by rw[iD];exact sv hl)) (by rw[BS L h])
theorem p9 (hm:X.mg "len"=none)(ha:EE X G dl a (.str (tx L)))(hl:L.length<=2000)(hg:Gl X "len":=by rfl)(he:starEach [a] X.env=[(false,eval a X.env)]:=by rfl):EE X G dl (.Call (.Name "len" p) [a] [] pos) (.int (L.length:Nat)):=
 bu (xI hm ha (by rw[iD];exact sv hl) hg he) (by rw[iD])
end
theorem Dj:∀ (Ls:List (List Nat)) (a:List Nat),(Ls.map tx).foldl (fun acc p=>acc ++ (("":Str).cps) ++ p.cps) a.toArray=(a ++ Ls.flatten).toArray
 | [],a=>by simp
 | l::r,a=>by
   have e:a.toArray ++ ("":Str).cps ++ (tx l).cps=(a ++ l).toArray:=by
     show a.toArray ++ (#[]:Array Nat) ++ l.toArray=_
     simp
   rw[List.map_cons,List.foldl_cons,e,Dj r,List.flatten_cons,List.append_assoc]
theorem KH (Ls:List (List Nat)):Txt.join "" (Ls.map tx)=tx Ls.flatten:=by
 cases Ls with
 | nil=>rfl
 | cons l r=>
   show(⟨(r.map tx).foldl (fun acc p=>acc ++ (("":Str).cps) ++ p.cps) l.toArray⟩:Str)=_
   rw[Dj,List.flatten_cons];rfl
theorem ED {X:Cx}{G:Gr}{dl:List Slot}{a e:Expr}{apos b6:Pos}{Ls:List (List Nat)}(ha:EE X G dl a (.str ""))(he:EE X G dl e (.lst ((Ls.map tx).map .str)))(hw:Ls.flatten.length+Ls.length<=100000)(kl:attributeBase a "join" X.env (eval a X.env)=eval a X.env:=by rfl)
   (t8:((backTo b6 (starEach [e] X.env)).all (fun x=>!x.1) && (backToKw b6 (keywordEach [] X.env)).all (fun x=>x.1.isSome) && decide ([e].length+([]:List Keyword).length+(if ([]:List Keyword).isEmpty then 0 else 1) < 30))=true:=by rfl)
   (km:(apos.endLine == b6.line)=true:=by rfl) (oM:starEach [e] X.env=(false,eval e X.env)::starEach [] X.env:=by rfl):EE X G dl (.Call (.Attribute a "join" apos) [e] [] b6) (.str (tx Ls.flatten)):=by
 have e1:((Ls.map tx).map (·.length)).sum=Ls.flatten.length:=by
   rw[List.length_flatten,List.map_map]
   congr 1
 exact bu (JY ha he (joinOk_of_weight (by rw[e1,List.length_map];omega) (by decide)) kl t8 km oM) (by rw[KH])
theorem Au:∀ rows:List Row,(rows.map fun r=>[r.c]).flatten=rows.map (·.c)
 | []=>rfl
 | a::r=>by rw[List.map_cons,List.flatten_cons,Au r];rfl
noncomputable def ee.yI (t:ee)(six:Bool)(rows:List Row):List (Str×Dt):=[("drawer",.gW (.obj (t.pc six) [])),("row_by_letter",.dZ (rj rows))]
noncomputable def lh (rows:List Row)(x:Nat):Str:=((rows.find? fun r=>decide (r.c=x)).map (·.d)).getD ""
noncomputable def wordOf (rows:List Row)(x:Nat):List Nat:=((rows.find? fun r=>decide (r.c=x)).map (·.w)).getD []
theorem iH {rows:List Row}{x:Nat}(h:x∈rows.map (·.c)):∃ r∈rows,r.c=x/\lh rows x=r.d/\wordOf rows x=r.w:=by
 obtain⟨q,hq,e⟩:=List.mem_map.mp h
 cases f:rows.find? (fun r=>decide (r.c=x)) with
 | none=>exact absurd (decide_eq_true e) (by simpa using List.find?_eq_none.mp f q hq)
 | some r=>
   refine⟨r,List.mem_of_find?_eq_some f,of_decide_eq_true (List.find?_some (p:=fun r:Row=>decide (r.c=x)) f),?_,?_⟩
   . unfold lh;rw[f];rfl
   . unfold wordOf;rw[f];rfl
noncomputable def BU (t:ee):Rl:=fun ds r=>∃ six rows,ds=[t.yF six rows]/\dn rows/\r=.ret (.str (tx (rows.map (·.c))))
noncomputable def Hv (t:ee):Rl:=fun ds r=>∃ six rows q,ds=[t.yF six rows,.str (sg q.c)]/\dn rows/\q∈rows/\r=.ret (mO q)
noncomputable def KI (t:ee):Rl:=fun ds r=>∃ six rows x,ds=[t.yF six rows,.str (sg x)]/\dn rows/\x∈rows.map (·.c)/\r=.ret (.str (lh rows x))
noncomputable def KJ (t:ee):Rl:=fun ds r=>∃ six rows x,ds=[t.yF six rows,.str (sg x)]/\dn rows/\x∈rows.map (·.c)/\r=.ret (.str (tx (wordOf rows x)))
theorem wZ (T:Txt K mg t):MF P w K mg base CX 1 t.aL "row_of" 2 (Hv t):=by
 refine⟨T.dA.cl,_,_,_,iR T.iy.F sj rfl fun bx A outer s H E G ds r hr hl hR=>?_,T.fg,T.iy.b⟩
 obtain⟨six,rows,q,rfl,ok,hq,rfl⟩:=hR
 have hu:(A.deeper (envOfC "Rules.row_of" (ah hE) s.heap.objs.size t.cK bx)).units+1 < cLine:=by have:=hr.units;omega
 have hv:=rq ok.nd hq
 exact⟨_,.rt _,ak (bh (u:=false) (da (CT hu (aa 1 rfl) (aI (fs:=t.yI six rows) (aa 0 rfl) T.dA.cl T.aO rfl)) (by rw[hv];rfl)) (fun h=>nomatch h) (fun h=>bC))
   (ao (aE (JZ hu (aI (fs:=t.yI six rows) (aa 0 rfl) T.dA.cl T.aO rfl) (aa 1 rfl) hv (fun _ _=>rfl))))⟩
theorem Av (T:Txt K mg t):MF P w K mg base CX 2 t.aL "word" 2 (KJ t):=by
 refine⟨T.dA.cl,_,_,_,iR T.kf.F v7 rfl fun bx A outer s H E G ds r hr hl hR=>?_,T.f7,T.kf.b⟩
 obtain⟨six,rows,x,rfl,ok,hx,rfl⟩:=hR
 obtain⟨q,hq,rfl,e1,e2⟩:=iH hx
 have m:=wZ (P:=P) (w:=w) (base:=base) T
 rw[e2]
 exact⟨_,.rt _,ao (aE (ar (cI (fs:=t.yI six rows) (aa 0 rfl) m aA hr (ae (aa 1 rfl) ai) ⟨six,rows,q,rfl,ok,hq,rfl⟩) af rfl))⟩
theorem jo (T:Txt K mg t):MF P w K mg base CX 1 t.aL "letters" 1 (BU t):=by
 refine⟨T.dA.cl,_,_,_,iR T.gK.F qY rfl fun bx A outer s H E G ds r hr hl hR=>?_,T.eG,T.gK.b⟩
 obtain⟨six,rows,rfl,ok,rfl⟩:=hR
 have h6:=ok.le
 have el:((rj rows).map fun kd=>kD kd.1)=((rows.map fun r=>[r.c]).map tx).map Dt.str:=by
   unfold rj
   rw[List.map_map,List.map_map,List.map_map];rfl
 have ef:(rows.map fun r=>[r.c]).flatten=rows.map (·.c):=Au rows
 refine⟨_,.rt _,ao (aE (bu (ED (Ls:=rows.map fun r=>[r.c]) bP (iG el (GA T.nz rfl (aI (fs:=t.yI six rows) (aa 0 rfl) T.dA.cl T.aO rfl))) (by rw[ef,List.length_map,List.length_map];omega)) (by rw[ef])))⟩
theorem Hw (T:Txt K mg t):MF P w K mg base CX 2 t.aL "deed" 2 (KI t):=by
 refine⟨T.dA.cl,_,_,_,iR T.ke.F v5 rfl fun bx A outer s H E G ds r hr hl hR=>?_,T.f6,T.ke.b⟩
 obtain⟨six,rows,x,rfl,ok,hx,rfl⟩:=hR
 obtain⟨q,hq,rfl,e1,e2⟩:=iH hx
 have m:=wZ (P:=P) (w:=w) (base:=base) T
 rw[e1]
 exact⟨_,.rt _,ao (aE (ar (cI (fs:=t.yI six rows) (aa 0 rfl) m aA hr (ae (aa 1 rfl) ai) ⟨six,rows,q,rfl,ok,hq,rfl⟩) af rfl))⟩
noncomputable def w4 (t:ee):Rl:=fun ds r=>∃ (six:Bool) (rows:List Row) (w:List Nat) (m:Nat),ds=[t.yF six rows,.str (tx w),.int (m:Nat)]/\dn rows/\(∀ x∈w,x∈rows.map (·.c))/\(0 < w.length/\w.length<=m/\m<=1000)/\r=.ret (.str (tx w))
theorem KL (w:List Nat):w.map (fun x=>Dt.str (sg x))=Sg.signs (tx w):=by rw[vj,List.map_map];rfl
theorem tP {rows:List Row}(ok:dn rows){w:List Nat}(h:∀ x∈w,x∈rows.map (·.c)):jx (tx w)=true:=iE fun x hx=>by
 obtain⟨r,hr,rfl⟩:=List.mem_map.mp (h x hx)
 have:=ok.sm r hr
 unfold small at this;omega
theorem BV (T:Txt K mg t):iL P w K mg base CX 1 t.aY t.gC ["self","text","most"] (CD K 3 (w4 t)):=by
 refine TJ T.sq lF rfl fun bx A outer s H E G ds r hr hl hR=>?_
 obtain⟨six,rows,wd,m,rfl,ok,hw,⟨h0,hm,XJ⟩,rfl⟩:=hR
 have nd:=lF.nd
 have hu:(A.deeper (envOfC "Rules.word_of" (ah aX) s.heap.objs.size t.aY bx)).units+1 < cLine:=by have:=hr.units;omega
 have ne:¬ tx wd=("":Str):=fun z=>by
   have:=congrArg Str.length z
   rw[iD] at this
   have e:("":Str).length=0:=rfl
   omega
 let xs:=Sg.signs (tx wd)
 have Qj:xs.length=wd.length:=by show(Sg.signs (tx wd)).length=_;rw[qM,iD]
 let S:Nat->List Slot:=fun _=>[.val (t.yF six rows),.val (.str (tx wd)),.val (.int (m:Nat)),.bV,.bV]
 refine⟨_,.rt _,ak (bh (u:=false) (da (fQ (aa 1 rfl) bP) (decide_eq_false ne)) (fun h=>nomatch h) (fun h=>bC))
   (ak (nH (o:=.nx (S wd.length)) (m:=wd.length) (List.range xs.length) (fun(j:Nat)=>.tup [.int j,xs.getD j .cF]) (fun(j:Nat) dl=>(dl.set 3 (.val (.int j))).set 4 (.val (xs.getD j .cF))) S rfl PassesOwn.leaving
     (GC rfl T.kR (ae (aa 1 rfl) ai)) (BA (tP ok hw)) (xn rfl (gc (ck nd rfl (.inl rfl)) (gc (ck nd rfl (.inl rfl)) sE))) (fun a _=>CP) (Le.of ⟨rfl,rfl,rfl,trivial⟩) (by rw[List.length_range,Qj];exact Nat.le_refl _) (fun j a hj ha=>?_) (by rw[List.length_range,Qj];exact .all rfl))
   (ao (aE (aa 1 rfl))))⟩
 rw[List.getElem?_range (by omega)] at ha
 cases ha
 have ex:xs.getD j .cF=.str (sg wd[j]):=by
   show(Sg.signs (tx wd)).getD j .cF=_
   rw[<- KL,List.getD_eq_getElem?_getD,List.getElem?_map,List.getElem?_eq_getElem hj];rfl
 have v4:∀ {X:Cx} {G:Gr} {dl:List Slot} {e:Expr},EE X G dl e (xs.getD j .cF)->EE X G dl e (.str (sg wd[j])):=fun h=>by rw[ex] at h;exact h
 obtain⟨q,hq,hc,_,_⟩:=iH (hw _ (List.getElem_mem hj))
 have hv:=rq ok.nd hq
 rw[hc] at hv
 exact .nx (ao (bh (u:=false) (D4 (uk (u:=false) (v:=false) (da (FZ (aa 3 rfl) (aa 2 rfl)) (decide_eq_false (by omega))) fun _=>(uh (da (CT hu (v4 (aa 4 rfl)) (aI (fs:=t.yI six rows) (aa 0 rfl) T.dA.cl T.aO rfl)) (by rw[hv];rfl))))) (fun h=>nomatch h) (fun h=>bC))) (Le.of ⟨rfl,rfl,rfl,trivial⟩)
theorem WH {K:W.Frag}:∀ H,bc K H [.int 8] [.int 8]:=fun _=>.cons (.int 8) .nil
theorem Aw (T:Txt K mg t):E3 P w K mg base CX 1 t.aL "word_of" 3 [.int 8] (w4 t):=⟨T.dA.cl,_,_,_,_,[.int 8],BV T,T.eI,T.q8,.cons ⟨_,rfl⟩ .nil,WH⟩
noncomputable def O2 (t:ee):Rl:=fun ds r=>∃ six rows,ds=[t.yF six rows]/\r=.ret (.gW (.obj (t.pc six) []))
theorem Dl (T:Txt K mg t):MF P w K mg base CX 1 t.aL "pen" 1 (O2 t):=by
 refine⟨T.dA.cl,_,_,_,iR T.kQ.F yo rfl fun bx A outer s H E G ds r hr hl hR=>?_,T.gT,T.kQ.b⟩
 obtain⟨six,rows,rfl,rfl⟩:=hR
 exact⟨_,.rt _,ao (aE (aI (fs:=t.yI six rows) (aa 0 rfl) T.dA.cl T.gE rfl))⟩
noncomputable def tl (six:Bool)(p:Int×Int):Int×Int:=if six then (-p.2,p.1+p.2) else (-p.2,p.1)
noncomputable def tn (six:Bool):Nat->Int×Int->Int×Int
 | 0,p=>p
 | n+1,p=>tl six (tn six n p)
noncomputable def sp (p:Int×Int):Dt:=.tup [.int p.1,.int p.2]
theorem eK (six:Bool):0 < wy six:=by cases six <;> decide
noncomputable def O3 (t:ee)(six:Bool):Rl:=fun ds r=>ds=[.obj (t.pc six) []]/\r=.ret (.int (wy six))
noncomputable def O4 (t:ee)(six:Bool):Rl:=fun ds r=>∃ p,ds=[.obj (t.pc six) [],sp p]/\r=.ret (sp (tl six p))
noncomputable def Hx (t:ee)(six:Bool):Rl:=fun ds r=>∃ z,ds=[.obj (t.pc six) [],.int z]/\r=.ret (.int (z % wy six))
noncomputable def Hy (t:ee)(six:Bool):Rl:=fun ds r=>∃ p b,ds=[.obj (t.pc six) [],sp p,.int b]/\r=.ret (sp (tn six (b % wy six).toNat p))
theorem tQ (T:Txt K mg t)(six:Bool):MF P w K mg base CX 1 (t.pc six) "ways" 1 (O3 t six):=by
 cases six with
 | false=>
   refine⟨T.iX.cl,_,_,_,iR T.iq.F rZ rfl fun bx A outer s H E G ds r hr hl hR=>?_,T.dU,T.iq.b⟩
   obtain⟨rfl,rfl⟩:=hR
   exact⟨_,.rt _,ao (aE af)⟩
 | true=>
   refine⟨T.mx.cl,_,_,_,iR T.j5.F vQ rfl fun bx A outer s H E G ds r hr hl hR=>?_,T.fW,T.j5.b⟩
   obtain⟨rfl,rfl⟩:=hR
   exact⟨_,.rt _,ao (aE af)⟩
theorem KN (T:Txt K mg t)(six:Bool):MF P w K mg base CX 1 (t.pc six) "turned_left" 2 (O4 t six):=by
 cases six with
 | false=>
   refine⟨T.iX.cl,_,_,_,iR T.cQ.F mf rfl fun bx A outer s H E G ds r hr hl hR=>?_,T.bZ,T.cQ.b⟩
   obtain⟨p,rfl,rfl⟩:=hR
   exact⟨_,.rt _,(ao (aE (aS (ae (gN (ar (aa 1 rfl) af rfl)) (ae (ar (aa 1 rfl) af rfl) ai)) AA3)))⟩
 | true=>
   refine⟨T.mx.cl,_,_,_,iR T.dB.F m9 rfl fun bx A outer s H E G ds r hr hl hR=>?_,T.cL,T.dB.b⟩
   obtain⟨p,rfl,rfl⟩:=hR
   exact⟨_,.rt _,(ao (aE (aS (ae (gN (ar (aa 1 rfl) af rfl)) (ae (aN (ar (aa 1 rfl) af rfl) (ar (aa 1 rfl) af rfl)) ai)) AA3)))⟩
theorem Dm {six:Bool}{m:Str}{f:Addr}(hQ:Meth K t.aM m f)(hS:Meth K t.bS m f):Meth K (t.pc six) m f:=by cases six <;> assumption
theorem Dn (T:Txt K mg t)(six:Bool):rP K (t.pc six):=by cases six;exact T.iX.cl;exact T.mx.cl
theorem lJ (T:Txt K mg t)(six:Bool):MF P w K mg base CX 2 (t.pc six) "way_of" 2 (Hx t six):=by
 refine⟨Dn T six,_,_,_,iR T.j3.F vP rfl fun bx A outer s H E G ds r hr hl hR=>?_,Dm T.eZ T.fT,T.j3.b⟩
 obtain⟨z,rfl,rfl⟩:=hR
 have h1:=tQ (P:=P) (w:=w) (base:=base) T six
 refine⟨_,.rt _,ao (aE (d8 (aa 1 rfl) (bD (aa 0 rfl) h1 aA hr ⟨rfl,rfl⟩) (eK six)))⟩
theorem xa (T:Txt K mg t)(six:Bool):MF P w K mg base CX 3 (t.pc six) "turned" 3 (Hy t six):=by
 refine⟨Dn T six,_,_,_,iR T.j4.F k7 rfl fun bx A outer s H E G ds r hr hl hR=>?_,Dm T.fe T.fU,T.j4.b⟩
 obtain⟨p,b,rfl,rfl⟩:=hR
 have h1:=lJ (P:=P) (w:=w) (base:=base) T six
 have h2:=KN (P:=P) (w:=w) (base:=base) T six
 have R5:=Int.emod_nonneg b (Int.ne_of_gt (eK six))
 have VV:=Int.emod_lt_of_pos b (eK six)
 have hb3:wy six<=6:=by cases six <;> decide
 refine⟨_,.rt _,ak (iQ 3 (fun k=>[.val (.obj (t.pc six) []),.val (sp (tn six k p)),.val (.int b),.bV]) k7.nd rfl PassesOwn.leaving T.iC
   (ae (cI (aa 0 rfl) h1 aA hr (ae (aa 2 rfl) ai) ⟨b,rfl,rfl⟩) ai) ⟨by omega,by omega⟩ (Le.of ⟨rfl,rfl,rfl,trivial⟩) (Nat.le_refl _) (fun k hk=>?_) (.all rfl)) (ao (aE (aa 1 rfl)))⟩
 refine .nx (ao (aB 1 k7.nd (cI (aa 0 rfl) h2 aA hr (ae (aa 1 rfl) ai) ⟨_,rfl,rfl⟩))) (Le.of ⟨rfl,rfl,rfl,trivial⟩)
theorem Dp {m n:Nat}{a b:Int}(ha:a.natAbs < 2 ^ m)(hb:b.natAbs < 2 ^ n)(h:m+n<=134217728):IntMulOk a b:=IntMulOk.of_le (PySem.intBits_le_iff.mpr ha) (PySem.intBits_le_iff.mpr hb) h
noncomputable def iM (six:Bool)(w:Int)(p:Int×Int):Int:=
 if six then (if w=0 then 2 * p.1+p.2 else if w=1 then p.1+2 * p.2 else if w=2 then p.2 - p.1 else if w=3 then -2 * p.1 - p.2 else if w=4 then -p.1 - 2 * p.2 else p.1 - p.2)
 else (if w=0 then p.1 else if w=1 then p.2 else if w=2 then -p.1 else -p.2)
theorem SE (six:Bool){w:Int}(h0:0<=w)(h1:w < wy six)(p:Int×Int):iM six ((w+1) % wy six) (Pf.tl six p)=iM six w p:=by
 obtain⟨x,y⟩:=p
 cases six with
 | false=>
   have h1:w < 4:=h1
   have h:w=0\/w=1\/w=2\/w=3:=by omega
   rcases h with rfl | rfl | rfl | rfl <;> simp[iM,Pf.tl,wy]
 | true=>
   have h1:w < 6:=h1
   have h:w=0\/w=1\/w=2\/w=3\/w=4\/w=5:=by omega
   rcases h with rfl | rfl | rfl | rfl | rfl | rfl <;> simp[iM,Pf.tl,wy] <;> omega
theorem Mh (six:Bool){w:Int}(h0:0<=w)(h1:w < wy six)(p:Int×Int):∀ n:Nat,iM six ((w+n) % wy six) (tn six n p)=iM six w p
 | 0=>by
   show iM six ((w+0) % wy six) p=_
   rw[Int.add_zero,Int.emod_eq_of_lt h0 h1]
 | n+1=>by
   have hp:=eK six
   have a:=Int.emod_nonneg (w+n) (Int.ne_of_gt hp)
   have b:=Int.emod_lt_of_pos (w+n) hp
   show iM six ((w+((n+1:Nat):Int)) % wy six) (Pf.tl six (tn six n p))=_
   rw[<- Mh six h0 h1 p n,<- SE six a b]
   congr 1
   rw[Int.emod_add_emod]
   congr 1
   push_cast
   omega
theorem Hz (six:Bool){w:Int}(h0:0<=w)(h1:w < wy six)(b:Int)(p:Int×Int):iM six ((w+b) % wy six) (tn six (b % wy six).toNat p)=iM six w p:=by
 have a:=Int.emod_nonneg b (Int.ne_of_gt (eK six))
 have e:((((b % wy six).toNat:Nat):Int))=b % wy six:=by omega
 have:=Mh six h0 h1 p (b % wy six).toNat
 rw[e,Int.add_emod_emod] at this
 exact this
noncomputable def KO (t:ee)(six:Bool):Rl:=fun ds r=>∃ z p,ds=[.obj (t.pc six) [],.int z,sp p]/\(0<=z/\z < wy six)/\r=.ret (.int (iM six z p))
theorem SF {z:Int}(p:Int×Int)(h0:0<=z)(h1:z < 4):lj [Dt.int p.1,Dt.int p.2,Dt.int (-p.1),Dt.int (-p.2)] z=some (Dt.int (iM false z p)):=by
 have h:z=0\/z=1\/z=2\/z=3:=by omega
 rcases h with rfl | rfl | rfl | rfl <;> rfl
theorem SG {z:Int}(p:Int×Int)(h0:0<=z)(h1:z < 6):lj [Dt.int (2 * p.1+p.2),Dt.int (p.1+2 * p.2),Dt.int (p.2 - p.1),Dt.int (-2 * p.1 - p.2),Dt.int (-p.1 - 2 * p.2),Dt.int (p.1 - p.2)] z=some (Dt.int (iM true z p)):=by
 have h:z=0\/z=1\/z=2\/z=3\/z=4\/z=5:=by omega
 rcases h with rfl | rfl | rfl | rfl | rfl | rfl <;> rfl
theorem mod_lt {z m:Int}(h0:0<=z)(h1:z < m):z % m=z:=Int.emod_eq_of_lt h0 h1
theorem Ax (T:Txt K mg t)(six:Bool):MF P w K mg base CX 3 (t.pc six) "along" 3 (KO t six):=by
 have qb:=lJ (P:=P) (w:=w) (base:=base) T six
 cases six with
 | false=>
   refine⟨T.iX.cl,_,_,_,iR T.gF.F iW rfl fun bx A outer s H E G ds r hr hl hR=>?_,T.dk,T.gF.b⟩
   obtain⟨z,p,rfl,⟨h0,h1⟩,rfl⟩:=hR
   exact⟨_,.rt _,(ak (aB 3 iW.nd (ar (aa 2 rfl) af rfl))
 (ak (aB 4 iW.nd (ar (aa 2 rfl) af rfl))
 (ao (aE (ar (aS (ae (aa 3 rfl) (ae (aa 4 rfl) (ae (gN (aa 3 rfl)) (ae (gN (aa 4 rfl)) ai)))) AA3) (cI (aa 0 rfl) qb aA hr (ae (aa 1 rfl) ai) ⟨z,rfl,rfl⟩) (by rw[mod_lt h0 h1];exact SF p h0 h1))))))⟩
 | true=>
   refine⟨T.mx.cl,_,_,_,iR T.jd.F kE rfl fun bx A outer s H E G ds r hr hl hR=>?_,T.fA,T.jd.b⟩
   obtain⟨z,p,rfl,⟨h0,h1⟩,rfl⟩:=hR
   exact⟨_,.rt _,(ak (aB 3 kE.nd (ar (aa 2 rfl) af rfl))
 (ak (aB 4 kE.nd (ar (aa 2 rfl) af rfl))
 (ao (aE (ar (aS (ae (aN (fP af (aa 3 rfl) (pv.ok (Or.inl ⟨by decide,by decide⟩))) (aa 4 rfl)) (ae (aN (aa 3 rfl) (fP af (aa 4 rfl) (pv.ok (Or.inl ⟨by decide,by decide⟩)))) (ae (gM (aa 4 rfl) (aa 3 rfl)) (ae (gM (fP (gN af) (aa 3 rfl) (pv.ok (Or.inl ⟨by decide,by decide⟩))) (aa 4 rfl)) (ae (gM (gN (aa 3 rfl)) (fP af (aa 4 rfl) (pv.ok (Or.inl ⟨by decide,by decide⟩)))) (ae (gM (aa 3 rfl) (aa 4 rfl)) ai)))))) AA3) (cI (aa 0 rfl) qb aA hr (ae (aa 1 rfl) ai) ⟨z,rfl,rfl⟩) (by rw[mod_lt h0 h1];exact SG p h0 h1))))))⟩
noncomputable def ad (p q:Int×Int):Int×Int:=(p.1+q.1,p.2+q.2)
noncomputable def KP:Rl:=fun ds r=>∃ p q,ds=[sp p,sp q]/\r=.ret (sp (ad p q))
noncomputable def Fb:List Str:=["stroke","step"]
noncomputable def qc (d:Str):Int:=if d="left" then 1 else if d="right" then -1 else 0
noncomputable def tR (six:Bool)(d:Str)(p:Int×Int)(w:Int):(Int×Int)×Int:=(if d∈Fb then ad p (tn six (w % wy six).toNat (1,0)) else p,(w+qc d) % wy six)
noncomputable def KQ:Rl:=fun ds r=>∃ d:Str,ds=[.str d]/\r=.ret (.int (qc d))
noncomputable def O5 (t:ee)(six:Bool):Rl:=fun ds r=>∃ w,ds=[.obj (t.pc six) [],.int w]/\r=.ret (sp (tn six (w % wy six).toNat (1,0)))
noncomputable def KR (t:ee)(six:Bool):Rl:=fun ds r=>∃ d p w,ds=[.obj (t.pc six) [],.str d,sp p,.int w]/\d∈mJ/\r=.ret (.tup [sp (tR six d p w).1,.int (tR six d p w).2])
theorem Ay (T:Txt K mg t):GF P w K mg base CX 1 "added" 2 KP:=by
 refine⟨_,_,_,iR T.nP.F G6 rfl fun bx A outer s H E G ds r hr hl hR=>?_,(T.g T.nP.a),T.nP.F.kp,T.nP.b⟩
 obtain⟨p,q,rfl,rfl⟩:=hR
 exact⟨_,.rt _,(ao (aE (aS (ae (aN (ar (aa 0 rfl) af rfl) (ar (aa 1 rfl) af rfl)) (ae (aN (ar (aa 0 rfl) af rfl) (ar (aa 1 rfl) af rfl)) ai)) AA3)))⟩
theorem HA (T:Txt K mg t):GF P w K mg base CX 1 "turn_of_deed" 1 KQ:=by
 refine⟨_,_,_,iR T.dS.F rY rfl fun bx A outer s H E G ds r hr hl hR=>?_,(T.g T.dS.a),T.dS.F.kp,T.dS.b⟩
 obtain⟨d,rfl,rfl⟩:=hR
 by_cases c0:d="left"
 . rw[show qc d=1 from if_pos c0]
   exact⟨_,.rt _,kM (bh (fQ (aa 0 rfl) bP) (fun h=>ao (aE af)) (fun h=>absurd c0 (of_decide_eq_false h)))⟩
 by_cases c1:d="right"
 . rw[show qc d=-1 by unfold qc;rw[if_neg c0,if_pos c1]]
   exact⟨_,.rt _,ak (bh (fQ (aa 0 rfl) bP) (fun h=>absurd (of_decide_eq_true h) c0) (fun h=>bC)) (kM (bh (fQ (aa 0 rfl) bP) (fun h=>ao (aE (gN af))) (fun h=>absurd c1 (of_decide_eq_false h))))⟩
 . rw[show qc d=0 by unfold qc;rw[if_neg c0,if_neg c1]]
   exact⟨_,.rt _,ak (bh (fQ (aa 0 rfl) bP) (fun h=>absurd (of_decide_eq_true h) c0) (fun h=>bC)) (ak (bh (fQ (aa 0 rfl) bP) (fun h=>absurd (of_decide_eq_true h) c1) (fun h=>bC)) (ao (aE af)))⟩
theorem KS (T:Txt K mg t)(six:Bool):MF P w K mg base CX 4 (t.pc six) "step" 2 (O5 t six):=by
 refine⟨Dn T six,_,_,_,iR T.my.F Af rfl fun bx A outer s H E G ds r hr hl hR=>?_,Dm T.fV T.ip,T.my.b⟩
 obtain⟨z,rfl,rfl⟩:=hR
 have h1:=xa (P:=P) (w:=w) (base:=base) T six
 exact⟨_,.rt _,ao (aE (cI (aa 0 rfl) h1 aA hr (ae (aS (ae af (ae af ai)) AA3) (ae (aa 1 rfl) ai)) ⟨(1,0),z,rfl,rfl⟩))⟩
theorem HB (T:Txt K mg t)(six:Bool):MF P w K mg base CX 5 (t.pc six) "after" 4 (KR t six):=by
 refine⟨Dn T six,_,_,_,iR T.kP.F pT rfl fun bx A outer s H E G ds r hr hl hR=>?_,Dm T.fz T.gS,T.kP.b⟩
 obtain⟨d,p,z,rfl,hd,rfl⟩:=hR
 have h1:=KS (P:=P) (w:=w) (base:=base) T six
 have h2:=Ay (P:=P) (w:=w) (base:=base) T
 have h3:=HA (P:=P) (w:=w) (base:=base) T
 have h4:=lJ (P:=P) (w:=w) (base:=base) T six
 by_cases c:d∈Fb
 . rw[show tR six d p z=(ad p (tn six (z % wy six).toNat (1,0)),(z+qc d) % wy six) by unfold tR;rw[if_pos c]]
   exact⟨_,.rt _,(ak (bh (CL (xs:=mJ) (aa 1 rfl) (jL (w:=.ref t.j0) T.yC rfl T.yD)) (fun h=>absurd h (by simp[hd])) (fun h=>bC))
 (ak (bh (Bs (xs:=Fb) (aa 1 rfl) (jL (w:=.ref t.cG) T.oH rfl T.oJ)) (fun h=>
     (ao (aB 2 pT.nd (b5 h2 aA hr (ae (aa 2 rfl) (ae (cI (aa 0 rfl) h1 aA hr (ae (aa 3 rfl) ai) ⟨_,rfl,rfl⟩) ai)) ⟨_,_,rfl,rfl⟩)))) (fun h=>absurd c (of_decide_eq_false h)))
 (ao (aE (aS (ae (aa 2 rfl) (ae (cI (aa 0 rfl) h4 aA hr (ae (aN (aa 3 rfl) (b5 h3 aA hr (ae (aa 1 rfl) ai) ⟨_,rfl,rfl⟩)) ai) ⟨_,rfl,rfl⟩) ai)) AA3)))))⟩
 . rw[show tR six d p z=(p,(z+qc d) % wy six) by unfold tR;rw[if_neg c]]
   exact⟨_,.rt _,(ak (bh (CL (xs:=mJ) (aa 1 rfl) (jL (w:=.ref t.j0) T.yC rfl T.yD)) (fun h=>absurd h (by simp[hd])) (fun h=>bC))
 (ak (bh (Bs (xs:=Fb) (aa 1 rfl) (jL (w:=.ref t.cG) T.oH rfl T.oJ)) (fun h=>absurd (of_decide_eq_true h) c) (fun h=>bC))
 (ao (aE (aS (ae (aa 2 rfl) (ae (cI (aa 0 rfl) h4 aA hr (ae (aN (aa 3 rfl) (b5 h3 aA hr (ae (aa 1 rfl) ai) ⟨_,rfl,rfl⟩)) ai) ⟨_,rfl,rfl⟩) ai)) AA3)))))⟩
noncomputable def sm (p:Int×Int):Prop:=p.1.natAbs < 2 ^ 1000/\p.2.natAbs < 2 ^ 1000
noncomputable def cr (p q:Int×Int):Int:=p.1 * q.2 - p.2 * q.1
noncomputable def KU:Rl:=fun ds r=>∃ p q,ds=[sp p,sp q]/\(sm p/\sm q)/\r=.ret (.int (cr p q))
theorem HC (T:Txt K mg t):GF P w K mg base CX 1 "cross" 2 KU:=by
 refine⟨_,_,_,iR T.nQ.F G7 rfl fun bx A outer s H E G ds r hr hl hR=>?_,(T.g T.nQ.a),T.nQ.F.kp,T.nQ.b⟩
 obtain⟨p,q,rfl,⟨hp,hq⟩,rfl⟩:=hR
 exact⟨_,.rt _,(ao (aE (gM (fP (ar (aa 0 rfl) af rfl) (ar (aa 1 rfl) af rfl) (Dp hp.1 hq.2 (by decide))) (fP (ar (aa 0 rfl) af rfl) (ar (aa 1 rfl) af rfl) (Dp hp.2 hq.1 (by decide))))))⟩
structure Tr where
 many:Int
 turn:Int
 shift:Int×Int
 bH:Int
 reach:List Int
 aJ:List Int
 f9:Int
noncomputable def ee.WI (t:ee)(six:Bool)(x:Tr):List (Str×FD):=[("drawer",.obj (t.pc six) []),("deed_count",.int x.many),("last_way",.int x.turn),("last_spot",.tup t.K [x.shift.1,x.shift.2]),("stroke_count",.int x.bH),("reaches",.lst x.reach),("touches",.lst x.aJ),("crosses",.int x.f9)]
noncomputable def ee.iI (t:ee)(six:Bool)(x:Tr):List (Str×Dt):=[("drawer",.gW (.obj (t.pc six) [])),("deed_count",.int x.many),("last_way",.int x.turn),("last_spot",.gW (.tup t.K [x.shift.1,x.shift.2])),("stroke_count",.int x.bH),("reaches",.gW (.lst x.reach)),("touches",.gW (.lst x.aJ)),("crosses",.int x.f9)]
noncomputable def ee.rN (t:ee)(six:Bool)(x:Tr):Dt:=.obj t.av (t.iI six x)
noncomputable def ee.rA (t:ee)(six:Bool)(x:Tr):Dt:=.gW (.obj t.av (t.WI six x))
theorem nA {X:Cx}{G:Gr}{dl:List Slot}{e:Expr}{t:ee}{six:Bool}{x:Tr}(h:EE X G dl e (t.rA six x)):EE X G dl e (t.rN six x):=Mg h
theorem BW {X:Cx}{G:Gr}{dl:List Slot}{e:Expr}{t:ee}{six:Bool}{x:Tr}(h:EO X G dl e (.obj t.av (t.iI six x))):EE X G dl e (t.rA six x):=G4 (fs:=t.WI six x) h
theorem kF {X:Cx}{G:Gr}{dl:List Slot}{e:Expr}{t:ee}{six:Bool}(h:EE X G dl e (.gW (.obj (t.pc six) []))):EE X G dl e (.obj (t.pc six) []):=Mg h
theorem vk {X:Cx}{G:Gr}{dl:List Slot}{e:Expr}{K':W.Frag}{p:Int×Int}(hK:K'=X.K)(h:EE X G dl e (.gW (.tup K' [p.1,p.2]))):EE X G dl e (sp p):=OH h hK
theorem BX {X:Cx}{G:Gr}{dl:List Slot}{e:Expr}{K':W.Frag}{p:Int×Int}(hK:K'=X.K)(h:EE X G dl e (sp p)):EE X G dl e (.gW (.tup K' [p.1,p.2])):=OI (ns:=[p.1,p.2]) h hK
noncomputable def wn (six:Bool):Nat:=if six then 6 else 4
theorem qd (six:Bool):(wn six:Int)=wy six:=by cases six <;> rfl
noncomputable def mP (six:Bool)(ns:List Int)(f:Int):List Int:=(List.range (wn six)).map fun(w:Nat)=>ns.getD (((w:Int) - f) % wy six).toNat 0
noncomputable def om (six:Bool)(x y:Tr)(w:Nat):Int:=if (mP six y.reach x.turn).getD w 0+iM six w x.shift<=x.reach.getD w 0 then x.reach.getD w 0 else (mP six y.reach x.turn).getD w 0+iM six w x.shift
noncomputable def o4 (six:Bool)(x y:Tr)(w:Nat):Int:=if (mP six y.reach x.turn).getD w 0+iM six w x.shift<=x.reach.getD w 0 then x.aJ.getD w 0 else (mP six y.aJ x.turn).getD w 0+x.many
noncomputable def jn (six:Bool)(x y:Tr):Tr where
 many:=x.many+y.many
 turn:=(x.turn+y.turn) % wy six
 shift:=ad x.shift (tn six (x.turn % wy six).toNat y.shift)
 bH:=x.bH+y.bH
 reach:=(List.range (wn six)).map (om six x y)
 aJ:=(List.range (wn six)).map (o4 six x y)
 f9:=x.f9+y.f9+cr x.shift (tn six (x.turn % wy six).toNat y.shift)
noncomputable def zc (six:Bool):Tr:=⟨0,0,(0,0),0,List.replicate (wn six) 0,List.replicate (wn six) 0,0⟩
noncomputable def one (six:Bool)(d:Str):Tr:=⟨1,(tR six d (0,0) 0).2,(tR six d (0,0) 0).1,if d="stroke" then 1 else 0,(List.range (wn six)).map fun(w:Nat)=>if iM six w (tR six d (0,0) 0).1 > 0 then iM six w (tR six d (0,0) 0).1 else 0,
 (List.range (wn six)).map fun(w:Nat)=>if (if iM six w (tR six d (0,0) 0).1 > 0 then iM six w (tR six d (0,0) 0).1 else 0) < 1 then (if iM six w (tR six d (0,0) 0).1 > 0 then iM six w (tR six d (0,0) 0).1 else 0) else 1,0⟩
noncomputable def b0 (six:Bool)(ds:List Str):Tr:=ds.foldl (fun x d=>jn six x (one six d)) (zc six)
structure WF (six:Bool)(x:Tr):Prop where
 rl:x.reach.length=wn six
 tl:x.aJ.length=wn six
 sm:x.shift.1.natAbs < 2 ^ 990/\x.shift.2.natAbs < 2 ^ 990
noncomputable def O6 (t:ee):Rl:=fun ds r=>∃ six x,ds=[.gW (.obj (t.pc six) []),.int x.many,.int x.turn,.gW (.tup t.K [x.shift.1,x.shift.2]),.int x.bH,.gW (.lst x.reach),.gW (.lst x.aJ),.int x.f9]/\r=.own (.obj t.av (t.iI six x))
noncomputable def Dq (t:ee)(f:Tr->Dt):Rl:=fun ds r=>∃ six x,ds=[t.rN six x]/\r=.ret (f x)
noncomputable def yJ (t:ee):Rl:=fun ds r=>∃ six x f,ds=[t.rN six x,.int f]/\r=.ret (sp (tn six (f % wy six).toNat x.shift))
noncomputable def SH (t:ee):Rl:=fun ds r=>∃ six x ns f,ds=[t.rN six x,.oy ns,.int f]/\ns.length=wn six/\r=.own (.lst ((mP six ns f).map .int))
noncomputable def yK (t:ee):Rl:=fun ds r=>∃ six x f,ds=[t.rN six x,.int f]/\WF six x/\r=.own (.lst ((mP six x.reach f).map .int))
noncomputable def yL (t:ee):Rl:=fun ds r=>∃ six x f,ds=[t.rN six x,.int f]/\WF six x/\r=.own (.lst ((mP six x.aJ f).map .int))
noncomputable def HD (t:ee):Rl:=fun ds r=>∃ six x y,ds=[t.rN six x,t.rN six y]/\(WF six x/\WF six y)/\r=.ret (t.rA six (jn six x y))
noncomputable def KW (t:ee):Rl:=fun ds r=>∃ six,ds=[.gW (.obj (t.pc six) [])]/\r=.ret (t.rA six (zc six))
noncomputable def EF (t:ee):Rl:=fun ds r=>∃ six d,ds=[.gW (.obj (t.pc six) []),.str d]/\d∈mJ/\r=.ret (t.rA six (one six d))
noncomputable def BY (t:ee):Rl:=fun ds r=>∃ (six:Bool) (xs:List Str),ds=[.gW (.obj (t.pc six) []),.lst (xs.map .str)]/\(∀ d∈xs,d∈mJ)/\xs.length<=1000/\r=.ret (t.rA six (b0 six xs))
theorem yM (T:Txt K mg t):NU P w K mg base CX 1 "Track" t.av 9 (O6 t):=by
 refine⟨_,_,_,TK T.j6.F vS rfl fun bx A outer s H E G z ds r hr hl hR=>?_,T.u7,(T.g T.ax.a),T.j6.b⟩
 obtain⟨six,x,rfl,rfl⟩:=hR
 exact⟨_,.nx rfl,ak (jv (aa 1 rfl) T.ax.cl T.c7) (ak (jv (aa 2 rfl) T.ax.cl T.bg) (ak (jv (aa 3 rfl) T.ax.cl T.bj) (ak (jv (aa 4 rfl) T.ax.cl T.aV)
   (ak (jv (aa 5 rfl) T.ax.cl T.bU) (ak (jv (aa 6 rfl) T.ax.cl T.bY) (ak (jv (aa 7 rfl) T.ax.cl T.dQ) (ao (jv (aa 8 rfl) T.ax.cl T.dR))))))))⟩
theorem yN (T:Txt K mg t):MF P w K mg base CX 1 t.av "many" 1 (Dq t fun x=>.int x.many):=by
 refine⟨T.ax.cl,_,_,_,iR T.j7.F vT rfl fun bx A outer s H E G ds r hr hl hR=>?_,T.fX,T.j7.b⟩
 obtain⟨six,x,rfl,rfl⟩:=hR
 exact⟨_,.rt _,ao (aE (aI (fs:=t.iI six x) (aa 0 rfl) T.ax.cl T.bg rfl))⟩
theorem yO (T:Txt K mg t):MF P w K mg base CX 1 t.av "turn" 1 (Dq t fun x=>.int x.turn):=by
 refine⟨T.ax.cl,_,_,_,iR T.j8.F vU rfl fun bx A outer s H E G ds r hr hl hR=>?_,T.fY,T.j8.b⟩
 obtain⟨six,x,rfl,rfl⟩:=hR
 exact⟨_,.rt _,ao (aE (aI (fs:=t.iI six x) (aa 0 rfl) T.ax.cl T.bj rfl))⟩
theorem o7 (T:Txt K mg t):MF P w K mg base CX 1 t.av "strokes" 1 (Dq t fun x=>.int x.bH):=by
 refine⟨T.ax.cl,_,_,_,iR T.gG.F qU rfl fun bx A outer s H E G ds r hr hl hR=>?_,T.eB,T.gG.b⟩
 obtain⟨six,x,rfl,rfl⟩:=hR
 exact⟨_,.rt _,ao (aE (aI (fs:=t.iI six x) (aa 0 rfl) T.ax.cl T.bU rfl))⟩
theorem yP (T:Txt K mg t):MF P w K mg base CX 1 t.av "area" 1 (Dq t fun x=>.int x.f9):=by
 refine⟨T.ax.cl,_,_,_,iR T.j9.F vY rfl fun bx A outer s H E G ds r hr hl hR=>?_,T.fZ,T.j9.b⟩
 obtain⟨six,x,rfl,rfl⟩:=hR
 exact⟨_,.rt _,ao (aE (aI (fs:=t.iI six x) (aa 0 rfl) T.ax.cl T.dR rfl))⟩
theorem Az (T:Txt K mg t):iL P w K mg base CX 4 t.cb t.i5 ["self","first"] (CD K 2 (yJ t)):=by
 refine TJ T.v8 uR rfl fun bx A outer s H E G ds r hr hl hR=>?_
 obtain⟨six,x,f,rfl,rfl⟩:=hR
 have h1:=xa (P:=P) (w:=w) (base:=base) T six
 exact⟨_,.rt _,ao (aE (cI (kF (aI (fs:=t.iI six x) (aa 0 rfl) T.ax.cl T.c7 rfl)) h1 aA hr (ae (vk T.hK (aI (fs:=t.iI six x) (aa 0 rfl) T.ax.cl T.aV rfl)) (ae (aa 1 rfl) ai)) ⟨_,_,rfl,rfl⟩))⟩
theorem rep0 {K:W.Frag}:∀ H,bc K H [.int 0] [.int 0]:=fun _=>.cons (.int 0) .nil
theorem HE (T:Txt K mg t):E3 P w K mg base CX 4 t.av "shift" 2 [] (yJ t):=⟨T.ax.cl,_,_,_,[],[],Az T,T.df,T.v9,.nil,fun _=>.nil⟩
theorem xb (T:Txt K mg t):E3 P w K mg base CX 4 t.av "shift" 2 [.int 0] (yJ t):=⟨T.ax.cl,_,_,_,_,[.int 0],Az T,T.df,T.vb,.cons ⟨_,rfl⟩ .nil,rep0⟩
noncomputable abbrev BZ:Scope:=Qa ((aG eP).getD 0 (.Pass ⟨0,0,0,0⟩))
theorem B0:uA BZ (ah eP) mF ["way","self","numbers","first"] [0,1,2] "way"=true:=by decide +kernel
theorem KY {ns:List Int}{k:Int}(h0:0<=k)(h1:k < ns.length):lj (ns.map Dt.int) k=some (.int (ns.getD k.toNat 0)):=by
 obtain⟨n,rfl⟩:=Int.eq_ofNat_of_zero_le h0
 refine jJ ?_
 have h:n < ns.length:=by omega
 rw[List.getElem?_map,List.getElem?_eq_getElem h,Int.toNat_natCast,List.getD_eq_getElem?_getD,List.getElem?_eq_getElem h];rfl
theorem vm {ns:List Int}{k:Int}(h0:0<=k)(h1:k < ns.length):lj ns k=some (ns.getD k.toNat 0):=by
 obtain⟨n,rfl⟩:=Int.eq_ofNat_of_zero_le h0
 refine jJ ?_
 have h:n < ns.length:=by omega
 rw[List.getElem?_eq_getElem h,Int.toNat_natCast,List.getD_eq_getElem?_getD,List.getElem?_eq_getElem h];rfl
theorem nZ {f:Nat->Int}{n k:Nat}(h:k < n):(((List.range n).map f).map Dt.int).getD k .cF=.int (f k):=by
 rw[List.getD_eq_getElem?_getD,List.getElem?_map,List.getElem?_map,List.getElem?_range h];rfl
theorem vn (T:Txt K mg t):MF P w K mg base CX 3 t.av "by_ways" 3 (SH t):=by
 refine⟨T.ax.cl,_,_,_,iR T.gH.F qV rfl fun bx A outer s H E G ds r hr hl hR=>?_,T.eC,T.gH.b⟩
 obtain⟨six,x,ns,f,rfl,hn,rfl⟩:=hR
 have h1:=lJ (P:=P) (w:=w) (base:=base) T six
 have hw:=qd six
 have Yv:wn six<=6:=by cases six <;> decide
 have P0:ns.length=wn six:=hn
 refine⟨_,.ro _,ao (lY (RA (N:=["way","self","numbers","first"]) (ix:=[0,1,2]) rfl (Br B0) (qt rfl T.iC (ae (xH T.iz (aa 1 rfl)) ai)) (uy ?_) (fun k hk C fp s' H' G'=>?_) ?_ ?_))⟩
 . omega
 . rw[Int.toNat_natCast,P0] at hk
   have e:((mP six ns f).map Dt.int).getD k .cF=.int (ns.getD (((k:Int) - f) % wy six).toNat 0):=nZ hk
   rw[e]
   have NG:=Int.emod_nonneg ((k:Int) - f) (Int.ne_of_gt (eK six))
   have XI:=Int.emod_lt_of_pos ((k:Int) - f) (eK six)
   exact qD (aa 2 rfl) (cI (kF (aI (fs:=t.iI six x) (aa 1 rfl) T.ax.cl T.c7 rfl)) h1 aA hr (ae (gM (aa 0 rfl) (aa 3 rfl)) ai) ⟨_,rfl,rfl⟩) (vm NG (by omega))
 . rw[List.length_map,Int.toNat_natCast,P0]
   unfold mP
   simp
 . rw[Int.toNat_natCast]
   exact Nat.le_of_lt (qy (by omega))
theorem AA (T:Txt K mg t):iL P w K mg base CX 4 t.cf t.i6 ["self","first"] (CD K 2 (yK t)):=by
 refine TJ T.wa uS rfl fun bx A outer s H E G ds r hr hl hR=>?_
 obtain⟨six,x,f,rfl,hw,rfl⟩:=hR
 have h1:=RB (vn (P:=P) (w:=w) (base:=base) T)
 exact⟨_,.ro _,ao (lY (CJ (fs:=t.iI six x) (aa 0 rfl) h1 aA hr (ae (oT (aI (fs:=t.iI six x) (aa 0 rfl) T.ax.cl T.bY rfl)) (ae (aa 1 rfl) ai)) ⟨six,x,_,_,rfl,hw.rl,rfl⟩))⟩
theorem AB (T:Txt K mg t):iL P w K mg base CX 4 t.cg t.i7 ["self","first"] (CD K 2 (yL t)):=by
 refine TJ T.wc uT rfl fun bx A outer s H E G ds r hr hl hR=>?_
 obtain⟨six,x,f,rfl,hw,rfl⟩:=hR
 have h1:=RB (vn (P:=P) (w:=w) (base:=base) T)
 exact⟨_,.ro _,ao (lY (CJ (fs:=t.iI six x) (aa 0 rfl) h1 aA hr (ae (oT (aI (fs:=t.iI six x) (aa 0 rfl) T.ax.cl T.dQ rfl)) (ae (aa 1 rfl) ai)) ⟨six,x,_,_,rfl,hw.tl,rfl⟩))⟩
theorem HF (T:Txt K mg t):E3 P w K mg base CX 4 t.av "reach" 2 [] (yK t):=⟨T.ax.cl,_,_,_,[],[],AA T,T.dg,T.wb,.nil,fun _=>.nil⟩
theorem HG (T:Txt K mg t):E3 P w K mg base CX 4 t.av "touch" 2 [] (yL t):=⟨T.ax.cl,_,_,_,[],[],AB T,T.dh,T.we,.nil,fun _=>.nil⟩
theorem xc (T:Txt K mg t):E3 P w K mg base CX 4 t.av "reach" 2 [.int 0] (yK t):=⟨T.ax.cl,_,_,_,_,[.int 0],AA T,T.dg,T.vc,.cons ⟨_,rfl⟩ .nil,rep0⟩
theorem xf (T:Txt K mg t):E3 P w K mg base CX 4 t.av "touch" 2 [.int 0] (yL t):=⟨T.ax.cl,_,_,_,_,[.int 0],AB T,T.dh,T.vd,.cons ⟨_,rfl⟩ .nil,rep0⟩
theorem AD (T:Txt K mg t):GF P w K mg base CX 3 "still" 1 (KW t):=by
 refine⟨_,_,_,iR T.nS.F G9 rfl fun bx A outer s H E G ds r hr hl hR=>?_,(T.g T.nS.a),T.nS.F.kp,T.nS.b⟩
 obtain⟨six,rfl,rfl⟩:=hR
 have h1:=tQ (P:=P) (w:=w) (base:=base) T six
 have h2:=yM (P:=P) (w:=w) (base:=base) T
 have e:∀ {X:Cx} {G:Gr} {dl:List Slot} {e:Expr},EO X G dl e (.lst (List.replicate (wy six).toNat [Dt.int 0]).flatten)->EE X G dl e (.gW (.lst (List.replicate (wn six) (0:Int)))):=fun h=>by
   refine OJ (zM h ?_)
   cases six <;> rfl
 have hb:-(2 ^ 63)<=wy six/\wy six < 2 ^ 63/\[Dt.int 0].length * (wy six).toNat<=sizeLine:=by cases six <;> decide
 exact⟨_,.rt _,ao (aE (BW (sI h2 aA hr (ae (aa 0 rfl) (ae af (ae af (ae (BX (p:=(0,0)) T.hK (aS (ae af (ae af ai)) AA3)) (ae af
   (ae (e (xQ (xF (ae af ai) AA3) (bD (kF (aa 0 rfl)) h1 aA hr ⟨rfl,rfl⟩) hb.1 hb.2.1 hb.2.2)) (ae (e (xQ (xF (ae af ai) AA3) (bD (kF (aa 0 rfl)) h1 aA hr ⟨rfl,rfl⟩) hb.1 hb.2.1 hb.2.2)) (ae af ai)))))))) ⟨six,zc six,rfl,rfl⟩)))⟩
noncomputable abbrev O7:Scope:=Qa ((aG cv).getD 2 (.Pass ⟨0,0,0,0⟩))
noncomputable abbrev O8:Scope:=Qa ((aG cv).getD 3 (.Pass ⟨0,0,0,0⟩))
theorem O9:uA O7 (ah cv) jC ["way","pen","spot"] [0,3] "way"=true:=by decide +kernel
theorem Pa:uA O8 (ah cv) jC ["reach"] [] "reach"=true:=by decide +kernel
noncomputable def mz (six:Bool)(d:Str)(w:Nat):Int:=if iM six w (tR six d (0,0) 0).1 > 0 then iM six w (tR six d (0,0) 0).1 else 0
theorem B1 (T:Txt K mg t):GF P w K mg base CX 6 "track_of_deed" 2 (EF t):=by
 refine⟨_,_,_,iR T.c8.F lE rfl fun bx A outer s H E G ds r hr hl hR=>?_,(T.g T.c8.a),T.c8.F.kp,T.c8.b⟩
 obtain⟨six,d,rfl,hd,rfl⟩:=hR
 have h1:=tQ (P:=P) (w:=w) (base:=base) T six
 have h2:=yM (P:=P) (w:=w) (base:=base) T
 have h3:=HB (P:=P) (w:=w) (base:=base) T six
 have h4:=Ax (P:=P) (w:=w) (base:=base) T six
 have hw:=qd six
 have Yv:wn six<=6:=by cases six <;> decide
 have SI:(wy six).toNat=wn six:=by omega
 have nd:=lE.nd
 refine⟨_,.rt _,ak (aB 2 nd (cI (kF (aa 0 rfl)) h3 aA hr (ae (aa 1 rfl) (ae (aS (ae af (ae af ai)) AA3) (ae af ai))) ⟨d,(0,0),0,rfl,hd,rfl⟩)) (ak (aB 3 nd (ar (aa 2 rfl) af rfl))
   (ak (LX (ys:=((List.range (wn six)).map (mz six d)).map .int) 4 (N:=["way","pen","spot"]) (ix:=[0,3]) rfl nd (Br O9) (qt rfl T.iC (ae (bD (kF (aa 0 rfl)) h1 aA hr ⟨rfl,rfl⟩) ai)) (uy ?_) (fun k hk C fp s' H' G'=>?_) ?_ ?_)
   (sS (ns:=(List.range (wn six)).map (mz six d)) 4 (ak (LX (ys:=((List.range (wn six)).map (fun k=>if mz six d k < 1 then mz six d k else 1)).map .int) 5 (N:=["reach"]) (ix:=[]) rfl nd (Br Pa) (jI (oT (aa 4 rfl))) Kg (fun k hk C fp s' H' G'=>?_) ?_ ?_)
   (sS (ns:=(List.range (wn six)).map fun k=>if mz six d k < 1 then mz six d k else 1) 5 (ao (aE (BW (sI h2 aA hr (ae (aa 0 rfl) (ae af (ae (ar (aa 2 rfl) af rfl) (ae (BX T.hK (aa 3 rfl)) (ae (bu (d:=.int (if d="stroke" then 1 else 0)) ?_ rfl) (ae (aa 4 rfl) (ae (aa 5 rfl) (ae af ai)))))))) ⟨six,one six d,rfl,rfl⟩)))))))))⟩
 . omega
 . rw[SI] at hk
   rw[nZ hk]
   exact F5 T.De rfl (ae af (ae (cI (kF (aa 1 rfl)) h4 aA hr (ae (aa 0 rfl) (ae (aa 2 rfl) ai)) ⟨_,_,rfl,⟨by omega,by omega⟩,rfl⟩) ai))
 . rw[List.length_map,List.length_map,List.length_range,SI]
 . rw[SI];exact Nat.le_of_lt (qy (by omega))
 . rw[List.length_map,List.length_range] at hk
   rw[show(((List.range (wn six)).map (fun k=>if mz six d k < 1 then mz six d k else 1)).map Dt.int).getD k .cF=.int (if mz six d k < 1 then mz six d k else 1) from nZ hk]
   have e:((List.map (mz six d) (List.range (wn six))).map Dt.int).getD k .cF=.int (mz six d k):=nZ hk
   refine NR (i:=1) (j:=mz six d k) T.Hg rfl (ae af (ae ?_ ai))
   rw[<- e]
   exact aa 0 rfl
 . simp
 . rw[List.length_map,List.length_range];exact Nat.le_of_lt (qy (by omega))
 . exact NC (fQ (aa 1 rfl) bP) (fun h=>bu af (by rw[if_pos (of_decide_eq_true h)])) (fun h=>bu af (by rw[if_neg (of_decide_eq_false h)]))
theorem n8 {f g:Nat->Int}{n k:Nat}(h:k < n):((List.range n).map fun w=>if w < k then f w else g w).set k (f k)=(List.range n).map fun w=>if w < k+1 then f w else g w:=by
 refine List.ext_getElem? fun i=>?_
 by_cases hi:i < n
 . by_cases e:k=i
   . subst e
     rw[List.getElem?_set_self (by simp;exact h),List.getElem?_map,List.getElem?_range h]
     simp
   . rw[List.getElem?_set_ne e,List.getElem?_map,List.getElem?_map,List.getElem?_range hi]
     have:(i < k+1) ↔ (i < k):=by omega
     simp[this]
 . rw[List.getElem?_eq_none (by simp;omega),List.getElem?_eq_none (by simp;omega)]
theorem Dr {f g:Nat->Int}{n:Nat}:((List.range n).map fun w=>if w < 0 then f w else g w)=(List.range n).map g:=by simp
theorem Ds {f g:Nat->Int}{n:Nat}:((List.range n).map fun w=>if w < n then f w else g w)=(List.range n).map f:=by
 refine List.map_congr_left fun i hi=>?_
 rw[if_pos (List.mem_range.mp hi)]
theorem lK {l:List Int}{k:Nat}{z:Int}:(l.map Dt.int).set k (.int z)=(l.set k z).map Dt.int:=by rw[List.map_set]
theorem Du (six:Bool)(ns:List Int)(f:Int):(List.range (wn six)).map (fun w=>(mP six ns f).getD w 0)=mP six ns f:=by
 refine List.ext_getElem? fun i=>?_
 by_cases hi:i < wn six
 . rw[List.getElem?_map,List.getElem?_range hi]
   have hl:i < (mP six ns f).length:=by unfold mP;simpa using hi
   rw[List.getElem?_eq_getElem hl]
   simp[List.getD_eq_getElem?_getD,hl]
 . rw[List.getElem?_eq_none (by simp;omega),List.getElem?_eq_none (by unfold mP;simp;omega)]
theorem yQ {n k:Nat}(h:k < n):zy n (k:Int)=some k:=by
 unfold zy
 simp[h]
theorem Mi {six:Bool}{b:Int}{p:Int×Int}(h:p.1.natAbs < 2 ^ 990/\p.2.natAbs < 2 ^ 990):sm (tn six (b % wy six).toNat p):=by
 obtain⟨x,y⟩:=p
 obtain⟨h1,h2⟩:=h
 simp only at h1 h2
 unfold sm
 cases six with
 | false=>
   have e:wy false=4:=rfl
   rw[e]
   have h:b % 4=0\/b % 4=1\/b % 4=2\/b % 4=3:=by omega
   rcases h with h | h | h | h <;> rw[h] <;> simp[tn,Pf.tl] <;> omega
 | true=>
   have e:wy true=6:=rfl
   rw[e]
   have h:b % 6=0\/b % 6=1\/b % 6=2\/b % 6=3\/b % 6=4\/b % 6=5:=by omega
   rcases h with h | h | h | h | h | h <;> rw[h] <;> simp[tn,Pf.tl] <;> omega
theorem xh (T:Txt K mg t):MF P w K mg base CX 5 t.av "joined" 2 (HD t):=by
 refine⟨T.ax.cl,_,_,_,iR T.ir.F mG rfl fun bx A outer s H E G ds r hr hl hR=>?_,T.ff,T.ir.b⟩
 obtain⟨six,x,y,rfl,⟨wx,Mj⟩,rfl⟩:=hR
 have qe:=HE (P:=P) (w:=w) (base:=base) T
 have qf:=HF (P:=P) (w:=w) (base:=base) T
 have qg:=HG (P:=P) (w:=w) (base:=base) T
 have Pb:=tQ (P:=P) (w:=w) (base:=base) T six
 have Dv:=Ax (P:=P) (w:=w) (base:=base) T six
 have qb:=lJ (P:=P) (w:=w) (base:=base) T six
 have vo:=yN (P:=P) (w:=w) (base:=base) T
 have vp:=yO (P:=P) (w:=w) (base:=base) T
 have lL:=o7 (P:=P) (w:=w) (base:=base) T
 have vq:=yP (P:=P) (w:=w) (base:=base) T
 have KZ:=Ay (P:=P) (w:=w) (base:=base) T
 have K0:=HC (P:=P) (w:=w) (base:=base) T
 have Pd:=yM (P:=P) (w:=w) (base:=base) T
 have hw:=qd six
 have SI:(wy six).toNat=wn six:=by omega
 have Yv:wn six<=6:=by cases six <;> decide
 have nd:=mG.nd
 let S:Nat->List Slot:=fun k=>[.val (t.rN six x),.val (t.rN six y),.val (.gW (.obj (t.pc six) [])),.val (sp (tn six (x.turn % wy six).toNat y.shift)),
   .own (.lst (((List.range (wn six)).map fun w=>if w < k then om six x y w else (mP six y.reach x.turn).getD w 0).map .int)),
   .own (.lst (((List.range (wn six)).map fun w=>if w < k then o4 six x y w else (mP six y.aJ x.turn).getD w 0).map .int)),.bV]
 have e0:S 0=[.val (t.rN six x),.val (t.rN six y),.val (.gW (.obj (t.pc six) [])),.val (sp (tn six (x.turn % wy six).toNat y.shift)),.own (.lst ((mP six y.reach x.turn).map .int)),.own (.lst ((mP six y.aJ x.turn).map .int)),.bV]:=by
   show [_,_,_,_,Slot.own (.lst (((List.range (wn six)).map fun w=>if w < 0 then _ else _).map .int)),Slot.own (.lst (((List.range (wn six)).map fun w=>if w < 0 then _ else _).map .int)),_]=_
   rw[Dr,Dr,Du,Du]
 have en:S (wn six)=[.val (t.rN six x),.val (t.rN six y),.val (.gW (.obj (t.pc six) [])),.val (sp (tn six (x.turn % wy six).toNat y.shift)),.own (.lst ((jn six x y).reach.map .int)),.own (.lst ((jn six x y).aJ.map .int)),.bV]:=by
   show [_,_,_,_,Slot.own (.lst (((List.range (wn six)).map fun w=>if w < wn six then _ else _).map .int)),Slot.own (.lst (((List.range (wn six)).map fun w=>if w < wn six then _ else _).map .int)),_]=_
   rw[Ds,Ds];rfl
 refine⟨_,.rt _,ak (aB 2 nd (aI (fs:=t.iI six x) (aa 0 rfl) T.ax.cl T.c7 rfl))
   (ak (aB 3 nd (Gb (fs:=t.iI six y) (aa 1 rfl) qe aA hr (ae (aI (fs:=t.iI six x) (aa 0 rfl) T.ax.cl T.bj rfl) ai) ⟨six,y,_,rfl,rfl⟩))
   (ak (lX 4 nd (CJ (fs:=t.iI six y) (aa 1 rfl) qf aA hr (ae (aI (fs:=t.iI six x) (aa 0 rfl) T.ax.cl T.bj rfl) ai) ⟨six,y,_,rfl,Mj,rfl⟩))
   (ak (lX 5 nd (CJ (fs:=t.iI six y) (aa 1 rfl) qg aA hr (ae (aI (fs:=t.iI six x) (aa 0 rfl) T.ax.cl T.bj rfl) ai) ⟨six,y,_,rfl,Mj,rfl⟩))
   (ak (iQ (m:=wn six) 6 S nd rfl PassesOwn.leaving T.iC (ae (bD (kF (aa 2 rfl)) Pb aA hr ⟨rfl,rfl⟩) ai) ⟨by omega,by omega⟩ (by rw[e0];exact Le.of ⟨rfl,rfl,rfl,rfl,rfl,rfl,trivial⟩) (by omega) (fun k hk=>?_) (by rw[SI];exact .all rfl))
   ?_))))⟩
 . have Xo:k < ((List.range (wn six)).map fun w=>if w < k then om six x y w else (mP six y.reach x.turn).getD w 0).length:=by simpa using hk
   have aa2:k < ((List.range (wn six)).map fun w=>if w < k then o4 six x y w else (mP six y.aJ x.turn).getD w 0).length:=by simpa using hk
   have ga:∀ (f g:Nat->Int) (z:Int),lj ((((List.range (wn six)).map fun w=>if w < k then f w else g w)).map Dt.int) (k:Int)=some (.int (g k)):=fun f g z=>by
     refine jJ ?_
     rw[List.getElem?_map,List.getElem?_map,List.getElem?_range hk]
     simp
   have gs:∀ (l:List Int) (z:Int),l.length=wn six->lj ((l.map Dt.int).set k (.int z)) (k:Int)=some (.int z):=fun l z hl=>by
     refine jJ ?_
     rw[List.getElem?_set_self (by simp;omega)]
   have ix:∀ (l:List Dt),l.length=wn six->zy l.length (k:Int)=some k:=fun l hl=>yQ (by omega)
   have xr:lj x.reach (k:Int)=some (x.reach.getD k 0):=by
     have:=vm (ns:=x.reach) (k:=k) (by omega) (by rw[wx.rl];omega)
     simpa using this
   have xt:lj x.aJ (k:Int)=some (x.aJ.getD k 0):=by
     have:=vm (ns:=x.aJ) (k:=k) (by omega) (by rw[wx.tl];omega)
     simpa using this
   have lA:(((List.range (wn six)).map fun w=>if w < k then om six x y w else (mP six y.reach x.turn).getD w 0).map Dt.int).length=wn six:=by simp
   have lB:(((List.range (wn six)).map fun w=>if w < k then o4 six x y w else (mP six y.aJ x.turn).getD w 0).map Dt.int).length=wn six:=by simp
   have Yw:((List.range (wn six)).map fun w=>if w < k then om six x y w else (mP six y.reach x.turn).getD w 0).length=wn six:=by simp
   have iA:=ix _ lA
   have iB:=ix _ lB
   have iA':∀ z,zy (List.length (List.set (((List.range (wn six)).map fun w=>if w < k then om six x y w else (mP six y.reach x.turn).getD w 0).map Dt.int) k z)) (k:Int)=some k:=fun z=>ix _ (by rw[List.length_set];exact lA)
   have iB':∀ z,zy (List.length (List.set (((List.range (wn six)).map fun w=>if w < k then o4 six x y w else (mP six y.aJ x.turn).getD w 0).map Dt.int) k z)) (k:Int)=some k:=fun z=>ix _ (by rw[List.length_set];exact lB)
   by_cases c:(mP six y.reach x.turn).getD k 0+iM six k x.shift<=x.reach.getD k 0
   . have eR:om six x y k=x.reach.getD k 0:=if_pos c
     have eT:o4 six x y k=x.aJ.getD k 0:=if_pos c
     refine .nx (ak (jh (m:=k) 4 (aN (oQ 4 (aa 6 rfl) (ga _ _ 0)) (cI (kF (aa 2 rfl)) Dv aA hr (ae (aa 6 rfl) (ae (vk T.hK (aI (fs:=t.iI six x) (aa 0 rfl) T.ax.cl T.aV rfl)) ai)) ⟨_,_,rfl,⟨by omega,by omega⟩,rfl⟩)) (aa 6 rfl) iA)
       (ak (jh (m:=k) 5 (aN (oQ 5 (aa 6 rfl) (ga _ _ 0)) (aI (fs:=t.iI six x) (aa 0 rfl) T.ax.cl T.bg rfl)) (aa 6 rfl) iB)
       (ao (bh (FZ (qD (oT (aI (fs:=t.iI six x) (aa 0 rfl) T.ax.cl T.bY rfl)) (aa 6 rfl) xr) (oQ 4 (aa 6 rfl) (gs _ _ Yw)))
         (fun h=>ak (jh (m:=k) 4 (qD (oT (aI (fs:=t.iI six x) (aa 0 rfl) T.ax.cl T.bY rfl)) (aa 6 rfl) xr) (aa 6 rfl) (iA' _))
           (ao (jh (m:=k) 5 (qD (oT (aI (fs:=t.iI six x) (aa 0 rfl) T.ax.cl T.dQ rfl)) (aa 6 rfl) xt) (aa 6 rfl) (iB' _))))
         (fun h=>absurd c (of_decide_eq_false h)))))) (Le.of ⟨rfl,rfl,rfl,rfl,?_,?_,trivial⟩)
     . rw[List.set_set,lK,<- eR,n8 hk]
     . rw[List.set_set,lK,<- eT,n8 hk]
   . have eR:om six x y k=(mP six y.reach x.turn).getD k 0+iM six k x.shift:=if_neg c
     have eT:o4 six x y k=(mP six y.aJ x.turn).getD k 0+x.many:=if_neg c
     refine .nx (ak (jh (m:=k) 4 (aN (oQ 4 (aa 6 rfl) (ga _ _ 0)) (cI (kF (aa 2 rfl)) Dv aA hr (ae (aa 6 rfl) (ae (vk T.hK (aI (fs:=t.iI six x) (aa 0 rfl) T.ax.cl T.aV rfl)) ai)) ⟨_,_,rfl,⟨by omega,by omega⟩,rfl⟩)) (aa 6 rfl) iA)
       (ak (jh (m:=k) 5 (aN (oQ 5 (aa 6 rfl) (ga _ _ 0)) (aI (fs:=t.iI six x) (aa 0 rfl) T.ax.cl T.bg rfl)) (aa 6 rfl) iB)
       (ao (bh (FZ (qD (oT (aI (fs:=t.iI six x) (aa 0 rfl) T.ax.cl T.bY rfl)) (aa 6 rfl) xr) (oQ 4 (aa 6 rfl) (gs _ _ Yw)))
         (fun h=>absurd (of_decide_eq_true h) c)
         (fun h=>bC))))) (Le.of ⟨rfl,rfl,rfl,rfl,?_,?_,trivial⟩)
     . rw[lK,<- eR,n8 hk]
     . rw[lK,<- eT,n8 hk]
 . rw[en]
   exact sS (ns:=(jn six x y).reach) 4 (sS (ns:=(jn six x y).aJ) 5 (ao (aE (BW (sI Pd aA hr (ae (aa 2 rfl) (ae (aN (aI (fs:=t.iI six x) (aa 0 rfl) T.ax.cl T.bg rfl) (bD (fs:=t.iI six y) (aa 1 rfl) vo aA hr ⟨six,y,rfl,rfl⟩))
     (ae (cI (kF (aa 2 rfl)) qb aA hr (ae (aN (aI (fs:=t.iI six x) (aa 0 rfl) T.ax.cl T.bj rfl) (bD (fs:=t.iI six y) (aa 1 rfl) vp aA hr ⟨six,y,rfl,rfl⟩)) ai) ⟨_,rfl,rfl⟩)
     (ae (BX T.hK (b5 KZ aA hr (ae (vk T.hK (aI (fs:=t.iI six x) (aa 0 rfl) T.ax.cl T.aV rfl)) (ae (aa 3 rfl) ai)) ⟨_,_,rfl,rfl⟩))
     (ae (aN (aI (fs:=t.iI six x) (aa 0 rfl) T.ax.cl T.bU rfl) (bD (fs:=t.iI six y) (aa 1 rfl) lL aA hr ⟨six,y,rfl,rfl⟩))
     (ae (aa 4 rfl) (ae (aa 5 rfl) (ae (aN (aN (aI (fs:=t.iI six x) (aa 0 rfl) T.ax.cl T.dR rfl) (bD (fs:=t.iI six y) (aa 1 rfl) vq aA hr ⟨six,y,rfl,rfl⟩))
       (b5 K0 aA hr (ae (vk T.hK (aI (fs:=t.iI six x) (aa 0 rfl) T.ax.cl T.aV rfl)) (ae (aa 3 rfl) ai)) ⟨_,_,rfl,⟨⟨by have:=wx.sm;omega,by have:=wx.sm;omega⟩,Mi Mj.sm⟩,rfl⟩)) ai)))))))) ⟨six,jn six x y,rfl,rfl⟩)))))
theorem kG (six:Bool)(xs:List Str)(d:Str):b0 six (xs ++ [d])=jn six (b0 six xs) (one six d):=by
 unfold b0
 rw[List.foldl_append];rfl
theorem tS (six:Bool):∀ n:Nat,tn six n (0,0)=(0,0)
 | 0=>rfl
 | n+1=>by rw[tn,tS six n];cases six <;> rfl
theorem AE (six:Bool)(d:Str):(tR six d (0,0) 0).1=if d∈Fb then (1,0) else (0,0):=by
 have e:tn six ((0:Int) % wy six).toNat (1,0)=(1,0):=by cases six <;> rfl
 unfold tR
 show(if d∈Fb then ad (0,0) (tn six ((0:Int) % wy six).toNat (1,0)) else (0,0))=_
 rw[e];rfl
theorem K1 (six:Bool)(b:Int):(tn six (b % wy six).toNat (1,0)).1.natAbs<=1/\(tn six (b % wy six).toNat (1,0)).2.natAbs<=1:=by
 cases six with
 | false=>
   have e:wy false=4:=rfl
   rw[e]
   have h:b % 4=0\/b % 4=1\/b % 4=2\/b % 4=3:=by omega
   rcases h with h | h | h | h <;> rw[h] <;> decide
 | true=>
   have e:wy true=6:=rfl
   rw[e]
   have h:b % 6=0\/b % 6=1\/b % 6=2\/b % 6=3\/b % 6=4\/b % 6=5:=by omega
   rcases h with h | h | h | h | h | h <;> rw[h] <;> decide
theorem K2 (six:Bool)(x:Tr)(d:Str):(jn six x (one six d)).shift.1.natAbs<=x.shift.1.natAbs+1/\(jn six x (one six d)).shift.2.natAbs<=x.shift.2.natAbs+1:=by
 show(x.shift.1+(tn six (x.turn % wy six).toNat (tR six d (0,0) 0).1).1).natAbs<=_/\(x.shift.2+(tn six (x.turn % wy six).toNat (tR six d (0,0) 0).1).2).natAbs<=_
 rw[AE]
 by_cases c:d∈Fb
 . rw[if_pos c]
   have:=K1 six x.turn
   omega
 . rw[if_neg c,tS]
   simp
theorem Pe (six:Bool)(d:Str):WF six (one six d):=⟨by unfold one;simp,by unfold one;simp,by
 show(tR six d (0,0) 0).1.1.natAbs < _/\(tR six d (0,0) 0).1.2.natAbs < _
 rw[AE]
 by_cases c:d∈Fb
 . rw[if_pos c];decide
 . rw[if_neg c];decide⟩
theorem Pg (six:Bool):WF six (zc six):=⟨by unfold zc;simp,by unfold zc;simp,by show(0:Int).natAbs < _/\(0:Int).natAbs < _;decide⟩
theorem HH (six:Bool):∀ (n:Nat) (xs:List Str),xs.length=n->(b0 six xs).shift.1.natAbs<=n/\(b0 six xs).shift.2.natAbs<=n/\(b0 six xs).reach.length=wn six/\(b0 six xs).aJ.length=wn six:=by
 intro n
 induction n with
 | zero=>
   intro xs h
   have e:xs=[]:=List.eq_nil_of_length_eq_zero h
   subst e
   have w:=Pg six
   exact⟨Nat.le_refl _,Nat.le_refl _,w.rl,w.tl⟩
 | succ n ih=>
   intro xs h
   have A4:xs≠[]:=fun e=>by rw[e] at h;cases h
   have e:=List.dropLast_concat_getLast A4
   have hl:xs.dropLast.length=n:=by rw[List.length_dropLast];omega
   obtain⟨h1,h2,h3,h4⟩:=ih _ hl
   rw[<- e,kG]
   obtain⟨q1,q2⟩:=K2 six (b0 six xs.dropLast) (xs.getLast A4)
   refine⟨by omega,by omega,?_,?_⟩
   . unfold jn;simp
   . unfold jn;simp
theorem qh (six:Bool){xs:List Str}(h:xs.length < 2 ^ 990):WF six (b0 six xs):=by
 obtain⟨h1,h2,h3,h4⟩:=HH six _ xs rfl
 exact⟨h3,h4,Nat.lt_of_le_of_lt h1 h,Nat.lt_of_le_of_lt h2 h⟩
theorem Ph (six:Bool){xs:List Str}(h:xs.length<=100000):WF six (b0 six xs):=qh six (Nat.lt_of_le_of_lt h (Nat.lt_of_lt_of_le (show 100000 < 2 ^ 20 by decide) (Nat.pow_le_pow_right (by decide) (by decide))))
theorem AF (T:Txt K mg t):GF P w K mg base CX 7 "track_of" 2 (BY t):=by
 refine⟨_,_,_,iR T.iY.F rL rfl fun bx A outer s H E G ds r hr hl hR=>?_,(T.g T.iY.a),T.iY.F.kp,T.iY.b⟩
 obtain⟨six,xs,rfl,hd,hn,rfl⟩:=hR
 have yR:=AD (P:=P) (w:=w) (base:=base) T
 have SJ:=B1 (P:=P) (w:=w) (base:=base) T
 have vt:=xh (P:=P) (w:=w) (base:=base) T
 have nd:=rL.nd
 let S:Nat->List Slot:=fun k=>[.val (.gW (.obj (t.pc six) [])),.val (.lst (xs.map .str)),.val (t.rA six (b0 six (xs.take k))),.bV]
 have en:S (xs.map Dt.str).length=[.val (.gW (.obj (t.pc six) [])),.val (.lst (xs.map .str)),.val (t.rA six (b0 six xs)),.bV]:=by
   show [_,_,Slot.val (t.rA six (b0 six (xs.take (xs.map Dt.str).length))),_]=_
   rw[List.length_map,List.take_length]
 refine⟨_,.rt _,ak (aB 2 nd (b5 yR aA hr (ae (aa 0 rfl) ai) ⟨six,rfl,rfl⟩))
   (ak (CC (m:=(xs.map Dt.str).length) 3 S nd rfl PassesOwn.leaving (aa 1 rfl) (Le.of ⟨rfl,rfl,rfl,trivial⟩) (Nat.le_refl _) (fun k z hk hz=>?_) (.all rfl)) ?_)⟩
 . rw[List.length_map] at hk
   rw[List.getElem?_map,List.getElem?_eq_getElem hk] at hz
   cases hz
   have hm:xs[k]∈xs:=List.getElem_mem hk
   have e:b0 six (xs.take (k+1))=jn six (b0 six (xs.take k)) (one six xs[k]):=by
     rw[List.take_add_one,List.getElem?_eq_getElem hk]
     exact kG _ _ _
   have hl:(xs.take k).length<=100000:=by rw[List.length_take];omega
   refine .nx (ao (aB 2 nd (cI (fs:=t.iI six (b0 six (xs.take k))) (nA (aa 2 rfl)) vt aA hr (ae (nA (b5 SJ aA hr (ae (aa 0 rfl) (ae (aa 3 rfl) ai)) ⟨six,xs[k],rfl,hd _ hm,rfl⟩)) ai) ⟨six,_,one six xs[k],rfl,⟨Ph six hl,Pe six _⟩,rfl⟩))) (Le.of ⟨rfl,rfl,?_,trivial⟩)
   show Slot.val (t.rA six (b0 six (xs.take (k+1))))=_
   rw[e]
 . rw[en]
   exact ao (aE (aa 2 rfl))
theorem AG (six:Bool):∀ (n:Nat) (xs:List Str),xs.length=n->(b0 six xs).many=n/\(b0 six xs).bH=(xs.count ("stroke":Str):Nat):=by
 intro n
 induction n with
 | zero=>
   intro xs h
   have e:xs=[]:=List.eq_nil_of_length_eq_zero h
   subst e
   exact⟨rfl,rfl⟩
 | succ n ih=>
   intro xs h
   have A4:xs≠[]:=fun e=>by rw[e] at h;cases h
   have e:=List.dropLast_concat_getLast A4
   have hl:xs.dropLast.length=n:=by rw[List.length_dropLast];omega
   obtain⟨h1,h2⟩:=ih _ hl
   have ec:xs.count ("stroke":Str)=xs.dropLast.count ("stroke":Str)+if xs.getLast A4="stroke" then 1 else 0:=by
     conv=>lhs;rw[<- e]
     rw[List.count_append,List.count_singleton]
     congr 1
     by_cases c:xs.getLast A4="stroke" <;> simp[c]
   rw[ec]
   conv=>lhs;rw[<- e]
   rw[show(b0 six xs).bH=(b0 six (xs.dropLast ++ [xs.getLast A4])).bH by rw[e],kG]
   refine⟨?_,?_⟩
   . show(b0 six xs.dropLast).many+1=_
     rw[h1];omega
   . show(b0 six xs.dropLast).bH+(if xs.getLast A4="stroke" then 1 else 0)=_
     rw[h2]
     by_cases c:xs.getLast A4="stroke"
     . rw[if_pos c,if_pos c];omega
     . rw[if_neg c,if_neg c];omega
open PySem.Builtin.Str PySem.StrLaws in
theorem yS (s:Str)(c limit:Nat):∀ (n i:Nat) (acc:Array Nat) (free:Nat),free<=i->acc.size+n<=limit->(forIn (List.range' i n) (acc,free) (occBody s ⟨#[c]⟩ s.length limit)).run.fst.size=acc.size+(List.range' i n).countP (fun j=>decide (s.cps.toList[j]?=some c))
 | 0,i,acc,free,_,_=>by simp
 | n+1,i,acc,free,hf,hl=>by
   rw[List.range'_succ,List.forIn_cons,List.countP_cons]
   have Yx:=subAt_one s c i
   by_cases hc:s.cps.toList[i]?=some c
   . obtain⟨h1,h2⟩:=Yx.mpr hc
     have e:occBody s ⟨#[c]⟩ s.length limit i (acc,free)=pure (ForInStep.yield (acc.push i,i+(⟨#[c]⟩:Str).length)):=by
       unfold occBody
       exact if_pos ⟨⟨⟨by show acc.size < limit;omega,hf⟩,h1⟩,h2⟩
     rw[e]
     show(forIn (List.range' (i+1) n) (acc.push i,i+(⟨#[c]⟩:Str).length) (occBody s ⟨#[c]⟩ s.length limit)).run.fst.size=_
     rw[yS s c limit n (i+1) (acc.push i) _ (by show i+1<=i+1;omega) (by rw[Array.size_push];omega),Array.size_push,if_pos (decide_eq_true hc)]
     omega
   . have e:occBody s ⟨#[c]⟩ s.length limit i (acc,free)=pure (ForInStep.yield (acc,free)):=by
       unfold occBody
       exact if_neg fun h=>hc (Yx.mp ⟨h.1.2,h.2⟩)
     rw[e]
     show(forIn (List.range' (i+1) n) (acc,free) (occBody s ⟨#[c]⟩ s.length limit)).run.fst.size=_
     rw[yS s c limit n (i+1) acc free (by omega) (by omega),if_neg (by simpa using hc)]
     omega
theorem EG (L:List Nat)(c:Nat):(List.range' 0 (L.length+1)).countP (fun j=>decide (L[j]?=some c))=L.count c:=by
 rw[<- List.range_eq_range',List.range_succ,List.countP_append]
 have e1:(List.range L.length).map (fun j=>L[j]?)=L.map some:=by
   refine List.ext_getElem? fun i=>?_
   rw[List.getElem?_map,List.getElem?_map]
   by_cases h:i < L.length
   . rw[List.getElem?_range h];simp[h]
   . rw[List.getElem?_eq_none (by simp;omega),List.getElem?_eq_none (by omega)];rfl
 have e2:(List.range L.length).countP (fun j=>decide (L[j]?=some c))=((List.range L.length).map (fun j=>L[j]?)).countP (fun o=>decide (o=some c)):=by
   rw[List.countP_map];rfl
 rw[e2,e1,List.countP_map]
 have e3:((fun o=>decide (o=some c)) ∘ some)=fun x:Nat=>x == c:=by
   funext x
   by_cases h:x=c <;> simp[h]
 rw[e3]
 simp[List.count]
open PySem.Builtin.Str PySem.StrLaws in
theorem HI (w:List Nat)(x:Nat):Txt.count (tx w) (sg x)=((w.count x:Nat):Int):=by
 unfold Txt.count
 have hl:=iD w
 rw[occ_eq,Array.length_toList]
 show(((forIn (List.range' 0 ((tx w).length+1 - 0)) (#[],0) (occBody (tx w) ⟨#[x]⟩ (tx w).length ((tx w).length+1))).run.fst.size:Nat):Int)=_
 rw[yS (tx w) x _ _ 0 #[] 0 (Nat.le_refl _) (by simp)]
 have e:(tx w).cps.toList=w:=by show w.toArray.toList=w;simp
 rw[e,hl,Nat.sub_zero,EG]
 simp
noncomputable def Ml (L w:List Nat):List (Key×Int):=L.map fun x=>(.inr (sg x),((w.count x:Nat):Int))
theorem HJ (L w:List Nat):(dI (Ml L w)).map (·.1)=L.map fun x=>(Sum.inr (sg x):Key):=by
 unfold dI Ml
 rw[List.map_map,List.map_map];rfl
theorem ki {L:List Nat}(h:L.Nodup):(L.map fun x=>(Sum.inr (sg x):Key)).Nodup:=by
 rw[List.nodup_iff_pairwise_ne,List.pairwise_map]
 exact(List.nodup_iff_pairwise_ne.mp h).imp fun hn e=>hn (rm (Sum.inr.inj e))
theorem Pj (L w:List Nat):(L.map fun x=>Dt.tup [.str (sg x),.int ((w.count x:Nat):Int)])=(dI (Ml L w)).map Ja:=by
 unfold dI Ml
 rw[List.map_map,List.map_map];rfl
noncomputable def K3 (t:ee):Rl:=fun ds r=>∃ six rows w,ds=[t.yF six rows,.str (tx w)]/\dn rows/\r=.own (.dZ (dI (Ml (rows.map (·.c)) w)))
noncomputable abbrev WJ:Stmt->Scope
 | .Return (some (.Call _ (.ListComp _ _ sc _::_) _ _)) _=>sc
 | _=>ah (.Pass ⟨0,0,0,0⟩)
noncomputable abbrev HK:Scope:=WJ ((aG pR).getD 0 (.Pass ⟨0,0,0,0⟩))
theorem AH:jk HK (ah pR) C7 ["letter","word"] ["letter"] [1]=true:=by decide +kernel
theorem gL (w:List Nat):w.map (fun x=>Dt.str (sg x))=Sg.signs (tx w):=by rw[vj,List.map_map];rfl
theorem vv {rows:List Row}(ok:dn rows):jx (tx (rows.map (·.c)))=true:=iE fun x hx=>by
 obtain⟨r,hr,rfl⟩:=List.mem_map.mp hx
 have:=ok.sm r hr
 unfold small at this;omega
theorem HL (T:Txt K mg t):GF P w K mg base CX 3 "tally" 2 (K3 t):=by
 refine⟨_,_,_,iR T.nT.F Ah rfl fun bx A outer s H E G ds r hr hl hR=>?_,(T.g T.nT.a),T.nT.F.kp,T.nT.b⟩
 obtain⟨six,rows,wd,rfl,ok,rfl⟩:=hR
 have eX:=jo (P:=P) (w:=w) (base:=base) T
 have nd:=Ah.nd
 have h6:=ok.le
 let L:=rows.map (·.c)
 have e2:((L.filter fun _=>true).map fun x=>Dt.tup [.str (sg x),.int ((wd.count x:Nat):Int)])=(dI (Ml L wd)).map Ja:=by
   rw[List.filter_eq_self.mpr (fun _ _=>rfl)]
   exact Pj L wd
 refine⟨_,.ro _,ao (lY (lx T.ny rfl (iG e2 (jw L (fun x=>Dt.str (sg x)) (fun x=>.tup [.str (sg x),.int ((wd.count x:Nat):Int)]) (fun x=>[.val (.str (sg x))]) (fun _=>true) rfl (cU AH) (iS (bD (fs:=t.yI six rows) (aa 0 rfl) eX aA hr ⟨six,rows,rfl,ok,rfl⟩)) (cJ (cU AH) rfl) (fj (dJ (vv ok)) (gL L)) (fun a _=>du) (.nil fun _ _=>rfl)
     (fun a ha _ C fp s' H' G'=>aS (ae (aa 0 rfl) (ae (bu (Ek (aa 1 rfl) (aa 0 rfl)) (congrArg Dt.int (HI wd a))) ai)) AA3) (sv (by show(rows.map (·.c)).length<=_;rw[List.length_map];omega)))) ?_ ?_))⟩
 . rw[HJ];exact ki ok.nd
 . show((Ml (rows.map (·.c)) wd).map _).length<=_
   unfold Ml
   rw[List.length_map,List.length_map,List.length_map]
   exact sv (by omega)
noncomputable def cT (rows:List Row):Nat->Nat->Nat->Int
 | 0,c,x=>(([c].count x:Nat):Int)
 | i+1,c,x=>((wordOf rows c).map fun y=>cT rows i y x).sum
noncomputable def kc (L:List Nat)(T:Nat->Int):List (Key×Int):=L.map fun x=>(.inr (sg x),T x)
noncomputable def lT (rows:List Row)(i c:Nat):Int:=((rows.map (·.c)).map fun x=>cT rows i c x).sum
noncomputable def vw (rows:List Row)(i:Nat):List (Key×FD):=(rows.map (·.c)).map fun c=>(.inr (sg c),.dZ (kc (rows.map (·.c)) (cT rows i c)))
noncomputable def yT (rows:List Row)(i:Nat):List (Key×FD):=(rows.map (·.c)).map fun c=>(.inr (sg c),.int (lT rows i c))
theorem K4 (L:List Nat)(T:Nat->Int):(kc L T).map (·.2)=L.map T:=by unfold kc;rw[List.map_map];rfl
theorem K5 (L:List Nat)(T:Nat->Int):(dI (kc L T)).map (·.1)=L.map fun x=>(Sum.inr (sg x):Key):=by unfold dI kc;rw[List.map_map,List.map_map];rfl
theorem Pk (L:List Nat)(T:Nat->Int):(dI (kc L T)).length=L.length:=by unfold dI kc;rw[List.length_map,List.length_map]
noncomputable def kd (L:List Nat)(D:Nat->Dt):List (Key×Dt):=L.map fun x=>(.inr (sg x),D x)
theorem kS {D:Nat->Dt}:∀ {L:List Nat} {x:Nat},x∈L->kZ (kd L D) (.inr (sg x))=some (D x)
 | [],_,h=>by cases h
 | y::L,x,h=>by
   by_cases e:y=x
   . subst e
     exact pN (p:=((.inr (sg y):Key),D y)) rfl
   . have ne:¬ (Sum.inr (sg y):Key)=.inr (sg x):=fun z=>e (rm (Sum.inr.inj z))
     have hx:x∈L:=by
       rcases List.mem_cons.mp h with z | z
       . exact absurd z.symm e
       . exact z
     exact(mY (p:=((.inr (sg y):Key),D y)) ne).trans (kS hx)
theorem Mm (L:List Nat)(T:Nat->Int):dI (kc L T)=kd L fun x=>.int (T x):=by unfold dI kc kd;rw[List.map_map];rfl
theorem E7 (rows:List Row)(i:Nat):mL (vw rows i)=kd (rows.map (·.c)) fun c=>.c9 (dI (kc (rows.map (·.c)) (cT rows i c))):=by unfold mL vw kd;rw[List.map_map];rfl
theorem Mn (rows:List Row)(i:Nat):mL (yT rows i)=kd (rows.map (·.c)) fun c=>.int (lT rows i c):=by unfold mL yT kd;rw[List.map_map];rfl
theorem qi (L:List Nat)(D:Nat->Dt):(kd L D).map (·.1)=L.map fun x=>(Sum.inr (sg x):Key):=by unfold kd;rw[List.map_map];rfl
theorem AI (L:List Nat)(D:Nat->Dt):(L.map fun x=>Dt.tup [.str (sg x),D x])=(kd L D).map Ja:=by unfold kd;rw[List.map_map];rfl
theorem HM {L:List Nat}(nd:L.Nodup){D:Nat->Dt}{j:Nat}(hj:j < L.length):uE (kd (L.take j) D) (.inr (sg L[j])) (D L[j])=kd (L.take (j+1)) D:=by
 have hn:kZ (kd (L.take j) D) (.inr (sg L[j]))=none:=by
   refine qO fun kv Vv=>?_
   have:kv.1∈(kd (L.take j) D).map (·.1):=List.mem_map.mpr ⟨kv,Vv,rfl⟩
   rw[qi] at this
   obtain⟨y,hy,e⟩:=List.mem_map.mp this
   intro z
   rw[<- e] at z
   have z:y=L[j]:=rm (Sum.inr.inj z)
   obtain⟨i,hi,e⟩:=List.mem_iff_getElem.mp hy
   rw[List.length_take] at hi
   rw[List.getElem_take] at e
   exact List.pairwise_iff_getElem.mp nd i j (by omega) hj (by omega) (e.trans z)
 unfold uE
 rw[hn,if_neg (by simp)]
 unfold kd
 rw[List.take_add_one,List.getElem?_eq_getElem hj,List.map_append];rfl
noncomputable def HN (L:List Nat)(T:Nat->Int):Dt:=.c9 (dI (kc L T))
noncomputable def HP:Rl:=fun ds r=>∃ (L:List Nat) (ts:List (Nat->Int)),ds=[.lst (ts.map (HN L)),.str (tx L)]/\L.Nodup/\L.length<=6/\(∀ x∈L,x < 128)/\ts.length<=1000/\r=.own (.dZ (dI (kc L fun x=>(ts.map fun T=>T x).sum)))
noncomputable abbrev Pl:Stmt->Scope
 | .Return (some (.Call _ (.ListComp _ _ sc _::_) _ _)) _=>sc
 | _=>ah (.Pass ⟨0,0,0,0⟩)
noncomputable abbrev SK:Stmt->Scope
 | .Return (some (.Call _ (.ListComp (.Tuple [_,.Call _ (.ListComp _ _ sc _::_) _ _] _ _) _ _ _::_) _ _)) _=>sc
 | _=>ah (.Pass ⟨0,0,0,0⟩)
noncomputable abbrev Mo:Scope:=Pl ((aG jl).getD 0 (.Pass ⟨0,0,0,0⟩))
noncomputable abbrev Pm:Scope:=SK ((aG jl).getD 0 (.Pass ⟨0,0,0,0⟩))
noncomputable def WK (sc:Scope):Env:={ scope:=sc,locals:=0,globals:=0,cells:=[],qual:="",func:=none,code:=.none,frame:=none,builtins:=0}
noncomputable abbrev SM:Scope:=relabel Mo (WK (ah jl))
theorem Mp:GK Mo (ah jl) Ai ["letter","tallies"] "letter" [0]=true:=by decide +kernel
theorem HQ:jk Pm SM ["letter","tallies"] ["counts","letter"] ["counts"] [0]=true:=by decide +kernel
theorem EH (T:Txt K mg t):GF P w K mg base CX 2 "summed" 2 HP:=by
 refine⟨_,_,_,iR T.lH.F wV rfl fun bx A outer s H E G ds r hr hl hR=>?_,(T.g T.lH.a),T.lH.F.kp,T.lH.b⟩
 obtain⟨L,ts,rfl,hnd,hL,h7,Yy,rfl⟩:=hR
 have nd:=wV.nd
 have hu:(A.deeper (envOfC "summed" (ah jl) s.heap.objs.size t.nv bx)).units+1 < cLine:=by have:=hr.units;omega
 let D:Nat->Dt:=fun x=>.int (ts.map fun T=>T x).sum
 have e2:((L.filter fun _=>true).map fun x=>Dt.tup [.str (sg x),D x])=(dI (kc L fun x=>(ts.map fun T=>T x).sum)).map Ja:=by
   rw[List.filter_eq_self.mpr (fun _ _=>rfl),Mm]
   exact AI L D
 refine⟨_,.ro _,ao (lY (lx T.ny rfl (iG e2 (Oc L (fun x=>Dt.str (sg x)) (fun x=>.tup [.str (sg x),D x]) (fun x=>[.val (.str (sg x))]) (fun _=>true) rfl (L7 Mp) (iS (aa 1 rfl)) (GJ (L7 Mp)) (fj (dJ (iE h7)) (gL L)) (fun a _=>du) (.nil fun _ _=>rfl)
     (fun a ha _ c C fp s' H' G'=>?_) (sv (by omega)))) (by rw[K5];exact ki hnd) (by rw[Pk];exact sv (by omega))))⟩
 have e3:((ts.filter fun _=>true).map fun T=>Dt.int (T a))=(ts.map fun T=>T a).map Dt.int:=by
   rw[List.filter_eq_self.mpr (fun _ _=>rfl),List.map_map];rfl
 refine aS (ae (aa 0 rfl) (ae (Gv T.As rfl (iG e3 (jw ts (HN L) (fun T=>Dt.int (T a)) (fun T=>[.val (HN L T)]) (fun _=>true) rfl (cU HQ) (jI (aa 1 rfl)) (cJ (cU HQ) rfl) kh (fun a _=>du) (.nil fun _ _=>rfl)
   (fun T' hT' _ C2 VC s2 H2 G2=>?_) (sv (by omega))))) ai)) AA3
 exact lz hu (aa 0 rfl) (aa 1 rfl) (by rw[Mm];exact kS ha) (fun _ _=>rfl)
noncomputable def ee.AJ (t:ee)(six:Bool)(rows:List Row)(w:List Nat):List (Str×Dt):=[("rules",t.yF six rows),("seed",.str (tx w))]
noncomputable def wj (rows:List Row):List (Nat->List (Key×FD)):=[vw rows,yT rows]
noncomputable abbrev ee.oo (t:ee)(six:Bool)(rows:List Row)(w:List Nat)(l:Addr)(ls:iK)(n:Nat):List (Str×Dt):=ql (t.AJ six rows w) ["tallies","lengths"] l ls n
noncomputable abbrev ee.EI (t:ee)(six:Bool)(rows:List Row)(w:List Nat)(l:Addr)(ls:iK)(n:Nat):List (Str×Dt):=oh (t.AJ six rows w) ["tallies","lengths"] l ls n
structure sx (rows:List Row)(w:List Nat):Prop where
 ok:dn rows
 w0:0 < w.length
 w8:w.length<=8
 wm:∀ x∈w,x∈rows.map (·.c)
theorem AK {a:Addr}:∀ rows:List Row,x3 a (rj rows)=true
 | []=>rfl
 | r::rows=>by
   show(qQ a (mO r) && x3 a (rj rows))=true
   rw[AK rows];rfl
theorem B2 {a:Addr}(t:ee)(six:Bool)(rows:List Row):qQ a (t.yF six rows)=true:=by
 show jM a [("drawer",.gW (.obj (t.pc six) [])),("row_by_letter",.dZ (rj rows))]=true
 show(true && (x3 a (rj rows) && true))=true
 rw[AK];rfl
theorem AL {a:Addr}(t:ee)(six:Bool)(rows:List Row)(w:List Nat):jM a (t.AJ six rows w)=true:=by
 show(qQ a (t.yF six rows) && (true && true))=true
 rw[B2];rfl
noncomputable def K6 (t:ee):Rl:=fun ds r=>∃ six rows w,ds=[t.yF six rows,.str (tx w)]/\sx rows w/\r=.own (.oP t.ay (t.AJ six rows w) (wj rows) ["tallies","lengths"] 1)
noncomputable abbrev B3:Stmt->Scope
 | .Assign _ (.List [.Call _ (.ListComp _ _ sc _::_) _ _] _) _=>sc
 | _=>ah (.Pass ⟨0,0,0,0⟩)
noncomputable abbrev Pn:Scope:=B3 ((aG dj).getD 2 (.Pass ⟨0,0,0,0⟩))
noncomputable abbrev Po:Scope:=B3 ((aG dj).getD 3 (.Pass ⟨0,0,0,0⟩))
theorem HR:jk Pn (ah dj) k8 ["letter","rules"] ["letter"] [1]=true:=by decide +kernel
theorem HS:jk Po (ah dj) k8 ["letter"] ["letter"] []=true:=by decide +kernel
theorem Dw:∀ {L:List Nat} {c:Nat},L.Nodup->c∈L->(L.map fun x=>(([c].count x:Nat):Int)).sum=1
 | [],_,_,h=>by cases h
 | y::L,c,nd,h=>by
   rw[List.nodup_cons] at nd
   rw[List.map_cons,List.sum_cons]
   by_cases e:c=y
   . subst e
     have z:(L.map fun x=>(([c].count x:Nat):Int)).sum=0:=by
       have:∀ x∈L,(([c].count x:Nat):Int)=0:=fun x hx=>by
         have:¬ c=x:=fun z=>nd.1 (z ▸ hx)
         simp[List.count_cons,this]
       rw[List.map_congr_left this]
       clear this nd h
       induction L with
       | nil=>rfl
       | cons a r ih=>rw[List.map_cons,List.sum_cons,ih];rfl
     rw[z]
     simp
   . have hc:c∈L:=by
       rcases List.mem_cons.mp h with z | z
       . exact absurd z e
       . exact z
     rw[Dw nd.2 hc]
     simp[List.count_cons,e]
theorem SN {rows:List Row}(ok:dn rows){c:Nat}(h:c∈rows.map (·.c)):lT rows 0 c=1:=Dw ok.nd h
theorem HU (T:Txt K mg t):NU P w K mg base CX 4 "Growth" t.ay 3 (K6 t):=by
 refine⟨_,_,_,TK T.je.F ni rfl fun bx A outer s H E G z ds r hr hl hR=>?_,T.qZ,(T.g T.bG.a),T.je.b⟩
 obtain⟨six,rows,wd,rfl,ok,rfl⟩:=hR
 have eX:=jo (P:=P) (w:=w) (base:=base) T
 have EJ:=Aw (P:=P) (w:=w) (base:=base) T
 have K7:=HL (P:=P) (w:=w) (base:=base) T
 have h6:=ok.ok.le
 let L:=rows.map (·.c)
 have hL:L.length<=6:=by show(rows.map (·.c)).length<=6;rw[List.length_map];exact h6
 have nd:=ni.nd
 have e1:((L.filter fun _=>true).map fun x=>Dt.tup [.str (sg x),HN L (cT rows 0 x)])=(mL (vw rows 0)).map Ja:=by
   rw[List.filter_eq_self.mpr (fun _ _=>rfl),E7]
   exact AI L _
 have e2:((L.filter fun _=>true).map fun x=>Dt.tup [.str (sg x),.int 1])=(mL (yT rows 0)).map Ja:=by
   rw[List.filter_eq_self.mpr (fun _ _=>rfl),Mn,<- AI]
   exact List.map_congr_left fun x hx=>by rw[SN ok.ok hx]
 refine⟨_,.Ve (fs:=t.AJ six rows wd) (gs:=wj rows) (nm:=["tallies","lengths"]) (n:=1) rfl,ak (jv (aa 1 rfl) T.bG.cl T.c6) (ak (jv (Gb (fs:=t.yI six rows) (aa 1 rfl) EJ aA hr (ae (aa 2 rfl) ai) ⟨six,rows,wd,8,rfl,ok.ok,ok.wm,⟨ok.w0,ok.w8,by decide⟩,rfl⟩) T.bG.cl T.il)
   (x8 (f:=vw rows) (g:=yT rows) rfl T.bG.cl T.cm T.cn ?_ ?_))⟩
 . refine lx T.ny rfl (iG e1 (jw L (fun x=>Dt.str (sg x)) (fun x=>.tup [.str (sg x),HN L (cT rows 0 x)]) (fun x=>[.val (.str (sg x))]) (fun _=>true) rfl (cU HR) (iS (bD (fs:=t.yI six rows) (aa 1 rfl) eX aA hr ⟨six,rows,rfl,ok.ok,rfl⟩)) (cJ (cU HR) rfl) (fj (dJ (vv ok.ok)) (gL L)) (fun a _=>du) (.nil fun _ _=>rfl)
     (fun a ha _ C fp s' H' G'=>aS (ae (aa 0 rfl) (ae (L9 (CI K7 aA hr (ae (aa 1 rfl) (ae (aa 0 rfl) ai)) ⟨six,rows,[a],rfl,ok.ok,rfl⟩)) ai)) AA3) (sv (by omega)))) (by rw[E7,qi];exact ki ok.ok.nd) (by rw[E7];show(List.map _ _).length<=_;rw[List.length_map,List.length_map];exact sv (by omega))
 . refine lx T.ny rfl (iG e2 (jw L (fun x=>Dt.str (sg x)) (fun x=>.tup [.str (sg x),.int 1]) (fun x=>[.val (.str (sg x))]) (fun _=>true) rfl (cU HS) (iS (bD (fs:=t.yI six rows) (aa 1 rfl) eX aA hr ⟨six,rows,rfl,ok.ok,rfl⟩)) (cJ (cU HS) rfl) (fj (dJ (vv ok.ok)) (gL L)) (fun a _=>du) (.nil fun _ _=>rfl)
     (fun a ha _ C fp s' H' G'=>aS (ae (aa 0 rfl) (ae af ai)) AA3) (sv (by omega)))) (by rw[Mn,qi];exact ki ok.ok.nd) (by rw[Mn];show(List.map _ _).length<=_;rw[List.length_map,List.length_map];exact sv (by omega))
noncomputable def HV (t:ee):Rl:=fun ds r=>∃ six rows w l ls n age,ds=[.obj t.ay (t.oo six rows w l ls n),.int ((age:Nat):Int)]/\sx rows w/\ls.map (·.2)=wj rows/\age<=1000/\r=.ret (.vL l ls (age+1))
noncomputable abbrev SO:Stmt->List Stmt
 | .While _ b _ _=>b
 | _=>[]
noncomputable abbrev AM:Stmt->Scope
 | .For _ _ [.Assign _ (.Call _ (.ListComp _ _ sc _::_) _ _) _] _ _=>sc
 | _=>ah (.Pass ⟨0,0,0,0⟩)
noncomputable abbrev K8:Stmt->Scope
 | .Expr (.Call _ [.Call _ (.ListComp _ _ sc _::_) _ _] _ _) _=>sc
 | _=>ah (.Pass ⟨0,0,0,0⟩)
noncomputable abbrev wB:List Stmt:=SO ((aG bE).getD 1 (.Pass ⟨0,0,0,0⟩))
noncomputable abbrev SQ:Scope:=AM (wB.getD 2 (.Pass ⟨0,0,0,0⟩))
noncomputable abbrev SR:Scope:=K8 (wB.getD 4 (.Pass ⟨0,0,0,0⟩))
theorem Mq:jk SQ (ah bE) gR ["younger","last"] ["younger"] [3]=true:=by decide +kernel
theorem Mr:jk SR (ah bE) gR ["letter","grown"] ["letter"] [4]=true:=by decide +kernel
theorem EK (T:Txt K mg t):MF P w K mg base CX 4 t.ay "deepen_to" 2 (HV t):=by
 refine⟨T.bG.cl,_,_,_,iR T.eE.F jH rfl fun bx A outer s H E G ds r hr hl hR=>?_,T.cM,T.eE.b⟩
 obtain⟨six,rows,wd,l,ls,n,age,rfl,ok,sQ,Aa,rfl⟩:=hR
 have eX:=jo (P:=P) (w:=w) (base:=base) T
 have B4:=Av (P:=P) (w:=w) (base:=base) T
 have HW:=EH (P:=P) (w:=w) (base:=base) T
 have nd:=jH.nd
 have h6:=ok.ok.le
 let L:=rows.map (·.c)
 have hL:L.length<=6:=by show(rows.map (·.c)).length<=6;rw[List.length_map];exact h6
 have h7:∀ x∈L,x < 128:=fun x hx=>by
   obtain⟨r,hr,rfl⟩:=List.mem_map.mp hx
   have:=ok.ok.sm r hr
   unfold small at this;omega
 have hu:(A.deeper (envOfC "Growth.deepen_to" (ah bE) s.heap.objs.size t.bF bx)).units+1 < cLine:=by have:=hr.units;omega
 have e2:ls.length=2:=by have:=congrArg List.length sQ;simpa [wj] using this
 let tl:List Slot:=[.val (.int ((age:Nat):Int)),.val (.str (tx L)),.bV,.bV,.bV]
 refine⟨_,qS (by rw[e2];exact Nat.le_refl 2),ak (dl1:=yZ t.ay (t.AJ six rows wd) ["tallies","lengths"] l ls n tl) (aB 2 nd (bD (fs:=t.yI six rows) (aI (fs:=t.oo six rows wd l ls n) (aa 0 rfl) T.bG.cl T.c6 rfl) eX aA hr ⟨six,rows,rfl,ok.ok,rfl⟩))
   (ao (wQ (age:=age) PassesOwn.leaving (AL t six rows wd) rfl (by decide) (by omega) (fun N G hx=>?_) (fun N hN hNa G0 hA hB=>?_)))⟩
 . exact da (LQ (C1 (N:=N) T.iz hx (aI (fs:=t.EI six rows wd l ls n) (aa 0 rfl) T.bG.cl T.cm rfl) (by rw[e2];rfl)) (aa 1 rfl)) (decide_eq_decide.mpr (by omega))
 . let Dk:Nat->Dt:=fun c=>HN L (cT rows N c)
   let S:Nat->List Slot:=fun k=>[.val (.obj t.ay (t.EI six rows wd l ls n)),.val (.int ((age:Nat):Int)),.val (.str (tx L)),.val (.c9 (mL (vw rows (N - 1)))),.own (.dZ (kd (L.take k) Dk)),.bV]
   have eS:S L.length=[.val (.obj t.ay (t.EI six rows wd l ls n)),.val (.int ((age:Nat):Int)),.val (.str (tx L)),.val (.c9 (mL (vw rows (N - 1)))),.own (.dZ (mL (vw rows N))),.bV]:=by
     show [_,_,_,_,Slot.own (.dZ (kd (L.take L.length) Dk)),_]=_
     rw[List.take_length,E7 rows N];rfl
   refine ak (aB 3 nd (z9 (f:=vw rows) (N:=N) aj (aI (fs:=t.EI six rows wd l ls n) (aa 0 rfl) T.bG.cl T.cm rfl) (gN af) (by rw[sQ];rfl) (by rw[e2];rfl) hN)) (ak (lX 4 nd CU)
     (ak (dl1:=S L.length) (nH (o:=.nx (S L.length)) (m:=L.length) L (fun x=>Dt.str (sg x)) (fun x dl=>dl.set 5 (.val (.str (sg x)))) S rfl PassesOwn.leaving (iS (aa 2 rfl)) (fj (dJ (iE h7)) (gL L)) (ck nd rfl (.inl rfl)) (fun a _=>sL) (Le.of ⟨rfl,rfl,rfl,rfl,rfl,trivial⟩) (Nat.le_refl _) (fun k a hk ha=>?_) (.all rfl)) ?_))
   . rw[List.getElem?_eq_getElem hk] at ha
     cases ha
     have hm:L[k]∈L:=List.getElem_mem hk
     obtain⟨q,hq,hc,_,ew⟩:=iH hm
     have WL:=ok.ok.wp q hq
     have Ms:∀ y∈wordOf rows L[k],y∈L:=fun y hy=>ok.ok.wo q hq y (by rw[ew] at hy;exact hy)
     have Nu:(wordOf rows L[k]).length<=8:=by rw[ew];exact WL.2
     have RJ:(kd (L.take k) Dk).length < sizeLine:=by
       unfold kd
       rw[List.length_map,List.length_take];exact Nat.lt_of_lt_of_le (show min k L.length < 2000 by omega) (by decide)
     have e3:(((wordOf rows L[k]).filter fun _=>true).map fun y=>HN L (cT rows (N - 1) y))=((wordOf rows L[k]).map fun y=>cT rows (N - 1) y).map (HN L):=by
       rw[List.filter_eq_self.mpr (fun _ _=>rfl),List.map_map];rfl
     have eN:N=(N - 1)+1:=by omega
     have ed:Dk L[k]=.c9 (dI (kc L fun x=>(((wordOf rows L[k]).map fun y=>cT rows (N - 1) y).map fun T=>T x).sum)):=by
       have e7:(cT rows N L[k])=fun x=>(((wordOf rows L[k]).map fun y=>cT rows (N - 1) y).map fun T=>T x).sum:=by
         funext x
         rw[List.map_map]
         obtain⟨M,rfl⟩:∃ M,N=M+1:=⟨N - 1,eN⟩
         rfl
       show HN L (cT rows N L[k])=_
       rw[e7];rfl
     refine .nx (ao (CV (kds:=kd (L.take k) Dk) (d:=Dk L[k]) 4 hu (by rw[ed];exact L9 (CI HW aA hr (ae (iG e3 (jw (wordOf rows L[k]) (fun x=>Dt.str (sg x)) (fun y=>HN L (cT rows (N - 1) y)) (fun x=>[.val (.str (sg x))]) (fun _=>true) rfl (cU Mq) (iS (cI (fs:=t.yI six rows) (aI (fs:=t.EI six rows wd l ls n) (aa 0 rfl) T.bG.cl T.c6 rfl) B4 aA hr (ae (aa 5 rfl) ai) ⟨six,rows,L[k],rfl,ok.ok,hm,rfl⟩)) (cJ (cU Mq) rfl) (fj (dJ (tP ok.ok Ms)) (gL _)) (fun a _=>du) (.nil fun _ _=>rfl)
       (fun y hy _ C fp s' H' G'=>lz hu (aa 1 rfl) (aa 0 rfl) (by rw[E7];exact kS (Ms y hy)) (fun _ _=>rfl)) (sv (by omega)))) (ae (aa 2 rfl) ai)) ⟨L,_,rfl,ok.ok.nd,hL,h7,by rw[List.length_map];omega,rfl⟩)) (aa 5 rfl) RJ)) (Le.of ⟨rfl,rfl,rfl,rfl,?_,trivial⟩)
     show Slot.own (.dZ (kd (L.take (k+1)) Dk))=Slot.own (.dZ (uE (kd (L.take k) Dk) (.inr (sg L[k])) (Dk L[k])))
     rw[HM ok.ok.nd hk]
   . rw[eS]
     refine CB (dl1:=.val (.obj t.ay (t.EI six rows wd l ls n))::tl.set 3 (.own (.dZ (mL (vw rows N))))) (Ac (f:=vw rows) (g:=yT rows) (tl:=tl) 3 (AL t six rows wd) rfl rfl sQ (by omega) T.bG.cl T.cm T.cn hA hB (fun G2=>?_)) (Le.of ⟨rfl,rfl,rfl,rfl,trivial⟩)
     have e4:((L.filter fun _=>true).map fun x=>Dt.tup [.str (sg x),.int (lT rows N x)])=(mL (yT rows N)).map Ja:=by
       rw[List.filter_eq_self.mpr (fun _ _=>rfl),Mn]
       exact AI L _
     exact lx T.ny rfl (iG e4 (jw L (fun x=>Dt.str (sg x)) (fun x=>.tup [.str (sg x),.int (lT rows N x)]) (fun x=>[.val (.str (sg x))]) (fun _=>true) rfl (cU Mr) (iS (aa 2 rfl)) (cJ (cU Mr) rfl) (fj (dJ (iE h7)) (gL L)) (fun a _=>du) (.nil fun _ _=>rfl)
       (fun a ha _ C fp s' H' G'=>aS (ae (aa 0 rfl) (ae (bu (J8 (kds:=kc L (cT rows N a)) T.As rfl (lz (d:=HN L (cT rows N a)) hu (aa 1 rfl) (aa 0 rfl) (by rw[E7];exact kS ha) (fun _ _=>rfl)) (.inl rfl)) (by rw[K4];rfl)) ai)) AA3) (sv (by omega)))) (by rw[Mn,qi];exact ki ok.ok.nd) (by rw[Mn];show(List.map _ _).length<=_;rw[List.length_map,List.length_map];exact sv (by omega))
noncomputable def WM:Rl:=fun ds r=>∃ z f l:Int,ds=[.int z,.int f,.int l]/\f<=z/\z<=l/\r=.ret .cF
noncomputable def K9 (t:ee):Rl:=fun ds r=>∃ six rows w l ls n age,ds=[.obj t.ay (t.oo six rows w l ls n),.int ((age:Nat):Int)]/\sx rows w/\ls.map (·.2)=wj rows/\age<=200/\r=.ret (.vL l ls (age+1))
noncomputable def Ug (rows:List Row)(w:List Nat)(age:Nat):Int:=(w.map (lT rows age)).sum
noncomputable def Pp (t:ee):Rl:=fun ds r=>∃ six rows w l ls n age,ds=[.obj t.ay (t.oo six rows w l ls n),.int ((age:Nat):Int)]/\sx rows w/\ls.map (·.2)=wj rows/\age<=200/\r=.ret (.int (Ug rows w age))
noncomputable def Pq (t:ee):Rl:=fun ds r=>∃ six rows w l ls n,ds=[.obj t.ay (t.oo six rows w l ls n)]/\r=.ret (t.yF six rows)
noncomputable abbrev HX:Stmt->Scope
 | .Return (some (.Call _ (.ListComp _ _ sc _::_) _ _)) _=>sc
 | _=>ah (.Pass ⟨0,0,0,0⟩)
noncomputable abbrev SS:Scope:=HX ((aG cV).getD 1 (.Pass ⟨0,0,0,0⟩))
theorem Mt:jk SS (ah cV) mI ["letter","self","age"] ["letter"] [0,1]=true:=by decide +kernel
theorem sx.asc {rows:List Row}{w:List Nat}(ok:sx rows w):jx (tx w)=true:=tP ok.ok ok.wm
theorem Mu (T:Txt K mg t):GF P w K mg base CX 1 "check_round" 3 WM:=by
 refine⟨_,_,_,iR T.eW.F uV rfl fun bx A outer s H E G ds r hr hl hR=>?_,(T.g T.eW.a),T.eW.F.kp,T.eW.b⟩
 obtain⟨z,f,l,rfl,h1,h2,rfl⟩:=hR
 exact⟨_,.nx _,ao (bh (u:=false) (D4 (uk (u:=false) (v:=false) (da (Rj (aa 0 rfl) (aa 1 rfl)) (decide_eq_false (by omega))) fun _=>(uh (da (wH (aa 0 rfl) (aa 2 rfl)) (decide_eq_false (by omega)))))) (fun h=>nomatch h) (fun h=>bC))⟩
theorem HY (T:Txt K mg t):MF P w K mg base CX 5 t.ay "enter" 2 (K9 t):=by
 refine⟨T.bG.cl,_,_,_,iR T.iw.F sf rfl fun bx A outer s H E G ds r hr hl hR=>?_,T.eF,T.iw.b⟩
 obtain⟨six,rows,wd,l,ls,n,age,rfl,ok,sQ,Aa,rfl⟩:=hR
 have Pr:=Mu (P:=P) (w:=w) (base:=base) T
 have B5:=EK (P:=P) (w:=w) (base:=base) T
 have e2:ls.length=2:=by have:=congrArg List.length sQ;simpa [wj] using this
 exact⟨_,qS (nm:=["tallies","lengths"]) (by rw[e2];exact Nat.le_refl 2),ak (sG (b5 Pr aA hr (ae (aa 1 rfl) (ae af (ae (jL (w:=.int 200) T.p7 ⟨_,rfl⟩ fun _=>.int 200) ai))) ⟨_,_,_,rfl,by omega,by omega,rfl⟩))
   (ao (uK (m:=age+1) (tl:=[.val (.int ((age:Nat):Int))]) (cI (fs:=t.oo six rows wd l ls n) (aa 0 rfl) B5 aA hr (ae (aa 1 rfl) ai) ⟨six,rows,wd,l,ls,n,age,rfl,ok,sQ,by omega,rfl⟩)))⟩
theorem La (T:Txt K mg t):MF P w K mg base CX 6 t.ay "length" 2 (Pp t):=by
 refine⟨T.bG.cl,_,_,_,iR T.gJ.F qX rfl fun bx A outer s H E G ds r hr hl hR=>?_,T.dW,T.gJ.b⟩
 obtain⟨six,rows,wd,l,ls,n,age,rfl,ok,sQ,Aa,rfl⟩:=hR
 have SU:=HY (P:=P) (w:=w) (base:=base) T
 have hu:(A.deeper (envOfC "Growth.length" (ah cV) s.heap.objs.size t.cy bx)).units+1 < cLine:=by have:=hr.units;omega
 have w8:=ok.w8
 have e3:((wd.filter fun _=>true).map fun x=>Dt.int (lT rows age x))=(wd.map (lT rows age)).map Dt.int:=by
   rw[List.filter_eq_self.mpr (fun _ _=>rfl),List.map_map];rfl
 exact⟨_,.rt _,ak (uK (m:=age+1) (tl:=[.val (.int ((age:Nat):Int))]) (cI (fs:=t.oo six rows wd l ls n) (aa 0 rfl) SU aA hr (ae (aa 1 rfl) ai) ⟨six,rows,wd,l,ls,n,age,rfl,ok,sQ,by omega,rfl⟩))
   (ao (aE (Gv T.As rfl (iG e3 (jw wd (fun x=>Dt.str (sg x)) (fun x=>Dt.int (lT rows age x)) (fun x=>[.val (.str (sg x))]) (fun _=>true) rfl (cU Mt) (iS (aI (fs:=t.oo six rows wd l ls (age+1)) (aa 0 rfl) T.bG.cl T.il rfl)) (cJ (cU Mt) rfl) (fj (dJ ok.asc) (gL wd)) (fun a _=>du) (.nil fun _ _=>rfl)
     (fun a ha _ C fp s' H' G'=>lz hu (BC (n:=age+1) (j:=1) (f:=yT rows) (aI (fs:=t.oo six rows wd l ls (age+1)) (aa 1 rfl) T.bG.cl T.cn rfl) (aa 2 rfl) (by rw[sQ];rfl) (by omega) (by omega)) (aa 0 rfl) (by rw[Mn];exact kS (ok.wm a ha)) (fun _ _=>rfl)) (sv (by omega)))))))⟩
theorem yU (T:Txt K mg t):MF P w K mg base CX 1 t.ay "rules_told" 1 (Pq t):=by
 refine⟨T.bG.cl,_,_,_,iR T.dF.F nr rfl fun bx A outer s H E G ds r hr hl hR=>?_,T.cD,T.dF.b⟩
 obtain⟨six,rows,wd,l,ls,n,rfl,rfl⟩:=hR
 exact⟨_,.rt _,ao (aE (aI (fs:=t.oo six rows wd l ls n) (aa 0 rfl) T.bG.cl T.c6 rfl))⟩
noncomputable def MM:Int:=2305843009213693951
noncomputable def mB (ns:List Int)(k:Nat):Int:=ns.getD (k % ns.length) 0
noncomputable def bK (ns:List Int)(k:Nat):Int:=mB ns k % 10 ^ 60 / MM * MM+(mB ns k+7919 * ((k:Int)+1)) * 6364136223846793005 % MM
theorem AN (ns:List Int)(k:Nat):0<=bK ns k:=by
 have h1:=Int.emod_nonneg (mB ns k) (show(10:Int) ^ 60≠0 by decide)
 have h2:=Int.emod_nonneg ((mB ns k+7919 * ((k:Int)+1)) * 6364136223846793005) (show MM≠0 by decide)
 have h3:0<=mB ns k % 10 ^ 60 / MM:=Int.ediv_nonneg h1 (by decide)
 unfold bK
 have h4:0<=mB ns k % 10 ^ 60 / MM * MM:=Int.mul_nonneg h3 (by decide)
 omega
noncomputable def SV:Rl:=fun ds r=>∃ ns:List Int,ns.length<=63/\ds=[.oy ns]/\r=.ret (.bl true)
noncomputable def HZ (K:W.Frag):Sp:=CD K 1 SV
theorem Pt {K:W.Frag}{H:Hp}{a:Addr}{ns:List Int}(hl:ns.length<=63)(hS:mK K H a (ns.map V.int)):HZ K [.ref a] H (fun v _=>v=.bl true) fun _ _ _=>False:=
 ⟨H,[.oy ns],.ret (.bl true),aD.refl H,.cons (.oy hS) .nil,rfl,⟨ns,hl,rfl,rfl⟩,fun v aF H' g r=>by cases r;rfl⟩
noncomputable def Dx:Rl:=fun ds r=>∃ (ns:List Int) (k:Nat),ds=[.oy ns,.int k]/\k<=100/\r=.ret (.int (bK ns k))
noncomputable def Lb:Rl:=fun ds r=>∃ z,ds=[.int z]/\r=.ret (.bl true)
theorem Ia (ns:List Int)(k:Nat)(h:k < ns.length):lj ns (k:Int)=some (ns.getD k 0):=by
 refine jJ ?_
 rw[List.getD_eq_getElem?_getD,List.getElem?_eq_getElem h];rfl
theorem AO (T:Txt K mg t):GF P w K mg base CX 1 "_law_cell" 2 Dx:=by
 refine⟨_,_,_,iR T.q9.F sU rfl fun bx A outer s H E G ds r hr hl hR=>?_,(T.g T.q9.a),T.q9.F.kp,T.q9.b⟩
 obtain⟨ns,k,rfl,hk,rfl⟩:=hR
 refine⟨_,.rt _,ak (aB 2 sU.nd af) (ak (dl1:=[.val (.oy ns),.val (.int k),.val (.int (mB ns k)),.bV]) (bh (wH (xH T.iz (aa 0 rfl)) af) (fun h=>?_) (fun h=>?_))
   (ak (aB 3 sU.nd (d8 (fP (aN (aa 2 rfl) (fP af (aN (aa 1 rfl) af) (pv.ok (Or.inl ⟨by decide,by decide⟩)))) af (pv.ok (Or.inr ⟨by decide,by decide⟩))) af (by decide)))
 (ao (aE (aN (fP (gY (d8 (aa 2 rfl) (Ny af af ⟨by decide,by decide,by decide⟩) (by decide)) af ⟨by decide,by decide +kernel⟩) af (pv.ok (Or.inr ⟨by decide,by decide⟩))) (aa 3 rfl))))))⟩
 . have h:=of_decide_eq_true h
   have hl:0 < ns.length:=by omega
   have e:((k:Nat):Int) % ((ns.length:Nat):Int)=((k % ns.length:Nat):Int):=by omega
   exact ao (aB 2 sU.nd (qD (aa 0 rfl) (bu (d8 (aa 1 rfl) (xH T.iz (aa 0 rfl)) (by omega)) (congrArg Dt.int e)) (Ia ns _ (Nat.mod_lt _ hl))))
 . have h:=of_decide_eq_false h
   have e:mB ns k=0:=by unfold mB;rw[List.getD_eq_getElem?_getD,List.getElem?_eq_none (by omega)];rfl
   rw[e]
   exact bC
theorem Ib (T:Txt K mg t):GF P w K mg base CX 1 "_law_whole" 1 Lb:=by
 refine⟨_,_,_,iR T.nU.F Hc rfl fun bx A outer s H E G ds r hr hl hR=>?_,(T.g T.nU.a),T.nU.F.kp,T.nU.b⟩
 obtain⟨z,rfl,rfl⟩:=hR
 exact⟨_,.rt _,(ao (aE (uo (u:=true) (v:=true) (ur T.eJ (aa 0 rfl) (zJ T.Ar Sg.boot_int) rfl trivial rfl) fun _=>(pI (NB (u:=false) (ur T.eJ (aa 0 rfl) (zJ T.BQ Sg.boot_bool) rfl trivial rfl))))))⟩
noncomputable def WN:List Nat:=(List.range 26).map (97 + ·)
structure LS where
 left:List Nat
 rest:Int
 out:List Nat
noncomputable def ls (c:Int):Nat->LS
 | 0=>⟨WN,c,[]⟩
 | k+1=>let s:=ls c k;let at_:=(s.rest % (s.left.length:Nat)).toNat;⟨s.left.take at_ ++ s.left.drop (at_+1),s.rest / (s.left.length:Nat),s.out ++ [s.left.getD at_ 0]⟩
noncomputable def n9 (s:LS):Nat:=(s.rest % (s.left.length:Nat)).toNat
structure LOk (k:Nat)(s:LS):Prop where
 len:s.left.length+k=26
 ol:s.out.length=k
 sm:∀ x∈s.left,small x
 so:∀ x∈s.out,small x
 nl:s.left.Nodup
 no:s.out.Nodup
 ap:∀ x∈s.out,x ∉ s.left
theorem Ic {s:LS}(h:0 < s.left.length):n9 s < s.left.length:=by
 have h0:=Int.emod_nonneg s.rest (show((s.left.length:Nat):Int)≠0 by omega)
 have h1:=Int.emod_lt_of_pos s.rest (show(0:Int) < (s.left.length:Nat) by omega)
 unfold n9
 omega
theorem Ie (c:Int):∀ k,k<=6->LOk k (ls c k)
 | 0,_=>⟨show WN.length+0=26 by decide,rfl,fun x hx=>by
     obtain⟨i,hi,rfl⟩:=List.mem_map.mp (show x∈(List.range 26).map (97 + ·) from hx)
     have:=List.mem_range.mp hi
     unfold small;omega,fun x h=>absurd h (List.not_mem_nil),show WN.Nodup by decide,List.nodup_nil,fun x h=>absurd h (List.not_mem_nil)⟩
 | k+1,hk=>by
   have ih:=Ie c k (by omega)
   have hl:=ih.len
   have d5:n9 (ls c k) < (ls c k).left.length:=Ic (by omega)
   generalize hs:ls c k=s at ih hl d5
   have e:ls c (k+1)=⟨s.left.take (n9 s) ++ s.left.drop (n9 s+1),s.rest / (s.left.length:Nat),s.out ++ [s.left.getD (n9 s) 0]⟩:=by rw[<- hs];rfl
   rw[e]
   have eg:s.left.getD (n9 s) 0=s.left[n9 s]:=by rw[List.getD_eq_getElem?_getD,List.getElem?_eq_getElem d5];rfl
   have sub:s.left.take (n9 s) ++ s.left.drop (n9 s+1)=s.left.eraseIdx (n9 s):=(List.eraseIdx_eq_take_drop_succ _ _).symm
   have mem:∀ x∈s.left.take (n9 s) ++ s.left.drop (n9 s+1),x∈s.left:=fun x hx=>by
     rcases List.mem_append.mp hx with h | h
     . exact List.mem_of_mem_take h
     . exact List.mem_of_mem_drop h
   have TU:s.left[n9 s]∈s.left:=List.getElem_mem d5
   have nin:s.left[n9 s] ∉ s.left.take (n9 s) ++ s.left.drop (n9 s+1):=by
     have pw:=List.pairwise_iff_getElem.mp ih.nl
     intro h
     rcases List.mem_append.mp h with h | h
     . obtain⟨i,hi,e⟩:=List.mem_iff_getElem.mp h
       rw[List.length_take] at hi
       rw[List.getElem_take] at e
       exact pw i (n9 s) (by omega) d5 (by omega) e
     . obtain⟨i,hi,e⟩:=List.mem_iff_getElem.mp h
       rw[List.length_drop] at hi
       rw[List.getElem_drop] at e
       exact pw (n9 s) (n9 s+1+i) d5 (by omega) (by omega) e.symm
   refine⟨?_,?_,fun x hx=>ih.sm x (mem x hx),fun x hx=>?_,?_,?_,fun x hx=>?_⟩
   . show(s.left.take (n9 s) ++ s.left.drop (n9 s+1)).length+(k+1)=26
     rw[List.length_append,List.length_take,List.length_drop];omega
   . show(s.out ++ [s.left.getD (n9 s) 0]).length=k+1
     rw[List.length_append,ih.ol];rfl
   . rcases List.mem_append.mp hx with h | h
     . exact ih.so x h
     . have:x=s.left[n9 s]:=by rw[<- eg];simpa using h
       rw[this];exact ih.sm _ TU
   . show(s.left.take (n9 s) ++ s.left.drop (n9 s+1)).Nodup
     rw[sub]
     exact List.Nodup.sublist (List.eraseIdx_sublist _ _) ih.nl
   . show(s.out ++ [s.left.getD (n9 s) 0]).Nodup
     rw[eg]
     refine List.nodup_append.mpr ⟨ih.no,by simp,fun a ha b hb z=>?_⟩
     have:b=s.left[n9 s]:=by simpa using hb
     subst z this
     exact ih.ap _ ha TU
   . rcases List.mem_append.mp hx with h | h
     . exact fun z=>ih.ap x h (mem x z)
     . have:x=s.left[n9 s]:=by rw[<- eg];simpa using h
       rw[this];exact nin
noncomputable def ws (L:List Nat)(c m:Int):Nat->Int×List Nat
 | 0=>(c / m,[])
 | k+1=>let s:=ws L c m k;(s.1 / (L.length:Nat),s.2 ++ [L.getD (s.1 % (L.length:Nat)).toNat 0])
noncomputable def vz (L:List Nat)(c m:Int):List Nat:=(ws L c m (1+c % m).toNat).2
theorem B6 (L:List Nat)(c m:Int):∀ k,(ws L c m k).2.length=k
 | 0=>rfl
 | k+1=>by show((ws L c m k).2 ++ [_]).length=_;rw[List.length_append,B6 L c m k];rfl
theorem Ig (L:List Nat)(hL:0 < L.length)(c m:Int):∀ k,∀ x∈(ws L c m k).2,x∈L
 | 0,x,h=>by cases h
 | k+1,x,h=>by
   rcases List.mem_append.mp h with h | h
   . exact Ig L hL c m k x h
   . have h0:=Int.emod_nonneg (ws L c m k).1 (show((L.length:Nat):Int)≠0 by omega)
     have h1:=Int.emod_lt_of_pos (ws L c m k).1 (show(0:Int) < (L.length:Nat) by omega)
     have d5:((ws L c m k).1 % (L.length:Nat)).toNat < L.length:=by omega
     have:x=L.getD ((ws L c m k).1 % (L.length:Nat)).toNat 0:=by simpa using h
     rw[this,List.getD_eq_getElem?_getD,List.getElem?_eq_getElem d5]
     exact List.getElem_mem d5
theorem at_getD {L:List Str}{i:Int}{n:Nat}(hn:L.length=n)(h0:0<=i)(h1:i < n):lj (L.map Dt.str) i=some (.str (L.getD i.toNat "")):=by
 have e:i=((i.toNat:Nat):Int):=by omega
 rw[e]
 have hk:i.toNat < L.length:=by omega
 refine(jJ (j:=i.toNat) ?_).trans rfl
 rw[List.getElem?_map,List.getElem?_eq_getElem hk,List.getD_eq_getElem?_getD]
 show some (Dt.str L[i.toNat])=some (Dt.str ((L[(i.toNat:Int).toNat]?).getD ""))
 rw[Int.toNat_natCast,List.getElem?_eq_getElem hk];rfl
theorem yV {L:List Nat}(hL:0 < L.length)(c m:Int)(hm:0 < m):0 < (vz L c m).length/\(vz L c m).length<=m.toNat/\∀ x∈vz L c m,x∈L:=by
 have h0:=Int.emod_nonneg c (show m≠0 by omega)
 have h1:=Int.emod_lt_of_pos c hm
 have hl:=B6 L c m (1+c % m).toNat
 refine⟨?_,?_,Ig L hL c m _⟩
 . show 0 < (ws L c m (1+c % m).toNat).2.length;omega
 . show(ws L c m (1+c % m).toNat).2.length<=_;omega
noncomputable def vA (c:Int)(n:Nat):List Nat:=(ls c n).out
theorem AQ (c:Int){n:Nat}(h:n<=6):(vA c n).length=n/\(vA c n).Nodup/\∀ x∈vA c n,small x:=let ok:=Ie c n h;⟨ok.ol,ok.no,ok.so⟩
noncomputable def Lc:Rl:=fun ds r=>∃ (c:Int) (n:Nat),ds=[.int c,.int n]/\n<=6/\r=.ret (.str (tx (vA c n)))
noncomputable def Pu:Rl:=fun ds r=>∃ (L:List Nat) (c m:Int),ds=[.int c,.str (tx L),.int m]/\(0 < L.length/\L.length<=100)/\(0<=c/\0 < m/\m<=500)/\r=.ret (.str (tx (vz L c m)))
theorem Ih (T:Txt K mg t):GF P w K mg base CX 1 "_law_alphabet" 2 Lc:=by
 refine⟨_,_,_,iR T.iZ.F rM rfl fun bx A outer s H E G ds r hr hl hR=>?_,(T.g T.iZ.a),T.iZ.F.kp,T.iZ.b⟩
 obtain⟨c,n,rfl,hn,rfl⟩:=hR
 have nd:=rM.nd
 let S:Nat->List Slot:=fun k=>[.val (.int (ls c k).rest),.val (.int n),.val (.str (tx (ls c k).left)),.val (.str (tx (ls c k).out)),.bV,.bV]
 refine⟨_,.rt _,ak (aB 2 nd bP) (ak (aB 3 nd bP)
   (ak (iQ (o:=.nx (S n)) (m:=n) 4 S nd rfl PassesOwn.leaving T.iC (ae (aa 1 rfl) ai) ⟨by omega,by omega⟩ (Le.of ⟨rfl,rfl,rfl,rfl,trivial⟩) (by omega) (fun k hk=>?_) (by rw[Int.toNat_natCast];exact .all rfl)) (ao (aE (aa 3 rfl)))))⟩
 have ok:=Ie c k (by omega)
 have hl:=ok.len
 have hol:=ok.ol
 have d5:n9 (ls c k) < (ls c k).left.length:=Ic (by omega)
 have ea:(ls c k).rest % (((ls c k).left.length:Nat):Int)=((n9 (ls c k):Nat):Int):=by
   have h0:=Int.emod_nonneg (ls c k).rest (show(((ls c k).left.length:Nat):Int)≠0 by omega)
   unfold n9;omega
 have ea1:((n9 (ls c k):Nat):Int)+1=((n9 (ls c k)+1:Nat):Int):=by omega
 have hb:0 < (((ls c k).left.length:Nat):Int)/\(((ls c k).left.length:Nat):Int).natAbs.log2 < 9000:=⟨by omega,by
   have:(((ls c k).left.length:Nat):Int).natAbs<=26:=by omega
   exact Nat.lt_of_le_of_lt (Nat.log2_le_self _) (by omega)⟩
 exact .nx (ak (aB 5 nd (bu (d8 (aa 0 rfl) (p9 T.iz (aa 2 rfl) (by omega)) (by omega)) (congrArg Dt.int ea)))
   (ak (aB 0 nd (gY (aa 0 rfl) (p9 T.iz (aa 2 rfl) (by omega)) hb))
   (ak (aB 3 nd (yG (aa 3 rfl) (yH (aa 2 rfl) (aa 5 rfl) d5 (by omega)) (by rw[hol];show k+1<=2000;omega)))
   (ao (aB 2 nd (yG (KG (aa 2 rfl) (aa 5 rfl) (Nat.le_of_lt d5) (by omega)) (EC (aa 2 rfl) (bu (aN (aa 5 rfl) af) (congrArg Dt.int ea1)) d5 (by omega)) (by rw[List.length_take,List.length_drop];omega))))))) (Le.of ⟨rfl,rfl,rfl,rfl,trivial⟩)
theorem Ld (T:Txt K mg t):GF P w K mg base CX 1 "_law_text" 3 Pu:=by
 refine⟨_,_,_,iR T.rb.F C8 rfl fun bx A outer s H E G ds r hr hl hR=>?_,(T.g T.rb.a),T.rb.F.kp,T.rb.b⟩
 obtain⟨L,c,m,rfl,⟨hL0,hL⟩,⟨hc,NG,hm⟩,rfl⟩:=hR
 have nd:=C8.nd
 have h0:=Int.emod_nonneg c (show m≠0 by omega)
 have h1:=Int.emod_lt_of_pos c NG
 have hmb:0 < m/\m.natAbs.log2 < 9000:=⟨NG,Nat.lt_of_le_of_lt (Nat.log2_le_self _) (by omega)⟩
 have hLb:0 < ((L.length:Nat):Int)/\((L.length:Nat):Int).natAbs.log2 < 9000:=⟨by omega,Nat.lt_of_le_of_lt (Nat.log2_le_self _) (by omega)⟩
 let S:Nat->List Slot:=fun k=>[.val (.int (ws L c m k).1),.val (.str (tx L)),.val (.int m),.val (.str (tx (ws L c m k).2)),.val (.int (1+c % m)),.bV]
 refine⟨_,.rt _,ak (aB 3 nd bP) (ak (aB 4 nd (aN af (d8 (aa 0 rfl) (aa 2 rfl) NG))) (ak (aB 0 nd (gY (aa 0 rfl) (aa 2 rfl) hmb))
   (ak (iQ (m:=(1+c % m).toNat) 5 S nd rfl PassesOwn.leaving T.iC (ae (aa 4 rfl) ai) ⟨by omega,by omega⟩ (Le.of ⟨rfl,rfl,rfl,rfl,rfl,trivial⟩) (Nat.le_refl _) (fun k hk=>?_) (.all rfl)) (ao (aE (aa 3 rfl))))))⟩
 have Nu:=B6 L c m k
 have h2:=Int.emod_nonneg (ws L c m k).1 (show((L.length:Nat):Int)≠0 by omega)
 have h3:=Int.emod_lt_of_pos (ws L c m k).1 (show(0:Int) < (L.length:Nat) by omega)
 have ea:(ws L c m k).1 % ((L.length:Nat):Int)=((((ws L c m k).1 % (L.length:Nat)).toNat:Nat):Int):=by omega
 exact .nx (ak (aB 3 nd (yG (aa 3 rfl) (yH (aa 1 rfl) (bu (d8 (aa 0 rfl) (p9 T.iz (aa 1 rfl) (by omega)) (by omega)) (congrArg Dt.int ea)) (by omega) (by omega)) (by rw[Nu];show k+1<=2000;omega)))
   (ao (aB 0 nd (gY (aa 0 rfl) (p9 T.iz (aa 1 rfl) (by omega)) hLb)))) (Le.of ⟨rfl,rfl,rfl,rfl,rfl,trivial⟩)
noncomputable def Dy:List Str:=["stroke","left","right","step","rest"]
noncomputable def dG (c:Int):Str:=Dy.getD (c % 5).toNat ""
theorem EL:∀ x∈Dy,x∈mJ:=by decide
theorem Pw (c:Int):dG c∈mJ:=by
 have h0:=Int.emod_nonneg c (show(5:Int)≠0 by decide)
 have h1:=Int.emod_lt_of_pos c (show(0:Int) < 5 by decide)
 have hk:(c % 5).toNat < Dy.length:=by show _ < 5;omega
 refine EL _ ?_
 unfold dG
 rw[List.getD_eq_getElem?_getD,List.getElem?_eq_getElem hk]
 exact List.getElem_mem hk
noncomputable def wk (L:List Nat)(ns:List Int)(m:Int)(k:Nat):Row:=⟨L.getD k 0,dG (bK ns (3+k)),vz L (bK ns (3+k) / 5) m⟩
noncomputable def vB (L:List Nat)(ns:List Int)(m:Int):List Row:=(List.range L.length).map (wk L ns m)
theorem B7 (L:List Nat)(ns:List Int)(m:Int):(vB L ns m).map (·.c)=L:=by
 unfold vB
 rw[List.map_map]
 refine List.ext_getElem (by simp) fun i h1 h2=>?_
 simp only[List.getElem_map,List.getElem_range,Function.comp]
 show L.getD i 0=L[i]
 rw[List.getD_eq_getElem?_getD,List.getElem?_eq_getElem h2];rfl
theorem Ii {L:List Nat}(ns:List Int){m:Int}(hm:0 < m/\m<=8)(h0:0 < L.length)(h6:L.length<=6)(nd:L.Nodup)(sm:∀ x∈L,small x):dn (vB L ns m):=by
 have hl:(vB L ns m).length=L.length:=by unfold vB;rw[List.length_map,List.length_range]
 have get:∀ r∈vB L ns m,∃ k,k < L.length/\r=wk L ns m k:=fun r hr=>by
   obtain⟨k,hk,e⟩:=List.mem_map.mp hr
   exact⟨k,List.mem_range.mp hk,e.symm⟩
 refine⟨by omega,by omega,by rw[B7];exact nd,fun r hr=>?_,fun r hr=>?_,fun r hr=>?_,fun r hr x hx=>?_⟩
 . obtain⟨k,hk,rfl⟩:=get r hr
   refine sm _ ?_
   show L.getD k 0∈L
   rw[List.getD_eq_getElem?_getD,List.getElem?_eq_getElem hk]
   exact List.getElem_mem hk
 . obtain⟨k,hk,rfl⟩:=get r hr
   exact Pw _
 . obtain⟨k,hk,rfl⟩:=get r hr
   have:=yV h0 (bK ns (3+k) / 5) m hm.1
   exact⟨this.1,by have:=this.2.1;show(vz _ _ _).length<=8;omega⟩
 . obtain⟨k,hk,rfl⟩:=get r hr
   rw[B7]
   exact(yV h0 (bK ns (3+k) / 5) m hm.1).2.2 x hx
noncomputable def rB (ns:List Int)(far:Int):Int:=if bK ns 1 % 8=6 then bK ns 1 / 8 % (far+1) else bK ns 1 / 8 % 13
noncomputable def oK (ns:List Int)(far:Int):Int:=if bK ns 1 % 8=7 then 200 - bK ns 1 / 8 % 100 else rB ns far
noncomputable def iJ (ns:List Int):Int:=if bK ns 1 % 8=7 then 1+bK ns 0 / 2 % 2 else 1+bK ns 0 / 2 % 6
noncomputable def rC (ns:List Int):Int:=if bK ns 1 % 8=7 then 2 else 8
noncomputable def Dz (ns:List Int):List Nat:=vA (bK ns 0 / 12) (iJ ns).toNat
noncomputable def vC (ns:List Int):List Row:=vB (Dz ns) ns (rC ns)
noncomputable def tT (ns:List Int):List Nat:=vz (Dz ns) (bK ns 2) 8
noncomputable def DB (ns:List Int):Bool:=decide (bK ns 0 % 2=1)
theorem SW (ns:List Int):4+2 * (bK ns 0 % 2)=wy (DB ns):=by
 have:bK ns 0 % 2=0\/bK ns 0 % 2=1:=by omega
 unfold DB
 rcases this with h | h <;> rw[h] <;> rfl
theorem vD (ns:List Int):1<=iJ ns/\iJ ns<=6:=by
 unfold iJ
 split <;> omega
theorem AR (ns:List Int):0 < rC ns/\rC ns<=8:=by
 unfold rC
 split <;> omega
theorem Lf (ns:List Int){far:Int}(h0:0<=far)(h:far<=200):0<=oK ns far/\oK ns far<=200:=by
 have h1:=Int.emod_nonneg (bK ns 1 / 8) (show far+1≠0 by omega)
 have h2:=Int.emod_lt_of_pos (bK ns 1 / 8) (show(0:Int) < far+1 by omega)
 unfold oK rB
 split
 . omega
 . split <;> omega
theorem B8 (ns:List Int):0 < (Dz ns).length/\(Dz ns).length<=6/\(Dz ns).Nodup/\∀ x∈Dz ns,small x:=by
 have hb:=vD ns
 have ok:=AQ (bK ns 0 / 12) (n:=(iJ ns).toNat) (by omega)
 unfold Dz
 exact⟨by omega,by omega,ok.2.1,ok.2.2⟩
theorem Px (ns:List Int):(Dz ns).length=(iJ ns).toNat:=by
 have hb:=vD ns
 exact(AQ (bK ns 0 / 12) (n:=(iJ ns).toNat) (by omega)).1
theorem SY (ns:List Int):dn (vC ns):=let h:=B8 ns;Ii ns (AR ns) h.1 h.2.1 h.2.2.1 h.2.2.2
theorem S5 (ns:List Int):sx (vC ns) (tT ns):=by
 have h:=B8 ns
 have w:=yV h.1 (bK ns 2) 8 (by decide)
 exact⟨SY ns,w.1,w.2.1,fun x hx=>by unfold vC;rw[B7];exact w.2.2 x hx⟩
noncomputable def Lg:Rl:=fun ds r=>∃ (ns:List Int) (far:Int),ds=[.oy ns,.int far]/\(0<=far/\far<=200)/\r=.ret (.tup [.int (wy (DB ns)),.lst ((vC ns).map mO),.str (tx (tT ns)),.int (oK ns far)])
theorem Ij (T:Txt K mg t):GF P w K mg base CX 2 "_law_shape" 2 Lg:=by
 refine⟨_,_,_,iR T.nV.F Ak rfl fun bx A outer s H E G ds r hr hl hR=>?_,(T.g T.nV.a),T.nV.F.kp,T.nV.b⟩
 obtain⟨ns,far,rfl,⟨hf0,hf⟩,rfl⟩:=hR
 have nd:=Ak.nd
 have mC:=AO (P:=P) (w:=w) (base:=base) T
 have Lh:=Ih (P:=P) (w:=w) (base:=base) T
 have Ik:=Ld (P:=P) (w:=w) (base:=base) T
 have hM:=vD ns
 have hm:=AR ns
 have hL:=B8 ns
 have hlen:=Px ns
 have eM:iJ ns=(((iJ ns).toNat:Nat):Int):=by omega
 let c0:=bK ns 0
 let c1:=bK ns 1
 let L:=Dz ns
 let m:=rC ns
 let D:Int->Int->Int->List Slot:=fun a b c=>[.val (.oy ns),.val (.int far),.val (.int c0),.val (.int (c1 % 8)),.val (.int a),.val (.int b),.val (.int c),.bV,.bV,.bV,.bV,.bV,.bV]
 let S:Nat->List Slot:=fun k=>[.val (.oy ns),.val (.int far),.val (.int c0),.val (.int (c1 % 8)),.val (.int (oK ns far)),.val (.int (iJ ns)),.val (.int m),.val (.str (tx L)),.own (.lst (((List.range k).map (wk L ns m)).map mO)),.bV,.bV,.bV,.bV]
 have cl:∀ (j:Nat),j<=100->Dx [.oy ns,.int j] (.ret (.int (bK ns j))):=fun j hj=>⟨ns,j,rfl,hj,rfl⟩
 refine⟨_,.rt _,ak (aB 2 nd (b5 mC aA hr (ae (aa 0 rfl) (ae af ai)) (cl 0 (by decide))))
   (ak (aB 3 nd (d8 (b5 mC aA hr (ae (aa 0 rfl) (ae af ai)) (cl 1 (by decide))) af (by decide)))
   (ak (aB 4 nd (d8 (gY (b5 mC aA hr (ae (aa 0 rfl) (ae af ai)) (cl 1 (by decide))) af ⟨by decide,by decide +kernel⟩) af (by decide)))
   (ak (aB 5 nd (aN af (d8 (gY (aa 2 rfl) af ⟨by decide,by decide +kernel⟩) af (by decide))))
   (ak (aB 6 nd af)
   (ak (dl1:=D (rB ns far) (1+c0 / 2 % 6) 8) (bh (kY (aa 3 rfl) af) (fun h=>?_) (fun h=>?_))
   (ak (dl1:=D (oK ns far) (iJ ns) m) (bh (kY (aa 3 rfl) af) (fun h=>?_) (fun h=>?_))
   (ak (aB 7 nd (d:=.str (tx L)) (b5 Lh aA hr (ae (gY (aa 2 rfl) af ⟨by decide,by decide +kernel⟩) (ae (bu (aa 5 rfl) (congrArg Dt.int eM)) ai)) ⟨c0 / 12,(iJ ns).toNat,rfl,by omega,rfl⟩))
   (ak (lX 8 nd (ux ai AA3))
   (ak (dl1:=S L.length) (iQ (o:=.nx (S L.length)) (m:=L.length) 9 S nd rfl PassesOwn.leaving T.iC (ae (bu (aa 5 rfl) (congrArg Dt.int eM)) ai) ⟨by omega,by omega⟩ (Le.of ⟨rfl,rfl,rfl,rfl,rfl,rfl,rfl,rfl,rfl,trivial⟩) (by show(Dz ns).length<=_;omega) (fun k hk=>?_) (by rw[Int.toNat_natCast,<- hlen];exact .all rfl))
   (ak (aB 12 nd (d:=.str (tx (tT ns))) (b5 Ik aA hr (ae (b5 mC aA hr (ae (aa 0 rfl) (ae af ai)) (cl 2 (by decide))) (ae (aa 7 rfl) (ae af ai))) ⟨L,bK ns 2,8,rfl,⟨hL.1,by show(Dz ns).length<=100;omega⟩,⟨AN _ _,by decide,by decide⟩,rfl⟩))
   (qJ (w:=.lst (((List.range L.length).map (wk L ns m)).map mO)) 8 (ao (aE (aS (ae (bu (aN af (fP af (d8 (aa 2 rfl) af (by decide)) (pv.ok (Or.inl ⟨by decide,by decide⟩)))) (congrArg Dt.int (SW ns))) (ae (aa 8 rfl) (ae (aa 12 rfl) (ae (aa 4 rfl) ai)))) AA3))))))))))))))⟩
 . have h:=of_decide_eq_true h
   have e:rB ns far=c1 / 8 % (far+1):=if_pos h
   rw[e]
   exact ao (aB 4 nd (d8 (gY (b5 mC aA hr (ae (aa 0 rfl) (ae af ai)) (cl 1 (by decide))) af ⟨by decide,by decide +kernel⟩) (aN (aa 1 rfl) af) (by omega)))
 . have h:=of_decide_eq_false h
   have e:rB ns far=c1 / 8 % 13:=if_neg h
   rw[e]
   exact bC
 . have h:=of_decide_eq_true h
   have e1:oK ns far=200 - c1 / 8 % 100:=if_pos h
   have e2:iJ ns=1+c0 / 2 % 2:=if_pos h
   have e3:m=2:=if_pos h
   rw[e1,e2,e3]
   exact ak (aB 4 nd (gM af (d8 (gY (b5 mC aA hr (ae (aa 0 rfl) (ae af ai)) (cl 1 (by decide))) af ⟨by decide,by decide +kernel⟩) af (by decide))))
     (ak (aB 5 nd (aN af (d8 (gY (aa 2 rfl) af ⟨by decide,by decide +kernel⟩) af (by decide)))) (ao (aB 6 nd af)))
 . have h:=of_decide_eq_false h
   have e1:oK ns far=rB ns far:=if_neg h
   have e2:iJ ns=1+c0 / 2 % 6:=if_neg h
   have e3:m=8:=if_neg h
   rw[e1,e2,e3]
   exact bC
 . have hk:k < (Dz ns).length:=hk
   have h0:=Int.emod_nonneg (bK ns (3+k)) (show(5:Int)≠0 by decide)
   have h1:=Int.emod_lt_of_pos (bK ns (3+k)) (show(0:Int) < 5 by decide)
   have hnn:=AN ns (3+k)
   have e:((List.range (k+1)).map (wk L ns m)).map mO=((List.range k).map (wk L ns m)).map mO ++ [mO (wk L ns m k)]:=by
     rw[List.range_succ,List.map_append,List.map_append];rfl
   refine .nx (ak (aB 10 nd (b5 mC aA hr (ae (aa 0 rfl) (ae (bu (aN af (aa 9 rfl)) (congrArg Dt.int (show(3:Int)+(k:Int)=((3+k:Nat):Int) by omega))) ai)) (cl (3+k) (by omega))))
     (ak (aB 11 nd (d:=.str (dG (bK ns (3+k)))) (ar (aS (ae bP (ae bP (ae bP (ae bP (ae bP ai))))) AA3) (d8 (aa 10 rfl) af (by decide)) (at_getD (L:=Dy) (n:=5) rfl h0 h1)))
     (ao (Ec (ds:=((List.range k).map (wk L ns m)).map mO) 8 (d:=mO (wk L ns m k)) (aS (ae (yH (aa 7 rfl) (aa 9 rfl) hk (by show(Dz ns).length<=2000;omega)) (ae (aa 11 rfl) (ae (b5 Ik aA hr (ae (gY (aa 10 rfl) af ⟨by decide,by decide +kernel⟩) (ae (aa 7 rfl) (ae (aa 6 rfl) ai))) ⟨L,bK ns (3+k) / 5,m,rfl,⟨hL.1,by show(Dz ns).length<=100;omega⟩,⟨Int.ediv_nonneg hnn (by decide),hm.1,by have:=hm.2;show rC ns<=500;omega⟩,rfl⟩) ai))) AA3) (by rw[List.length_map,List.length_map,List.length_range];exact Nat.lt_of_lt_of_le (show k < 2000 by omega) (by decide)))))) (Le.of ⟨rfl,rfl,rfl,rfl,rfl,rfl,rfl,rfl,?_,trivial⟩)
   show Slot.own (.lst (((List.range (k+1)).map (wk L ns m)).map mO))=_
   rw[e]
theorem Il (B:List Nat)(f g:Nat->Int):(B.map fun b=>f b+g b).sum=(B.map f).sum+(B.map g).sum:=by
 induction B with
 | nil=>rfl
 | cons b B ih=>rw[List.map_cons,List.sum_cons,ih,List.map_cons,List.sum_cons,List.map_cons,List.sum_cons];omega
theorem Im (B:List Nat):(B.map fun _=>(0:Int)).sum=0:=by
 induction B with
 | nil=>rfl
 | cons b B ih=>rw[List.map_cons,List.sum_cons,ih];rfl
theorem EM (A B:List Nat)(f:Nat->Nat->Int):(A.map fun a=>(B.map fun b=>f a b).sum).sum=(B.map fun b=>(A.map fun a=>f a b).sum).sum:=by
 induction A with
 | nil=>exact(Im B).symm
 | cons a A ih=>
   rw[List.map_cons,List.sum_cons,ih,<- Il]
   rfl
noncomputable def gP (rows:List Row):Nat->Nat->List Nat
 | 0,c=>[c]
 | r+1,c=>(wordOf rows c).flatMap (gP rows r)
theorem WO (rows:List Row)(r c:Nat):lT rows (r+1) c=((wordOf rows c).map (lT rows r)).sum:=by
 unfold lT
 exact(EM (wordOf rows c) (rows.map (·.c)) fun y x=>cT rows r y x).symm
theorem EN {rows:List Row}(ok:dn rows){c:Nat}(hc:c∈rows.map (·.c)):(∀ y∈wordOf rows c,y∈rows.map (·.c))/\0 < (wordOf rows c).length/\(wordOf rows c).length<=8:=by
 obtain⟨q,hq,_,_,ew⟩:=iH hc
 rw[ew]
 exact⟨ok.wo q hq,ok.wp q hq⟩
theorem vE {f:Nat->List Nat}{g:Nat->Int}:∀ {w:List Nat},(∀ y∈w,(((f y).length:Nat):Int)=g y)->(((w.flatMap f).length:Nat):Int)=(w.map g).sum
 | [],_=>rfl
 | y::w,h=>by
   rw[List.flatMap_cons,List.length_append,List.map_cons,List.sum_cons,<- h y (by simp),<- vE (f:=f) (g:=g) fun z hz=>h z (by simp[hz])]
   omega
theorem Io {rows:List Row}(ok:dn rows):∀ (r:Nat) {c:Nat},c∈rows.map (·.c)->(((gP rows r c).length:Nat):Int)=lT rows r c
 | 0,c,hc=>by rw[SN ok hc];rfl
 | r+1,c,hc=>by
   rw[WO]
   exact vE fun y hy=>Io ok r ((EN ok hc).1 y hy)
noncomputable abbrev Pc:=Nat×Nat
noncomputable def flat (rows:List Row)(st:List Pc):List Nat:=st.flatMap fun p=>gP rows p.1 p.2
noncomputable def wp (r:Nat)(w:List Nat):List Pc:=w.map fun c=>(r,c)
structure PS where
 place:Nat
 st:List Pc
 bt:List Pc
noncomputable def WQ (rows:List Row)(b e:Nat)(s:PS):PS:=match s.st with
 | []=>s
 | p::st=>
   if s.place+(gP rows p.1 p.2).length<=b then ⟨s.place+(gP rows p.1 p.2).length,st,s.bt⟩
   else if b<=s.place/\s.place+(gP rows p.1 p.2).length<=e then ⟨s.place+(gP rows p.1 p.2).length,st,s.bt ++ [p]⟩
   else ⟨s.place,wp (p.1 - 1) (wordOf rows p.2) ++ st,s.bt⟩
noncomputable def run (rows:List Row)(b e:Nat)(s:PS):Nat->PS
 | 0=>s
 | k+1=>WQ rows b e (run rows b e s k)
structure PIn (rows:List Row)(age b e:Nat)(W:List Nat)(s:PS):Prop where
 be:b<=e
 ew:e<=W.length
 pe:s.place<=e
 fl:flat rows s.st=W.drop s.place
 fb:flat rows s.bt=(W.take s.place).drop b
 mb:∀ p∈s.st,p.2∈rows.map (·.c)/\p.1<=age
 mt:∀ p∈s.bt,p.2∈rows.map (·.c)/\p.1<=age
noncomputable def ins (b p q:Nat):Nat:=if p < b/\b < q then 1 else 0
noncomputable def mu (rows:List Row)(b e:Nat):Nat->List Pc->Nat
 | _,[]=>0
 | p,x::st=>1+8 * x.1 * (ins b p (p+(gP rows x.1 x.2).length)+ins e p (p+(gP rows x.1 x.2).length))+mu rows b e (p+(gP rows x.1 x.2).length) st
noncomputable def WR (rows:List Row)(w:List Nat)(age:Nat):List Nat:=w.flatMap (gP rows age)
theorem Li {rows:List Row}{w:List Nat}(ok:sx rows w)(age:Nat):(((WR rows w age).length:Nat):Int)=Ug rows w age:=vE fun y hy=>Io ok.ok age (ok.wm y hy)
noncomputable def grow (rows:List Row)(w:List Nat):List Nat:=(w.map (wordOf rows)).flatten
noncomputable abbrev Ip (t:ee)(six:Bool)(rows:List Row)(w:List Nat)(l:Addr)(ls:iK)(n:Nat):Dt:=.obj t.ay (t.oo six rows w l ls n)
theorem Lj (rows:List Row)(c n:Nat):WR rows [c] n=gP rows n c:=by unfold WR;simp
theorem B9 (six:Bool)(w:Int)(p q:Int×Int):iM six w (ad p q)=iM six w p+iM six w q:=by
 unfold iM ad
 cases six
 . simp only[Bool.false_eq_true,if_false]
   split
   . rfl
   . split
     . rfl
     . split <;> omega
 . simp only[if_true]
   split
   . omega
   . split
     . omega
     . split
       . omega
       . split
         . omega
         . split <;> omega
theorem AS (six:Bool){w:Nat}(h:w < wn six)(b:Int)(p:Int×Int):iM six (((w:Int) - b) % wy six) p=iM six w (tn six (b % wy six).toNat p):=by
 have hw:=qd six
 have h0:=Int.emod_nonneg ((w:Int) - b) (Int.ne_of_gt (eK six))
 have h1:=Int.emod_lt_of_pos ((w:Int) - b) (eK six)
 have k:=Hz six h0 h1 b p
 rw[<- k]
 congr 1
 cases six with
 | false=>show(((w:Int) - b) % 4+b) % 4=w;have:w < 4:=h;omega
 | true=>show(((w:Int) - b) % 6+b) % 6=w;have:w < 6:=h;omega
theorem vF (six:Bool)(ns:List Int)(f:Int){w:Nat}(h:w < wn six):(mP six ns f).getD w 0=ns.getD (((w:Int) - f) % wy six).toNat 0:=by
 unfold mP
 rw[List.getD_eq_getElem?_getD,List.getElem?_map,List.getElem?_range h];rfl
theorem yW (six:Bool)(w:Nat)(b:Int):(((w:Int) - b) % wy six).toNat < wn six/\((((w:Int) - b) % wy six).toNat:Int)=((w:Int) - b) % wy six:=by
 have hw:=qd six
 have h0:=Int.emod_nonneg ((w:Int) - b) (Int.ne_of_gt (eK six))
 have h1:=Int.emod_lt_of_pos ((w:Int) - b) (eK six)
 omega
theorem kH {f:Nat->Int}{n k:Nat}(h:k < n):((List.range n).map f).getD k 0=f k:=by
 rw[List.getD_eq_getElem?_getD,List.getElem?_map,List.getElem?_range h];rfl
noncomputable def Py (p q:Int):Int:=if q<=p then p else q
theorem jq (six:Bool)(x y:Tr){w:Nat}(h:w < wn six):(jn six x y).reach.getD w 0=Py (x.reach.getD w 0) (y.reach.getD (((w:Int) - x.turn) % wy six).toNat 0+iM six w x.shift):=by
 show((List.range (wn six)).map (om six x y)).getD w 0=_
 rw[kH h]
 unfold om Py
 rw[vF six _ _ h]
theorem lM (six:Bool)(x y:Tr){w:Nat}(h:w < wn six):(jn six x y).aJ.getD w 0=if y.reach.getD (((w:Int) - x.turn) % wy six).toNat 0+iM six w x.shift<=x.reach.getD w 0 then x.aJ.getD w 0 else y.aJ.getD (((w:Int) - x.turn) % wy six).toNat 0+x.many:=by
 show((List.range (wn six)).map (o4 six x y)).getD w 0=_
 rw[kH h]
 unfold o4
 rw[vF six _ _ h,vF six _ _ h]
theorem Iq (six:Bool):∀ (n:Nat) (p q:Int×Int),tn six n (ad p q)=ad (tn six n p) (tn six n q)
 | 0,p,q=>rfl
 | n+1,p,q=>by
   rw[tn,tn,tn,Iq six n]
   generalize tn six n p=a
   generalize tn six n q=b
   cases six
   . simp only[Pf.tl,ad,Bool.false_eq_true,if_false];refine Prod.ext ?_ ?_ <;> simp only <;> omega
   . simp only[Pf.tl,ad,if_true];refine Prod.ext ?_ ?_ <;> simp only <;> omega
theorem Ca (six:Bool)(p:Int×Int)(b:Nat):∀ a:Nat,tn six (a+b) p=tn six a (tn six b p)
 | 0=>by rw[Nat.zero_add];rfl
 | a+1=>by
   rw[Nat.succ_add]
   show Pf.tl six (tn six (a+b) p)=Pf.tl six (tn six a (tn six b p))
   rw[Ca six p b a]
theorem Pz (six:Bool)(p:Int×Int):tn six (wn six) p=p:=by
 obtain⟨x,y⟩:=p
 cases six with
 | false=>show Pf.tl false (Pf.tl false (Pf.tl false (Pf.tl false (x,y))))=_;simp[Pf.tl]
 | true=>show Pf.tl true (Pf.tl true (Pf.tl true (Pf.tl true (Pf.tl true (Pf.tl true (x,y))))))=_;simp[Pf.tl];omega
theorem Ir (six:Bool)(p:Int×Int)(r:Nat):∀ q:Nat,tn six (r+wn six * q) p=tn six r p
 | 0=>rfl
 | q+1=>by rw[Nat.mul_succ,<- Nat.add_assoc,Ca,Pz,Ir six p r q]
theorem Iu (six:Bool)(a b:Int)(p:Int×Int):tn six (a % wy six).toNat (tn six (b % wy six).toNat p)=tn six (((a+b) % wy six) % wy six).toNat p:=by
 rw[<- Ca,<- Nat.mod_add_div ((a % wy six).toNat+(b % wy six).toNat) (wn six),Ir]
 congr 1
 have hw:=qd six
 have hp:=eK six
 have h1:=Int.emod_nonneg a (Int.ne_of_gt hp)
 have h2:=Int.emod_nonneg b (Int.ne_of_gt hp)
 have e:((((a % wy six).toNat+(b % wy six).toNat) % wn six:Nat):Int)=((a+b) % wy six) % wy six:=by
   rw[Int.natCast_emod,hw,Int.natCast_add,Int.toNat_of_nonneg h1,Int.toNat_of_nonneg h2,Int.emod_emod,<- Int.add_emod]
 omega
theorem S6 (six:Bool)(p q:Int×Int):cr (Pf.tl six p) (Pf.tl six q)=cr p q:=by
 unfold cr Pf.tl
 cases six
 . simp only[Bool.false_eq_true,if_false]
   have h1:-p.2 * q.1=-(p.2 * q.1):=Int.neg_mul _ _
   have h2:p.1 * -q.2=-(p.1 * q.2):=Int.mul_neg _ _
   omega
 . simp only[if_true]
   have h1:-p.2 * (q.1+q.2)=-(p.2 * q.1) - p.2 * q.2:=by rw[Int.neg_mul,Int.mul_add];omega
   have h2:(p.1+p.2) * -q.2=-(p.1 * q.2) - p.2 * q.2:=by rw[Int.mul_neg,Int.add_mul];omega
   omega
theorem Mv (six:Bool):∀ (n:Nat) (p q:Int×Int),cr (tn six n p) (tn six n q)=cr p q
 | 0,_,_=>rfl
 | n+1,p,q=>by rw[tn,tn,S6,Mv six n]
theorem Lk (p q r:Int×Int):cr p (ad q r)=cr p q+cr p r:=by
 unfold cr ad
 simp only[Int.mul_add];omega
theorem Ll (p q r:Int×Int):cr (ad p q) r=cr p r+cr q r:=by
 unfold cr ad
 simp only[Int.add_mul];omega
theorem Iv (p q r:Int×Int):ad p (ad q r)=ad (ad p q) r:=by
 unfold ad
 refine Prod.ext ?_ ?_ <;> simp only <;> omega
theorem list_eq {six:Bool}{a b:List Int}(ha:a.length=wn six)(hb:b.length=wn six)(h:∀ w,w < wn six->a.getD w 0=b.getD w 0):a=b:=by
 refine List.ext_getElem (by omega) fun i h1 h2=>?_
 have:=h i (by omega)
 rw[List.getD_eq_getElem?_getD,List.getD_eq_getElem?_getD,List.getElem?_eq_getElem h1,List.getElem?_eq_getElem h2] at this
 exact this
theorem rD (six:Bool)(x y:Tr):(jn six x y).reach.length=wn six/\(jn six x y).aJ.length=wn six:=by unfold jn;simp
theorem Iw (six:Bool)(x y z:Tr):jn six x (jn six y z)=jn six (jn six x y) z:=by
 have key:∀ w,w < wn six->∃ v u:Nat,v < wn six/\u < wn six/\(((w:Int) - x.turn) % wy six).toNat=v/\(((v:Int) - y.turn) % wy six).toNat=u/\(((w:Int) - (x.turn+y.turn) % wy six) % wy six).toNat=u/\iM six w (tn six (x.turn % wy six).toNat y.shift)=iM six v y.shift:=by
   intro w hw
   obtain⟨h1,h2⟩:=yW six w x.turn
   obtain⟨h3,h4⟩:=yW six (((w:Int) - x.turn) % wy six).toNat y.turn
   refine⟨_,_,h1,h3,rfl,rfl,?_,?_⟩
   . rw[h2]
     cases six with
     | false=>show(((w:Int) - (x.turn+y.turn) % 4) % 4).toNat=(((w - x.turn) % 4 - y.turn) % 4).toNat;congr 1;omega
     | true=>show(((w:Int) - (x.turn+y.turn) % 6) % 6).toNat=(((w - x.turn) % 6 - y.turn) % 6).toNat;congr 1;omega
   . rw[h2,AS six hw]
 have hr:(jn six x (jn six y z)).reach=(jn six (jn six x y) z).reach:=by
   refine list_eq (rD _ _ _).1 (rD _ _ _).1 fun w hw=>?_
   obtain⟨v,u,hv,hu,e1,e2,e3,e4⟩:=key w hw
   rw[jq six _ _ hw,jq six _ _ hw,jq six _ _ hw,e1,jq six _ _ hv,e2]
   show _=Py _ (z.reach.getD (((w:Int) - (x.turn+y.turn) % wy six) % wy six).toNat 0+iM six w (ad x.shift (tn six (x.turn % wy six).toNat y.shift)))
   rw[e3,B9,e4]
   unfold Py
   split <;> split <;> split <;> (try split) <;> omega
 have ht:(jn six x (jn six y z)).aJ=(jn six (jn six x y) z).aJ:=by
   refine list_eq (rD _ _ _).2 (rD _ _ _).2 fun w hw=>?_
   obtain⟨v,u,hv,hu,e1,e2,e3,e4⟩:=key w hw
   rw[lM six _ _ hw,lM six (jn six x y) _ hw,lM six x y hw,jq six x y hw,e1,jq six _ _ hv,lM six _ _ hv,e2]
   show _=if z.reach.getD (((w:Int) - (x.turn+y.turn) % wy six) % wy six).toNat 0+iM six w (ad x.shift (tn six (x.turn % wy six).toNat y.shift))<=_ then _ else z.aJ.getD (((w:Int) - (x.turn+y.turn) % wy six) % wy six).toNat 0+(x.many+y.many)
   rw[e3,B9,e4]
   unfold Py
   split <;> split <;> split <;> (try split) <;> (try split) <;> omega
 have e1:(jn six x (jn six y z)).turn=(jn six (jn six x y) z).turn:=by
   show(x.turn+(y.turn+z.turn) % wy six) % wy six=((x.turn+y.turn) % wy six+z.turn) % wy six
   rw[Int.add_emod_emod,Int.emod_add_emod,Int.add_assoc]
 have e2:(jn six x (jn six y z)).shift=(jn six (jn six x y) z).shift:=by
   show ad x.shift (tn six (x.turn % wy six).toNat (ad y.shift (tn six (y.turn % wy six).toNat z.shift)))=ad (ad x.shift (tn six (x.turn % wy six).toNat y.shift)) (tn six (((x.turn+y.turn) % wy six) % wy six).toNat z.shift)
   rw[Iq,Iu,Iv]
 have e3:(jn six x (jn six y z)).f9=(jn six (jn six x y) z).f9:=by
   show x.f9+(y.f9+z.f9+cr y.shift (tn six (y.turn % wy six).toNat z.shift))+cr x.shift (tn six (x.turn % wy six).toNat (ad y.shift (tn six (y.turn % wy six).toNat z.shift)))
     = x.f9+y.f9+cr x.shift (tn six (x.turn % wy six).toNat y.shift)+z.f9+cr (ad x.shift (tn six (x.turn % wy six).toNat y.shift)) (tn six (((x.turn+y.turn) % wy six) % wy six).toNat z.shift)
   have q:=Mv six (x.turn % wy six).toNat y.shift (tn six (y.turn % wy six).toNat z.shift)
   rw[Iu] at q
   rw[Iq,Iu,Lk,Ll,<- q]
   omega
 have e4:(jn six x (jn six y z)).many=(jn six (jn six x y) z).many:=(Int.add_assoc _ _ _).symm
 have e5:(jn six x (jn six y z)).bH=(jn six (jn six x y) z).bH:=(Int.add_assoc _ _ _).symm
 generalize jn six x (jn six y z)=a at hr ht e1 e2 e3 e4 e5
 generalize jn six (jn six x y) z=b at hr ht e1 e2 e3 e4 e5
 cases a;cases b
 simp only at hr ht e1 e2 e3 e4 e5
 subst hr ht e1 e2 e3 e4 e5
 rfl
noncomputable def AU (six:Bool)(xs:List Str)(k:Nat):Int×Int:=(b0 six (xs.take k)).shift
theorem Iy (six:Bool)(xs:List Str):0<=(b0 six xs).turn/\(b0 six xs).turn < wy six:=by
 by_cases h:xs=[]
 . subst h;exact⟨Int.le_refl _,eK six⟩
 . rw[<- List.dropLast_concat_getLast h,kG]
   exact⟨Int.emod_nonneg _ (Int.ne_of_gt (eK six)),Int.emod_lt_of_pos _ (eK six)⟩
noncomputable def rec (six:Bool)(xs:List Str)(w:Int):Nat->Int×Int
 | 0=>(0,0)
 | j+1=>if (rec six xs w j).1 < iM six w (AU six xs j) then (iM six w (AU six xs j),j) else rec six xs w j
theorem AV (six:Bool)(xs:List Str)(d:Str)(w:Int):∀ j,j<=xs.length+1->rec six (xs ++ [d]) w j=rec six xs w j
 | 0,_=>rfl
 | j+1,h=>by
   rw[rec,rec,AV six xs d w j (by omega)]
   have e:AU six (xs ++ [d]) j=AU six xs j:=by
     unfold AU
     rw[List.take_append_of_le_length (by omega)]
   rw[e]
theorem AW (six:Bool)(w:Int):iM six w (0,0)=0:=by
 unfold iM
 cases six <;> simp
theorem DC (six:Bool){w:Nat}(hw:w < wn six):∀ (n:Nat) (xs:List Str),xs.length=n->rec six xs w (n+1)=((b0 six xs).reach.getD w 0,(b0 six xs).aJ.getD w 0)/\iM six w (b0 six xs).shift<=(b0 six xs).reach.getD w 0:=by
 intro n
 induction n with
 | zero=>
   intro xs h
   have e:xs=[]:=List.eq_nil_of_length_eq_zero h
   subst e
   have e1:(b0 six []).reach.getD w 0=0:=by
     show(List.replicate (wn six) (0:Int)).getD w 0=0
     rw[List.getD_eq_getElem?_getD,List.getElem?_replicate];split <;> rfl
   have e2:(b0 six []).aJ.getD w 0=0:=e1
   have e3:iM six w (AU six [] 0)=0:=AW six w
   have e4:iM six w (b0 six []).shift=0:=AW six w
   rw[e1,e2,e4,rec,rec,e3]
   simp
 | succ n ih=>
   intro xs h
   have A4:xs≠[]:=fun e=>by rw[e] at h;cases h
   have e:=List.dropLast_concat_getLast A4
   have hl:xs.dropLast.length=n:=by rw[List.length_dropLast];omega
   generalize xs.getLast A4=d at e
   generalize xs.dropLast=ys at e hl
   subst e
   obtain⟨h1,h2⟩:=ih ys hl
   rw[rec,AV six ys d w (n+1) (by omega),h1]
   have es:AU six (ys ++ [d]) (n+1)=(b0 six (ys ++ [d])).shift:=by
     unfold AU
     rw[List.take_of_length_le (by rw[List.length_append];simp;omega)]
   rw[es,kG,jq six _ _ hw,lM six _ _ hw]
   obtain⟨b1,b2⟩:=yW six w (b0 six ys).turn
   have r1:(one six d).reach.getD (((w:Int) - (b0 six ys).turn) % wy six).toNat 0=mz six d (((w:Int) - (b0 six ys).turn) % wy six).toNat:=kH b1
   have t1:(one six d).aJ.getD (((w:Int) - (b0 six ys).turn) % wy six).toNat 0=if mz six d (((w:Int) - (b0 six ys).turn) % wy six).toNat < 1 then mz six d (((w:Int) - (b0 six ys).turn) % wy six).toNat else 1:=kH (f:=fun k=>if mz six d k < 1 then mz six d k else 1) b1
   rw[r1,t1]
   unfold mz
   rw[b2,AS six hw]
   have ec:iM six w (jn six (b0 six ys) (one six d)).shift=iM six w (b0 six ys).shift+iM six w (tn six ((b0 six ys).turn % wy six).toNat (tR six d (0,0) 0).1):=B9 six w _ _
   rw[ec]
   have hm:=(AG six n ys hl).1
   rw[hm]
   generalize iM six w (tn six ((b0 six ys).turn % wy six).toNat (tR six d (0,0) 0).1)=D
   generalize iM six w (b0 six ys).shift=B at h2 ⊢
   generalize (b0 six ys).reach.getD w 0=A at h2 ⊢
   generalize (b0 six ys).aJ.getD w 0=U
   unfold Py
   refine⟨?_,?_⟩
   . by_cases c1:D > 0
     . simp only[if_pos c1]
       by_cases c2:D+B<=A
       . simp only[if_pos c2]
         rw[if_neg (by omega)]
       . simp only[if_neg c2]
         rw[if_pos (by omega),if_neg (by omega)]
         refine Prod.ext ?_ ?_
         . show B+D=D+B;omega
         . show((n+1:Nat):Int)=1+n;omega
     . simp only[if_neg c1]
       rw[if_neg (by omega)]
       have c2:0+B<=A:=by omega
       simp only[if_pos c2]
   . by_cases c1:D > 0
     . simp only[if_pos c1];split <;> omega
     . simp only[if_neg c1];split <;> omega
theorem PB (six:Bool)(xs:List Str):jn six (b0 six xs) (zc six)=b0 six xs:=by
 have w:=HH six _ xs rfl
 have tt:=Iy six xs
 have z:∀ k,(zc six).reach.getD k 0=0:=fun k=>by
   show(List.replicate (wn six) (0:Int)).getD k 0=0
   rw[List.getD_eq_getElem?_getD,List.getElem?_replicate];split <;> rfl
 have hr:(jn six (b0 six xs) (zc six)).reach=(b0 six xs).reach:=list_eq (rD _ _ _).1 w.2.2.1 fun v hv=>by
   have:=(DC six hv _ xs rfl).2
   rw[jq six _ _ hv,z]
   unfold Py
   rw[if_pos (by omega)]
 have ht:(jn six (b0 six xs) (zc six)).aJ=(b0 six xs).aJ:=list_eq (rD _ _ _).2 w.2.2.2 fun v hv=>by
   have:=(DC six hv _ xs rfl).2
   rw[lM six _ _ hv,z,if_pos (by omega)]
 have e1:(jn six (b0 six xs) (zc six)).turn=(b0 six xs).turn:=by
   show((b0 six xs).turn+0) % wy six=_
   rw[Int.add_zero,Int.emod_eq_of_lt tt.1 tt.2]
 have e2:(jn six (b0 six xs) (zc six)).shift=(b0 six xs).shift:=by
   show ad (b0 six xs).shift (tn six _ (0,0))=_
   rw[tS];unfold ad;simp
 have e3:(jn six (b0 six xs) (zc six)).f9=(b0 six xs).f9:=by
   show(b0 six xs).f9+0+cr (b0 six xs).shift (tn six _ (0,0))=_
   rw[tS];unfold cr;simp
 have e4:(jn six (b0 six xs) (zc six)).many=(b0 six xs).many:=Int.add_zero _
 have e5:(jn six (b0 six xs) (zc six)).bH=(b0 six xs).bH:=Int.add_zero _
 generalize jn six (b0 six xs) (zc six)=a at hr ht e1 e2 e3 e4 e5 ⊢
 generalize b0 six xs=b at hr ht e1 e2 e3 e4 e5 ⊢
 cases a;cases b
 simp only at hr ht e1 e2 e3 e4 e5
 subst hr ht e1 e2 e3 e4 e5
 rfl
theorem DD (six:Bool)(xs:List Str):∀ (n:Nat) (ys:List Str),ys.length=n->jn six (b0 six xs) (b0 six ys)=b0 six (xs ++ ys):=by
 intro n
 induction n with
 | zero=>
   intro ys h
   have e:ys=[]:=List.eq_nil_of_length_eq_zero h
   subst e
   rw[List.append_nil]
   exact PB six xs
 | succ n ih=>
   intro ys h
   have A4:ys≠[]:=fun e=>by rw[e] at h;cases h
   have e:=List.dropLast_concat_getLast A4
   have hl:ys.dropLast.length=n:=by rw[List.length_dropLast];omega
   rw[<- e,kG,Iw,ih _ hl,<- List.append_assoc,kG]
noncomputable def vG (rows:List Row)(w:List Nat):List Str:=w.map (lh rows)
theorem Mw {rows:List Row}(ok:dn rows):∀ (r:Nat) {c:Nat},c∈rows.map (·.c)->(gP rows r c).length<=8 ^ r
 | 0,_,_=>Nat.le_refl _
 | r+1,c,h=>by
   obtain⟨q,hq,_,_,ew⟩:=iH h
   have hw:∀ y∈wordOf rows c,y∈rows.map (·.c):=fun y hy=>ok.wo q hq y (by rw[ew] at hy;exact hy)
   have hl:(wordOf rows c).length<=8:=by rw[ew];exact(ok.wp q hq).2
   have:∀ (w:List Nat),(∀ y∈w,y∈rows.map (·.c))->(w.flatMap (gP rows r)).length<=w.length * 8 ^ r:=by
     intro w
     induction w with
     | nil=>intro _;simp
     | cons a w ih=>
       intro h
       rw[List.flatMap_cons,List.length_append,List.length_cons,Nat.add_mul,Nat.one_mul]
       have h1:=Mw ok r (h a (by simp))
       have h2:=ih fun y hy=>h y (by simp[hy])
       omega
   have h3:=this _ hw
   have h4:(wordOf rows c).length * 8 ^ r<=8 * 8 ^ r:=Nat.mul_le_mul_right _ hl
   show((wordOf rows c).flatMap (gP rows r)).length<=8 ^ (r+1)
   rw[Nat.pow_succ];omega
theorem PD {rows:List Row}(ok:dn rows){r c:Nat}(h:c∈rows.map (·.c))(hr:r<=200):(gP rows r c).length < 2 ^ 990:=by
 have h1:=Mw ok r h
 have h2:8 ^ r<=8 ^ 200:=Nat.pow_le_pow_right (by decide) hr
 exact Nat.lt_of_le_of_lt (Nat.le_trans h1 h2) (by decide +kernel)
noncomputable def zd (six:Bool)(rows:List Row)(i c:Nat):Tr:=b0 six (vG rows (gP rows i c))
noncomputable def ee.o8 (t:ee)(six:Bool)(rows:List Row)(i:Nat):List (Key×FD):=(rows.map (·.c)).map fun c=>(.inr (sg c),.obj t.av (t.WI six (zd six rows i c)))
theorem Qk (t:ee)(six:Bool)(rows:List Row)(i:Nat):mL (t.o8 six rows i)=kd (rows.map (·.c)) fun c=>t.rA six (zd six rows i c):=by unfold mL ee.o8 kd;rw[List.map_map];rfl
noncomputable abbrev ee.yX (t:ee)(six:Bool)(rows:List Row)(w:List Nat)(l':Addr)(ls':iK)(n':Nat):List (Str×Dt):=Wx "growth" t.ay (t.AJ six rows w) ["tallies","lengths"] l' ls' n'
noncomputable abbrev ee.Iz (t:ee)(six:Bool)(rows:List Row)(w:List Nat)(l':Addr)(ls':iK)(n':Nat)(l:Addr)(ls:iK)(n:Nat):List (Str×Dt):=ql (t.yX six rows w l' ls' n') ["tracks"] l ls n
noncomputable abbrev ee.S9 (t:ee)(six:Bool)(rows:List Row)(w:List Nat)(l':Addr)(ls':iK)(n':Nat)(l:Addr)(ls:iK)(n:Nat):List (Str×Dt):=oh (t.yX six rows w l' ls' n') ["tracks"] l ls n
theorem PF {l l':Addr}{ls':iK}{n':Nat}(h:l'≠l)(t:ee)(six:Bool)(rows:List Row)(w:List Nat):jM l (t.yX six rows w l' ls' n')=true:=by
 have e:qQ l (.memo l' ls' 0 n')=true/\qQ l (.memo l' ls' 1 n')=true:=by
   unfold qQ
   simp[h]
 show((qQ l (t.yF six rows) && (qQ l (.str (tx w)) && (qQ l (.memo l' ls' 0 n') && (qQ l (.memo l' ls' 1 n') && true)))) && true)=true
 rw[B2,e.1,e.2];rfl
theorem IA (six:Bool)(xs:List (List Str)){k:Nat}(h:k < xs.length):jn six (b0 six (xs.take k).flatten) (b0 six xs[k])=b0 six (xs.take (k+1)).flatten:=by
 rw[DD six _ _ _ rfl,List.take_add_one,List.getElem?_eq_getElem h,List.flatten_append]
 simp
noncomputable def ER (t:ee):Rl:=fun ds r=>∃ six rows w l ls n rest,∃ xs:List (List Str),ds=[.obj t.aC (("growth",Ip t six rows w l ls n)::rest),.lst (xs.map fun x=>t.rA six (b0 six x))]/\xs.flatten.length < 2 ^ 990/\r=.ret (t.rA six (b0 six xs.flatten))
noncomputable def Lm (t:ee):Rl:=fun ds r=>∃ six rows w l ls n,ds=[Ip t six rows w l ls n]/\sx rows w/\r=.own (.oP t.aC (t.yX six rows w l ls n) [t.o8 six rows] ["tracks"] 1)
structure PH (t:ee)(six:Bool)(rows:List Row)(w:List Nat)(ls' ls:iK):Prop where
 ok:sx rows w
 gs:ls'.map (·.2)=wj rows
 ts:ls.map (·.2)=[t.o8 six rows]
noncomputable def Ln (t:ee):Rl:=fun ds r=>∃ six rows w l' ls' n' l ls n age,ds=[.obj t.aC (t.Iz six rows w l' ls' n' l ls n),.int ((age:Nat):Int)]/\PH t six rows w ls' ls/\age<=200/\r=.ret (.vL l ls (age+1))
noncomputable abbrev Ta:Scope:=B3 ((aG ft).getD 2 (.Pass ⟨0,0,0,0⟩))
theorem Mx:jk Ta (ah ft) nh ["letter","rules"] ["letter"] [2]=true:=by decide +kernel
noncomputable abbrev wBd:List Stmt:=SO ((aG bL).getD 1 (.Pass ⟨0,0,0,0⟩))
noncomputable abbrev Tb:Scope:=AM (wBd.getD 2 (.Pass ⟨0,0,0,0⟩))
theorem My:jk Tb (ah bL) jG ["younger","last"] ["younger"] [3]=true:=by decide +kernel
theorem IB {rows:List Row}(ok:dn rows){x:Nat}(h:x∈rows.map (·.c)):lh rows x∈mJ:=by
 obtain⟨q,hq,_,e,_⟩:=iH h
 rw[e];exact ok.dd q hq
theorem Cb (T:Txt K mg t):MF P w K mg base CX 6 t.aC "join_all" 2 (ER t):=by
 refine⟨T.bX.cl,_,_,_,iR T.eD.F jF rfl fun bx A outer s H E G ds r hr hl hR=>?_,T.cC,T.eD.b⟩
 obtain⟨six,rows,wd,l,ls,n,rest,xs,rfl,hx,rfl⟩:=hR
 have yR:=AD (P:=P) (w:=w) (base:=base) T
 have AX:=yU (P:=P) (w:=w) (base:=base) T
 have IC:=Dl (P:=P) (w:=w) (base:=base) T
 have vt:=xh (P:=P) (w:=w) (base:=base) T
 have nd:=jF.nd
 let D:Dt:=.obj t.aC (("growth",Ip t six rows wd l ls n)::rest)
 let tr:List Str->Dt:=fun x=>t.rA six (b0 six x)
 let S:Nat->List Slot:=fun k=>[.val D,.val (.lst (xs.map tr)),.val (t.rA six (b0 six (xs.take k).flatten)),.bV]
 have en:S (xs.map tr).length=[.val D,.val (.lst (xs.map tr)),.val (t.rA six (b0 six xs.flatten)),.bV]:=by
   show [_,_,Slot.val (t.rA six (b0 six (xs.take (xs.map tr).length).flatten)),_]=_
   rw[List.length_map,List.take_length]
 have hle:∀ k,(xs.take k).flatten.length < 2 ^ 990:=fun k=>by
   have e:=List.take_append_drop k xs
   rw[<- e,List.flatten_append,List.length_append] at hx
   omega
 refine⟨_,.rt _,ak (aB 2 nd (b5 yR aA hr (ae (bD (fs:=t.yI six rows) (bD (fs:=t.oo six rows wd l ls n) (aI (fs:=("growth",Ip t six rows wd l ls n)::rest) (aa 0 rfl) T.bX.cl T.cq rfl) AX aA hr ⟨six,rows,wd,l,ls,n,rfl,rfl⟩) IC aA hr ⟨six,rows,rfl,rfl⟩) ai) ⟨six,rfl,rfl⟩))
   (ak (CC (m:=(xs.map tr).length) 3 S nd rfl PassesOwn.leaving (aa 1 rfl) (Le.of ⟨rfl,rfl,rfl,trivial⟩) (Nat.le_refl _) (fun k z hk hz=>?_) (.all rfl)) ?_)⟩
 . rw[List.length_map] at hk
   rw[List.getElem?_map,List.getElem?_eq_getElem hk] at hz
   cases hz
   have h1:xs[k].length < 2 ^ 990:=by
     have:=hle (k+1)
     rw[List.take_add_one,List.getElem?_eq_getElem hk,List.flatten_append,List.length_append] at this
     simp at this
     omega
   refine .nx (ao (aB 2 nd (cI (fs:=t.iI six (b0 six (xs.take k).flatten)) (nA (aa 2 rfl)) vt aA hr (ae (nA (x:=b0 six xs[k]) (aa 3 rfl)) ai) ⟨six,_,b0 six xs[k],rfl,⟨qh six (hle k),qh six h1⟩,rfl⟩))) (Le.of ⟨rfl,rfl,?_,trivial⟩)
   show Slot.val (t.rA six (b0 six (xs.take (k+1)).flatten))=_
   rw[IA six xs hk]
 . rw[en]
   exact ao (aE (aa 2 rfl))
theorem ID (T:Txt K mg t):NU P w K mg base CX 8 "Drawing" t.aC 2 (Lm t):=by
 refine⟨_,_,_,TK T.iu.F mH rfl fun bx A outer s H E G z ds r hr hl hR=>?_,T.o3,(T.g T.bX.a),T.iu.b⟩
 obtain⟨six,rows,wd,l,ls,n,rfl,ok,rfl⟩:=hR
 have eX:=jo (P:=P) (w:=w) (base:=base) T
 have AX:=yU (P:=P) (w:=w) (base:=base) T
 have IC:=Dl (P:=P) (w:=w) (base:=base) T
 have PJ:=Hw (P:=P) (w:=w) (base:=base) T
 have WS:=AF (P:=P) (w:=w) (base:=base) T
 have h6:=ok.ok.le
 let L:=rows.map (·.c)
 have hL:L.length<=6:=by show(rows.map (·.c)).length<=6;rw[List.length_map];exact h6
 have nd:=mH.nd
 have e1:((L.filter fun _=>true).map fun x=>Dt.tup [.str (sg x),t.rA six (zd six rows 0 x)])=(mL (t.o8 six rows 0)).map Ja:=by
   rw[List.filter_eq_self.mpr (fun _ _=>rfl),Qk]
   exact AI L _
 have h7:∀ x∈L,x < 128:=fun x hx=>by
   obtain⟨r,hr,rfl⟩:=List.mem_map.mp hx
   have:=ok.ok.sm r hr
   unfold small at this;omega
 refine⟨_,.Ve (fs:=t.yX six rows wd l ls n) (gs:=[t.o8 six rows]) (nm:=["tracks"]) (n:=1) rfl,ak (jv (aa 1 rfl) T.bX.cl T.cq) (ak (aB 2 nd (bD (fs:=t.oo six rows wd l ls n) (aa 1 rfl) AX aA hr ⟨six,rows,wd,l,ls,n,rfl,rfl⟩))
   (vO (f:=t.o8 six rows) rfl T.bX.cl T.bJ ?_))⟩
 refine lx T.ny rfl (iG e1 (jw L (fun x=>Dt.str (sg x)) (fun x=>.tup [.str (sg x),t.rA six (zd six rows 0 x)]) (fun x=>[.val (.str (sg x))]) (fun _=>true) rfl (cU Mx) (iS (bD (fs:=t.yI six rows) (aa 2 rfl) eX aA hr ⟨six,rows,rfl,ok.ok,rfl⟩)) (cJ (cU Mx) rfl) (fj (dJ (iE h7)) (gL L)) (fun a _=>du) (.nil fun _ _=>rfl)
     (fun a ha _ C fp s' H' G'=>aS (ae (aa 0 rfl) (ae (b5 WS aA hr (ae (bD (fs:=t.yI six rows) (aa 1 rfl) IC aA hr ⟨six,rows,rfl,rfl⟩) (ae (kr (ux (ae (cI (fs:=t.yI six rows) (aa 1 rfl) PJ aA hr (ae (aa 0 rfl) ai) ⟨six,rows,a,rfl,ok.ok,ha,rfl⟩) ai) AA3)) ai)) ⟨six,[lh rows a],rfl,fun d hd=>by
       have:d=lh rows a:=by simpa using hd
       rw[this];exact IB ok.ok ha,by simp,rfl⟩) ai)) AA3) (sv (by omega)))) (by rw[Qk,qi];exact ki ok.ok.nd) (by rw[Qk];show(List.map _ _).length<=_;rw[List.length_map,List.length_map];exact sv (by omega))
theorem IE (T:Txt K mg t):MF P w K mg base CX 7 t.aC "deepen_to" 2 (Ln t):=by
 refine⟨T.bX.cl,_,_,_,iR T.dD.F jm rfl fun bx A outer s H E G ds r hr hl hR=>?_,T.cz,T.dD.b⟩
 obtain⟨six,rows,wd,l',ls',n',l,ls,n,age,rfl,ok,Aa,rfl⟩:=hR
 have sQ:=ok.ts
 have Lo:=ok.ok.ok
 have AX:=yU (P:=P) (w:=w) (base:=base) T
 have eX:=jo (P:=P) (w:=w) (base:=base) T
 have B4:=Av (P:=P) (w:=w) (base:=base) T
 have PK:=Cb (P:=P) (w:=w) (base:=base) T
 have nd:=jm.nd
 have h6:=Lo.le
 let L:=rows.map (·.c)
 have hL:L.length<=6:=by show(rows.map (·.c)).length<=6;rw[List.length_map];exact h6
 have h7:∀ x∈L,x < 128:=fun x hx=>by
   obtain⟨r,hr,rfl⟩:=List.mem_map.mp hx
   have:=Lo.sm r hr
   unfold small at this;omega
 have hu:(A.deeper (envOfC "Drawing.deepen_to" (ah bL) s.heap.objs.size t.bf bx)).units+1 < cLine:=by have:=hr.units;omega
 have e1:ls.length=1:=by have:=congrArg List.length sQ;simpa using this
 have e2:ls'.length=2:=by have:=congrArg List.length ok.gs;simpa [wj] using this
 let tl:List Slot:=[.val (.int ((age:Nat):Int)),.val (t.yF six rows),.bV,.bV,.bV]
 refine⟨_,qS (C:=t.aC) (fs:=t.yX six rows wd l' ls' n') (nm:=["tracks"]) (tl:=tl) (by rw[e1];exact Nat.le_refl 1),Er (nm:=["tracks"]) (nm':=["tallies","lengths"]) (C:=t.aC) (C':=t.ay) (l:=l) (l':=l') (ls:=ls) (ls':=ls') (n:=n) (n':=n') (fs':=t.AJ six rows wd) (g:="growth") 0 (by decide) (by decide) (by omega) (fun A4=>?_) rfl⟩
 have hs:=PF (ls':=ls') (n':=n') A4 t six rows wd
 have ht:pP l tl=true:=by
   have:pP l [.val (t.yF six rows),.bV,.bV,.bV]=true:=by
     unfold pP;rw[B2];rfl
   exact this
 refine ak (dl1:=yZ t.aC (t.yX six rows wd l' ls' n') ["tracks"] l ls n tl) (aB 2 nd (bD (fs:=t.oo six rows wd l' ls' n') (aI (fs:=t.Iz six rows wd l' ls' n' l ls n) (aa 0 rfl) T.bX.cl T.cq rfl) AX aA hr ⟨six,rows,wd,l',ls',n',rfl,rfl⟩))
   (ao (wQ (age:=age) PassesOwn.leaving hs ht (by decide) (by omega) (fun N G hx=>?_) (fun N hN hNa G0 hA hB=>?_)))
 . exact da (LQ (C1 (N:=N) T.iz hx (aI (fs:=t.S9 six rows wd l' ls' n' l ls n) (aa 0 rfl) T.bX.cl T.bJ rfl) (by rw[e1];rfl)) (aa 1 rfl)) (decide_eq_decide.mpr (by omega))
 . let Dk:Nat->Dt:=fun c=>t.rA six (zd six rows N c)
   let O:Dt:=.obj t.aC (t.S9 six rows wd l' ls' n' l ls n)
   let S:Nat->List Slot:=fun k=>[.val O,.val (.int ((age:Nat):Int)),.val (t.yF six rows),.val (.c9 (mL (t.o8 six rows (N - 1)))),.own (.dZ (kd (L.take k) Dk)),.bV]
   have eS:S L.length=[.val O,.val (.int ((age:Nat):Int)),.val (t.yF six rows),.val (.c9 (mL (t.o8 six rows (N - 1)))),.own (.dZ (mL (t.o8 six rows N))),.bV]:=by
     show [_,_,_,_,Slot.own (.dZ (kd (L.take L.length) Dk)),_]=_
     rw[List.take_length,Qk t six rows N]
   refine ak (aB 3 nd (z9 (f:=t.o8 six rows) (N:=N) aj (aI (fs:=t.S9 six rows wd l' ls' n' l ls n) (aa 0 rfl) T.bX.cl T.bJ rfl) (gN af) (by rw[sQ];rfl) (by rw[e1];rfl) hN)) (ak (lX 4 nd CU)
     (ak (dl1:=S L.length) (nH (o:=.nx (S L.length)) (m:=L.length) L (fun x=>Dt.str (sg x)) (fun x dl=>dl.set 5 (.val (.str (sg x)))) S rfl PassesOwn.leaving (iS (bD (fs:=t.yI six rows) (aa 2 rfl) eX aA hr ⟨six,rows,rfl,Lo,rfl⟩)) (fj (dJ (iE h7)) (gL L)) (ck nd rfl (.inl rfl)) (fun a _=>sL) (Le.of ⟨rfl,rfl,rfl,rfl,rfl,trivial⟩) (Nat.le_refl _) (fun k a hk ha=>?_) (.all rfl)) ?_))
   . rw[List.getElem?_eq_getElem hk] at ha
     cases ha
     have hm:L[k]∈L:=List.getElem_mem hk
     obtain⟨q,hq,hc,_,ew⟩:=iH hm
     have WL:=Lo.wp q hq
     have Ms:∀ y∈wordOf rows L[k],y∈L:=fun y hy=>Lo.wo q hq y (by rw[ew] at hy;exact hy)
     have Nu:(wordOf rows L[k]).length<=8:=by rw[ew];exact WL.2
     have RJ:(kd (L.take k) Dk).length < sizeLine:=by
       unfold kd
       rw[List.length_map,List.length_take];exact Nat.lt_of_lt_of_le (show min k L.length < 2000 by omega) (by decide)
     let xs:List (List Str):=(wordOf rows L[k]).map fun y=>vG rows (gP rows (N - 1) y)
     have e3:(((wordOf rows L[k]).filter fun _=>true).map fun y=>t.rA six (zd six rows (N - 1) y))=xs.map fun x=>t.rA six (b0 six x):=by
       rw[List.filter_eq_self.mpr (fun _ _=>rfl),List.map_map];rfl
     have Yz:xs.flatten=vG rows (gP rows N L[k]):=by
       obtain⟨M,rfl⟩:∃ M,N=M+1:=⟨N - 1,by omega⟩
       show((wordOf rows L[k]).map fun y=>vG rows (gP rows M y)).flatten=((wordOf rows L[k]).flatMap (gP rows M)).map (lh rows)
       rw[List.map_flatMap,List.flatMap_def];rfl
     have ed:Dk L[k]=t.rA six (b0 six xs.flatten):=by rw[Yz];rfl
     have hb:xs.flatten.length < 2 ^ 990:=by
       rw[Yz];unfold vG;rw[List.length_map];exact PD Lo hm (by omega)
     refine .nx (ao (CV (kds:=kd (L.take k) Dk) (d:=Dk L[k]) 4 hu (by rw[ed];exact cI (fs:=t.S9 six rows wd l' ls' n' l ls n) (aa 0 rfl) PK aA hr (ae (iG e3 (jw (wordOf rows L[k]) (fun x=>Dt.str (sg x)) (fun y=>t.rA six (zd six rows (N - 1) y)) (fun x=>[.val (.str (sg x))]) (fun _=>true) rfl (cU My) (iS (cI (fs:=t.yI six rows) (aa 2 rfl) B4 aA hr (ae (aa 5 rfl) ai) ⟨six,rows,L[k],rfl,Lo,hm,rfl⟩)) (cJ (cU My) rfl) (fj (dJ (tP Lo Ms)) (gL _)) (fun a _=>du) (.nil fun _ _=>rfl)
       (fun y hy _ C fp s' H' G'=>lz hu (aa 1 rfl) (aa 0 rfl) (by rw[Qk];exact kS (Ms y hy)) (fun _ _=>rfl)) (sv (by omega)))) ai) ⟨six,rows,wd,l',ls',n',_,xs,rfl,hb,rfl⟩) (aa 5 rfl) RJ)) (Le.of ⟨rfl,rfl,rfl,rfl,?_,trivial⟩)
     show Slot.own (.dZ (kd (L.take (k+1)) Dk))=Slot.own (.dZ (uE (kd (L.take k) Dk) (.inr (sg L[k])) (Dk L[k])))
     rw[HM Lo.nd hk]
   . rw[eS]
     exact CB (dl1:=.val (.obj t.aC (t.S9 six rows wd l' ls' n' l ls n))::tl.set 3 (.own (.dZ (mL (t.o8 six rows N))))) (Ae (f:=t.o8 six rows) (tl:=tl) 3 hs ht rfl sQ (by omega) T.bX.cl T.bJ hA hB) (Le.of ⟨rfl,rfl,rfl,rfl,trivial⟩)
noncomputable def Uh (six:Bool)(p:Int×Int):List Dt:=if six then [.int (2 * p.1+p.2),.int (p.1+2 * p.2),.int (p.2 - p.1),.int (-2 * p.1 - p.2),.int (-p.1 - 2 * p.2),.int (p.1 - p.2)] else [.int p.1,.int p.2,.int (-p.1),.int (-p.2)]
theorem PL (six:Bool)(p:Int×Int){z:Int}(h0:0<=z)(h1:z < wy six):lj (Uh six p) z=some (.int (iM six z p)):=by
 cases six with
 | false=>exact SF p h0 h1
 | true=>exact SG p h0 h1
noncomputable def IF:Rl:=fun ds r=>∃ six p,ds=[.int (wy six),sp p]/\r=.own (.lst (Uh six p))
theorem xi (T:Txt K mg t):GF P w K mg base CX 1 "_law_along" 2 IF:=by
 refine⟨_,_,_,iR T.nW.F Al rfl fun bx A outer s H E G ds r hr hl hR=>?_,(T.g T.nW.a),T.nW.F.kp,T.nW.b⟩
 obtain⟨six,p,rfl,rfl⟩:=hR
 have nd:=Al.nd
 cases six with
 | false=>
   exact⟨_,.ro _,ak (xW 2 3 nd rfl (aa 1 rfl)) (kM (bh (u:=true) (da (kY (aa 0 rfl) af) (decide_eq_true rfl)) (fun h=>ao (lY (ux (ae (aa 2 rfl) (ae (aa 3 rfl) (ae (gN (aa 2 rfl)) (ae (gN (aa 3 rfl)) ai)))) AA3))) (fun h=>nomatch h)))⟩
 | true=>
   exact⟨_,.ro _,ak (xW 2 3 nd rfl (aa 1 rfl)) (ak (bh (u:=false) (da (kY (aa 0 rfl) af) (decide_eq_false (by decide))) (fun h=>nomatch h) (fun h=>bC))
     (ao (lY (ux (ae (aN (fP af (aa 2 rfl) (pv.ok (Or.inl ⟨by decide,by decide⟩))) (aa 3 rfl)) (ae (aN (aa 2 rfl) (fP af (aa 3 rfl) (pv.ok (Or.inl ⟨by decide,by decide⟩)))) (ae (gM (aa 3 rfl) (aa 2 rfl)) (ae (gM (fP (gN af) (aa 2 rfl) (pv.ok (Or.inl ⟨by decide,by decide⟩))) (aa 3 rfl)) (ae (gM (gN (aa 2 rfl)) (fP af (aa 3 rfl) (pv.ok (Or.inl ⟨by decide,by decide⟩)))) (ae (gM (aa 2 rfl) (aa 3 rfl)) ai)))))) AA3))))⟩
section
variable {X:Cx}{G:Gr}{dl:List Slot}{i o:Expr}{kds:List (Key×Dt)}{k:Str}{pos:Pos}
theorem Lp (hu:X.A.units+1 < cLine)(hi:EE X G dl i (.str k))(ho:EE X G dl o (.c9 kds))(hm:behindInMarks .NotIn o=false:=by rfl):EB X G dl (.Compare i [.NotIn] [o] pos) (!(kZ kds (.inr k)).isSome):=
 Rc (Fl (wF hu hi ho) hm) fun st H Q ⟨Hf,S,kk⟩=>⟨Hf,S,fun v au H1 g1 r1=>⟨au,S.grow g1,fun w bT H2 g2 r2=>by
     cases r1
     cases r2 with
     | @c9 q tg ob kvs _ hq rp=>exact⟨q,_,rfl,.inl ⟨kvs,.inr k,.inr (.inr (.inl ⟨tg,ob,kvs,g2.sub _ _ hq,rfl⟩)),rfl,rfl⟩,by rw[rp.wN];exact⟨_,rfl,kk bT H2 (g1.trans g2)⟩⟩⟩⟩
end
theorem qj:∀ xs:List Int,Bm (xs.map Dt.int)=xs.map PyData.int
 | []=>by simp[Bm]
 | x::xs=>by rw[List.map_cons,Bm,qj xs];simp[pd]
theorem AY (xs:List Int):IW (.lst (xs.map .int)):=by
 have h1:ko (xs.map Dt.int)=true:=by
   induction xs with
   | nil=>simp[ko]
   | cons x xs ih=>rw[List.map_cons,ko,ih];simp[Sg.plain]
 have h2:∀ ys:List Int,PyData.canLayAll0 (ys.map PyData.int)=true/\PyData.depthAll (ys.map PyData.int)=0:=by
   intro ys
   induction ys with
   | nil=>simp[PyData.canLayAll0,PyData.depthAll]
   | cons y ys ih=>rw[List.map_cons];simp[PyData.canLayAll0,PyData.depthAll,PyData.canLay0,PyData.depth,ih]
 refine⟨by rw[Sg.plain];exact h1,?_⟩
 unfold SeqAt.shaped
 rw[pd,qj]
 simp[PyData.canLay0,PyData.depth,h2 xs]
theorem rO (ys:List Int):PyData.depthAll (ys.map PyData.int)=0:=by
 induction ys with
 | nil=>simp[PyData.depthAll]
 | cons y ys ih=>rw[List.map_cons];simp[PyData.depthAll,PyData.depth,ih]
noncomputable def dY (x:Tr):Dt:=.tup [.int x.many,.int x.turn,sp x.shift,.int x.bH,.lst (x.reach.map .int),.lst (x.aJ.map .int),.int x.f9]
theorem kI (x:Tr):IW (dY x):=by
 have h1:=AY x.reach
 have h2:=AY x.aJ
 have c1:=SeqAt.canLay_of_shaped h1.2
 have c2:=SeqAt.canLay_of_shaped h2.2
 have d1:(pd (.lst (x.reach.map Dt.int))).depth<=1:=by rw[pd,qj];simp[PyData.depth,rO]
 have d2:(pd (.lst (x.aJ.map Dt.int))).depth<=1:=by rw[pd,qj];simp[PyData.depth,rO]
 have p1:=h1.1
 have p2:=h2.1
 unfold dY sp
 refine⟨by simp[Sg.plain,ko] at p1 p2 ⊢;exact⟨p1,p2⟩,?_⟩
 unfold SeqAt.shaped
 rw[pd]
 simp[Bm,pd] at c1 c2 d1 d2 ⊢
 simp[Bm,pd,PyData.canLay0,PyData.canLayAll0,PyData.depth,PyData.depthAll] at c1 c2 d1 d2 ⊢
 refine⟨⟨c1,c2⟩,?_⟩
 omega
noncomputable def IG (t:ee):Rl:=fun ds r=>∃ six x,ds=[t.rN six x]/\WF six x/\(x.reach.length=wn six)/\r=.ret (dY x)
theorem qk (six:Bool){ns:List Int}(h:ns.length=wn six):mP six ns 0=ns:=by
 refine list_eq (six:=six) (by unfold mP;simp) h fun v hv=>?_
 rw[vF six _ _ hv]
 congr 1
 have hw:=qd six
 rw[Int.sub_zero,Int.emod_eq_of_lt (by omega) (by omega),Int.toNat_natCast]
noncomputable def WT (t:ee):Rl:=fun ds r=>∃ six rows w l ls n x,ds=[Ip t six rows w l ls n,.str (sg x)]/\ls.map (·.2)=wj rows/\0 < n/\n<=1000/\x∈rows.map (·.c)/\r=.ret .cF
noncomputable def AZ (t:ee):Rl:=fun ds r=>∃ six rows w l' ls' n' l ls n age x,ds=[.obj t.aC (t.Iz six rows w l' ls' n' l ls n),.int ((age:Nat):Int),.str (sg x)]/\PH t six rows w ls' ls/\(0 < n'/\n'<=1000)/\age<=200/\x∈rows.map (·.c)/\r=.ret (t.rA six (zd six rows age x))
noncomputable def ET:Rl:=fun ds r=>∃ six p b,ds=[.int (wy six),sp p,.int b]/\r=.ret (sp (tn six (b % wy six).toNat p))
noncomputable def IH:Rl:=fun ds r=>∃ six x y,ds=[.int (wy six),dY x,dY y]/\WF six x/\WF six y/\r=.ret (dY (jn six x y))
noncomputable def PM:Rl:=fun ds r=>∃ six,ds=[.int (wy six)]/\r=.ret (dY (zc six))
noncomputable def II:Rl:=fun ds r=>∃ six x,ds=[dY x,.int (wy six)]/\WF six x/\r=.ret (.bl true)
section
variable {X:Cx}{G:Gr}{dl:List Slot}{a:Expr}{pos p:Pos}{ds:List Dt}
theorem IJ (hm:X.mg "list"=none)(ha:EE X G dl a (.tup ds))(hg:Gl X "list":=by rfl)(he:starEach [a] X.env=[(false,eval a X.env)]:=by rfl):EO X G dl (.Call (.Name "list" p) [a] [] pos) (.lst ds):=
 fB (kg pF hg hm Sg.boot_list (ae ha ai he) (he:=he)) fun st H Q ⟨Hf,S,k⟩=>⟨Hf,S,fun vs au H1 g1 r1=>by
   cases r1 with
   | cons r t=>cases t;cases r with
     | @tup q vs _ z r=>exact⟨q,vs,rfl,.inr (br g1.sub z),fun l hl=>k l au _ (g1.trans (.dH g1.sub hl)) (g1.big.free hl) (g1.sub.free hl) ⟨vs,aj,r⟩⟩⟩
end
noncomputable abbrev Tc:Scope:=HX ((aG pS).getD 3 (.Pass ⟨0,0,0,0⟩))
theorem Mz:jk Tc (ah pS) Dc ["_law_one"] ["_law_one"] []=true:=by decide +kernel
noncomputable def PN (x:Tr):List Int:=[x.many,x.turn,x.bH,x.f9] ++ [x.shift.1,x.shift.2] ++ x.reach ++ x.aJ
theorem Td (T:Txt K mg t):MF P w K mg base CX 1 t.ay "check_letter" 2 (WT t):=by
 refine⟨T.bG.cl,_,_,_,iR T.cR.F mi rfl fun bx A outer s H E G ds r hr hl hR=>?_,T.cj,T.cR.b⟩
 obtain⟨six,rows,wd,l,ls,n,x,rfl,sQ,hn,WU,hx,rfl⟩:=hR
 have hu:(A.deeper (envOfC "Growth.check_letter" (ah cN) s.heap.objs.size t.aQ bx)).units+1 < cLine:=by have:=hr.units;omega
 exact⟨_,.nx _,ao (bh (u:=false) (da (Lp hu (aa 1 rfl) (BC (n:=n) (j:=1) (f:=yT rows) (k:=0) (aI (fs:=t.oo six rows wd l ls n) (aa 0 rfl) T.bG.cl T.cn rfl) af (by rw[sQ];rfl) hn WU)) (by rw[Mn,kS hx];rfl)) (fun h=>nomatch h) (fun h=>bC))⟩
theorem Lq (T:Txt K mg t):MF P w K mg base CX 5 t.av "told" 1 (IG t):=by
 refine⟨T.ax.cl,_,_,_,iR T.fN.F oE rfl fun bx A outer s H E G ds r hr hl hR=>?_,T.dC,T.fN.b⟩
 obtain⟨six,x,rfl,hw,_,rfl⟩:=hR
 have qe:=xb (P:=P) (w:=w) (base:=base) T
 have qf:=xc (P:=P) (w:=w) (base:=base) T
 have qg:=xf (P:=P) (w:=w) (base:=base) T
 have vo:=yN (P:=P) (w:=w) (base:=base) T
 have vp:=yO (P:=P) (w:=w) (base:=base) T
 have lL:=o7 (P:=P) (w:=w) (base:=base) T
 have vq:=yP (P:=P) (w:=w) (base:=base) T
 have e0:tn six ((0:Int) % wy six).toNat x.shift=x.shift:=by cases six <;> rfl
 refine⟨_,.rt _,ao (aE (bu (aS (ae (bD (fs:=t.iI six x) (aa 0 rfl) vo aA hr ⟨six,x,rfl,rfl⟩) (ae (bD (fs:=t.iI six x) (aa 0 rfl) vp aA hr ⟨six,x,rfl,rfl⟩) (ae (CK (fs:=t.iI six x) (aa 0 rfl) qe aA hr ⟨six,x,0,rfl,rfl⟩)
   (ae (bD (fs:=t.iI six x) (aa 0 rfl) lL aA hr ⟨six,x,rfl,rfl⟩) (ae (kr (xV (fs:=t.iI six x) (aa 0 rfl) qf aA hr ⟨six,x,0,rfl,hw,rfl⟩)) (ae (kr (xV (fs:=t.iI six x) (aa 0 rfl) qg aA hr ⟨six,x,0,rfl,hw,rfl⟩))
   (ae (bD (fs:=t.iI six x) (aa 0 rfl) vq aA hr ⟨six,x,rfl,rfl⟩) ai))))))) AA3) ?_))⟩
 rw[e0,qk six hw.rl,qk six hw.tl];rfl
theorem EU (T:Txt K mg t):MF P w K mg base CX 8 t.aC "whole" 3 (AZ t):=by
 refine⟨T.bX.cl,_,_,_,iR T.gI.F qW rfl fun bx A outer s H E G ds r hr hl hR=>?_,T.dm,T.gI.b⟩
 obtain⟨six,rows,wd,l',ls',n',l,ls,n,age,x,rfl,ok,⟨Vw,WU⟩,Aa,hx,rfl⟩:=hR
 have Pr:=Mu (P:=P) (w:=w) (base:=base) T
 have WV:=Td (P:=P) (w:=w) (base:=base) T
 have B5:=IE (P:=P) (w:=w) (base:=base) T
 have hu:(A.deeper (envOfC "Drawing.whole" (ah gi) s.heap.objs.size t.cw bx)).units+1 < cLine:=by have:=hr.units;omega
 exact⟨_,.rt _,ak (sG (b5 Pr aA hr (ae (aa 1 rfl) (ae af (ae (jL (w:=.int 200) T.p7 ⟨_,rfl⟩ fun _=>.int 200) ai))) ⟨_,0,200,rfl,by omega,by omega,rfl⟩))
   (ak (sG (cI (fs:=t.oo six rows wd l' ls' n') (aI (fs:=t.Iz six rows wd l' ls' n' l ls n) (aa 0 rfl) T.bX.cl T.cq rfl) WV aA hr (ae (aa 2 rfl) ai) ⟨six,rows,wd,l',ls',n',x,rfl,ok.gs,Vw,WU,hx,rfl⟩))
   (ak (uK (m:=age+1) (fs:=t.yX six rows wd l' ls' n') (nm:=["tracks"]) (tl:=[.val (.int ((age:Nat):Int)),.val (.str (sg x))]) (cI (fs:=t.Iz six rows wd l' ls' n' l ls n) (aa 0 rfl) B5 aA hr (ae (aa 1 rfl) ai) ⟨six,rows,wd,l',ls',_,l,ls,n,age,rfl,ok,Aa,rfl⟩))
   (ao (aE (lz hu (BC (n:=age+1) (j:=0) (f:=t.o8 six rows) (aI (fs:=t.Iz six rows wd l' ls' n' l ls (age+1)) (aa 0 rfl) T.bX.cl T.bJ rfl) (aa 1 rfl) (by rw[ok.ts];rfl) (by omega) (by omega)) (aa 2 rfl) (by rw[Qk];exact kS hx) (fun _ _=>rfl))))))⟩
theorem Cc (T:Txt K mg t):GF P w K mg base CX 1 "_law_turned" 3 ET:=by
 refine⟨_,_,_,iR T.lI.F wW rfl fun bx A outer s H E G ds r hr hl hR=>?_,(T.g T.lI.a),T.lI.F.kp,T.lI.b⟩
 obtain⟨six,p,b,rfl,rfl⟩:=hR
 have nd:=wW.nd
 have R5:=Int.emod_nonneg b (Int.ne_of_gt (eK six))
 have VV:=Int.emod_lt_of_pos b (eK six)
 have hb3:wy six<=6:=by cases six <;> decide
 refine⟨_,.rt _,ak (xW 3 4 nd rfl (aa 1 rfl)) (ak (iQ 5 (fun k=>[.val (.int (wy six)),.bV,.val (.int b),.val (.int (tn six k p).1),.val (.int (tn six k p).2),.bV]) nd rfl PassesOwn.leaving T.iC
   (ae (d8 (aa 2 rfl) (aa 0 rfl) (eK six)) ai) ⟨by omega,by omega⟩ (Le.of ⟨rfl,rfl,rfl,rfl,trivial⟩) (Nat.le_refl _) (fun k hk=>?_) (.all rfl)) (ao (aE (aS (ae (aa 3 rfl) (ae (aa 4 rfl) ai)) AA3))))⟩
 cases six with
 | false=>exact .nx (ao (bh (kY (aa 0 rfl) af) (fun h=>ao (Gi 3 4 nd rfl (ae (gN (aa 4 rfl)) (ae (aa 3 rfl) ai)))) (fun h=>absurd h (by decide)))) (Le.of ⟨rfl,rfl,rfl,rfl,trivial⟩)
 | true=>exact .nx (ao (bh (kY (aa 0 rfl) af) (fun h=>absurd h (by decide)) (fun h=>ao (Gi 3 4 nd rfl (ae (gN (aa 4 rfl)) (ae (aN (aa 3 rfl) (aa 4 rfl)) ai)))))) (Le.of ⟨rfl,rfl,rfl,rfl,trivial⟩)
theorem DE (T:Txt K mg t):GF P w K mg base CX 1 "_law_none" 1 PM:=by
 refine⟨_,_,_,iR T.rg.F Ku rfl fun bx A outer s H E G ds r hr hl hR=>?_,(T.g T.rg.a),T.rg.F.kp,T.rg.b⟩
 obtain⟨six,rfl,rfl⟩:=hR
 have hb:-(2 ^ 63)<=wy six/\wy six < 2 ^ 63/\[Dt.int 0].length * (wy six).toNat<=sizeLine:=by cases six <;> decide
 exact⟨_,.rt _,ao (aE (bu (aS (ae af (ae af (ae (aS (ae af (ae af ai)) AA3) (ae af
   (ae (kr (xQ (xF (ae af ai) AA3) (aa 0 rfl) hb.1 hb.2.1 hb.2.2)) (ae (kr (xQ (xF (ae af ai) AA3) (aa 0 rfl) hb.1 hb.2.1 hb.2.2)) (ae af ai))))))) AA3) (by cases six <;> rfl)))⟩
theorem EV (T:Txt K mg t):GF P w K mg base CX 2 "_law_track" 2 II:=by
 refine⟨_,_,_,iR T.nY.F An rfl fun bx A outer s H E G ds r hr hl hR=>?_,(T.g T.nY.a),T.nY.F.kp,T.nY.b⟩
 obtain⟨six,x,rfl,wf,rfl⟩:=hR
 have Lr:=Ib (P:=P) (w:=w) (base:=base) T
 have nd:=An.nd
 have WW:=qd six
 have w6:wn six<=6:=by cases six <;> decide
 have J1:=wf.rl
 have P5:=wf.tl
 let lD:List Int->Dt:=fun l=>.lst (l.map .int)
 let S:Nat->List Slot:=fun _=>[.val (dY x),.val (.int (wy six)),.bV,.bV]
 have e1:([Dt.int x.many,.int x.turn,.int x.bH,.int x.f9] ++ [.int x.shift.1,.int x.shift.2] ++ x.reach.map Dt.int ++ x.aJ.map Dt.int)=(PN x).map Dt.int:=by
   unfold PN;simp
 have e2:(((PN x).filter fun _=>true).map fun _=>Dt.bl true)=((PN x).map fun _=>true).map Dt.bl:=by
   rw[List.filter_eq_self.mpr (fun _ _=>rfl),List.map_map];rfl
 have sz:∀ n:Nat,n<=100->n<=sizeLine:=fun n h=>Nat.le_trans h (by decide)
 refine⟨_,.rt _,ak (bh (u:=false) (D4 (uk (u:=false) (v:=false) (um (u:=true) (ug (ur (d:=dY x) T.eJ (aa 0 rfl) (zJ T.p8 Sg.boot_tuple) rfl trivial rfl))) fun _=>(uk (u:=false) (v:=false) (da (xJ (CG T.iz (aa 0 rfl)) af) rfl) fun _=>
     (uk (u:=false) (v:=false) (um (u:=true) (ug (ur (d:=sp x.shift) T.eJ (ar (aa 0 rfl) af rfl) (zJ T.p8 Sg.boot_tuple) rfl trivial rfl))) fun _=>(uh (da (xJ (CG (ds:=[.int x.shift.1,.int x.shift.2]) T.iz (ar (aa 0 rfl) af rfl)) af) rfl)))))) (fun h=>nomatch h) (fun h=>bC))
   (ak (dl1:=S 2) (nH (o:=.nx (S 2)) (m:=2) [x.reach,x.aJ] lD (fun l dl=>dl.set 2 (.val (lD l))) S rfl PassesOwn.leaving (M4 (aS (ae (ar (aa 0 rfl) af rfl) (ae (ar (aa 0 rfl) af rfl) ai)) AA3)) Gd (ck nd rfl (.inl rfl)) (fun a _=>sL) (Le.of ⟨rfl,rfl,trivial⟩) (Nat.le_refl _) (fun k a hk ha=>?_) (.all rfl))
   (ak (dl1:=[.val (dY x),.val (.int (wy six)),.bV,.val (.lst ((PN x).map Dt.int))]) (aB 3 nd (bu (kr (Bo (kr (Bo (kr (Bo (kr (ux (ae (ar (aa 0 rfl) af rfl) (ae (ar (aa 0 rfl) af rfl) (ae (ar (aa 0 rfl) af rfl) (ae (ar (aa 0 rfl) af rfl) ai)))) AA3)) (kr (IJ (ds:=[.int x.shift.1,.int x.shift.2]) T.nz (ar (aa 0 rfl) af rfl))) (sz _ (show 4+2<=100 by decide)))) (ar (aa 0 rfl) af rfl) (sz _ (by simp;omega)))) (ar (aa 0 rfl) af rfl) (sz _ (by simp;omega)))) (congrArg Dt.lst e1)))
   (ao (aE (bu (Gu T.Dd rfl (iG e2 (jw (PN x) Dt.int (fun _=>.bl true) (fun z=>[.val (.int z)]) (fun _=>true) rfl (cU Mz) (jI (aa 3 rfl)) (cJ (cU Mz) rfl) kh (fun a _=>du) (.nil fun _ _=>rfl)
     (fun z hz _ C fp s' H' G'=>b5 Lr aA hr (ae (aa 0 rfl) ai) ⟨z,rfl,rfl⟩) (sz _ (by unfold PN;simp;omega))))) (congrArg Dt.bl (by rw[List.all_map];simp)))))))⟩
 have hla:a.length=wn six:=by
   rcases List.mem_iff_getElem?.mpr ⟨k,ha⟩ |> (by simpa using ·) with h | h <;> rw[h] <;> assumption
 exact .nx (ao (bh (u:=false) (D4 (uk (u:=false) (v:=false) (um (u:=true) (ug (ur (d:=lD a) T.eJ (aa 2 rfl) (zJ T.nz Sg.boot_list) rfl trivial rfl))) fun _=>(uh (da (xJ (sH (ds:=a.map Dt.int) T.iz (aa 2 rfl)) (aa 1 rfl)) (by rw[List.length_map,hla,WW,decide_eq_true rfl];rfl))))) (fun h=>nomatch h) (fun h=>bC))) (Le.of ⟨rfl,rfl,trivial⟩)
theorem EX (T:Txt K mg t):GF P w K mg base CX 2 "_law_after" 3 IH:=by
 refine⟨_,_,_,iR T.nX.F Am rfl fun bx A outer s H E G ds r hr hl hR=>?_,(T.g T.nX.a),T.nX.F.kp,T.nX.b⟩
 obtain⟨six,x,y,rfl,wx,Mj,rfl⟩:=hR
 have IK:=Cc (P:=P) (w:=w) (base:=base) T
 have Lu:=xi (P:=P) (w:=w) (base:=base) T
 have nd:=Am.nd
 have WW:=qd six
 have Ui:=eK six
 have w6:wn six<=6:=by cases six <;> decide
 let fa:Int×Int:=tn six (x.turn % wy six).toNat y.shift
 let mR:Nat->List Int:=fun k=>(List.range (wn six)).map fun w=>if w < k then om six x y w else x.reach.getD w 0
 let mT:Nat->List Int:=fun k=>(List.range (wn six)).map fun w=>if w < k then o4 six x y w else x.aJ.getD w 0
 have gl:∀ l:List Int,l.length=wn six->(List.range (wn six)).map (fun w=>l.getD w 0)=l:=fun l h=>by
   refine list_eq (six:=six) (by simp) h fun w hw=>?_
   rw[kH hw]
 have e0R:mR 0=x.reach:=by show(List.range (wn six)).map _=_;rw[Dr,gl _ wx.rl]
 have e0T:mT 0=x.aJ:=by show(List.range (wn six)).map _=_;rw[Dr,gl _ wx.tl]
 have enR:mR (wn six)=(jn six x y).reach:=by show(List.range (wn six)).map _=_;rw[Ds];rfl
 have enT:mT (wn six)=(jn six x y).aJ:=by show(List.range (wn six)).map _=_;rw[Ds];rfl
 let D:Slot->Slot->Slot->Slot->Slot->List Slot:=fun a6 a7 a8 a9 MA=>[.val (.int (wy six)),.val (dY x),.val (dY y),.val (sp fa),.val (sp (ad x.shift fa)),.val (.lst (Uh six x.shift)),a6,a7,a8,a9,MA]
 let S:Nat->List Slot:=fun k=>D (.own (.lst ((mR k).map .int))) (.own (.lst ((mT k).map .int))) .bV .bV .bV
 have YA:sm fa:=Mi Mj.sm
 have Qj:=wx.sm
 refine⟨_,.rt _,ak (aB 3 nd (d:=sp fa) (b5 IK aA hr (ae (aa 0 rfl) (ae (ar (aa 2 rfl) af rfl) (ae (ar (aa 1 rfl) af rfl) ai))) ⟨six,y.shift,x.turn,rfl,rfl⟩))
   (ak (aB 4 nd (d:=sp (ad x.shift fa)) (aS (ae (aN (ar (ds:=[.int x.shift.1,.int x.shift.2]) (ar (aa 1 rfl) af rfl) af rfl) (ar (ds:=[.int fa.1,.int fa.2]) (aa 3 rfl) af rfl)) (ae (aN (ar (ds:=[.int x.shift.1,.int x.shift.2]) (ar (aa 1 rfl) af rfl) af rfl) (ar (ds:=[.int fa.1,.int fa.2]) (aa 3 rfl) af rfl)) ai)) AA3))
   (ak (dl1:=D .bV .bV .bV .bV .bV) (aB 5 nd (kr (CI Lu aA hr (ae (aa 0 rfl) (ae (ar (aa 1 rfl) af rfl) ai)) ⟨six,x.shift,rfl,rfl⟩)))
   (ak (dl1:=D (.own (.lst ((mR 0).map .int))) .bV .bV .bV .bV) (lX 6 nd (zM (xR T.nz (ar (aa 1 rfl) af rfl)) (by rw[e0R])))
   (ak (dl1:=S 0) (lX 7 nd (zM (xR T.nz (ar (aa 1 rfl) af rfl)) (by rw[e0T])))
   (ak (dl1:=S (wn six)) (iQ (o:=.nx (S (wn six))) (m:=wn six) 8 S nd rfl PassesOwn.leaving T.iC (ae (aa 0 rfl) ai) ⟨by omega,by omega⟩ (Le.of ⟨rfl,rfl,rfl,rfl,rfl,rfl,rfl,rfl,trivial⟩) (by omega) (fun k hk=>?_) (by rw[<- WW,Int.toNat_natCast];exact .all rfl))
   ?_)))))⟩
 . obtain⟨v,hv,hvn⟩:∃ v:Nat,((k:Int) - x.turn) % wy six=(v:Int)/\v < wn six:=by
     have h1:=Int.emod_nonneg ((k:Int) - x.turn) (Int.ne_of_gt Ui)
     have h2:=Int.emod_lt_of_pos ((k:Int) - x.turn) Ui
     exact⟨(((k:Int) - x.turn) % wy six).toNat,by omega,by omega⟩
   have rr:∀ ns:List Int,(mP six ns x.turn).getD k 0=ns.getD v 0:=fun ns=>by rw[vF six ns x.turn hk,hv,Int.toNat_natCast]
   have gm:∀ (f g:Nat->Int),lj (((List.range (wn six)).map fun w=>if w < k then f w else g w).map Dt.int) (k:Int)=some (.int (g k)):=fun f g=>by
     refine jJ ?_
     rw[List.getElem?_map,List.getElem?_map,List.getElem?_range hk]
     simp
   have yv:∀ l:List Int,l.length=wn six->lj (l.map Dt.int) (v:Int)=some (.int (l.getD v 0)):=fun l h=>by
     rw[KY (by omega) (by omega),Int.toNat_natCast]
   have YB:=PL six x.shift (z:=(k:Int)) (by omega) (by omega)
   have lR:((mR k).map Dt.int).length=wn six:=by simp[mR]
   have lT:((mT k).map Dt.int).length=wn six:=by simp[mT]
   let D9:Slot->Slot->List Slot:=fun a6 a7=>D a6 a7 (.val (.int (k:Int))) (.val (.int (v:Int))) .bV
   refine .nx (dl':=D9 (.own (.lst ((mR (k+1)).map .int))) (.own (.lst ((mT (k+1)).map .int)))) (ak (dl1:=D9 (.own (.lst ((mR k).map .int))) (.own (.lst ((mT k).map .int)))) (aB 9 nd (bu (d8 (gM (aa 8 rfl) (ar (aa 1 rfl) af rfl)) (aa 0 rfl) Ui) (congrArg Dt.int hv)))
     (ao (bh (wH (aN (qC (aa 5 rfl) (aa 8 rfl) YB) (qC (ar (aa 2 rfl) af rfl) (aa 9 rfl) (yv y.reach Mj.rl))) (oQ 6 (aa 8 rfl) (gm _ _))) (fun h=>?_) (fun h=>?_)))) (Le.of ⟨rfl,rfl,rfl,rfl,rfl,rfl,rfl,rfl,trivial⟩)
   . have h:=of_decide_eq_true h
     have c:¬ (mP six y.reach x.turn).getD k 0+iM six k x.shift<=x.reach.getD k 0:=by rw[rr];omega
     have eR:om six x y k=iM six k x.shift+y.reach.getD v 0:=by
       have:om six x y k=(mP six y.reach x.turn).getD k 0+iM six k x.shift:=if_neg c
       rw[this,rr];omega
     have eT:o4 six x y k=x.many+y.aJ.getD v 0:=by
       have:o4 six x y k=(mP six y.aJ x.turn).getD k 0+x.many:=if_neg c
       rw[this,rr];omega
     let aR:List Dt:=((mR k).map Dt.int).set k (.int (iM six k x.shift+y.reach.getD v 0))
     let aT:List Dt:=((mT k).map Dt.int).set k (.int (x.many+y.aJ.getD v 0))
     have q1:(mR (k+1)).map Dt.int=aR:=by
       show _=((mR k).map Dt.int).set k (.int (iM six k x.shift+y.reach.getD v 0))
       rw[lK,<- eR]
       show _=(((List.range (wn six)).map fun w=>if w < k then om six x y w else x.reach.getD w 0).set k (om six x y k)).map Dt.int
       rw[n8 hk]
     have q2:(mT (k+1)).map Dt.int=aT:=by
       show _=((mT k).map Dt.int).set k (.int (x.many+y.aJ.getD v 0))
       rw[lK,<- eT]
       show _=(((List.range (wn six)).map fun w=>if w < k then o4 six x y w else x.aJ.getD w 0).set k (o4 six x y k)).map Dt.int
       rw[n8 hk]
     rw[q1,q2]
     exact ak (dl1:=D9 (.own (.lst aR)) (.own (.lst ((mT k).map .int)))) (jh (m:=k) 6 (aN (qC (aa 5 rfl) (aa 8 rfl) YB) (qC (ar (aa 2 rfl) af rfl) (aa 9 rfl) (yv y.reach Mj.rl))) (aa 8 rfl) (yQ (by omega)))
       (ao (jh (m:=k) 7 (aN (ar (aa 1 rfl) af rfl) (qC (ar (aa 2 rfl) af rfl) (aa 9 rfl) (yv y.aJ Mj.tl))) (aa 8 rfl) (yQ (by omega))))
   . have h:=of_decide_eq_false h
     have c:(mP six y.reach x.turn).getD k 0+iM six k x.shift<=x.reach.getD k 0:=by rw[rr];omega
     have eR:om six x y k=x.reach.getD k 0:=if_pos c
     have eT:o4 six x y k=x.aJ.getD k 0:=if_pos c
     have sR:mR (k+1)=mR k:=List.map_congr_left fun w _=>by
       by_cases z:w=k
       . subst z;rw[if_pos (by omega),if_neg (by omega),eR]
       . by_cases z2:w < k
         . rw[if_pos (by omega),if_pos z2]
         . rw[if_neg (by omega),if_neg z2]
     have sT:mT (k+1)=mT k:=List.map_congr_left fun w _=>by
       by_cases z:w=k
       . subst z;rw[if_pos (by omega),if_neg (by omega),eT]
       . by_cases z2:w < k
         . rw[if_pos (by omega),if_pos z2]
         . rw[if_neg (by omega),if_neg z2]
     rw[sR,sT]
     exact bC
 . have ear:x.f9+y.f9+x.shift.1 * fa.2 - x.shift.2 * fa.1=(jn six x y).f9:=by
     show _=x.f9+y.f9+(x.shift.1 * fa.2 - x.shift.2 * fa.1)
     omega
   have m1:IntMulOk x.shift.1 fa.2:=Dp (m:=1000) (n:=1000) (by omega) YA.2 (by decide)
   have m2:IntMulOk x.shift.2 fa.1:=Dp (m:=1000) (n:=1000) (by omega) YA.1 (by decide)
   show lu _ _ _ (D (.own (.lst ((mR (wn six)).map .int))) (.own (.lst ((mT (wn six)).map .int))) .bV .bV .bV) _ _
   rw[enR,enT]
   refine ak (dl1:=D (.own (.lst ((jn six x y).reach.map .int))) (.own (.lst ((jn six x y).aJ.map .int))) .bV .bV (.val (.int (jn six x y).f9))) (aB 10 nd (bu (gM (aN (aN (ar (aa 1 rfl) af rfl) (ar (aa 2 rfl) af rfl)) (fP (ar (ds:=[.int x.shift.1,.int x.shift.2]) (ar (aa 1 rfl) af rfl) af rfl) (ar (ds:=[.int fa.1,.int fa.2]) (aa 3 rfl) af rfl) m1)) (fP (ar (ds:=[.int x.shift.1,.int x.shift.2]) (ar (aa 1 rfl) af rfl) af rfl) (ar (ds:=[.int fa.1,.int fa.2]) (aa 3 rfl) af rfl) m2)) (congrArg Dt.int ear))) ?_
   refine qJ (w:=.lst ((jn six x y).reach.map .int)) 6 (qJ (w:=.lst ((jn six x y).aJ.map .int)) 7 ?_)
   show lu _ _ _ (D (.val (.lst ((jn six x y).reach.map .int))) (.val (.lst ((jn six x y).aJ.map .int))) .bV .bV (.val (.int (jn six x y).f9))) _ _
   exact ao (aE (bu (d:=.tup [.int (x.many+y.many),.int ((x.turn+y.turn) % wy six),sp (ad x.shift fa),.int (x.bH+y.bH),.lst ((jn six x y).reach.map .int),.lst ((jn six x y).aJ.map .int),.int (jn six x y).f9]) (aS (ae (aN (ar (aa 1 rfl) af rfl) (ar (aa 2 rfl) af rfl)) (ae (d8 (aN (ar (aa 1 rfl) af rfl) (ar (aa 2 rfl) af rfl)) (aa 0 rfl) Ui) (ae (aa 4 rfl) (ae (aN (ar (aa 1 rfl) af rfl) (ar (aa 2 rfl) af rfl)) (ae (aa 6 rfl) (ae (aa 7 rfl) (ae (aa 10 rfl) ai))))))) AA3) rfl))
noncomputable def DF (t:ee):List Dt->List Dt->List Dt->List Dt->Dt->Prop:=fun as ds xs ys d6=>∃ six x,as=[t.rN six x]/\WF six x/\ds=[.int x.many,.int x.turn,sp x.shift,.int x.bH]/\xs=x.reach.map .int/\ys=x.aJ.map .int/\d6=.int x.f9
noncomputable def Lv:Rl:=fun ds r=>∃ six d,ds=[.int (wy six),.str d]/\d∈mJ/\r=.ret (dY (b0 six [d]))
noncomputable abbrev Te (i:Nat):Stmt:=(aG qT).getD i (.Pass ⟨0,0,0,0⟩)
noncomputable abbrev WX:Stmt->Scope
 | .Return (some (.Tuple [_,_,_,_,_,.ListComp _ _ sc _,_] _ _)) _=>sc
 | _=>ah (.Pass ⟨0,0,0,0⟩)
noncomputable abbrev Tf:Scope:=Qa (Te 4)
noncomputable abbrev Tg:Scope:=WX (Te 5)
theorem MB:jk Tf (ah qT) BP ["_law_far"] ["_law_far"] []=true:=by decide +kernel
theorem MC:jk Tg (ah qT) BP ["_law_far"] ["_law_far"] []=true:=by decide +kernel
noncomputable def Th (six:Bool):List Int:=if six then [2,1,-1,-2,-1,1] else [1,0,-1,0]
theorem IL (T:Txt K mg t):iL P w K mg base CX 6 t.eh t.ia ["self"] (Ss K 1 (DF t)):=by
 obtain⟨oc,od,kV,doc,pm,an,bx,ct,vJ,e,lk,lP⟩:=T.fN.F.ex
 rw[e] at lk ⊢
 refine Cq lk lP oE (fun vs H Q E ⟨Hf,as,ds,xs,ys,d6,s,rp,hl,_⟩=>by rw[rp.length,hl];rfl) fun A outer s H vs Q E hr ⟨Hf,as,ds,xs,ys,d6,sm,rp,hl,hR,hk⟩=>?_
 obtain⟨six,x,rfl,hw,rfl,rfl,rfl,rfl⟩:=hR
 have qe:=xb (P:=P) (w:=w) (base:=base) T
 have qf:=xc (P:=P) (w:=w) (base:=base) T
 have qg:=xf (P:=P) (w:=w) (base:=base) T
 have vo:=yN (P:=P) (w:=w) (base:=base) T
 have vp:=yO (P:=P) (w:=w) (base:=base) T
 have lL:=o7 (P:=P) (w:=w) (base:=base) T
 have vq:=yP (P:=P) (w:=w) (base:=base) T
 have e0:tn six ((0:Int) % wy six).toNat x.shift=x.shift:=by cases six <;> rfl
 have sl:slots mh [t.rN six x]=[.val (t.rN six x)]:=rfl
 have S0:=qG (N:=mh) sm rp
 rw[sl] at S0
 refine⟨_,kL (A5 (FC (d7 (bD (G:=⟨Hf,H⟩) (dl:=[.val (t.rN six x)]) (fs:=t.iI six x) (aa 0 rfl) vo aA hr ⟨six,x,rfl,rfl⟩) (d7 (bD (G:=⟨Hf,H⟩) (dl:=[.val (t.rN six x)]) (fs:=t.iI six x) (aa 0 rfl) vp aA hr ⟨six,x,rfl,rfl⟩) (d7 (bu (CK (G:=⟨Hf,H⟩) (dl:=[.val (t.rN six x)]) (fs:=t.iI six x) (aa 0 rfl) qe aA hr ⟨six,x,0,rfl,rfl⟩) (by rw[e0]))
   (d7 (bD (G:=⟨Hf,H⟩) (dl:=[.val (t.rN six x)]) (fs:=t.iI six x) (aa 0 rfl) lL aA hr ⟨six,x,rfl,rfl⟩) (d7 (zM (xV (G:=⟨Hf,H⟩) (dl:=[.val (t.rN six x)]) (fs:=t.iI six x) (aa 0 rfl) qf aA hr ⟨six,x,0,rfl,hw,rfl⟩) (by rw[qk six hw.rl])) (d7 (zM (xV (G:=⟨Hf,H⟩) (dl:=[.val (t.rN six x)]) (fs:=t.iI six x) (aa 0 rfl) qg aA hr ⟨six,x,0,rfl,hw,rfl⟩) (by rw[qk six hw.tl]))
   (d7 (bD (G:=⟨Hf,H⟩) (dl:=[.val (t.rN six x)]) (fs:=t.iI six x) (aa 0 rfl) vq aA hr ⟨six,x,rfl,rfl⟩) lS))))))))),?_⟩
 refine⟨Hf,S0,fun v0 au H1 g1 r0=>⟨au,S0.grow g1,fun v1 bT H2 g2 r1=>⟨bT,(S0.grow g1).grow g2,fun v2 iP H3 g3 r2=>⟨iP,((S0.grow g1).grow g2).grow g3,fun v3 E4 H4 g4 r3=>⟨E4,(((S0.grow g1).grow g2).grow g3).grow g4,fun p sM H5 g5 n5 m5 o5=>⟨sM,((((S0.grow g1).grow g2).grow g3).grow g4).grow g5,fun q Hf6 H6 g6 n6 m6 o6=>⟨Hf6,(((((S0.grow g1).grow g2).grow g3).grow g4).grow g5).grow g6,fun v6 R4 H7 g7 r6=>⟨Nat.le_of_ble_eq_true rfl,fun a ha=>?_⟩⟩⟩⟩⟩⟩⟩⟩
 obtain⟨vx,hx,rx⟩:=o5
 obtain⟨vy,hy,ry⟩:=o6
 have g67:=g6.trans g7
 have ga:aP R4 H7 (upd R4 a (.tup [v0,v1,v2,v3,.ref p,.ref q,v6])) (upd H7 a (.tup [v0,v1,v2,v3,.ref p,.ref q,v6])):=.alloc g7.sub ha
 have gx:=g67.trans ga
 have gy:=g7.trans ga
 have YC:=((((g1.trans g2).trans g3).trans g4).trans g5)
 have pq:p≠q:=aw hx n6
 refine hk a p q _ _ (YC.trans gx) ⟨⟨[v0,v1,v2,v3],v6,.of aj,.cons (r0.mono ((((g2.trans g3).trans g4).trans g5).trans gx).aW) (.cons (r1.mono (((g3.trans g4).trans g5).trans gx).aW) (.cons (r2.mono ((g4.trans g5).trans gx).aW) (.cons (r3.mono (g5.trans gx).aW) .nil))),r6.mono ga.aW⟩,⟨vx,gx.big _ _ hx,rx.mono gx.aW⟩,⟨vy,gy.big _ _ hy,ry.mono gy.aW⟩,pq,C5 gx hx m5,C5 gy hy m6,?_,?_⟩
 . exact(((g1.trans g2).trans g3).trans g4).big.free n5
 . exact YC.big.free n6
theorem IM (T:Txt K mg t):GF P w K mg base CX 2 "_law_deed" 2 Lv:=by
 refine⟨_,_,_,iR T.rh.F C9 rfl fun bx A outer s H E G ds r hr hl hR=>?_,(T.g T.rh.a),T.rh.F.kp,T.rh.b⟩
 obtain⟨six,d,rfl,hd5,rfl⟩:=hR
 have Cd:=DE (P:=P) (w:=w) (base:=base) T
 have WY:=xi (P:=P) (w:=w) (base:=base) T
 have nd:=C9.nd
 let z:Tr:=zc six
 let zs:List Dt:=[.int z.many,.int z.turn,sp z.shift,.int z.bH,.lst (z.reach.map .int),.lst (z.aJ.map .int),.int z.f9]
 have c5:d="stroke"\/d="step"\/d="left"\/d="right"\/d="rest":=by simpa [mJ] using hd5
 have u4:lj zs 4=some (.lst (z.reach.map .int)):=rfl
 have u5:lj zs 5=some (.lst (z.aJ.map .int)):=rfl
 refine⟨_,.rt _,ak (aB 2 nd (d:=.tup zs) (b5 Cd aA hr (ae (aa 0 rfl) ai) ⟨six,rfl,rfl⟩)) ?_⟩
 by_cases c:d∈Fb
 . have c2:d="stroke"\/d="step":=by simpa [Fb] using c
   have n1:d≠"left":=by rcases c2 with h | h <;> rw[h] <;> decide
   have n2:d≠"right":=by rcases c2 with h | h <;> rw[h] <;> decide
   have n3:d≠"rest":=by rcases c2 with h | h <;> rw[h] <;> decide
   have eU:Uh six (1,0)=(Th six).map .int:=by cases six <;> rfl
   let rs:List Int:=(Th six).map fun z=>if 0 < z then z else 0
   have e4:(((Th six).filter fun _=>true).map fun z=>Dt.int (if 0 < z then z else 0))=rs.map .int:=by cases six <;> rfl
   have e5:((rs.filter fun _=>true).map fun z=>Dt.int (if decide (0 < z) then 1 else 0))=(rs.map fun z=>(if decide (0 < z)=true then (1:Int) else 0)).map .int:=by cases six <;> rfl
   have l4:(Th six).length<=sizeLine:=by cases six <;> decide
   have l5:rs.length<=sizeLine:=by cases six <;> decide
   refine ak (bh (u:=false) (da (fQ (aa 1 rfl) bP) (decide_eq_false n1)) (fun h=>nomatch h) (fun _=>bC)) (ak (bh (u:=false) (da (fQ (aa 1 rfl) bP) (decide_eq_false n2)) (fun h=>nomatch h) (fun _=>bC)) (ak (bh (u:=false) (da (fQ (aa 1 rfl) bP) (decide_eq_false n3)) (fun h=>nomatch h) (fun _=>bC)) ?_))
   refine ak (Bv 3 (Th six) Dt.int (fun z=>Dt.int (if 0 < z then z else 0)) (fun z=>[.val (.int z)]) (fun _=>true) rfl nd (cU MB) (jI (bu (kr (CI WY aA hr (ae (aa 0 rfl) (ae (aS (ae af (ae af ai)) AA3) ai)) ⟨six,(1,0),rfl,rfl⟩)) (by rw[eU]))) (cJ (cU MB) rfl) kh (fun a _=>du) (.nil fun _ _=>rfl)
     (fun z hz _ C fp s' H' G'=>F5 T.De rfl (ae af (ae (aa 0 rfl) ai))) l4) ?_
   rw[e4]
   refine qJ 3 (w:=.lst (rs.map .int)) (ao (aE (bu (aS (ae af (ae af (ae (aS (ae af (ae af ai)) AA3) (ae (CY T.Ar (NO (aa 1 rfl) bP)) (ae (aa 3 rfl) (ae (iG e5 (jw rs Dt.int (fun z=>Dt.int (if decide (0 < z) then 1 else 0)) (fun z=>[.val (.int z)]) (fun _=>true) rfl (cU MC) (jI (aa 3 rfl)) (cJ (cU MC) rfl) kh (fun a _=>du) (.nil fun _ _=>rfl)
     (fun z hz _ C fp s' H' G'=>CY T.Ar (Rf (aa 0 rfl) af)) l5)) (ae af ai))))))) AA3) ?_)))
   rcases c2 with h | h <;> subst h <;> cases six <;> rfl
 . rcases c5 with h | h | h | h | h
   . exact absurd (show d∈Fb by rw[h];decide) c
   . exact absurd (show d∈Fb by rw[h];decide) c
   . subst h
     refine kM (bh (u:=true) (da (fQ (aa 1 rfl) bP) (decide_eq_true rfl)) (fun _=>ao (aE (bu (aS (ae af (ae af (ae (aS (ae af (ae af ai)) AA3) (ae af (ae (ar (aa 2 rfl) af u4) (ae (ar (aa 2 rfl) af u5) (ae af ai))))))) AA3) ?_))) (fun h=>nomatch h))
     cases six <;> rfl
   . subst h
     refine ak (bh (u:=false) (da (fQ (aa 1 rfl) bP) (decide_eq_false (by decide))) (fun h=>nomatch h) (fun _=>bC)) (kM (bh (u:=true) (da (fQ (aa 1 rfl) bP) (decide_eq_true rfl)) (fun _=>ao (aE (bu (aS (ae af (ae (gM (aa 0 rfl) af) (ae (aS (ae af (ae af ai)) AA3) (ae af (ae (ar (aa 2 rfl) af u4) (ae (ar (aa 2 rfl) af u5) (ae af ai))))))) AA3) ?_))) (fun h=>nomatch h)))
     cases six <;> rfl
   . subst h
     refine ak (bh (u:=false) (da (fQ (aa 1 rfl) bP) (decide_eq_false (by decide))) (fun h=>nomatch h) (fun _=>bC)) (ak (bh (u:=false) (da (fQ (aa 1 rfl) bP) (decide_eq_false (by decide))) (fun h=>nomatch h) (fun _=>bC)) (kM (bh (u:=true) (da (fQ (aa 1 rfl) bP) (decide_eq_true rfl)) (fun _=>ao (aE (bu (aS (ae af (ae af (ae (aS (ae af (ae af ai)) AA3) (ae af (ae (ar (aa 2 rfl) af u4) (ae (ar (aa 2 rfl) af u5) (ae af ai))))))) AA3) ?_))) (fun h=>nomatch h))))
     cases six <;> rfl
theorem IP {rows:List Row}(ok:dn rows){r:Row}(h:r∈rows):lh rows r.c=r.d/\wordOf rows r.c=r.w:=by
 obtain⟨q,hq,hc,hd,hw⟩:=iH (List.mem_map_of_mem (f:=(·.c)) h)
 obtain⟨i,hi,rfl⟩:=List.mem_iff_getElem.mp hq
 obtain⟨j,hj,rfl⟩:=List.mem_iff_getElem.mp h
 have e:i=j:=by
   rcases Nat.lt_trichotomy i j with h | h | h
   . have:=List.pairwise_iff_getElem.mp ok.nd i j (by rw[List.length_map];exact hi) (by rw[List.length_map];exact hj) h
     rw[List.getElem_map,List.getElem_map] at this
     exact absurd hc this
   . exact h
   . have:=List.pairwise_iff_getElem.mp ok.nd j i (by rw[List.length_map];exact hj) (by rw[List.length_map];exact hi) h
     rw[List.getElem_map,List.getElem_map] at this
     exact absurd hc.symm this
 subst e
 exact⟨hd,hw⟩
theorem PQ (T:Txt K mg t):iL P w K mg base CX 12 t.pX t.uY ["_law_script"] (HZ K):=by
 refine iR T.Aq.F He rfl fun bx A outer s H E G ds r hr hl hR=>?_
 obtain⟨ns,hlen,rfl,rfl⟩:=hR
 have mC:=AO (P:=P) (w:=w) (base:=base) T
 have Lw:=Ij (P:=P) (w:=w) (base:=base) T
 have Lx:=EX (P:=P) (w:=w) (base:=base) T
 have Cd:=DE (P:=P) (w:=w) (base:=base) T
 have IQ:=IM (P:=P) (w:=w) (base:=base) T
 have Ly:=EV (P:=P) (w:=w) (base:=base) T
 have Lz:=Ht (P:=P) (w:=w) (base:=base) T
 have IS:=HU (P:=P) (w:=w) (base:=base) T
 have WZ:=ID (P:=P) (w:=w) (base:=base) T
 have Ti:=La (P:=P) (w:=w) (base:=base) T
 have LA:=EU (P:=P) (w:=w) (base:=base) T
 have Ce:=Lq (P:=P) (w:=w) (base:=base) T
 have LB:=IL (P:=P) (w:=w) (base:=base) T
 have nd:=He.nd
 let six:=DB ns
 let rows:=vC ns
 let wd:=tT ns
 have Uj:sx rows wd:=S5 ns
 have ok:dn rows:=Uj.ok
 have hb:=Lf ns (far:=16) (by decide) (by decide)
 obtain⟨age,Aa⟩:∃ age:Nat,oK ns 16=((age:Nat):Int):=⟨(oK ns 16).toNat,by omega⟩
 have IZ:age<=200:=by omega
 obtain⟨k,ek,hk⟩:∃ k:Nat,bK ns 9 % (((rows.map mO).length:Nat):Int)=((k:Nat):Int)/\k < rows.length:=by
   have h0:=ok.pos
   have hL:(rows.map mO).length=rows.length:=List.length_map ..
   have a:=Int.emod_nonneg (bK ns 9) (show(((rows.map mO).length:Nat):Int)≠0 by omega)
   have c:=Int.emod_lt_of_pos (bK ns 9) (show(0:Int) < (((rows.map mO).length:Nat):Int) by omega)
   exact⟨(bK ns 9 % (((rows.map mO).length:Nat):Int)).toNat,by omega,by omega⟩
 obtain⟨q,hq⟩:∃ q,q=rows[k]:=⟨_,rfl⟩
 have PR:q∈rows:=by rw[hq];exact List.getElem_mem hk
 have hx:q.c∈rows.map (·.c):=List.mem_map_of_mem PR
 have Wy:lj (rows.map mO) ((k:Nat):Int)=some (mO q):=by
   unfold lj zy
   simp
   rw[if_pos hk]
   simp[hk,hq]
 let nD:Nat->Dt:=fun a=>.int ((a:Nat):Int)
 let x:Tr:=zd six rows age q.c
 have Uk:∀ a y,a<=200->y∈rows.map (·.c)->WF six (zd six rows a y):=fun a y h1 h2=>qh six (by unfold vG;rw[List.length_map];exact PD ok h2 h1)
 have hw8:=ok.wp q PR
 have Ms:=ok.wo q PR
 have W0:∀ x:Tr,PyData.eqv (pd (dY x)) (pd (dY x))=true:=fun x=>eqv_refl _ (kI x).1
 have YD:b0 six [q.d]=zd six rows 0 q.c:=by
   show _=b0 six [lh rows q.c]
   rw[(IP ok PR).1]
 let Q:Nat->List Str:=fun j=>vG rows ((q.w.take j).flatMap (gP rows (age - 1)))
 have F2:0 < age->vG rows (gP rows age q.c)=Q q.w.length:=fun h=>by
   obtain⟨a,rfl⟩:∃ a,age=a+1:=⟨age - 1,by omega⟩
   show vG rows ((wordOf rows q.c).flatMap (gP rows a))=vG rows ((q.w.take q.w.length).flatMap (gP rows a))
   rw[(IP ok PR).2,List.take_length]
 have hQl:0 < age->∀ j,(Q j).length < 2 ^ 990:=fun h j=>by
   have e1:(gP rows age q.c).length < 2 ^ 990:=PD ok hx IZ
   have e2:=congrArg List.length (F2 h)
   unfold vG at e2
   rw[List.length_map] at e2
   show(vG rows ((q.w.take j).flatMap (gP rows (age - 1)))).length < _
   unfold vG;rw[List.length_map]
   have e3:q.w.flatMap (gP rows (age - 1))=(q.w.take j).flatMap (gP rows (age - 1)) ++ (q.w.drop j).flatMap (gP rows (age - 1)):=by rw[<- List.flatMap_append,List.take_append_drop]
   have e4:(Q q.w.length).length=(q.w.flatMap (gP rows (age - 1))).length:=by show(vG rows ((q.w.take q.w.length).flatMap _)).length=_;unfold vG;rw[List.length_map,List.take_length]
   have e5:=congrArg List.length e3
   rw[List.length_append] at e5
   have e6:(gP rows age q.c).length=(Q q.w.length).length:=by
     have:=congrArg List.length (F2 h)
     unfold vG at this
     rw[List.length_map] at this
     rw[this]
   omega
 have hQS:∀ j (h:j < q.w.length),jn six (b0 six (Q j)) (zd six rows (age - 1) q.w[j])=b0 six (Q (j+1)):=fun j h=>by
   show jn six (b0 six (Q j)) (b0 six (vG rows (gP rows (age - 1) q.w[j])))=_
   rw[DD six _ _ _ rfl]
   show b0 six (vG rows ((q.w.take j).flatMap (gP rows (age - 1))) ++ vG rows (gP rows (age - 1) q.w[j]))=b0 six (vG rows ((q.w.take (j+1)).flatMap (gP rows (age - 1))))
   have e1:(q.w.take (j+1)).flatMap (gP rows (age - 1))=(q.w.take j).flatMap (gP rows (age - 1)) ++ gP rows (age - 1) q.w[j]:=by
     rw[List.take_add_one,List.getElem?_eq_getElem h,List.flatMap_append]
     show _ ++ [q.w[j]].flatMap (gP rows (age - 1))=_
     rw[List.flatMap_cons,List.flatMap_nil,List.append_nil]
   rw[e1]
   unfold vG
   rw[List.map_append]
 refine⟨_,.rt _,?_⟩
 refine ak (Kf 1 2 3 4 nd rfl (bu (b5 Lw aA hr (ae (aa 0 rfl) (ae af ai)) ⟨ns,16,rfl,⟨by decide,by decide⟩,rfl⟩) (by rw[Aa]))) ?_
 let D0:Slot->Slot->Slot->Slot->Slot->List Slot:=fun a6 a7 a8 a9 MA=>[.val (.oy ns),.val (.int (wy six)),.val (.lst (rows.map mO)),.val (.str (tx wd)),.val (nD age),.val (t.yF six rows),a6,a7,a8,a9,MA]
 refine ak (dl1:=D0 .bV .bV .bV .bV .bV) (aB 5 nd (Rv (sI Lz aA hr (ae (aa 1 rfl) (ae (kr (xR T.nz (aa 2 rfl))) ai)) ⟨six,rows,rfl,ok,rfl⟩))) ?_
 refine Eu (fs2:=fun l ls=>t.yX six rows wd l ls 1) (gs2:=[t.o8 six rows]) (nm2:=["tracks"]) (j2:=1) 6 nd WZ aA hr (JN (zS IS aA hr (ae (aa 5 rfl) (ae (aa 3 rfl) ai)) ⟨six,rows,wd,rfl,Uj,rfl⟩)) (fun l ls YE=>⟨six,rows,wd,l,ls,1,rfl,Uj,rfl⟩) (fun l' ls' sQ=>?_)
 refine GU 6 fun l ls Yy=>?_
 have dok:PH t six rows wd ls' ls:=⟨Uj,sQ,Yy⟩
 let dE:Dt:=.obj t.aC (t.Iz six rows wd l' ls' 1 l ls 1)
 let D:Slot->Slot->Slot->List Slot:=D0 (.val dE) (.val (mO q))
 have Ul:∀ a y,a<=200->y∈rows.map (·.c)->AZ t [dE,nD a,.str (sg y)] (.ret (t.rA six (zd six rows a y))):=fun a y h1 h2=>⟨six,rows,wd,l',ls',1,l,ls,1,a,y,rfl,dok,⟨by decide,by decide⟩,h1,h2,rfl⟩
 have W2:∀ x:Tr,WF six x->IG t [t.rN six x] (.ret (dY x)):=fun x h=>⟨six,x,rfl,h,h.rl,rfl⟩
 let qs:List Dt:=[.str (sg q.c),.str q.d,.str (tx q.w)]
 refine ak (dl1:=D .bV .bV .bV) (aB 7 nd (d:=mO q) (qC (aa 2 rfl) (bu (d8 (b5 mC aA hr (ae (aa 0 rfl) (ae af ai)) ⟨ns,9,rfl,by decide,rfl⟩) (sH T.iz (aa 2 rfl)) (by have:=ok.pos;rw[List.length_map];omega)) (congrArg Dt.int ek)) Wy)) ?_
 have Um:WF six x:=Uk age q.c IZ hx
 refine OK 8 nd (Kj (fs:=t.iI six x) (R:=DF t) (nA (cI (fs:=t.Iz six rows wd l' ls' 1 l ls 1) (aa 6 rfl) LA aA hr (ae (aa 4 rfl) (ae (ar (d:=.str (sg q.c)) (ds:=qs) (aa 7 rfl) af rfl) ai)) (Ul age q.c IZ hx))) T.ax.cl T.dC LB aA hr T.fN.b ⟨six,x,rfl,Um,rfl,rfl,rfl,rfl⟩) ?_
 let DA:Slot->Slot->Addr->List Slot:=fun a9 MA a=>D (.val (.cls a)) a9 MA
 have no:∀ (a9 MA:Dt) (u9 W3:Bool) (a:Addr),uM (DA (if u9 then .val a9 else .bV) (if W3 then .val MA else .bV) a):=fun a9 MA u9 W3 a i o h=>by
   rcases i with _ | _ | _ | _ | _ | _ | _ | _ | _ | _ | _ | i
   all_goals first | cases h | (cases u9 <;> cases h) | (cases W3 <;> cases h)
 have no0:∀ a,uM (DA .bV .bV a):=no .cF .cF false false
 have W4:∀ d a,uM (DA (.val d) .bV a):=fun d=>no d .cF true false
 show tW _ _ (BI _ _ _ (DA .bV .bV) _ _ _ _ _)
 refine C6 (dl1:=DA (.val (dY (b0 six [q.d]))) .bV) no0 (fun G' a=>aB 9 nd (b5 IQ aA hr (ae (aa 1 rfl) (ae (ar (d:=.str q.d) (ds:=qs) (aa 7 rfl) af rfl) ai)) ⟨six,q.d,rfl,ok.dd q PR,rfl⟩)) ?_
 refine C6 (dl1:=DA (.val (dY x)) .bV) (W4 _) (fun G' a=>?iF) ?_
 case iF=>
   by_cases c:0 < age
   . let S:Nat->List Slot:=fun j=>DA (.val (dY (b0 six (Q j)))) .bV a
     have e9:S q.w.length=DA (.val (dY x)) .bV a:=by
       show DA (.val (dY (b0 six (Q q.w.length)))) .bV a=_
       rw[<- F2 c];rfl
     have h7:∀ y∈q.w,y < 128:=fun y hy=>by
       obtain⟨r,hr,hc⟩:=List.mem_map.mp (Ms y hy)
       have:=ok.sm r hr
       rw[hc] at this
       unfold small at this;omega
     rw[<- e9]
     refine bh (u:=true) (da (wH (aa 4 rfl) af) (decide_eq_true (by omega))) (fun _=>ak (dl1:=S 0) (aB 9 nd (b5 Cd aA hr (ae (aa 1 rfl) ai) ⟨six,rfl,rfl⟩)) (ao (nH (o:=.nx (S q.w.length)) (m:=q.w.length) q.w (fun y=>Dt.str (sg y)) (fun y dl=>dl.set 10 (.val (.str (sg y)))) S rfl PassesOwn.leaving (iS (ar (d:=.str (tx q.w)) (ds:=qs) (aa 7 rfl) af rfl)) (fj (dJ (iE h7)) (gL q.w)) (ck nd rfl (.inl rfl)) (fun a _=>sL) (Le.of ⟨rfl,rfl,rfl,rfl,rfl,rfl,rfl,rfl,rfl,rfl,trivial⟩) (Nat.le_refl _) (fun j y hj hy=>?_) (.all rfl)))) (fun h=>nomatch h)
     rw[List.getElem?_eq_getElem hj] at hy
     cases hy
     have W5:q.w[j]∈rows.map (·.c):=Ms _ (List.getElem_mem hj)
     refine .nx (dl':=DA (.val (dY (jn six (b0 six (Q j)) (zd six rows (age - 1) q.w[j])))) (.val (.str (sg q.w[j]))) a) (ao (aB 9 nd (b5 Lx aA hr (ae (aa 1 rfl) (ae (aa 9 rfl) (ae (bD (fs:=t.iI six (zd six rows (age - 1) q.w[j])) (nA (cI (fs:=t.Iz six rows wd l' ls' 1 l ls 1) (aa 6 rfl) LA aA hr (ae (bu (gM (aa 4 rfl) af) (congrArg Dt.int (show((age:Nat):Int) - 1=((age - 1:Nat):Int) by omega))) (ae (aa 10 rfl) ai)) (Ul (age - 1) _ (by omega) W5))) Ce aA hr (W2 _ (Uk (age - 1) _ (by omega) W5))) ai))) ⟨six,_,_,rfl,qh six (hQl c j),Uk (age - 1) _ (by omega) W5,rfl⟩))) (Le.of ⟨rfl,rfl,rfl,rfl,rfl,rfl,rfl,rfl,rfl,?_,trivial⟩)
     show Slot.val (dY (b0 six (Q (j+1))))=_
     rw[hQS j hj]
   . have e0:age=0:=by omega
     have ex:b0 six [q.d]=x:=by rw[YD];show zd six rows 0 q.c=zd six rows age q.c;rw[e0]
     rw[ex]
     exact bh (u:=false) (da (wH (aa 4 rfl) af) (decide_eq_false (by omega))) (fun h=>nomatch h) (fun _=>bC)
 refine Sv 8 (W4 _) (fun a=>rfl) (fun a=>D4 (uk (u:=false) (v:=false) (um (u:=true) (ug (b5 Ly aA hr (ae (aa 8 rfl) (ae (aa 1 rfl) ai)) ⟨six,x,rfl,Um,rfl⟩))) fun _=>(uh (Ri (d1:=dY x) (d2:=dY x) hr.units (aa 8 rfl) (aa 9 rfl) (kI _) (kI _) (by rw[W0];rfl))))) ?_
 have W6:(x.reach.map Dt.int).length < sizeLine:=by
   rw[List.length_map,Um.rl];cases six <;> decide
 refine Et 8 (W4 _) (fun a=>rfl) rfl (fun a=>af) W6 (fun a=>?_)
 let fD:Dt:=.tup [.int x.many,.int x.turn,sp x.shift,.int x.bH,.lst (x.reach.map .int ++ [.int 1]),.lst (x.aJ.map .int),.int x.f9]
 show lu _ _ _ (D (.val fD) (.val (dY x)) .bV) _ _
 have PU:sx rows [q.c]:=⟨ok,Nat.succ_pos 0,Nat.le_of_ble_eq_true rfl,fun y hy=>by
   have:y=q.c:=by simpa using hy
   rw[this];exact hx⟩
 have W7:x.many=Ug rows [q.c] age:=by
   show(b0 six (vG rows (gP rows age q.c))).many=_
   rw[(AG six _ _ rfl).1,<- Li PU age,Lj]
   unfold vG;rw[List.length_map]
 refine ak (bh (u:=false) (da (xJ (ar (d:=.int x.many) (ds:=[.int x.many,.int x.turn,sp x.shift,.int x.bH,.lst (x.reach.map .int ++ [.int 1]),.lst (x.aJ.map .int),.int x.f9]) (aa 8 rfl) af rfl) (OM (d:=.int (Ug rows [q.c] age)) (JN (zS IS aA hr (ae (aa 5 rfl) (ae (ar (d:=.str (tx [q.c])) (ds:=qs) (aa 7 rfl) af rfl) ai)) ⟨six,rows,[q.c],rfl,PU,rfl⟩)) Ti aA hr (ae (aa 4 rfl) ai) (fun l ls YE=>⟨six,rows,[q.c],l,ls,1,age,rfl,PU,YE,IZ,rfl⟩) (fun l ls=>rfl))) (by rw[W7,decide_eq_true rfl];rfl)) (fun h=>nomatch h) (fun _=>bC)) ?_
 exact ao (aE (uo (u:=true) (v:=true) (LP hr.units (bD (fs:=t.iI six x) (nA (cI (fs:=t.Iz six rows wd l' ls' 1 l ls 1) (aa 6 rfl) LA aA hr (ae (aa 4 rfl) (ae (ar (d:=.str (sg q.c)) (ds:=qs) (aa 7 rfl) af rfl) ai)) (Ul age q.c IZ hx))) Ce aA hr (W2 _ Um)) (aa 9 rfl) (kI _) (kI _) (W0 _)) fun _=>(pI (LP hr.units (bD (fs:=t.iI six (zd six rows 0 q.c)) (nA (cI (fs:=t.Iz six rows wd l' ls' 1 l ls 1) (aa 6 rfl) LA aA hr (ae (bu af rfl) (ae (ar (d:=.str (sg q.c)) (ds:=qs) (aa 7 rfl) af rfl) ai)) (Ul 0 q.c (by decide) hx))) Ce aA hr (W2 _ (Uk 0 q.c (by decide) hx))) (bu (b5 IQ aA hr (ae (aa 1 rfl) (ae (ar (d:=.str q.d) (ds:=qs) (aa 7 rfl) af rfl) ai)) ⟨six,q.d,rfl,ok.dd q PR,rfl⟩) (by rw[YD])) (kI _) (kI _) (W0 _)))))
end Pf
local macro_rules | `(tactic| walk_at "b")=>`(tactic| first
 | exact fun _ _ _ _ _ _ us hl=>match us,hl with | [_],_=>rfl
 | exact fun _ _ _ _ _ _ us hl=>match us,hl with | [_,_],_=>rfl
 | exact fun _ _ _ _ _ _ us hl=>match us,hl with | [_,_,_],_=>rfl
 | exact fun _ _ _ _ _ _ us hl=>match us,hl with | [_,_,_,_],_=>rfl
 | exact fun _ _ _ _ _ _ us hl=>match us,hl with | [_,_,_,_,_],_=>rfl
 | exact fun _ _ _ _ _ _ us hl=>match us,hl with | [_,_,_,_,_,_],_=>rfl
 | exact fun _ _ _ _ _ _ us hl=>match us,hl with | [_,_,_,_,_,_,_],_=>rfl
 | exact fun _ _ _ _ _ _ us hl=>match us,hl with | [_,_,_,_,_,_,_,_],_=>rfl
 | exact fun _ _ _ _ _ _ us hl=>match us,hl with | [_,_,_,_,_,_,_,_,_],_=>rfl
 | exact fun _ _ _ _ _ _ us hl=>match us,hl with | [],_=>rfl)
local macro_rules | `(tactic| walk_at "z")=>`(tactic| first
 | (refine' Pf.OQ ?a ?l ?c ?k ?b;(case a=>k_is);(case l=>k_is);(case c=>k_is);(case k=>k_is);(case b=>walk_at "b"))
 | (refine' Pf.OO ?l ?c ?k ?b;(case l=>k_is);(case c=>k_is);(case k=>k_is);(case b=>walk_at "b"))
 | (refine' Pf.OP ?l ?c ?k ?b;(case l=>k_is);(case c=>k_is);(case k=>k_is);(case b=>walk_at "b"))
 | (refine' Pf.OR ?a ?p ?h ?o ?s ?k;(case a=>k_is);(case p=>k_is);(case h=>k_is);(case o=>k_is);(case s=>k_is);(case k=>k_is))
 | (refine' L2.Meth.mk ?a ?i ?k;(case a=>k_is);(case i=>k_is);(case k=>k_is))
 | (refine' L2.Mk.mk ?a ?i ?f ?k;(case a=>k_is);(case i=>k_is);(case f=>k_is);(case k=>k_is))
 | (refine' Sg.NH.mk ?a ?i ?k;(case a=>k_is);(case i=>k_is);(case k=>k_is))
 | k_is | kernel_rfl)
namespace PySem.W.Fast
theorem tw2949143994701193785:True:=⟨⟩
theorem tw3068638736337483240:True:=⟨⟩
theorem tw2056497273951106614:True:=⟨⟩
theorem tw7475418025669683847:True:=⟨⟩
theorem tw11092128866000373046:True:=⟨⟩
theorem tw83080305737581012:True:=⟨⟩
theorem tw10645163106811360282:True:=⟨⟩
theorem tw10366408799863098864:True:=⟨⟩
theorem tw6579997712074271213:True:=⟨⟩
theorem tw14371850894605173871:True:=⟨⟩
theorem tw11426421185096363749:True:=⟨⟩
theorem tw6037320041644449884:True:=⟨⟩
theorem tw8317826273132781507:True:=⟨⟩
theorem tw12312806746651395690:True:=⟨⟩
theorem tw8945335814986663460:True:=⟨⟩
theorem tw15666291581172205895:True:=⟨⟩
theorem tw5466912235888013430:True:=⟨⟩
theorem tw11291374757321648687:True:=⟨⟩
theorem tw10630098392291758621:True:=⟨⟩
theorem tw15033677507375642923:True:=⟨⟩
theorem tw15329536177497508910:True:=⟨⟩
theorem tw2431946139929314384:True:=⟨⟩
theorem tw17633466293155991963:True:=⟨⟩
theorem tw4102295286635156067:True:=⟨⟩
theorem tw11719243273697923861:True:=⟨⟩
theorem tw17661772802605048826:True:=⟨⟩
theorem tw765494357877852334:True:=⟨⟩
theorem tw6336026451735556016:True:=⟨⟩
theorem tw2255926779490677827:True:=⟨⟩
theorem tw3018700025002130792:True:=⟨⟩
theorem tw7333600655246427635:True:=⟨⟩
theorem tw17105112051724203562:True:=⟨⟩
theorem tw15188022199722278738:True:=⟨⟩
theorem tw3743375465244237767:True:=⟨⟩
theorem tw8525501352042830444:True:=⟨⟩
theorem tw13049562436462646662:True:=⟨⟩
theorem tw12747766325206073910:True:=⟨⟩
theorem tw11799881606429358050:True:=⟨⟩
theorem tw1064582036996596487:True:=⟨⟩
theorem tw17736031686579578467:True:=⟨⟩
theorem tw12971221605959049725:True:=⟨⟩
theorem tw2149137409246917350:True:=⟨⟩
theorem tw796191394582048204:True:=⟨⟩
theorem tw6240228066290533006:True:=⟨⟩
theorem tw17186291197046896614:True:=⟨⟩
theorem tw11562740093026481724:True:=⟨⟩
theorem tw2659332951054094662:True:=⟨⟩
theorem tw12045948254036771683:True:=⟨⟩
theorem tw17864540907932091318:True:=⟨⟩
theorem tw18194737126264490682:True:=⟨⟩
theorem tw15200938865697703372:True:=⟨⟩
theorem tw4788866164676457689:True:=⟨⟩
theorem tw9765590308539387306:True:=⟨⟩
theorem tw8840585779848811182:True:=⟨⟩
theorem tw13308135037404628508:True:=⟨⟩
theorem tw5764931522361720906:True:=⟨⟩
theorem tw15787145517652029632:True:=⟨⟩
theorem tw1862845176680331811:True:=⟨⟩
theorem tw9531588491992048204:True:=⟨⟩
theorem tw4447430096233211624:True:=⟨⟩
theorem tw1748880439577528599:True:=⟨⟩
theorem tw14741565595489445009:True:=⟨⟩
theorem tw653087318397843322:True:=⟨⟩
theorem tw9909826159172616885:True:=⟨⟩
theorem tw5776962827081233315:True:=⟨⟩
theorem tw16763507091216020193:True:=⟨⟩
theorem tw9727191333082806365:True:=⟨⟩
theorem tw6549308742372216295:True:=⟨⟩
theorem tw16960911338713965611:True:=⟨⟩
theorem tw14047593263160385488:True:=⟨⟩
theorem tw14731876822786943887:True:=⟨⟩
theorem tw8980405966759242483:True:=⟨⟩
theorem tw7807113031057834865:True:=⟨⟩
theorem tw10338800492186038429:True:=⟨⟩
theorem tw14149813418061056333:True:=⟨⟩
theorem tw6842836619966208117:True:=⟨⟩
theorem tw5486139424631753721:True:=⟨⟩
theorem tw3645967975627480882:True:=⟨⟩
theorem tw2255334251762260601:True:=⟨⟩
theorem tw13622034545799517059:True:=⟨⟩
theorem tw5011869078687378663:True:=⟨⟩
theorem tw16279617022625548771:True:=⟨⟩
theorem tw17963944258894430970:True:=⟨⟩
theorem tw716313256057291652:True:=⟨⟩
theorem tw9730041176191602309:True:=⟨⟩
theorem tw2447451665885550774:True:=⟨⟩
theorem tw7387608831112451701:True:=⟨⟩
theorem tw2467557334157801696:True:=⟨⟩
theorem tw16852655041913728522:True:=⟨⟩
theorem tw18098730486194581576:True:=⟨⟩
theorem tw2812641081414371870:True:=⟨⟩
theorem tw7147822611052310440:True:=⟨⟩
theorem tw10889615601341334638:True:=⟨⟩
theorem tw12372296216456070120:True:=⟨⟩
theorem tw16930264540610602337:True:=⟨⟩
theorem tw7713942116272905797:True:=⟨⟩
theorem tw16161864626613199864:True:=⟨⟩
theorem tw9992325861804295471:True:=⟨⟩
theorem tw2943331340025894855:True:=⟨⟩
theorem tw9240372143419763095:True:=⟨⟩
theorem tw10867000894761541698:True:=⟨⟩
theorem tw3572924500010646509:True:=⟨⟩
theorem tw1971546838928835653:True:=⟨⟩
theorem tw6156020408071042151:True:=⟨⟩
theorem tw16537338755629203672:True:=⟨⟩
theorem tw630751499186299852:True:=⟨⟩
theorem tw5879314846421992477:True:=⟨⟩
theorem tw12426991131876604011:True:=⟨⟩
theorem tw6048694321690759097:True:=⟨⟩
theorem tw14163293018103644687:True:=⟨⟩
theorem tw7102490662218300998:True:=⟨⟩
theorem tw18243209016905845088:True:=⟨⟩
theorem tw12568303451912570593:True:=⟨⟩
theorem tw10343389747842041297:True:=⟨⟩
theorem tw7998413724190391394:True:=⟨⟩
theorem tw9923154957808212508:True:=⟨⟩
theorem tw17936901593954173000:True:=⟨⟩
theorem tw12939292919943528475:True:=⟨⟩
theorem tw6241743740061236385:True:=⟨⟩
theorem tw1639571331014813231:True:=⟨⟩
theorem tw8181017866804577991:True:=⟨⟩
theorem tw12404315999800115496:True:=⟨⟩
theorem tw13839254279731432997:True:=⟨⟩
theorem tw10249749862127168556:True:=⟨⟩
theorem tw18197605920867624755:True:=⟨⟩
theorem tw18271594171491641503:True:=⟨⟩
theorem tw2408449784973141664:True:=⟨⟩
theorem tw13617874692565148351:True:=⟨⟩
theorem tw16306664802599337330:True:=⟨⟩
theorem tw16626169768794242950:True:=⟨⟩
theorem tw8107960000915250299:True:=⟨⟩
theorem tw7611925029803211077:True:=⟨⟩
theorem tw15503540146676284880:True:=⟨⟩
theorem tw2213890827989435453:True:=⟨⟩
theorem tw3767370441270859188:True:=⟨⟩
theorem tw1436988225179695303:True:=⟨⟩
theorem tw4056917035027585597:True:=⟨⟩
theorem tw3671468222489269369:True:=⟨⟩
theorem tw11947110517202937299:True:=⟨⟩
theorem tw15668280050698713669:True:=⟨⟩
theorem tw9365690999816565503:True:=⟨⟩
theorem tw8045659444367452058:True:=⟨⟩
theorem tw2298574382307720656:True:=⟨⟩
theorem tw6267147307273239225:True:=⟨⟩
theorem tw14723093434346215922:True:=⟨⟩
theorem tw6209382694666132990:True:=⟨⟩
theorem tw1872117413634913361:True:=⟨⟩
theorem tw9283551687431865913:True:=⟨⟩
theorem tw5674739724668572764:True:=⟨⟩
theorem tw5408870908754558770:True:=⟨⟩
theorem tw9306147279685466759:True:=⟨⟩
theorem tw14174871994899692131:True:=⟨⟩
theorem tw11666475529655326234:True:=⟨⟩
theorem tw7598663143119656586:True:=⟨⟩
theorem tw870560163582637607:True:=⟨⟩
theorem tw1876565246652569125:True:=⟨⟩
theorem tw12671556271086593457:True:=⟨⟩
theorem tw12210324513979475564:True:=⟨⟩
theorem tw15465797039081349876:True:=⟨⟩
theorem tw3318884761434907633:True:=⟨⟩
theorem tw11366971630899871762:True:=⟨⟩
theorem tw16328240464007620099:True:=⟨⟩
theorem tw10096395735313178362:True:=⟨⟩
theorem tw7501407135972794332:True:=⟨⟩
theorem tw8091796611519358551:True:=⟨⟩
theorem tw12810339528850469378:True:=⟨⟩
theorem tw12264476682900503514:True:=⟨⟩
theorem tw16072204221395645379:True:=⟨⟩
theorem tw4348273480556714863:True:=⟨⟩
theorem tw8315933121557683603:True:=⟨⟩
theorem tw15647348788304759708:True:=⟨⟩
theorem tw17889384064231252611:True:=⟨⟩
theorem tw6620654953132687744:True:=⟨⟩
theorem tw17625944777870806176:True:=⟨⟩
theorem tw14105259706023665358:True:=⟨⟩
theorem tw5803312487001543130:True:=⟨⟩
theorem tw9596957911508890914:True:=⟨⟩
theorem tw5984412695738434974:True:=⟨⟩
theorem tw4545038448148150091:True:=⟨⟩
theorem tw6397054444821136761:True:=⟨⟩
theorem tw5098574805763401745:True:=⟨⟩
theorem tw10310579775083116078:True:=⟨⟩
theorem tw17412551890301481198:True:=⟨⟩
theorem tw2888650263080872199:True:=⟨⟩
theorem tw9172519156128719632:True:=⟨⟩
theorem tw4275589699377364504:True:=⟨⟩
theorem tw982544047431498663:True:=⟨⟩
theorem tw12282310837268288315:True:=⟨⟩
theorem tw12293102476413311458:True:=⟨⟩
theorem tw18420691759940042058:True:=⟨⟩
theorem tw12245181631478081993:True:=⟨⟩
theorem tw4095341477919036323:True:=⟨⟩
theorem tw964811948366831758:True:=⟨⟩
theorem tw3638105958856089816:True:=⟨⟩
theorem tw8080693636694859343:True:=⟨⟩
theorem tw984381572227953781:True:=⟨⟩
theorem tw12201569391140054710:True:=⟨⟩
theorem tw7881255548987487755:True:=⟨⟩
theorem tw6024258321300593986:True:=⟨⟩
theorem tw16730837020061158622:True:=⟨⟩
theorem tw9710197470375066264:True:=⟨⟩
theorem tw9043774397813075512:True:=⟨⟩
theorem tw8376869093484137354:True:=⟨⟩
theorem tw8328037709902980187:True:=⟨⟩
theorem tw5808215691485214953:True:=⟨⟩
theorem tw18385290554741157272:True:=⟨⟩
theorem tw9745877103968779842:True:=⟨⟩
theorem tw5086608560056567633:True:=⟨⟩
theorem tw16367669749247876465:True:=⟨⟩
theorem tw10135128698927564864:True:=⟨⟩
theorem tw36541311151317355:True:=⟨⟩
theorem tw1811908316489232950:True:=⟨⟩
theorem tw5059932818448238486:True:=⟨⟩
theorem tw2585817964729307714:True:=⟨⟩
theorem tw14925873036790475186:True:=⟨⟩
theorem tw17030602052900098745:True:=⟨⟩
theorem tw6815180445551826826:True:=⟨⟩
theorem tw8910740919460128837:True:=⟨⟩
theorem tw4535935997095509154:True:=⟨⟩
theorem tw18291607122554650793:True:=⟨⟩
theorem tw3233548333184688481:True:=⟨⟩
theorem tw9675043282346129540:True:=⟨⟩
theorem tw17418812399288432803:True:=⟨⟩
theorem tw2370101668465819824:True:=⟨⟩
theorem tw3332416965754481360:True:=⟨⟩
theorem tw1297609906147057827:True:=⟨⟩
theorem tw4699821788421856830:True:=⟨⟩
theorem tw18090686230898637079:True:=⟨⟩
theorem tw18438413840660781361:True:=⟨⟩
theorem tw5768023210561593755:True:=⟨⟩
theorem tw8486752312561215405:True:=⟨⟩
theorem tw3873449814946432943:True:=⟨⟩
theorem tw2239370215564558716:True:=⟨⟩
theorem tw16898955352587222891:True:=⟨⟩
theorem tw15151076324259183804:True:=⟨⟩
theorem tw4494004103370617338:True:=⟨⟩
theorem tw16463576284425225944:True:=⟨⟩
theorem tw16171763893428978496:True:=⟨⟩
theorem tw229946309362600162:True:=⟨⟩
theorem tw4073698781832833516:True:=⟨⟩
theorem tw1432947354868101372:True:=⟨⟩
theorem tw4273374350368914933:True:=⟨⟩
theorem tw3570361333358551323:True:=⟨⟩
theorem tw16140403429333981405:True:=⟨⟩
theorem tw5680553903228438220:True:=⟨⟩
theorem tw14829718577916915326:True:=⟨⟩
theorem tw17369147830137848630:True:=⟨⟩
theorem tw5637093124629421233:True:=⟨⟩
theorem tw14482377296836264325:True:=⟨⟩
theorem tw17664033913597153194:True:=⟨⟩
theorem tw14620542427243670583:True:=⟨⟩
theorem tw13882326291842699590:True:=⟨⟩
theorem tw14142280418829031151:True:=⟨⟩
theorem tw14505051314667788660:True:=⟨⟩
theorem tw16071084270259712202:True:=⟨⟩
theorem tw16246479931926059582:True:=⟨⟩
theorem tw4581232456379480081:True:=⟨⟩
theorem tw15120259094088714490:True:=⟨⟩
theorem tw6691006436440740817:True:=⟨⟩
theorem tw859602524365640167:True:=⟨⟩
theorem tw8665955139737216828:True:=⟨⟩
theorem tw12716706480024957061:True:=⟨⟩
theorem tw11867059816016703326:True:=⟨⟩
theorem tw5897034415673156289:True:=⟨⟩
theorem tw9734541227970816548:True:=⟨⟩
theorem tw2312028039419945664:True:=⟨⟩
theorem tw14426313259062052483:True:=⟨⟩
theorem tw12356869327564633743:True:=⟨⟩
theorem tw3184622844641511856:True:=⟨⟩
theorem tw9825010660188162048:True:=⟨⟩
theorem tw16069219154674339423:True:=⟨⟩
theorem tw9116432521720803847:True:=⟨⟩
theorem tw6753569084452845667:True:=⟨⟩
theorem tw8647180091081626503:True:=⟨⟩
theorem tw8843253388881265508:True:=⟨⟩
theorem tw12771535287065677275:True:=⟨⟩
theorem tw1379295476180016458:True:=⟨⟩
theorem tw10758657948128573494:True:=⟨⟩
theorem tw8236372119807191577:True:=⟨⟩
theorem tw12924773897680059428:True:=⟨⟩
theorem tw10625054353099739454:True:=⟨⟩
theorem tw9608613747194701372:True:=⟨⟩
theorem tw13311568464455660532:True:=⟨⟩
theorem tw4320376888762302913:True:=⟨⟩
theorem tw5446213709571373068:True:=⟨⟩
theorem tw6459445389974423244:True:=⟨⟩
theorem tw17258680845800104660:True:=⟨⟩
theorem tw3975725541871753164:True:=⟨⟩
theorem tw2866482097827799401:True:=⟨⟩
theorem tw14194803828681604631:True:=⟨⟩
theorem tw7082865015132629131:True:=⟨⟩
theorem tw17259217294113942294:True:=⟨⟩
theorem tw17408144211725891550:True:=⟨⟩
theorem tw6014623102142178079:True:=⟨⟩
theorem tw14687451407148314885:True:=⟨⟩
theorem tw6131148569820732400:True:=⟨⟩
theorem tw8076988277979502594:True:=⟨⟩
theorem tw5625308059825574801:True:=⟨⟩
theorem tw9779386877720136863:True:=⟨⟩
theorem tw17066478388587147332:True:=⟨⟩
theorem tw826706616558168964:True:=⟨⟩
theorem tw9235673512313733254:True:=⟨⟩
theorem tw8168488356542874726:True:=⟨⟩
theorem tw16120602349685203513:True:=⟨⟩
theorem tw8741725313291093847:True:=⟨⟩
theorem tw14538981880814048062:True:=⟨⟩
theorem tw8962949356254359849:True:=⟨⟩
theorem tw13428577415534348211:True:=⟨⟩
theorem tw6828323384682196863:True:=⟨⟩
theorem tw17650610597505236417:True:=⟨⟩
theorem tw15952329718479759219:True:=⟨⟩
theorem tw56018092775821022:True:=⟨⟩
theorem tw18000464006672840625:True:=⟨⟩
theorem tw15285748809508155784:True:=⟨⟩
theorem tw6210088843824209105:True:=⟨⟩
theorem tw17383496427263638331:True:=⟨⟩
theorem tw4901679226462474224:True:=⟨⟩
theorem tw11746295794040563015:True:=⟨⟩
theorem tw3830807812011416332:True:=⟨⟩
theorem tw16170373692149251557:True:=⟨⟩
theorem tw1167114374792304142:True:=⟨⟩
theorem tw16796383827924340995:True:=⟨⟩
theorem tw12155347801939014033:True:=⟨⟩
theorem tw12427732412548147272:True:=⟨⟩
theorem tw12823607503650098155:True:=⟨⟩
theorem tw17209697363705048368:True:=⟨⟩
theorem tw17181553103439125867:True:=⟨⟩
theorem tw10439598975824652644:True:=⟨⟩
theorem tw705304281017872665:True:=⟨⟩
theorem tw3440140260238100947:True:=⟨⟩
theorem tw9181147616167889852:True:=⟨⟩
theorem tw4308224345640487188:True:=⟨⟩
theorem tw11872800690953730853:True:=⟨⟩
theorem tw13158883907723521992:True:=⟨⟩
theorem tw13950542855206544954:True:=⟨⟩
theorem tw7173849676451579757:True:=⟨⟩
theorem tw7173835997357252246:True:=⟨⟩
theorem tw10855973889518682675:True:=⟨⟩
theorem tw390661693529630177:True:=⟨⟩
theorem tw7202406633800049026:True:=⟨⟩
theorem tw9594441774452613756:True:=⟨⟩
theorem tw8553188959372474550:True:=⟨⟩
theorem tw12724946294109178863:True:=⟨⟩
theorem tw17077963120574589293:True:=⟨⟩
theorem tw7440844306694520075:True:=⟨⟩
theorem tw11211114497645235401:True:=⟨⟩
theorem tw1651717220197868765:True:=⟨⟩
theorem tw15297634941478151408:True:=⟨⟩
theorem tw509723702887880080:True:=⟨⟩
theorem tw9885192550352318866:True:=⟨⟩
theorem tw12273529497248192187:True:=⟨⟩
theorem tw9614268011584475062:True:=⟨⟩
theorem tw16260668874372984212:True:=⟨⟩
theorem tw14293797899028501151:True:=⟨⟩
theorem tw14422320346067516100:True:=⟨⟩
theorem tw7349312131599505726:True:=⟨⟩
theorem tw616269762983462273:True:=⟨⟩
theorem tw16507399790918228930:True:=⟨⟩
theorem tw10029265121744473013:True:=⟨⟩
theorem tw6337950183407580694:True:=⟨⟩
theorem tw7610215473277507658:True:=⟨⟩
theorem tw16369254020263406691:True:=⟨⟩
theorem tw18365774911888167356:True:=⟨⟩
theorem tw5649756988635274996:True:=⟨⟩
theorem tw8228056080340475953:True:=⟨⟩
theorem tw15044123052117559470:True:=⟨⟩
theorem tw13383156713606921525:True:=⟨⟩
theorem tw14756975714331479348:True:=⟨⟩
theorem tw17328644521828013119:True:=⟨⟩
theorem tw5455533703220630134:True:=⟨⟩
theorem tw9048393796259975996:True:=⟨⟩
theorem tw8584415998880694951:True:=⟨⟩
theorem tw2721271560724540251:True:=⟨⟩
theorem tw11843105776760934289:True:=⟨⟩
theorem tw1572019886082231735:True:=⟨⟩
theorem tw2886733890817053643:True:=⟨⟩
theorem tw592350674972149371:True:=⟨⟩
theorem tw14236008256144990501:True:=⟨⟩
theorem tw15331658022667721233:True:=⟨⟩
theorem tw714695699947702051:True:=⟨⟩
theorem tw6349306114899746379:True:=⟨⟩
theorem tw6255979019478291086:True:=⟨⟩
theorem tw17980582675826767445:True:=⟨⟩
theorem tw3417872258272837309:True:=⟨⟩
theorem tw10639617082185125973:True:=⟨⟩
theorem tw12632420541447968720:True:=⟨⟩
theorem tw13024160522782296645:True:=⟨⟩
theorem tw626257834554080605:True:=⟨⟩
theorem tw12040852335162202721:True:=⟨⟩
theorem tw7314785395845366369:True:=⟨⟩
theorem tw16618276660102626798:True:=⟨⟩
theorem tw12882714059543053907:True:=⟨⟩
theorem tw18275010164059706957:True:=⟨⟩
theorem tw3444913392029812724:True:=⟨⟩
theorem tw12752573414687255048:True:=⟨⟩
theorem tw5203364474774696940:True:=⟨⟩
theorem tw16936990725273303151:True:=⟨⟩
theorem tw10318042218971145758:True:=⟨⟩
theorem tw12650601489118568584:True:=⟨⟩
theorem tw8538149218743713219:True:=⟨⟩
theorem tw11318713417460500912:True:=⟨⟩
theorem tw4413060268575693675:True:=⟨⟩
theorem tw6629768179772160483:True:=⟨⟩
theorem tw13230831460714833149:True:=⟨⟩
theorem tw5540596179676578004:True:=⟨⟩
theorem tw1008729460317271347:True:=⟨⟩
theorem tw12019941182915544305:True:=⟨⟩
theorem tw11622356944329823511:True:=⟨⟩
theorem tw9793659495081697650:True:=⟨⟩
theorem tw8057510213343981458:True:=⟨⟩
theorem tw17371962339581499698:True:=⟨⟩
theorem tw16558162878513430884:True:=⟨⟩
theorem tw1186455530833160470:True:=⟨⟩
theorem tw13739969682532079249:True:=⟨⟩
theorem tw12245093753898130447:True:=⟨⟩
theorem tw892211873532961904:True:=⟨⟩
theorem tw15337773312094928518:True:=⟨⟩
theorem tw11199804008515327127:True:=⟨⟩
theorem tw11078003959905673043:True:=⟨⟩
theorem tw7779041113963306903:True:=⟨⟩
theorem tw1772355358030705307:True:=⟨⟩
theorem tw3070246755305778693:True:=⟨⟩
theorem tw2500471719873800894:True:=⟨⟩
theorem tw16090287011670077986:True:=⟨⟩
theorem tw2719990237448303918:True:=⟨⟩
theorem tw8898208487679263246:True:=⟨⟩
theorem tw833718009910859041:True:=⟨⟩
theorem tw3783578066385468333:True:=⟨⟩
theorem tw15447355034594413164:True:=⟨⟩
theorem tw15386381373856636277:True:=⟨⟩
theorem tw8880357066715609827:True:=⟨⟩
theorem tw3805635188604681225:True:=⟨⟩
theorem tw11046136689029827110:True:=⟨⟩
theorem tw12813740295223225525:True:=⟨⟩
theorem tw11441280699208988213:True:=⟨⟩
theorem tw13321047637259645996:True:=⟨⟩
theorem tw2066534856950882342:True:=⟨⟩
theorem tw8421100028892390723:True:=⟨⟩
theorem tw2466931115831848558:True:=⟨⟩
theorem tw18358777422101637100:True:=⟨⟩
theorem tw9272139641787179076:True:=⟨⟩
theorem tw18255754050297106976:True:=⟨⟩
theorem tw6239907754543540709:True:=⟨⟩
theorem tw10374007493027779636:True:=⟨⟩
theorem tw17098428152250560748:True:=⟨⟩
theorem tw4799281497124497898:True:=⟨⟩
theorem tw13891404550365611005:True:=⟨⟩
theorem tw14461913776608316400:True:=⟨⟩
theorem tw9973921387215419150:True:=⟨⟩
theorem tw5321900419496054457:True:=⟨⟩
theorem tw8779540208986967828:True:=⟨⟩
theorem tw8169001635574280221:True:=⟨⟩
theorem tw10636399446984371312:True:=⟨⟩
theorem tw5818421093255382806:True:=⟨⟩
theorem tw403802876742133379:True:=⟨⟩
theorem tw15183364767051857973:True:=⟨⟩
theorem tw14318456360939859099:True:=⟨⟩
theorem tw17066179782824658834:True:=⟨⟩
theorem tw1501637477256227:True:=⟨⟩
theorem tw3508991053961120761:True:=⟨⟩
theorem tw17834799509255722311:True:=⟨⟩
theorem tw9811168504771685489:True:=⟨⟩
theorem tw15681309544175828316:True:=⟨⟩
theorem tw14845835189362552623:True:=⟨⟩
theorem tw583668734880725609:True:=⟨⟩
theorem tw12152257267178865858:True:=⟨⟩
theorem tw9551234530462443660:True:=⟨⟩
theorem tw2722493273903651961:True:=⟨⟩
theorem tw7296600231670789371:True:=⟨⟩
theorem tw10332738606042846287:True:=⟨⟩
theorem tw6312131117588741665:True:=⟨⟩
theorem tw17849870577891226618:True:=⟨⟩
theorem tw2762939651982961042:True:=⟨⟩
theorem tw12299759749182079065:True:=⟨⟩
theorem tw17549279354299321921:True:=⟨⟩
theorem tw11159985234426380026:True:=⟨⟩
theorem tw2823194059082862201:True:=⟨⟩
theorem tw6786230119088000733:True:=⟨⟩
theorem tw12088312518143246279:True:=⟨⟩
theorem tw3084398507835208096:True:=⟨⟩
theorem tw13324346614888301149:True:=⟨⟩
theorem tw121026528952087657:True:=⟨⟩
theorem tw16823730329864339185:True:=⟨⟩
theorem tw496191269336343379:True:=⟨⟩
theorem tw2917713415337066186:True:=⟨⟩
theorem tw705545585963654677:True:=⟨⟩
theorem tw6652702104950752574:True:=⟨⟩
theorem tw2389846214419225280:True:=⟨⟩
theorem tw14442040509605624985:True:=⟨⟩
theorem tw11858207838982951587:True:=⟨⟩
theorem tw239826763698986035:True:=⟨⟩
theorem tw12851152465960861972:True:=⟨⟩
theorem tw4606071517686468345:True:=⟨⟩
theorem tw13546780072193279076:True:=⟨⟩
theorem tw16849224856500172248:True:=⟨⟩
theorem tw9050784113897727630:True:=⟨⟩
theorem tw5089918166474068650:True:=⟨⟩
theorem tw12004605911801263285:True:=⟨⟩
theorem tw10616779032874173967:True:=⟨⟩
theorem tw7015686591069979797:True:=⟨⟩
theorem tw13511786984505954375:True:=⟨⟩
theorem tw14115366020653646067:True:=⟨⟩
theorem tw13855682150484818650:True:=⟨⟩
theorem tw5403444112682712096:True:=⟨⟩
theorem tw6917004579085019348:True:=⟨⟩
theorem tw3830902316163200238:True:=⟨⟩
theorem tw15379646767621041807:True:=⟨⟩
theorem tw15848103379115424812:True:=⟨⟩
theorem tw17652239963504756769:True:=⟨⟩
theorem tw8346461237811635599:True:=⟨⟩
theorem tw11582393323201399224:True:=⟨⟩
theorem tw16312084643379193086:True:=⟨⟩
theorem tw15381170835364723086:True:=⟨⟩
theorem tw8180596221648983567:True:=⟨⟩
theorem tw5392944579907731821:True:=⟨⟩
theorem tw8282736294542592128:True:=⟨⟩
theorem tw17739569033470409647:True:=⟨⟩
theorem tw11757175010331907210:True:=⟨⟩
theorem tw15056305295919802685:True:=⟨⟩
theorem tw8649461700513832940:True:=⟨⟩
theorem tw5771618646748715412:True:=⟨⟩
theorem tw4301211147542571732:True:=⟨⟩
theorem tw8631405951121175241:True:=⟨⟩
theorem tw17878506176656698885:True:=⟨⟩
theorem tw4636844415992875637:True:=⟨⟩
theorem tw15731585645961552407:True:=⟨⟩
theorem tw11246741712108632912:True:=⟨⟩
theorem tw2950579723527526382:True:=⟨⟩
theorem tw6494978222783775055:True:=⟨⟩
theorem tw5811393173589405946:True:=⟨⟩
theorem tw5025294276218567235:True:=⟨⟩
theorem tw18071429538549022623:True:=⟨⟩
theorem tw18195436957927459945:True:=⟨⟩
theorem tw874169917985739883:True:=⟨⟩
theorem tw14009884622247008627:True:=⟨⟩
theorem tw13845555199837158319:True:=⟨⟩
theorem tw2065672327392493343:True:=⟨⟩
theorem tw17622413653735117447:True:=⟨⟩
theorem tw16154123836954161396:True:=⟨⟩
theorem tw2119417050163868387:True:=⟨⟩
theorem tw4776208577532240453:True:=⟨⟩
theorem tw8110055444358092904:True:=⟨⟩
theorem tw18191065218069171946:True:=⟨⟩
theorem tw5339525652497682522:True:=⟨⟩
theorem tw7563168438077358328:True:=⟨⟩
theorem tw16529675987233309656:True:=⟨⟩
theorem tw15157161567144666736:True:=⟨⟩
theorem tw11108377904862980451:True:=⟨⟩
theorem tw7678884479102439235:True:=⟨⟩
theorem tw9761164030416261436:True:=⟨⟩
theorem tw16516872260596715305:True:=⟨⟩
theorem tw2013492337198210804:True:=⟨⟩
theorem tw17990619861154232725:True:=⟨⟩
theorem tw6517807624659285946:True:=⟨⟩
theorem tw10096300739282312132:True:=⟨⟩
theorem tw16312685648533002456:True:=⟨⟩
theorem tw2580266192616116608:True:=⟨⟩
theorem tw12441119673381007301:True:=⟨⟩
theorem tw2076127145006555148:True:=⟨⟩
theorem tw9237602919220400719:True:=⟨⟩
theorem tw6920852344890747981:True:=⟨⟩
theorem tw11056730063375267137:True:=⟨⟩
theorem tw17093740540993249242:True:=⟨⟩
theorem tw285340949504388161:True:=⟨⟩
theorem tw12785562762630525461:True:=⟨⟩
theorem tw7734479286567773774:True:=⟨⟩
theorem tw17635467400202777768:True:=⟨⟩
theorem tw7435538019713197493:True:=⟨⟩
theorem tw15290668414717064902:True:=⟨⟩
theorem tw3054308267373715537:True:=⟨⟩
theorem tw13461780170571070155:True:=⟨⟩
theorem tw1980124366376139648:True:=⟨⟩
theorem tw18378829915110078045:True:=⟨⟩
theorem tw14558999417093589692:True:=⟨⟩
theorem tw6999467247360446646:True:=⟨⟩
theorem tw15198819517784081973:True:=⟨⟩
theorem tw3141105297967453675:True:=⟨⟩
theorem tw8250777057206826579:True:=⟨⟩
theorem tw17152799241241406937:True:=⟨⟩
theorem tw10635106689440634675:True:=⟨⟩
theorem tw224077332069746602:True:=⟨⟩
theorem tw14117549586159695813:True:=⟨⟩
theorem tw12934651638626812421:True:=⟨⟩
theorem tw2161607295704443803:True:=⟨⟩
theorem tw1455797372874268246:True:=⟨⟩
theorem tw6486664058908465132:True:=⟨⟩
theorem tw7288042790785420027:True:=⟨⟩
theorem tw14849957424372744179:True:=⟨⟩
theorem tw8738310637527739480:True:=⟨⟩
theorem tw7347102124418242085:True:=⟨⟩
theorem tw11414086536271616761:True:=⟨⟩
theorem tw8981725638021949979:True:=⟨⟩
theorem tw2554606698429363784:True:=⟨⟩
theorem tw8759603391538844216:True:=⟨⟩
theorem tw12925777628660571492:True:=⟨⟩
theorem tw4607915979468241712:True:=⟨⟩
theorem tw9731072380436726094:True:=⟨⟩
theorem tw4904230504437571136:True:=⟨⟩
theorem tw7362076240761315271:True:=⟨⟩
theorem tw6588328843024934962:True:=⟨⟩
theorem tw15937720766172476033:True:=⟨⟩
theorem tw362610286682647875:True:=⟨⟩
theorem tw11296014453866892810:True:=⟨⟩
theorem tw12910802442691743897:True:=⟨⟩
theorem tw13088106253922385426:True:=⟨⟩
theorem tw8140541265958326292:True:=⟨⟩
theorem tw13917357033554464451:True:=⟨⟩
theorem tw16272645693176983543:True:=⟨⟩
theorem tw14689610037652868536:True:=⟨⟩
theorem tw13324520999888004974:True:=⟨⟩
theorem tw4233436254161807045:True:=⟨⟩
theorem tw2086758576570756164:True:=⟨⟩
theorem tw10997783435224305458:True:=⟨⟩
theorem tw12978956303650309398:True:=⟨⟩
theorem tw12220197847434321747:True:=⟨⟩
theorem tw4083885126101674953:True:=⟨⟩
theorem tw4859135754702600843:True:=⟨⟩
theorem tw13394317805660525530:True:=⟨⟩
theorem tw14200906795936544292:True:=⟨⟩
theorem tw1894265179423217789:True:=⟨⟩
theorem tw10935334421456339822:True:=⟨⟩
theorem tw2466470793116140355:True:=⟨⟩
theorem tw6797770270112819422:True:=⟨⟩
theorem tw12366142901477588376:True:=⟨⟩
theorem tw15028376488929993233:True:=⟨⟩
theorem tw3027122511496412597:True:=⟨⟩
theorem tw11550700924971490958:True:=⟨⟩
theorem tw12930057803207594881:True:=⟨⟩
theorem tw7277121081721806942:True:=⟨⟩
theorem tw8253066505662383118:True:=⟨⟩
theorem tw12831114675850930201:True:=⟨⟩
theorem tw1068933682310713257:True:=⟨⟩
theorem tw12222474233081804878:True:=⟨⟩
theorem tw2177913223815391577:True:=⟨⟩
theorem tw12823437983996006413:True:=⟨⟩
theorem tw3173045398372020747:True:=⟨⟩
theorem tw16001355439935245021:True:=⟨⟩
theorem tw5857907796982743584:True:=⟨⟩
theorem tw4605377298377290894:True:=⟨⟩
theorem tw6278551586570673467:True:=⟨⟩
theorem tw12939877997499766929:True:=⟨⟩
theorem tw17503495254068561788:True:=⟨⟩
theorem tw16979684380110517228:True:=⟨⟩
theorem tw4155101414409188083:True:=⟨⟩
theorem tw9915924058628435582:True:=⟨⟩
theorem tw14280950606258334438:True:=⟨⟩
theorem tw2028865770901515843:True:=⟨⟩
theorem tw9489222113214107624:True:=⟨⟩
theorem tw1354103532195824218:True:=⟨⟩
theorem tw679633642772295502:True:=⟨⟩
theorem tw18184996351524191990:True:=⟨⟩
theorem tw2842198107998604194:True:=⟨⟩
theorem tw11984783119841097934:True:=⟨⟩
theorem tw11372416779645036242:True:=⟨⟩
theorem tw14305599272772045431:True:=⟨⟩
theorem tw4033241907140128844:True:=⟨⟩
theorem tw97440969405915843:True:=⟨⟩
theorem tw2362716800907493762:True:=⟨⟩
theorem tw8772741566022677780:True:=⟨⟩
theorem tw12268951514674985629:True:=⟨⟩
theorem tw3292372199055385566:True:=⟨⟩
theorem tw15856162559599696177:True:=⟨⟩
theorem tw2807637839425573323:True:=⟨⟩
theorem tw4580121357916281027:True:=⟨⟩
theorem tw6464800682640439277:True:=⟨⟩
theorem tw5693097083452547031:True:=⟨⟩
theorem tw15862798654027091370:True:=⟨⟩
theorem tw10217542929190740672:True:=⟨⟩
theorem tw14457745308882656427:True:=⟨⟩
theorem tw2527245581059252893:True:=⟨⟩
theorem tw17367892176306839258:True:=⟨⟩
theorem tw14473671387632280454:True:=⟨⟩
theorem tw7143576125570266668:True:=⟨⟩
theorem tw12371953670596673849:True:=⟨⟩
theorem tw197292310633958273:True:=⟨⟩
theorem tw17267956565108248615:True:=⟨⟩
theorem tw7941259459844727174:True:=⟨⟩
theorem tw15835089229807065780:True:=⟨⟩
theorem tw15140264022112730331:True:=⟨⟩
theorem tw6745921351539175501:True:=⟨⟩
theorem tw14708643751542376974:True:=⟨⟩
theorem tw16883718212913364439:True:=⟨⟩
theorem tw6172581175956757799:True:=⟨⟩
theorem tw1476466371709207901:True:=⟨⟩
theorem tw4083698065136926028:True:=⟨⟩
theorem tw11070276871450735215:True:=⟨⟩
theorem tw3279854635741799649:True:=⟨⟩
theorem tw2392120152196602591:True:=⟨⟩
theorem tw10486918512763311255:True:=⟨⟩
theorem tw1433633422060161916:True:=⟨⟩
theorem tw17880705032411375716:True:=⟨⟩
theorem tw12895097159330602735:True:=⟨⟩
theorem tw17032282580193972822:True:=⟨⟩
theorem tw15977942098675624795:True:=⟨⟩
theorem tw4856798119713425043:True:=⟨⟩
theorem tw18327666281139666011:True:=⟨⟩
theorem tw9469469116683558965:True:=⟨⟩
theorem tw15748239821935543472:True:=⟨⟩
theorem tw13923687742554900053:True:=⟨⟩
theorem tw1378511011442953340:True:=⟨⟩
theorem tw7733137536263717629:True:=⟨⟩
theorem tw4067941683385239838:True:=⟨⟩
theorem tw8629306599706594355:True:=⟨⟩
theorem tw13689947490207116620:True:=⟨⟩
theorem tw17350352069560435645:True:=⟨⟩
theorem tw2320983364561378944:True:=⟨⟩
theorem tw4401453995988686989:True:=⟨⟩
theorem tw547973076888070648:True:=⟨⟩
theorem tw5120891082478799765:True:=⟨⟩
theorem tw6130796510326523922:True:=⟨⟩
theorem tw1356109995791897866:True:=⟨⟩
theorem tw5826476991170020654:True:=⟨⟩
theorem tw12328453292983461128:True:=⟨⟩
theorem tw8693488121277667536:True:=⟨⟩
theorem tw3928751369031847502:True:=⟨⟩
theorem tw659325262007187258:True:=⟨⟩
theorem tw3358285658924436505:True:=⟨⟩
theorem tw8150010879683747578:True:=⟨⟩
theorem tw12916298403981963950:True:=⟨⟩
theorem tw7073916254301665154:True:=⟨⟩
theorem tw12992120740130439705:True:=⟨⟩
theorem tw16310263780242429359:True:=⟨⟩
theorem tw10089131240377123853:True:=⟨⟩
theorem tw16801839750072042798:True:=⟨⟩
theorem tw10429129004593942934:True:=⟨⟩
theorem tw9988385282305641568:True:=⟨⟩
theorem tw4545236459840017453:True:=⟨⟩
theorem tw2148471848062549387:True:=⟨⟩
theorem tw16301609710000344470:True:=⟨⟩
theorem tw6915749393647082218:True:=⟨⟩
theorem tw14152222624726030117:True:=⟨⟩
theorem tw18304229885539702844:True:=⟨⟩
theorem tw13704354139017194822:True:=⟨⟩
theorem tw12635735413871396874:True:=⟨⟩
theorem tw17391923647331395663:True:=⟨⟩
theorem tw5117849085243851787:True:=⟨⟩
theorem tw9118479000761525641:True:=⟨⟩
theorem tw16039073892877134152:True:=⟨⟩
theorem tw5902467399849367617:True:=⟨⟩
theorem tw5038500430353281143:True:=⟨⟩
theorem tw12649631024054760329:True:=⟨⟩
theorem tw13443639959009586093:True:=⟨⟩
theorem tw2785903596219455477:True:=⟨⟩
theorem tw5756758974556747620:True:=⟨⟩
theorem tw3174931093376485389:True:=⟨⟩
theorem tw4302662123182387422:True:=⟨⟩
theorem tw761474792392669663:True:=⟨⟩
theorem tw9100958970726291305:True:=⟨⟩
theorem tw14760970261251907486:True:=⟨⟩
theorem tw2131653703310709896:True:=⟨⟩
theorem tw16141807454866984722:True:=⟨⟩
theorem tw16128898710920245011:True:=⟨⟩
theorem tw11400881525490620052:True:=⟨⟩
theorem tw11613671646237944527:True:=⟨⟩
theorem tw14617099553225181709:True:=⟨⟩
theorem tw6935281252203456380:True:=⟨⟩
theorem tw13537953759091915309:True:=⟨⟩
theorem tw8416965499954942077:True:=⟨⟩
theorem tw16576830045098916172:True:=⟨⟩
theorem tw16947235252950917557:True:=⟨⟩
theorem tw1178486322041165616:True:=⟨⟩
theorem tw4776764751734648685:True:=⟨⟩
theorem tw877328841498140293:True:=⟨⟩
theorem tw12144506564242885916:True:=⟨⟩
theorem tw13903987731639917737:True:=⟨⟩
theorem tw12158686647271782955:True:=⟨⟩
theorem tw2710049413675933739:True:=⟨⟩
theorem tw15139004618112257686:True:=⟨⟩
theorem tw15808298298328535871:True:=⟨⟩
theorem tw10262150678404189027:True:=⟨⟩
theorem tw15877328269438531925:True:=⟨⟩
theorem tw5635528058948360530:True:=⟨⟩
theorem tw1712802206368682702:True:=⟨⟩
theorem tw12034557101402402549:True:=⟨⟩
theorem tw15508496777667832347:True:=⟨⟩
theorem tw7326910290484377097:True:=⟨⟩
theorem tw6145251023684769410:True:=⟨⟩
theorem tw8380997016516274859:True:=⟨⟩
theorem tw5406725034526647483:True:=⟨⟩
theorem tw11140653686396202112:True:=⟨⟩
theorem tw1372980827568547975:True:=⟨⟩
theorem tw839734192338822446:True:=⟨⟩
theorem tw12650915219699006780:True:=⟨⟩
theorem tw13554460589178082223:True:=⟨⟩
theorem tw11916976250481203652:True:=⟨⟩
theorem tw4778323072173546999:True:=⟨⟩
theorem tw16800971404817395770:True:=⟨⟩
theorem tw13020346052180440404:True:=⟨⟩
theorem tw4439472865503464828:True:=⟨⟩
theorem tw361833236854016762:True:=⟨⟩
theorem tw12777077851003091942:True:=⟨⟩
theorem tw14646257595924290889:True:=⟨⟩
theorem tw12427429050088555497:True:=⟨⟩
theorem tw15242255307750278328:True:=⟨⟩
theorem tw18207781643881589232:True:=⟨⟩
theorem tw8687351423734153555:True:=⟨⟩
theorem tw15440227923665827408:True:=⟨⟩
theorem tw9166817339741239934:True:=⟨⟩
theorem tw13295131035767214736:True:=⟨⟩
theorem tw7183481845227317421:True:=⟨⟩
theorem tw11089156046367687410:True:=⟨⟩
theorem tw11317064134980324286:True:=⟨⟩
theorem tw12904451523765854749:True:=⟨⟩
theorem tw17816938250141627914:True:=⟨⟩
theorem tw473836247996774964:True:=⟨⟩
theorem tw13704881417016051382:True:=⟨⟩
theorem tw8607934235188249719:True:=⟨⟩
theorem tw11599310422925551297:True:=⟨⟩
theorem tw13435909961845152683:True:=⟨⟩
theorem tw12403051998512180455:True:=⟨⟩
theorem tw12047889469381104443:True:=⟨⟩
theorem tw11442057876061705884:True:=⟨⟩
theorem tw1562468572395797861:True:=⟨⟩
theorem tw6572793668405819765:True:=⟨⟩
theorem tw13813121002818756517:True:=⟨⟩
theorem tw4355509004620636814:True:=⟨⟩
theorem tw9948449290875882444:True:=⟨⟩
theorem tw3909762590068075163:True:=⟨⟩
theorem tw7905604638899883889:True:=⟨⟩
theorem tw16639744060203168702:True:=⟨⟩
theorem tw10493554463182127939:True:=⟨⟩
theorem tw10570308416012657050:True:=⟨⟩
theorem tw15503132180280935210:True:=⟨⟩
theorem tw9378406728908743220:True:=⟨⟩
theorem tw3089015754915869883:True:=⟨⟩
theorem tw15306056016686265354:True:=⟨⟩
theorem tw15039647907734204002:True:=⟨⟩
theorem tw4187486726899439806:True:=⟨⟩
theorem tw12899058208708717063:True:=⟨⟩
theorem tw8502121920841023757:True:=⟨⟩
theorem tw10827348362006297219:True:=⟨⟩
theorem tw5197613483883833643:True:=⟨⟩
theorem tw11093681755232902651:True:=⟨⟩
theorem tw683457076009821238:True:=⟨⟩
theorem tw6036751722064621451:True:=⟨⟩
theorem tw12255188289682813251:True:=⟨⟩
theorem tw17910528588735933359:True:=⟨⟩
theorem tw7522283631730966944:True:=⟨⟩
theorem tw665055402228422337:True:=⟨⟩
theorem tw8908911104407635744:True:=⟨⟩
end PySem.W.Fast
open PySem PySem.W PyProof.Rows
set_option maxRecDepth 100000 in
set_option maxHeartbeats 0 in
theorem PySem.Challenge.cw_strokegrow_k51_whole_letter_by_its_word_holds : PySem.Challenge.rw_strokegrow_k51_whole_letter_by_its_word.Holds := by
 w_on;o_law;k_head;(case hw=>w_witness2)
 k_fill
 refine L2.FN (l:=PySem.Challenge.rw_strokegrow_k51_whole_letter_by_its_word) (n:=63) (k:=12) (x:="_law_script") (CX:=Pf.CX) (sp:=fun K=>Pf.HZ K) rfl (by decide) rfl ⟨rfl,by decide,by decide⟩ (fun w h Y=>PySem.W.kIn_of Y) ?F ?S ?C
 case F=>
   intro w mg fa h KX G Q6
   have T:∃ t,Pf.Txt (L2.Xj KX) mg t∧t.pX=fa:=by
     dsimp only [L2.Xj]
     obtain⟨t,T,e⟩:∃ t,Pf.Txt _ mg t∧t.pX=_:=by
       refine' Pf.OV KX G ?_ ?_ ?_ ?_ ?_ ?_ ?_ ?_ ?_ ?_ ?_ ?_ ?_ ?_ ?_ ?_ ?_ ?_ ?_ ?_ ?_ ?_ ?_ ?_ ?_ ?_ ?_ ?_ ?_ ?_ ?_ ?_ ?_ ?_ ?_ ?_ ?_ ?_ ?_ ?_ ?_ ?_ ?_ ?_ ?_ ?_ ?_ ?_ ?_ ?_ ?_ ?_ ?_ ?_ ?_ ?_ ?_ ?_ ?_ ?_ ?_ ?_ ?_ ?_ ?_ ?_ ?_ ?_ ?_ ?_ ?_ ?_ ?_ ?_ ?_ ?_ ?_ ?_ ?_ ?_ ?_ ?_ ?_ ?_ ?_ ?_ ?_ ?_ ?_ ?_ ?_ ?_ ?_ ?_ ?_ ?_ ?_ ?_ ?_ ?_ ?_ ?_ ?_ ?_ ?_ ?_ ?_ ?_ ?_ ?_ ?_ ?_ ?_ ?_ ?_ ?_ ?_ ?_ ?_ ?_ ?_ ?_ ?_ ?_ ?_ ?_ ?_ ?_ ?_ ?_ ?_ ?_ ?_ ?_ ?_ ?_ ?_ ?_ ?_ ?_ ?_ ?_ ?_ ?_ ?_ ?_ ?_ ?_ ?_ ?_ ?_ ?_ ?_ ?_ ?_ ?_ ?_ ?_ ?_ ?_ ?_
       any_goals walk_at "z"
     refine⟨t,T,?_⟩
     have e0:=Q6.symm.trans (T.g T.Aq.a)
     cases e0
     rfl
   obtain⟨t,T,e⟩:=T
   subst e
   refine' ⟨t.uY,?b,fun base kb nb=>Pf.PQ T⟩
   exact Pf.OW T
 case S=>exact fun K H a ns hl hO hS=>Pf.Pt hl hS
 case C=>exact fun H s e s' h=>h
