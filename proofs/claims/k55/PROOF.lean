import PyProof.Rows.All
import Wide.All
import OpenK.AllK
import Wide.FinOn
import Lean
import PyProof.EqAt
import PyProof.EqKinds
import PyProof.TupleCall
import PyProof.WalksEnum
import PyProof.EnumMake
import PyProof.ZipIter
import PyProof.ReprStr
import PyProof.StrBlockG
import PyProof.StrWalks
import PyProof.FString5
import PyProof.ConsumeWalk
import PyProof.SumAny
import PyProof.StrCalls2
import KE.KDictList
import PyProof.Draws
import PyProof.StrBlock2
import PyProof.DictIter
import PyProof.ExcInit
import PyProof.ExcClass3
import PyProof.FString
import PyProof.FitsInt
import PyProof.StrLawsRepr
import PyProof.Rows.Range3
import PyProof.StrCalls
import PyProof.ListRange
import PyProof.AttrMissHeap
import KE.KDictOf
import PyProof.StrCalls3
import PyProof.FactsAll.dict_2
import PyProof.MeetsIn
import PyProof.Cells
import KE.KDictSum
import PyProof.DictWalks
import KE.KRevIter
import PyProof.FactsAll.subtypes_3
import PyProof.Rows.SortWalk
import KE.KSortedM
import PyProof.Rows.SortStr
import PyProof.MinMaxWalk
import PyProof.WalkInts
import PyProof.SeqI3
import PyProof.Rows.CallKwBuiltin
import KE.KUnpack
import PySem.Challenge.RW_strokegrow_k55_whole_reach_touched
set_option Elab.async false
set_option linter.all false
set_option maxRecDepth 100000
namespace L2
open PySem PySem.Spec PyProof.Rows
abbrev Key:=Sum Int Str
def vx:Key→Value→Bool
 | .inl k,v=>Value.isInt k v
 | .inr x,v=>Value.isStrOf x v
def abg (w:World):Key→Int
 | .inl k=>hashInt k
 | .inr x=>hashStr w x
theorem dH:∀ {k:Key} {v:Value},vx k v=true→(∃ i t,k=Sum.inl i∧v=Value.int i t)∨(∃ x t,k=Sum.inr x∧v=Value.str x t)
 | .inl i,v,h=>by
   obtain⟨t,e⟩:=Value.isInt_shape (k:=i) (v:=v) h
   exact .inl ⟨i,t,rfl,e⟩
 | .inr x,v,h=>by
   obtain⟨t,e⟩:=Value.isStrOf_shape (x:=x) (v:=v) h
   exact .inr ⟨x,t,rfl,e⟩
theorem DH (i:Int)(t:Tok):vx (.inl i) (.int i t)=true:=by simp[vx,Value.isInt]
theorem DI (x:Str)(t:Tok):vx (.inr x) (.str x t)=true:=by simp[vx,Value.isStrOf]
theorem N9 (a b:Int):decide ((Sum.inl a:Key)=Sum.inl b)=(a == b):=by
 by_cases e:a=b
 . subst e;simp
 . have h:¬ (Sum.inl a:Key)=Sum.inl b:=fun q=>e (Sum.inl.inj q)
   rw[decide_eq_false h]
   exact(beq_eq_false_iff_ne.mpr e).symm
theorem Oa (a b:Str):decide ((Sum.inr a:Key)=Sum.inr b)=decide (a=b):=by
 by_cases e:a=b
 . subst e;simp
 . have h:¬ (Sum.inr a:Key)=Sum.inr b:=fun q=>e (Sum.inr.inj q)
   rw[decide_eq_false h,decide_eq_false e]
theorem Ob (a:Int)(b:Str):decide ((Sum.inl a:Key)=Sum.inr b)=false:=decide_eq_false (fun q=>nomatch q)
theorem Oc (a:Str)(b:Int):decide ((Sum.inr a:Key)=Sum.inl b)=false:=decide_eq_false (fun q=>nomatch q)
def du (prog:Program)(w:World):PySem.KeyKind prog w Key where
 is:=vx
 hash:=abg w
 inj:=fun v a b ha hb=>by
   rcases dH ha with⟨i,t,rfl,rfl⟩ | ⟨x,t,rfl,rfl⟩
   . rcases dH hb with⟨j,u,rfl,e⟩ | ⟨y,u,rfl,e⟩
     . injection e with e1 _;rw[e1]
     . exact nomatch e
   . rcases dH hb with⟨j,u,rfl,e⟩ | ⟨y,u,rfl,e⟩
     . exact nomatch e
     . injection e with e1 _;rw[e1]
 byValue:=fun k v h=>by
   rcases dH h with⟨i,t,rfl,rfl⟩ | ⟨x,t,rfl,rfl⟩ <;> rfl
 pyHash:=fun hv h=>by
   rcases dH hv with⟨i,t,rfl,rfl⟩ | ⟨x,t,rfl,rfl⟩
   . exact wpAny_pyHash_int h
   . exact wpAny_pyHash_str h
 eqBool:=fun hu hv h=>by
   rcases dH hu with⟨i,t,rfl,rfl⟩ | ⟨x,t,rfl,rfl⟩
   . rcases dH hv with⟨j,u,rfl,rfl⟩ | ⟨y,u,rfl,rfl⟩
     . rw[N9] at h;exact wpAny_eqBool_int h
     . rw[Ob] at h;exact SeqAt.EqAt.int_str i t y u _ _ _ _ h
   . rcases dH hv with⟨j,u,rfl,rfl⟩ | ⟨y,u,rfl,rfl⟩
     . rw[Oc] at h;exact SeqAt.EqAt.str_int x t j u _ _ _ _ h
     . rw[Oa] at h;exact wpAny_eqBool_str h
 «strs»:=fun k x t v h=>by
   rcases dH h with⟨i,u,rfl,e⟩ | ⟨y,u,rfl,e⟩
   . exact nomatch e
   . injection e with e1 _
     subst e1
     cases v <;> rfl
theorem yy (prog:Program)(w:World)(i:Int)(t:Tok):(du prog w).is (.inl i) (.int i t)=true:=DH i t
theorem yz (prog:Program)(w:World)(x:Str)(t:Tok):(du prog w).is (.inr x) (.str x t)=true:=DI x t
end L2
namespace L2
open PySem PySem.Spec PyProof.Rows
inductive V where
 | dQ | bl (b:Bool) | int (i:Int) | str (x:Str) | E8 (b:Array UInt8) | Od (b:UInt64) | ref (a:Addr) | ty (n:String)
 deriving DecidableEq
def RelV:V→Value→Prop
 | .dQ,u=>u=Value.none
 | .bl b,u=>u=Value.bool b
 | .int i,u=>∃ t,u=Value.int i t
 | .str x,u=>∃ t,u=Value.str x t
 | .E8 b,u=>∃ t,u=Value.bytes b t
 | .Od b,u=>∃ t,u=Value.float b t
 | .ref a,u=>u=Value.ref a
 | .ty n,u=>u=Value.type n
abbrev Vals:List V→List Value→Prop:=Paired RelV
theorem Vals.length {xs:List V}{us:List Value}(r:Vals xs us):xs.length=us.length:=Paired.length r
theorem Vals.get:∀ {xs:List V} {us:List Value} {i:Nat} {x:V},Vals xs us→xs[i]?=some x→∃ u,us[i]?=some u∧RelV x u
 | _,_,_,_,.nil,e=>by simp at e
 | _,_,0,_,.cons r _,e=>by simp at e;subst e;exact⟨_,rfl,r⟩
 | _,_,i+1,x,.cons _ t,e=>by
   obtain⟨u,h1,h2⟩:=Vals.get (i:=i) (x:=x) t (by simpa using e)
   exact⟨u,by simpa using h1,h2⟩
theorem Vals.set {x:V}{u:Value}(r:RelV x u):∀ {xs:List V} {us:List Value} (i:Nat),Vals xs us→Vals (xs.set i x) (us.set i u)
 | _,_,_,.nil=>.nil
 | _,_,0,.cons _ t=>.cons r t
 | _,_,i+1,.cons q t=>.cons q (Vals.set r i t)
theorem Vals.append:∀ {xs ys:List V} {us ws:List Value},Vals xs us→Vals ys ws→Vals (xs ++ ys) (us ++ ws)
 | _,_,_,_,.nil,s=>s
 | _,_,_,_,.cons r t,s=>.cons r (Vals.append t s)
theorem Vals.take:∀ {xs:List V} {us:List Value} (n:Nat),Vals xs us→Vals (xs.take n) (us.take n)
 | _,_,0,_=>.nil
 | _,_,_+1,.nil=>.nil
 | _,_,n+1,.cons r t=>.cons r (Vals.take n t)
theorem Vals.drop:∀ {xs:List V} {us:List Value} (n:Nat),Vals xs us→Vals (xs.drop n) (us.drop n)
 | _,_,0,r=>r
 | _,_,_+1,.nil=>.nil
 | _,_,n+1,.cons _ t=>Vals.drop n t
def l5:Option V→Option Value→Prop
 | some v,some u=>RelV v u
 | none,none=>True
 | _,_=>False
def KV {κ:Type}:List (κ×V)→List (κ×Value)→Prop:=Paired fun(p:κ×V) (q:κ×Value)=>p.1=q.1∧RelV p.2 q.2
def kV:Key→V
 | .inl i=>.int i
 | .inr x=>.str x
inductive FD where
 | int (i:Int)
 | eB (kds:List (Key×Int))
 | lst (ns:List Int)
 | tup (K:PySem.W.Frag) (ns:List Int)
 | obj (C:Addr) (fs:List (Str×FD))
abbrev gK:=List (Addr×(Nat→List (Key×FD)))
inductive HO where
   | lst (xs:List V)
   | tup (xs:List V)
   | dK (kvs:List (Key×V)) | dT (kvs:List (List Key×V))
   | set (S:Int→Bool) (n:Nat)
   | ins (C dx:Addr) (fs:List (Str×V))
   | own (x:Addr)
   | xd (fs:List (Str×V))
   | met (f x:Addr)
   | rng (lo hi:Int)
   | b8 (o:Obj) (u:HO)
   | Oe (ps:Array Value)
   | ext (φ:Heap→Prop)
   | memo (ls:gK)
 | cm (ls:gK) (ns:List Nat)
   | part (p:Addr)
   | kd (tg:Option (Addr×Nat)) (o:Obj) (kvs:List (Key×V))
   | kx (o:Obj) (u:HO)
abbrev Hp:=Addr→Option HO
def upd (H:Hp)(a:Addr)(o:HO):Hp:=fun b=>if b=a then some o else H b
theorem aq {H:Hp}{a:Addr}{o:HO}:upd H a o a=some o:=by unfold upd;rw[if_pos rfl]
theorem ah {H:Hp}{a b:Addr}{o:HO}(h:b≠a):upd H a o b=H b:=by unfold upd;rw[if_neg h]
theorem q9 {H:Hp}{a:Addr}{o u:HO}:upd (upd H a o) a u=upd H a u:=by
 funext b;unfold upd;split <;> rfl
theorem SV {H:Hp}{a b:Addr}{o u:HO}(h:H a=some o)(h':H b=some u)(d:o≠u):a≠b:=by
 intro e;subst e;rw[h] at h';exact d (Option.some.inj h')
theorem aB {H:Hp}{a b:Addr}{o:HO}(h:H a=some o)(h':H b=none):a≠b:=by
 intro e;subst e;rw[h] at h';cases h'
def i6:Option HO→Prop
 | some (.memo _)=>True
 | some (.cm _ _)=>True
 | some (.part _)=>True
 | _=>False
def Kept:HO→Prop
 | .kd _ _ _=>True
 | .kx _ _=>True
 | .tup _=>True
 | _=>False
def TupAt (K:PySem.W.Frag)(H:Hp)(a:Addr)(xs:List V):Prop:=
 H a=some (.tup xs) ∨
   ∃ (o:Obj) (aI:Array Value) (n:Nat),K.lookup a=some o∧o.cls=.type "tuple"∧o.data=.seq aI n∧aI.size≤sizeLine∧Vals xs aI.toList
mutual
inductive Fz (H:Hp):V→FD→Prop
 | int (i:Int):Fz H (.int i) (.int i)
 | eB {a:Addr} {tg:Option (Addr×Nat)} {o:Obj} {kds:List (Key×Int)}:H a=some (.kd tg o (kds.map fun kd=>(kd.1,V.int kd.2)))→Fz H (.ref a) (.eB kds)
 | lst {a:Addr} {o:Obj} {ns:List Int}:H a=some (.kx o (.lst (ns.map V.int)))→Fz H (.ref a) (.lst ns)
 | tup {a:Addr} {K:PySem.W.Frag} {ns:List Int}:TupAt K H a (ns.map V.int)→Fz H (.ref a) (.tup K ns)
 | obj {a C dx:Addr} {o:Obj} {fv:List (Str×V)} {fs:List (Str×FD)}:H a=some (.kx o (.ins C dx fv))→Fw H fv fs→Fz H (.ref a) (.obj C fs)
inductive Fw (H:Hp):List (Str×V)→List (Str×FD)→Prop
 | nil:Fw H [] []
 | cons {k:Str} {v:V} {d:FD} {vs:List (Str×V)} {ds:List (Str×FD)}:Fz H v d→Fw H vs ds→Fw H ((k,v)::vs) ((k,d)::ds)
end
inductive oY (H:Hp):List (Key×V)→List (Key×FD)→Prop
 | nil:oY H [] []
 | cons {k:Key} {v:V} {d:FD} {kvs:List (Key×V)} {kds:List (Key×FD)}:Fz H v d→oY H kvs kds→oY H ((k,v)::kvs) ((k,d)::kds)
def Of (H:Hp)(p:Addr)(i:Nat)(aI:List Value)(fd:List (Key×FD)):Prop:=∃ q o kvs,aI[i]?=some (.ref q)∧H q=some (.kd (some (p,i)) o kvs)∧oY H kvs fd
def Cc (H:Hp)(h:Heap)(p:Addr)(f:Nat→List (Key×FD))(n:Nat):Prop:=∃ aI c,h.get? p=some { cls:=.type "list",data:=.seq (aI:List Value).toArray c}∧aI.length=n∧∀ i,i < n→Of H p i aI (f i)
def rX (H:Hp)(h:Heap)(a:Addr)(ls:gK)(ns:List Nat):Prop:=(∃ f,ls[0]?=some (a,f))∧ls.length=ns.length∧(∀ (j:Nat) (p:Addr) (f:Nat→List (Key×FD)),ls[j]?=some (p,f)→(p=a∨H p=some (.part a)))∧(ls.map (·.1)).Nodup∧(∀ n∈ns,n≤10000)∧∀ (j:Nat) (p:Addr) (f:Nat→List (Key×FD)) (n:Nat),ls[j]?=some (p,f)→ns[j]?=some n→Cc H h p f n
section
variable (P:Program)(w:World)
def bc (H:Hp)(h:Heap)(a:Addr):HO→Prop
 | .lst xs=>xs.length≤sizeLine∧∃ (aI:List Value) (n:Nat),Vals xs aI∧h.get? a=some { cls:=.type "list",data:=.seq aI.toArray n}
 | .tup xs=>xs.length≤sizeLine∧∃ aI:List Value,Vals xs aI∧IsTup h a aI.toArray
 | .dK kvs=>kvs.length≤sizeLine∧(a == sysModules)=false∧∃ vs,KV kvs vs∧h.DictOf (du P w) a vs
 | .dT kvs=>kvs.length≤sizeLine∧(a == sysModules)=false∧∃ xs:List (List Key×Addr×Value),
     Paired (fun(p:List Key×V) (q:List Key×Addr×Value)=>p.1=q.1∧H q.2.1=some (.tup (p.1.map kV))∧RelV p.2 q.2.2) kvs xs ∧
     ∃ o es ep,h.get? a=some o∧o.ExactDict∧o.data=.dict es ep∧es.toList=xs.map (entryOfKey (tupleKind (du P w)))∧(xs.map (·.1)).Nodup
 | .set S n=>h.SetOf (intKind P w) a S n
 | .ins C dx fs=>H dx=some (.own a)∧fs.length≤1000∧dx≠a∧h.get? a=some (PySem.W.instObj C dx) ∧
     ∃ mA,h.Ns1 dx mA∧(∀ f,l5 (fs.lookup f) (mA f))∧PySem.Within mA (fs.map (·.1))
 | .own _=>∃ o,h.get? a=some o
 | .xd fs=>∃ mA,h.Ns1 a mA∧∀ f,l5 (fs.lookup f) (mA f)
 | .rng lo hi=>∃ t u v,h.get? a=some { cls:=.type "range",data:=.fields #[.int lo t,.int hi u,.int 1 v]}
 | .b8 o u=>h.get? a=some o∧bc H h a u
 | .Oe ps=>h.get? a=some { cls:=.none,data:=.fields ps}
 | .met f x=>h.get? a=some (PySem.W.methodObj (.ref f) (.ref x))
 | .ext φ=>φ h∧(∃ o,h.get? a=some o)∧∀ h1 h2:Heap,φ h1→(∀ o,h1.get? a=some o→h2.get? a=some o)→φ h2
 | .memo ls=>(∃ o,h.get? a=some o)∧∃ n,0 < n∧rX H h a ls (List.replicate ls.length n)
 | .cm ls ns=>(∃ o,h.get? a=some o)∧rX H h a ls ns
 | .part _=>∃ o,h.get? a=some o
 | .kd tg o kvs=>h.get? a=some o∧(kvs.length≤sizeLine∧(a == sysModules)=false∧∃ vs,KV kvs vs∧h.DictOf (du P w) a vs) ∧
     ∀ p i,tg=some (p,i)→i6 (H p)∧∃ aI c,h.get? p=some { cls:=.type "list",data:=.seq (aI:List Value).toArray c}∧aI[i]?=some (.ref a)
 | .kx o u=>h.get? a=some o∧bc H h a u
def nF (H:Hp)(h:Heap):Prop:=∀ a o,H a=some o→bc P w H h a o
end
section
variable {P:Program}{w:World}{H H':Hp}{h h':Heap}{a:Addr}{o:HO}
theorem bc.lt (x:bc P w H h a o):a < h.objs.size:=by
 cases o with
 | lst xs=>obtain⟨_,_,_,_,e⟩:=x;exact Heap.lt_size e
 | tup xs=>obtain⟨_,_,_,p⟩:=x;exact p.lt
 | dK kvs=>obtain⟨_,_,_,_,o,_,_,e,_⟩:=x;exact Heap.lt_size e
 | dT kvs=>obtain⟨_,_,_,_,o,_,_,e,_⟩:=x;exact Heap.lt_size e
 | set S n=>obtain⟨o,_,_,_,e,_⟩:=x;exact Heap.lt_size e
 | ins C dx fs=>obtain⟨_,_,_,e,_⟩:=x;exact Heap.lt_size e
 | own y=>obtain⟨_,e⟩:=x;exact Heap.lt_size e
 | xd fs=>obtain⟨_,⟨_,_,_,e,_⟩,_⟩:=x;exact Heap.lt_size e
 | rng lo hi=>obtain⟨_,_,_,e⟩:=x;exact Heap.lt_size e
 | b8 ob u=>obtain⟨e,_⟩:=x;exact Heap.lt_size e
 | Oe ps=>exact Heap.lt_size (show h.get? a=some _ from x)
 | met f y=>exact Heap.lt_size (show h.get? a=some _ from x)
 | ext φ=>obtain⟨_,⟨_,e⟩,_⟩:=x;exact Heap.lt_size e
 | memo ls=>obtain⟨⟨_,e⟩,_⟩:=x;exact Heap.lt_size e
 | cm ls ns=>obtain⟨⟨_,e⟩,_⟩:=x;exact Heap.lt_size e
 | part y=>obtain⟨_,e⟩:=x;exact Heap.lt_size e
 | kd tg ob kvs=>exact Heap.lt_size x.1
 | kx ob u=>exact Heap.lt_size x.1
theorem Paired.Og {α β:Type}{F G:α→β→Prop}:∀ {l₁:List α} {l₂:List β},Paired F l₁ l₂→(∀ a b,F a b→G a b)→Paired G l₁ l₂
 | _,_,.nil,_=>.nil
 | _,_,.cons r t,f=>.cons (f _ _ r) (Paired.Og t f)
structure Kp (H H':Hp):Prop where
 st:∀ b u,H b=some u→Kept u→H' b=some u
 mem:∀ b,i6 (H b)→i6 (H' b)
 part:∀ b x,H b=some (.part x)→H' b=some (.part x)
theorem Kp.kd (kp:Kp H H')(b:Addr)(tg:Option (Addr×Nat))(o:Obj)(kvs:List (Key×V))(e:H b=some (.kd tg o kvs)):H' b=some (.kd tg o kvs):=kp.st b _ e trivial
theorem Kp.refl:Kp H H:=⟨fun _ _ e _=>e,fun _ e=>e,fun _ _ e=>e⟩
theorem Kp.of (s:∀ b u,H b=some u→H' b=some u):Kp H H':=⟨fun _ _ e _=>s _ _ e,fun b e=>by
 cases q:H b with
 | none=>rw[q] at e;exact e.elim
 | some u=>rw[s b u q,← q];exact e,fun _ _ e=>s _ _ e⟩
theorem TupAt.kp {K:PySem.W.Frag}{xs:List V}(k:∀ b u,H b=some u→Kept u→H' b=some u)(h:TupAt K H a xs):TupAt K H' a xs:=h.imp (fun e=>k _ _ e trivial) id
mutual
theorem Fz.st (k:∀ b u,H b=some u→Kept u→H' b=some u):∀ {v:V} {d:FD},Fz H v d→Fz H' v d
 | _,_,.int i=>.int i
 | _,_,.eB e=>.eB (k _ _ e trivial)
 | _,_,.lst e=>.lst (k _ _ e trivial)
 | _,_,.tup e=>.tup (e.kp k)
 | _,_,.obj e f=>.obj (k _ _ e trivial) (Fw.st k f)
theorem Fw.st (k:∀ b u,H b=some u→Kept u→H' b=some u):∀ {v:List (Str×V)} {d:List (Str×FD)},Fw H v d→Fw H' v d
 | _,_,.nil=>.nil
 | _,_,.cons h t=>.cons (Fz.st k h) (Fw.st k t)
end
theorem Fz.kp (kp:Kp H H'){v:V}{d:FD}(h:Fz H v d):Fz H' v d:=h.st kp.st
theorem oY.kp (kp:Kp H H'):∀ {kvs:List (Key×V)} {kds:List (Key×FD)},oY H kvs kds→oY H' kvs kds
 | _,_,.nil=>.nil
 | _,_,.cons h t=>.cons (h.kp kp) (oY.kp kp t)
theorem Cc.kp {p:Addr}{f:Nat→List (Key×FD)}{n:Nat}(kp:Kp H H')(x:Cc H h p f n)(k:∀ u,h.get? p=some u→h'.get? p=some u):Cc H' h' p f n:=by
 obtain⟨aI,c,e,hl,hi⟩:=x
 exact⟨aI,c,k _ e,hl,fun i hn=>let ⟨q,o,kvs,h1,h2,h3⟩:=hi i hn;⟨q,o,kvs,h1,kp.kd _ _ _ _ h2,h3.kp kp⟩⟩
theorem rX.kp {ls:gK}{ns:List Nat}(kp:Kp H H')(x:rX H h a ls ns)(k:∀ b u,b=a∨H b=some (.part a)→h.get? b=some u→h'.get? b=some u):rX H' h' a ls ns:=by
 obtain⟨h1,h2,h3,h4,h5,h6⟩:=x
 exact⟨h1,h2,fun j p f e=>(h3 j p f e).imp id fun z=>kp.part _ _ z,h4,h5,fun j p f n e1 e2=>(h6 j p f n e1 e2).kp kp fun u e=>k p u (h3 j p f e1) e⟩
def SW (h:Heap)(p:Addr)(i:Nat)(c:Addr):Prop:=∃ aI n,h.get? p=some { cls:=.type "list",data:=.seq (aI:List Value).toArray n}∧aI[i]?=some (.ref c)
theorem bc.M5 (x:bc P w H h a o)(k:∀ b u,(b=a∨H b=some (.own a)∨H b=some (.part a))→h.get? b=some u→h'.get? b=some u)(ho:∀ b,H b=some (.own a)→H' b=some (.own a))(ht:∀ b xs,H b=some (.tup xs)→H' b=some (.tup xs))(kp:Kp H H')(hl:∀ p i c,i6 (H p)→SW h p i c→SW h' p i c):bc P w H' h' a o:=by
 induction o with
 | lst xs=>obtain⟨z,aI,n,r,e⟩:=x;exact⟨z,aI,n,r,k _ _ (.inl rfl) e⟩
 | tup xs=>obtain⟨z,aI,r,ob,e,c⟩:=x;exact⟨z,aI,r,ob,k _ _ (.inl rfl) e,c⟩
 | dK kvs=>obtain⟨z,y,vs,r,ob,es,ep,e,c⟩:=x;exact⟨z,y,vs,r,ob,es,ep,k _ _ (.inl rfl) e,c⟩
 | dT kvs=>
   obtain⟨z,y,xs,r,ob,es,ep,e,c⟩:=x
   exact⟨z,y,xs,Paired.Og r fun p q z=>⟨z.1,ht _ _ z.2.1,z.2.2⟩,ob,es,ep,k _ _ (.inl rfl) e,c⟩
 | set S n=>obtain⟨ob,es,ep,t,e,c⟩:=x;exact⟨ob,es,ep,t,k _ _ (.inl rfl) e,c⟩
 | ins C dx fs=>
   obtain⟨d,z,ne,e,mA,⟨od,es,ep,e2,c⟩,r⟩:=x
   exact⟨ho _ d,z,ne,k _ _ (.inl rfl) e,mA,⟨od,es,ep,k _ _ (.inr (.inl d)) e2,c⟩,r⟩
 | own y=>obtain⟨ob,e⟩:=x;exact⟨ob,k _ _ (.inl rfl) e⟩
 | xd fs=>obtain⟨mA,⟨od,es,ep,e,c⟩,r⟩:=x;exact⟨mA,⟨od,es,ep,k _ _ (.inl rfl) e,c⟩,r⟩
 | rng lo hi=>obtain⟨t,u,v,e⟩:=x;exact⟨t,u,v,k _ _ (.inl rfl) e⟩
 | b8 ob u ih=>obtain⟨e,q⟩:=x;exact⟨k _ _ (.inl rfl) e,ih q⟩
 | Oe ps=>
   have e:h.get? a=some { cls:=.none,data:=.fields ps}:=x
   show h'.get? a=some { cls:=.none,data:=.fields ps}
   exact k a _ (.inl rfl) e
 | met f y=>
   have e:h.get? a=some (PySem.W.methodObj (.ref f) (.ref y)):=x
   show h'.get? a=some (PySem.W.methodObj (.ref f) (.ref y))
   exact k a _ (.inl rfl) e
 | ext φ=>obtain⟨p,⟨o,e⟩,st⟩:=x;exact⟨st _ _ p fun o q=>k _ _ (.inl rfl) q,⟨o,k _ _ (.inl rfl) e⟩,st⟩
 | memo ls=>
   obtain⟨⟨o,e⟩,n,hn,q⟩:=x
   refine⟨⟨o,k _ _ (.inl rfl) e⟩,n,hn,q.kp kp fun b u hb=>k b u ?_⟩
   rcases hb with z | z
   . exact .inl z
   . exact .inr (.inr z)
 | cm ls ns=>
   obtain⟨⟨o,e⟩,q⟩:=x
   refine⟨⟨o,k _ _ (.inl rfl) e⟩,q.kp kp fun b u hb=>k b u ?_⟩
   rcases hb with z | z
   . exact .inl z
   . exact .inr (.inr z)
 | part y=>obtain⟨o,e⟩:=x;exact⟨o,k _ _ (.inl rfl) e⟩
 | kd tg ob kvs=>
   obtain⟨e,⟨z,y,vs,r,ob',es,ep,e',c⟩,q⟩:=x
   refine⟨k _ _ (.inl rfl) e,⟨z,y,vs,r,ob',es,ep,k _ _ (.inl rfl) e',c⟩,fun p i ht=>?_⟩
   obtain⟨q1,q2⟩:=q p i ht
   exact⟨kp.mem _ q1,hl p i _ q1 q2⟩
 | kx ob u ih=>obtain⟨e,q⟩:=x;exact⟨k _ _ (.inl rfl) e,ih q⟩
theorem bc.v8 (x:bc P w H h a o)(k:∀ b u,(b=a∨H b=some (.own a)∨i6 (H b))→h.get? b=some u→h'.get? b=some u)(ho:∀ b,H b=some (.own a)→H' b=some (.own a))(ht:∀ b xs,H b=some (.tup xs)→H' b=some (.tup xs))(kp:Kp H H'):bc P w H' h' a o:=
 x.M5 (fun b u hb=>k b u (by
   rcases hb with z | z | z
   . exact .inl z
   . exact .inr (.inl z)
   . exact .inr (.inr (by rw[z];trivial)))) ho ht kp fun p i c hm ⟨aI,n,e,q⟩=>⟨aI,n,k p _ (.inr (.inr hm)) e,q⟩
theorem nF.lt (x:nF P w H h)(e:H a=some o):a < h.objs.size:=(x a o e).lt
theorem nF.fresh (x:nF P w H h)(e:h.objs.size≤a):H a=none:=by
 cases q:H a with
 | none=>rfl
 | some u=>exact absurd (Nat.lt_of_lt_of_le (x.lt q) e) (Nat.lt_irrefl _)
theorem nF.kept (x:nF P w H h)(k:∀ b u,h.get? b=some u→h'.get? b=some u):nF P w H h':=fun a o e=>
 (x a o e).v8 (fun b u _ q=>k b u q) (fun _ q=>q) (fun _ _ q=>q) .refl
theorem nF.laid (x:nF P w H h)(k:∀ b u,h.get? b=some u→h'.get? b=some u)(hp:h.objs.size≤a)(new:bc P w (upd H a o) h' a o):nF P w (upd H a o) h':=fun b u e=>by
 have hn:=x.fresh hp
 by_cases hb:b=a
 . subst hb;rw[aq] at e;cases e;exact new
 . rw[ah hb] at e
   exact(x b u e).v8 (fun c v _ q=>k c v q) (fun c q=>by rw[ah (aB q hn)];exact q) (fun c xs q=>by rw[ah (aB q hn)];exact q) (.of fun c u q=>by rw[ah (aB q hn)];exact q)
end
def Rd (H:Hp)(a:Addr)(u:HO):Prop:=H a=some u∨(∃ o,H a=some (.b8 o u))∨(∃ tg o kvs,H a=some (.kd tg o kvs)∧u=.dK kvs)∨∃ o,H a=some (.kx o u)
theorem Rd.of {H:Hp}{a:Addr}{u:HO}(h:H a=some u):Rd H a u:=.inl h
theorem Rd.ok {P:Program}{w:World}{H:Hp}{h:Heap}{a:Addr}{u:HO}(r:Rd H a u)(x:nF P w H h):bc P w H h a u:=by
 rcases r with r | ⟨o,r⟩ | ⟨tg,o,kvs,r,rfl⟩ | ⟨o,r⟩
 . exact x a u r
 . obtain⟨_,q⟩:=x a _ r
   exact q
 . obtain⟨_,q,_⟩:=x a _ r
   exact q
 . obtain⟨_,q⟩:=x a _ r
   exact q
def Sq:Option HO→Prop
 | some (.lst _)=>True
 | some (.dK _)=>True
 | some (.dT _)=>True
 | some (.set _ _)=>True
 | some (.ins _ _ _)=>True
 | some (.ext _)=>True
 | _=>False
section
variable {P:Program}{w:World}{H:Hp}{h h':Heap}{x e:Addr}{o':HO}
theorem nF.write (ok:nF P w H h)(mu:Sq (H x))(he:e=x∨H e=some (.own x))(k:∀ b u,b≠e→h.get? b=some u→h'.get? b=some u)(Sr:∃ u,h'.get? e=some u)(new:bc P w (upd H x o') h' x o'):nF P w (upd H x o') h':=fun b u q=>by
 have v9:∀ c y,H c=some (.own y)→c≠x:=fun c y r z=>by subst z;rw[r] at mu;exact mu
 have abi:∀ c xs,H c=some (.tup xs)→c≠x:=fun c xs r z=>by subst z;rw[r] at mu;exact mu
 by_cases hb:b=x
 . subst hb;rw[aq] at q;cases q;exact new
 . rw[ah hb] at q
   by_cases rb:b=e
   . have q':H b=some (.own x):=by
       rcases he with z | z
       . exact absurd (rb.trans z) hb
       . rw[rb];exact z
     rw[q] at q';cases q'
     obtain⟨v,hv⟩:=Sr
     exact⟨v,by rw[rb];exact hv⟩
   . have nkd:∀ c u,H c=some u→¬ Sq (some u)→c≠x:=fun c u r nm z=>by subst z;rw[r] at mu;exact nm mu
     have nmm:∀ c,i6 (H c)→c≠x:=fun c r z=>by
       subst z
       cases qq:H c with
       | none=>rw[qq] at r;exact r
       | some u=>rw[qq] at r mu;cases u <;> first | exact mu | exact r
     refine(ok b u q).v8 (fun c v hc r=>k c v ?_ r) (fun c r=>by rw[ah (v9 c b r)];exact r) (fun c xs r=>by rw[ah (abi c xs r)];exact r) ⟨fun c u r kq=>by rw[ah (nkd c _ r (by cases u <;> first | exact(show False from kq).elim | exact fun z=>z))];exact r,fun c r=>by rw[ah (nmm c r)];exact r,fun c y r=>by rw[ah (nkd c _ r fun z=>z)];exact r⟩
     rcases hc with rfl | hc | hc
     . exact rb
     . rintro rfl
       rcases he with z | z
       . exact v9 c b hc z
       . rw[hc] at z;cases z;exact hb rfl
     . rintro rfl
       rcases he with z | z
       . exact nmm c hc z
       . rw[z] at hc;exact hc
end
structure Un (fs ex:List Addr)(H H':Hp)(h h':Heap):Prop where
 keep:∀ b o,h.get? b=some o→H b=none→b ∉ fs→b ∉ ex→h'.get? b=some o
 slot:∀ b o,h.get? b=some o→H b=none→b∈fs→b ∉ ex→∃ sl,h'.get? b=some { o with slots:=sl}
 free:∀ b o,h.get? b=some o→H b=none→b ∉ ex→H' b=none
 there:∀ b o,h.get? b=some o→b ∉ ex→∃ o',h'.get? b=some o'
 yA:∀ b xs,H b=some (.tup xs)→H' b=some (.tup xs)
 wb:∀ b o u,H b=some (.b8 o u)→H' b=some (.b8 o u)
 yB:∀ b ps,H b=some (.Oe ps)→∃ more,H' b=some (.Oe (ps ++ more))
section
variable {fs fs' ex ex':List Addr}{H H1 H2:Hp}{h h1 h2 h':Heap}{a x e:Addr}{o:HO}
theorem Un.any (u:Un fs ex H H1 h h1){b:Addr}{ob:Obj}(q:h.get? b=some ob)(n:H b=none)(hx:b ∉ ex):∃ sl,h1.get? b=some { ob with slots:=sl}:=by
 by_cases hb:b∈fs
 . exact u.slot b ob q n hb hx
 . exact⟨ob.slots,u.keep b ob q n hb hx⟩
theorem Un.kept (k:∀ b u,h.get? b=some u→h'.get? b=some u):Un fs ex H H h h':=
 ⟨fun b ob q _ _ _=>k b ob q,fun b ob q _ _ _=>⟨ob.slots,k b ob q⟩,fun _ _ _ n _=>n,fun b ob q _=>⟨ob,k b ob q⟩,fun _ _ q=>q,fun _ _ _ q=>q,fun _ ps q=>⟨#[],by rw[q];simp⟩⟩
theorem Un.refl:Un fs ex H H h h:=Un.kept fun _ _ q=>q
theorem Un.laid (k:∀ b u,h.get? b=some u→h'.get? b=some u)(hp:h.objs.size≤a)(hn:H a=none):Un fs ex H (upd H a o) h h' where
 keep:=fun b u q _ _ _=>k b u q
 slot:=fun b u q _ _ _=>⟨u.slots,k b u q⟩
 free:=fun b u q n _=>by rw[ah (Nat.ne_of_lt (Nat.lt_of_lt_of_le (Heap.lt_size q) hp))];exact n
 there:=fun b u q _=>⟨u,k b u q⟩
 yA:=fun b xs q=>by rw[ah (aB q hn)];exact q
 wb:=fun b u xs q=>by rw[ah (aB q hn)];exact q
 yB:=fun b ps q=>⟨#[],by rw[ah (aB q hn),q];simp⟩
theorem Un.write (mu:Sq (H x))(he:e=x∨H e=some (.own x))(k:∀ b u,b≠e→h.get? b=some u→h'.get? b=some u)(Sr:∃ u,h'.get? e=some u):Un fs ex H (upd H x o) h h':=by
 have hx:∀ b,H b=none→b≠x:=fun b n z=>by subst z;rw[n] at mu;exact mu
 have hb:∀ b,H b=none→b≠e:=fun b n z=>by
   subst z
   rcases he with r | r
   . exact hx b n r
   . rw[n] at r;cases r
 have hm:∀ b u,H b=some u→¬ Sq (some u)→b≠x:=fun b u q nm z=>by subst z;rw[q] at mu;exact nm mu
 refine⟨fun b u q n _ _=>k b u (hb b n) q,fun b u q n _ _=>⟨u.slots,k b u (hb b n) q⟩,fun b u q n _=>by rw[ah (hx b n)];exact n,fun b u q _=>?_,
   fun b xs q=>by rw[ah (hm b _ q fun z=>z)];exact q,fun b u xs q=>by rw[ah (hm b _ q fun z=>z)];exact q,fun b ps q=>⟨#[],by rw[ah (hm b _ q fun z=>z),q];simp⟩⟩
 by_cases rb:b=e
 . subst rb;exact Sr
 . exact⟨u,k b u rb q⟩
end
def cL (h:Heap)(H:Hp):List Addr:=(List.range h.objs.size).filter fun a=>(H a).isSome
def wc (h:Heap)(H:Hp):Heap:=PySem.W.hideAll h (cL h H)
theorem DJ (h:Heap)(H:Hp):(wc h H).objs.size=h.objs.size:=PySem.W.hideAll_size _ _
theorem Fx {h:Heap}{H:Hp}{b:Addr}{o:Obj}(e:h.get? b=some o)(n:H b=none):(wc h H).get? b=some o:=
 PySem.W.hideAll_get _ e fun hm=>by
   have q:(H b).isSome=true:=(List.mem_filter.mp hm).2
   rw[n] at q;simp at q
theorem JV {h:Heap}{H:Hp}{b:Addr}{o:Obj}(e:(wc h H).get? b=some o):h.get? b=some o∧H b=none:=by
 have e':h.get? b=some o:=PySem.W.of_hideAll (cL h H) e
 refine⟨e',?_⟩
 cases q:H b with
 | none=>rfl
 | some x=>
   have hm:b∈cL h H:=List.mem_filter.mpr ⟨List.mem_range.mpr (Heap.lt_size e'),by simp[q]⟩
   have z:(wc h H).get? b=none:=PySem.W.hideAll_none (cL h H) hm
   rw[z] at e;cases e
def JW (g h:Heap)(L:Addr):List (Addr×Obj):=(List.range h.objs.size).filterMap fun a=>if a=L∨(g.get? a).isSome=true then none else (h.get? a).map fun o=>(a,o)
def rest (g h:Heap)(L d:Addr):List (Addr×Obj):=(JW g h L).filter fun p=>decide (p.1≠d)
end L2
namespace L2
open PySem PySem.Spec PyProof.Rows
structure Mod (K:PySem.W.Frag)(mg:Str→Option Value)(base:Heap):Prop where
 SY:K.In base
 glob:base.Ns mainGlobals mg
 blt:∃ mb,base.Ns builtinsNs mb∧∀ x:Str,x≠"__name__"→mb x=bootBuiltins x
 nolimit:base.NoLimit
structure Cx where
 prog:Program
 w:World
 K:PySem.W.Frag
 mg:Str→Option Value
 base:Heap
 A:Around
 N:List Str
 s₀:Shared
 H₀:Hp
 env:Env
 outer:List Env
 stack:List Env
 ex:List Addr
 fn:Str→Bool
 calm:Bool
 pn:List (Addr×Obj)
 xe:Value→Shared→Prop
def Fy (l:List Env):List Addr:=l.filterMap (·.frame)
abbrev Cx.fs (X:Cx):List Addr:=Fy X.outer
def rY (sc:Scope)(x:Str):Prop:=sc.names.lookup x=some .local∨sc.names.lookup x=some .cell∨sc.names.lookup x=some .free
def Loc (sc:Scope)(x:Str):Prop:=sc.names.lookup x=some .local∨sc.names.lookup x=some .cell
def Look (env:Env)(h:Heap)(m:Str→Option Value)(x:Str)(u:Value):Prop:=
 (env.kindOf x=some .local∧m x=some u)∨((env.kindOf x=some .cell∨env.kindOf x=some .free)∧∃ c,env.cells.lookup x=some c∧h.IsCell c (some u))
structure Cx.Ok (X:Cx):Prop where
 mod:Mod X.K X.mg X.base
 kind:X.env.scope.kind=.function
 glob:X.env.globals=mainGlobals
 blt:X.env.builtins=builtinsNs
 above:X.s₀.heap.objs.size≤X.env.locals
 inj:∀ x y c,X.env.cells.lookup x=some c→X.env.cells.lookup y=some c→x=y
 has:∀ x,(X.env.kindOf x=some .cell∨X.env.kindOf x=some .free)→∃ c,X.env.cells.lookup x=some c
 Ss:∀ x c,X.fn x=true→X.env.cells.lookup x=some c→X.s₀.heap.objs.size≤c
 hd:X.calm=true→X.A.handled=none
 frames:X.A.frames=some X.stack
 S5:X.stack=X.outer∨(X.stack=X.env::X.outer∧X.env.frame=some X.env.locals)
 JX:∀ b∈X.ex,b≠X.env.locals∧∀ x c,X.env.cells.lookup x=some c→c≠b
 bs:∀ b o,X.base.get? b=some o→X.s₀.heap.get? b=some o∧X.H₀ b=none
 Cd:X.base.objs.size≤X.s₀.heap.objs.size
 yC:∀ b o,X.base.get? b=some o→b ∉ X.ex
 yD:∀ b∈X.ex,b ∉ X.fs
 oZ:X.s₀.heap.FunFrames X.base X.outer
 M6:∀ b∈X.fs,X.H₀ b=none
structure Inv (X:Cx)(pins:List (Addr×Obj))(σ:List (Option V))(H:Hp)(s:Shared):Prop where
 ok:X.Ok
 os:s.os=X.s₀.os
 bare:AllBare s.gens
 base:Un X.fs X.ex X.H₀ H X.s₀.heap s.heap
 loc:∃ m,s.heap.Ns X.env.locals m∧∀ (i:Nat) (x:Str) (v:V),X.N[i]?=some x→σ[i]?=some (some v)→rY X.env.scope x→∃ u,RelV v u∧Look X.env s.heap m x u
 cell:∀ x c,X.env.cells.lookup x=some c→∃ v,s.heap.IsCell c v
 free:H X.env.locals=none
 mE:∀ x c,X.env.cells.lookup x=some c→H c=none
 pin:∀ p∈X.pn ++ pins,s.heap.get? p.1=some p.2∧H p.1=none∧p.1≠X.env.locals∧p.1 ∉ X.fs∧∀ v,p.2.data≠.cell v
 bU:nF X.prog X.w H s.heap
 len:σ.length=X.N.length
section
variable {X:Cx}{pins:List (Addr×Obj)}{σ:List (Option V)}{H H':Hp}{s:Shared}{h':Heap}
theorem Cx.Ok.Oh (ok:X.Ok){b:Addr}{o:Obj}(e:X.base.get? b=some o):b ∉ X.fs:=fun hb=>by
 have:=(ok.oZ.mem hb).1
 rw[e] at this;cases this
theorem Inv.bs (I:Inv X pins σ H s):∀ b o,X.base.get? b=some o→s.heap.get? b=some o∧H b=none:=fun b o e=>
 ⟨I.base.keep b o (I.ok.bs b o e).1 (I.ok.bs b o e).2 (I.ok.Oh e) (I.ok.yC b o e),I.base.free b o (I.ok.bs b o e).1 (I.ok.bs b o e).2 (I.ok.yC b o e)⟩
theorem Inv.bk (I:Inv X pins σ H s):∀ b o,X.base.get? b=some o→s.heap.get? b=some o:=fun b o e=>(I.bs b o e).1
theorem Inv.mod (I:Inv X pins σ H s):Mod X.K X.mg X.base:=I.ok.mod
theorem Inv.jL (I:Inv X pins σ H s):X.K.In s.heap:=I.ok.mod.SY.keeps I.bk
theorem Inv.lt (I:Inv X pins σ H s):X.env.locals < s.heap.objs.size:=let ⟨_,hn,_⟩:=I.loc;hn.lt
theorem Inv.sz (I:Inv X pins σ H s):X.s₀.heap.objs.size≤s.heap.objs.size:=Nat.le_trans I.ok.above (Nat.le_of_lt I.lt)
theorem Inv.abj (I:Inv X pins σ H s){a:Addr}(h:s.heap.objs.size≤a):a ∉ X.fs:=fun hb=>by
 obtain⟨_,o,ho,_⟩:=I.ok.oZ.mem hb
 exact absurd (Nat.lt_of_lt_of_le (Heap.lt_size ho) (Nat.le_trans I.sz h)) (Nat.lt_irrefl _)
theorem Inv.Ax (I:Inv X pins σ H s):∀ x c,X.env.cells.lookup x=some c→c≠X.env.locals:=fun x c e z=>by
 obtain⟨v,o,ho,hd⟩:=I.cell x c e
 obtain⟨m,⟨o',es,ep,AH,Sv,_⟩,_⟩:=I.loc
 rw[z,AH] at ho;cases ho;rw[Sv] at hd;cases hd
theorem Inv.oZ (I:Inv X pins σ H s):s.heap.FunFrames X.base X.outer:=by
 have all:∀ (l:List Env),(∀ b∈Fy l,b∈X.fs)→X.s₀.heap.FunFrames X.base l→s.heap.FunFrames X.base l:=by
   intro l
   induction l with
   | nil=>intro _ _;trivial
   | cons env r ih=>
     intro hs hl
     obtain⟨hk,⟨L,o,hf,hn,ho,hd⟩,hr⟩:=hl
     have hL:L∈X.fs:=hs L (by unfold Fy;rw[List.filterMap_cons,hf];exact List.mem_cons_self)
     obtain⟨sl,e⟩:=I.base.slot L o ho (I.ok.M6 L hL) hL fun z=>I.ok.yD L z hL
     exact⟨hk,⟨L,_,hf,hn,e,hd⟩,ih (fun b hb=>hs b (by unfold Fy;rw[List.filterMap_cons,hf];exact List.mem_cons_of_mem _ hb)) hr⟩
 exact all X.outer (fun _ hb=>hb) I.ok.oZ
theorem Inv.stack (I:Inv X pins σ H s):s.heap.FunFrames X.base X.stack:=by
 rcases I.ok.S5 with e | ⟨e,hf⟩
 . rw[e];exact I.oZ
 . rw[e]
   obtain⟨m,hn,_⟩:=I.loc
   refine .cons (by rw[I.ok.kind];decide) hf hn ?_ I.oZ
   exact Heap.get?_none_of_le (Nat.le_trans I.ok.Cd I.ok.above)
theorem Inv.rZ (I:Inv X pins σ H s):∀ b∈Fy X.stack,b∈X.env.locals::X.fs:=fun b hb=>by
 rcases I.ok.S5 with e | ⟨e,hf⟩
 . rw[e] at hb;exact List.mem_cons_of_mem _ hb
 . rw[e] at hb
   unfold Fy at hb
   rw[List.filterMap_cons,hf] at hb
   exact hb
theorem Inv.rg (I:Inv X pins σ H s):∀ b∈Fy X.stack,H b=none:=fun b hb=>by
 rcases List.mem_cons.mp (I.rZ b hb) with e | hb
 . rw[e];exact I.free
 . obtain⟨_,o,ho,_⟩:=I.ok.oZ.mem hb
   exact I.base.free b o ho (I.ok.M6 b hb) fun z=>I.ok.yD b z hb
theorem Inv.step {g':Array GenState}{t':Nat}{d':Drawn}{ch:List Addr}(I:Inv X pins σ H s)(yt:∀ b∈ch,(b∈X.ex∨X.s₀.heap.objs.size≤b)∧b≠X.env.locals∧(∀ x c,X.env.cells.lookup x=some c→c≠b)∧∀ p∈X.pn ++ pins,p.1≠b)(keep:∀ b o,b≠X.env.locals→b ∉ X.fs→b ∉ ch→s.heap.get? b=some o→H b=none→h'.get? b=some o)(slot:∀ b o,b≠X.env.locals→b∈X.fs→b ∉ ch→s.heap.get? b=some o→H b=none→∃ sl,h'.get? b=some { o with slots:=sl})(free:∀ b o,b ∉ ch→s.heap.get? b=some o→H b=none→H' b=none)(there:∀ b o,b ∉ ch→s.heap.get? b=some o→∃ o',h'.get? b=some o')(yA:∀ b xs,H b=some (.tup xs)→H' b=some (.tup xs))(wb:∀ b o u,H b=some (.b8 o u)→H' b=some (.b8 o u))(yB:∀ b ps,H b=some (.Oe ps)→∃ more,H' b=some (.Oe (ps ++ more)))(ns:∀ m,s.heap.Ns X.env.locals m→h'.Ns X.env.locals m)(bU:nF X.prog X.w H' h')(hg:AllBare g'):Inv X pins σ H' { s with heap:=h',gens:=g',drawn:=d',toks:=t'}:=by
 have neL:∀ b o,X.s₀.heap.get? b=some o→b≠X.env.locals:=fun b o e=>Nat.ne_of_lt (Nat.lt_of_lt_of_le (Heap.lt_size e) I.ok.above)
 have neC:∀ b o,X.s₀.heap.get? b=some o→b ∉ X.ex→b ∉ ch:=fun b o e hx hb=>by
   rcases (yt b hb).1 with z | z
   . exact hx z
   . exact absurd (Nat.lt_of_lt_of_le (Heap.lt_size e) z) (Nat.lt_irrefl _)
 have cellK:∀ x c,X.env.cells.lookup x=some c→∀ v,s.heap.IsCell c v→h'.IsCell c v:=fun x c e v ⟨o,ho,hd⟩=>by
   have S6:c ∉ ch:=fun z=>(yt c z).2.2.1 x c e rfl
   by_cases hc:c∈X.fs
   . obtain⟨sl,q⟩:=slot c o (I.Ax x c e) hc S6 ho (I.mE x c e)
     exact⟨_,q,hd⟩
   . exact⟨o,keep c o (I.Ax x c e) hc S6 ho (I.mE x c e),hd⟩
 refine⟨I.ok,I.os,hg,⟨fun b o e n hb hx=>?_,fun b o e n hb hx=>?_,fun b o e n hx=>?_,fun b o e hx=>?_,fun b xs e=>yA b xs (I.base.yA b xs e),fun b o xs e=>wb b o xs (I.base.wb b o xs e),fun b ps e=>?_⟩,?_,fun x c e=>?_,?_,fun x c e=>?_,fun p hp=>?_,bU,I.len⟩
 . exact keep b o (neL b o e) hb (neC b o e hx) (I.base.keep b o e n hb hx) (I.base.free b o e n hx)
 . obtain⟨sl,e1⟩:=I.base.slot b o e n hb hx
   obtain⟨sl',e2⟩:=slot b _ (neL b o e) hb (neC b o e hx) e1 (I.base.free b o e n hx)
   exact⟨sl',e2⟩
 . obtain⟨o',e1⟩:=I.base.there b o e hx
   exact free b o' (neC b o e hx) e1 (I.base.free b o e n hx)
 . obtain⟨o',e1⟩:=I.base.there b o e hx
   exact there b o' (neC b o e hx) e1
 . obtain⟨m1,e1⟩:=I.base.yB b ps e
   obtain⟨m2,e2⟩:=yB b _ e1
   exact⟨m1 ++ m2,by rw[e2,Array.append_assoc]⟩
 . obtain⟨m,hn,hl⟩:=I.loc
   refine⟨m,ns m hn,fun i x v e1 e2 e3=>?_⟩
   obtain⟨u,r,l⟩:=hl i x v e1 e2 e3
   refine⟨u,r,?_⟩
   rcases l with l | ⟨k,c,e,z⟩
   . exact .inl l
   . exact .inr ⟨k,c,e,cellK x c e _ z⟩
 . obtain⟨v,z⟩:=I.cell x c e
   exact⟨v,cellK x c e v z⟩
 . obtain⟨m,⟨o,_,_,ho,_⟩,_⟩:=I.loc
   exact free _ o (fun z=>(yt _ z).2.1 rfl) ho I.free
 . obtain⟨v,o,ho,hd⟩:=I.cell x c e
   exact free c o (fun z=>(yt c z).2.2.1 x c e rfl) ho (I.mE x c e)
 . obtain⟨e,n,ne,nf,d⟩:=I.pin p hp
   have S6:p.1 ∉ ch:=fun z=>(yt p.1 z).2.2.2 p hp rfl
   exact⟨keep p.1 p.2 ne nf S6 e n,free p.1 p.2 S6 e n,ne,nf,d⟩
theorem Inv.un {t':Nat}(I:Inv X pins σ H s)(u:Un X.fs [] H H' s.heap h')(bU:nF X.prog X.w H' h'):Inv X pins σ H' { s with heap:=h',toks:=t'}:=by
 obtain⟨m,⟨o,es,ep,ho,r⟩,_⟩:=id I.loc
 obtain⟨sl,hL⟩:=u.any ho I.free (by simp)
 exact I.step (g':=s.gens) (d':=s.drawn) (ch:=[]) (fun _ z=>nomatch z) (fun b o _ hb _ e n=>u.keep b o e n hb (by simp)) (fun b o _ hb _ e n=>u.slot b o e n hb (by simp)) (fun b o _ e n=>u.free b o e n (by simp)) (fun b o _ e=>u.there b o e (by simp)) u.yA u.wb u.yB (fun m' hm=>by
   obtain⟨o',JY,ep',AH,r'⟩:=hm
   rw[ho] at AH;cases AH
   exact⟨_,JY,ep',hL,r'⟩) bU I.bare
theorem Inv.call {g':Array GenState}{t':Nat}{d':Drawn}{ch:List Addr}(I:Inv X pins σ H s)(u:Un (Fy X.stack) ch H H' s.heap h')(bU:nF X.prog X.w H' h')(hg:AllBare g')(yt:∀ b∈ch,(b∈X.ex∨X.s₀.heap.objs.size≤b)∧b≠X.env.locals∧(∀ x c,X.env.cells.lookup x=some c→c≠b)∧∀ p∈X.pn ++ pins,p.1≠b):Inv X pins σ H' { s with heap:=h',gens:=g',drawn:=d',toks:=t'}:=by
 obtain⟨m,⟨o,es,ep,ho,r⟩,_⟩:=id I.loc
 obtain⟨sl,hL⟩:=u.any ho I.free fun z=>(yt _ z).2.1 rfl
 exact I.step (ch:=ch) yt (fun b o hL hb hc e n=>u.keep b o e n (fun z=>(List.mem_cons.mp (I.rZ b z)).elim hL hb) hc) (fun b o _ _ hc e n=>u.any e n hc) (fun b o hc e n=>u.free b o e n hc) (fun b o hc e=>u.there b o e hc) u.yA u.wb u.yB (fun m' hm=>by
   obtain⟨o',JY,ep',AH,r'⟩:=hm
   rw[ho] at AH;cases AH
   exact⟨_,JY,ep',hL,r'⟩) bU hg
theorem Inv.turned {t':Nat}{it:Addr}(I:Inv X pins σ H s)(k:∀ b o,b≠it→s.heap.get? b=some o→h'.get? b=some o)(hn:H it=none)(hL:it≠X.env.locals)(h1:it∈X.ex∨X.s₀.heap.objs.size≤it)(h2:∀ x c,X.env.cells.lookup x=some c→c≠it)(h3:∀ p∈X.pn ++ pins,p.1≠it):Inv X pins σ H { s with heap:=h',toks:=t'}:=by
 have S9:∀ b u,H b=some u→b≠it:=fun b u e z=>by rw[z,hn] at e;cases e
 refine I.step (g':=s.gens) (d':=s.drawn) (ch:=[it]) (fun b hb=>?_) (fun b o _ _ hc e _=>k b o (fun z=>hc (by simp[z])) e) (fun b o _ _ hc e _=>⟨o.slots,k b o (fun z=>hc (by simp[z])) e⟩) (fun _ _ _ _ n=>n)
   (fun b o hc e=>⟨o,k b o (fun z=>hc (by simp[z])) e⟩) (fun _ _ e=>e) (fun _ _ _ e=>e) (fun b ps e=>⟨#[],by rw[e];simp⟩) (fun m hm=>?_) (fun b u e=>?_) I.bare
 . have e:b=it:=by simpa using hb
   subst e
   exact⟨h1,hL,h2,h3⟩
 . obtain⟨o,es,ep,ho,r⟩:=hm
   exact⟨o,es,ep,k _ o (Ne.symm hL) ho,r⟩
 . refine(I.bU b u e).v8 (fun c v hc q=>k c v ?_ q) (fun _ q=>q) (fun _ _ q=>q) .refl
   rcases hc with z | z | z
   . rw[z];exact S9 b u e
   . exact S9 c _ z
   . exact fun z'=>by rw[z',hn] at z;exact z
theorem Inv.tok (I:Inv X pins σ H s)(t:Nat):Inv X pins σ H { s with toks:=t}:=I.un (h':=s.heap) (t':=t) Un.refl I.bU
theorem Inv.kept {t':Nat}(I:Inv X pins σ H s)(k:∀ b u,s.heap.get? b=some u→h'.get? b=some u):Inv X pins σ H { s with heap:=h',toks:=t'}:=I.un (Un.kept k) (I.bU.kept k)
theorem Inv.laid {a:Addr}{o:HO}{t':Nat}(I:Inv X pins σ H s)(k:∀ b u,s.heap.get? b=some u→h'.get? b=some u)(hp:s.heap.objs.size≤a)(new:bc X.prog X.w (upd H a o) h' a o):Inv X pins σ (upd H a o) { s with heap:=h',toks:=t'}:=I.un (Un.laid k hp (I.bU.fresh hp)) (I.bU.laid k hp new)
theorem Inv.write {x e:Addr}{o:HO}{t':Nat}(I:Inv X pins σ H s)(mu:Sq (H x))(he:e=x∨H e=some (.own x))(k:∀ b u,b≠e→s.heap.get? b=some u→h'.get? b=some u)(Sr:∃ u,h'.get? e=some u)(new:bc X.prog X.w (upd H x o) h' x o):Inv X pins σ (upd H x o) { s with heap:=h',toks:=t'}:=I.un (Un.write mu he k Sr) (I.bU.write mu he k Sr new)
theorem Inv.Ce {r0:List (Addr×Obj)}(I:Inv X pins σ H s)(h:∀ p∈r0,s.heap.get? p.1=some p.2∧H p.1=none∧p.1≠X.env.locals∧p.1 ∉ X.fs∧∀ v,p.2.data≠.cell v):Inv X r0 σ H s:=
 ⟨I.ok,I.os,I.bare,I.base,I.loc,I.cell,I.free,I.mE,fun p hp=>(List.mem_append.mp hp).elim (fun z=>I.pin p (List.mem_append_left _ z)) (h p),I.bU,I.len⟩
theorem yE {N:List Str}(hN:N.Nodup){i j:Nat}{x:Str}(a:N[i]?=some x)(b:N[j]?=some x):i=j:=by
 obtain⟨h1,e1⟩:=List.getElem?_eq_some_iff.mp a
 obtain⟨h2,e2⟩:=List.getElem?_eq_some_iff.mp b
 exact(List.getElem_inj hN).mp (e1.trans e2.symm)
theorem o3 {M:Model}{A:Around}{E:Value→Shared→Prop}{i:Nat}{x:Str}{v:V}{u:Value}{Q:Unit→Shared→Prop}(I:Inv X pins σ H s)(hN:X.N.Nodup)(hi:X.N[i]?=some x)(hx:Loc X.env.scope x)(r:RelV v u)(h:∀ s',Inv X pins (σ.set i (some v)) H s'→(∃ a,Heap.SameBut a s.heap s'.heap∧(a=X.env.locals∨X.env.cells.lookup x=some a))→Q () s')(hf:X.fn x=true∨X.env.scope.names.lookup x=some .local:=by first | exact .inl rfl | exact .inr rfl | assumption):wpAny M A (storeName X.env x u) Q E s:=by
 obtain⟨m,hn,hl⟩:=id I.loc
 have abl:(X.env.scope.kind == .class || (X.env.scope.kind == .module && X.env.locals != X.env.globals))=false:=by rw[I.ok.kind];rfl
 have hiσ:i < σ.length:=by rw[I.len];exact(List.getElem?_eq_some_iff.mp hi).1
 have Ax:=I.Ax
 have tracked:∀ {a:Addr} {h':Heap},(∃ o,s.heap.get? a=some o∧H a=none)→Heap.SameBut a s.heap h'→nF X.prog X.w H h':=fun {a h'} ha hs b ob e=>by
   obtain⟨_,_,FA⟩:=ha
   refine(I.bU b ob e).v8 (fun c w' hc q=>(hs.2 c ?_).trans q) (fun _ q=>q) (fun _ _ q=>q) .refl
   rintro rfl
   rcases hc with rfl | hc | hc
   . rw[FA] at e;cases e
   . rw[FA] at hc;cases hc
   . rw[FA] at hc;exact hc
 rcases hx with hk | hk
 . refine wpAny_storeName_local hk hn (fun h' Sx hs=>?_) abl
   obtain⟨oL,_,_,hoL,_⟩:=id hn
   refine h _ ⟨I.ok,I.os,I.bare,⟨fun b o e n hb hx=>?_,fun b o e n hb hx=>?_,I.base.free,fun b o e hx=>?_,I.base.yA,I.base.wb,I.base.yB⟩,⟨_,Sx,fun j y v' e1 e2 e3=>?_⟩,fun y c e=>?_,I.free,I.mE,fun p hp=>?_,tracked ⟨oL,hoL,I.free⟩ hs,by simpa using I.len⟩ ⟨_,hs,.inl rfl⟩
   . exact(hs.2 b (Nat.ne_of_lt (Nat.lt_of_lt_of_le (Heap.lt_size e) I.ok.above))).trans (I.base.keep b o e n hb hx)
   . obtain⟨sl,e1⟩:=I.base.slot b o e n hb hx
     exact⟨sl,(hs.2 b (Nat.ne_of_lt (Nat.lt_of_lt_of_le (Heap.lt_size e) I.ok.above))).trans e1⟩
   . obtain⟨o',e1⟩:=I.base.there b o e hx
     exact⟨o',(hs.2 b (Nat.ne_of_lt (Nat.lt_of_lt_of_le (Heap.lt_size e) I.ok.above))).trans e1⟩
   . by_cases hj:j=i
     . subst hj
       rw[hi] at e1;cases e1
       rw[List.getElem?_set_self hiσ] at e2
       cases e2
       exact⟨u,r,.inl ⟨hk,by simp⟩⟩
     . rw[List.getElem?_set_ne (Ne.symm hj)] at e2
       obtain⟨u',r',q⟩:=hl j y v' e1 e2 e3
       refine⟨u',r',?_⟩
       rcases q with⟨k,e⟩ | ⟨k,c,e,z⟩
       . refine .inl ⟨k,?_⟩
         have:y≠x:=fun e=>hj (yE hN e1 (e ▸ hi))
         simp[this,e]
       . exact .inr ⟨k,c,e,z.sameBut hs (Ax y c e)⟩
   . obtain⟨w',z⟩:=I.cell y c e
     exact⟨w',z.sameBut hs (Ax y c e)⟩
   . obtain⟨e,n,ne,nf,d⟩:=I.pin p hp
     exact⟨(hs.2 p.1 ne).trans e,n,ne,nf,d⟩
 . have hfn:X.fn x=true:=by
     rcases hf with z | z
     . exact z
     . rw[z] at hk;cases hk
   obtain⟨c,hc⟩:=I.ok.has x (.inl hk)
   obtain⟨w',z⟩:=I.cell x c hc
   refine wpAny_storeName_cell I.ok.kind hk hc z (fun h' Ay hs=>?_)
   obtain⟨oc,Cf,abn⟩:=id z
   refine h { s with heap:=h'} ⟨I.ok,I.os,I.bare,⟨fun b o e n hb hx=>?_,fun b o e n hb hx=>?_,I.base.free,fun b o e hx=>?_,I.base.yA,I.base.wb,I.base.yB⟩,⟨m,hn.sameBut hs (Ne.symm (Ax x c hc)),fun j y v' e1 e2 e3=>?_⟩,fun y c' e=>?_,I.free,I.mE,fun p hp=>?_,tracked ⟨oc,Cf,I.mE x c hc⟩ hs,by simpa using I.len⟩ ⟨c,hs,.inr hc⟩
   . exact(hs.2 b (Nat.ne_of_lt (Nat.lt_of_lt_of_le (Heap.lt_size e) (I.ok.Ss x c hfn hc)))).trans (I.base.keep b o e n hb hx)
   . obtain⟨sl,e1⟩:=I.base.slot b o e n hb hx
     exact⟨sl,(hs.2 b (Nat.ne_of_lt (Nat.lt_of_lt_of_le (Heap.lt_size e) (I.ok.Ss x c hfn hc)))).trans e1⟩
   . obtain⟨o',e1⟩:=I.base.there b o e hx
     exact⟨o',(hs.2 b (Nat.ne_of_lt (Nat.lt_of_lt_of_le (Heap.lt_size e) (I.ok.Ss x c hfn hc)))).trans e1⟩
   . by_cases hj:j=i
     . subst hj
       rw[hi] at e1;cases e1
       rw[List.getElem?_set_self hiσ] at e2
       cases e2
       exact⟨u,r,.inr ⟨.inl hk,c,hc,Ay⟩⟩
     . rw[List.getElem?_set_ne (Ne.symm hj)] at e2
       obtain⟨u',r',q⟩:=hl j y v' e1 e2 e3
       refine⟨u',r',?_⟩
       rcases q with q | ⟨k,c',e,z'⟩
       . exact .inl q
       . refine .inr ⟨k,c',e,z'.sameBut hs ?_⟩
         rintro rfl
         exact hj (yE hN e1 (I.ok.inj _ _ _ e hc ▸ hi))
   . by_cases Ta:c'=c
     . subst Ta;exact⟨_,Ay⟩
     . obtain⟨w2,z2⟩:=I.cell y c' e
       exact⟨w2,z2.sameBut hs Ta⟩
   . obtain⟨e,n,ne,nf,d⟩:=I.pin p hp
     refine⟨(hs.2 p.1 ?_).trans e,n,ne,nf,d⟩
     intro q
     rw[q,Cf] at e
     have q':oc=p.2:=Option.some.inj e
     exact d w' (by rw[← q'];exact abn)
theorem yF {M:Model}{A:Around}{E:Value→Shared→Prop}{i:Nat}{x:Str}{v:V}{u:Value}{Q:Unit→Shared→Prop}(I:Inv X pins σ H s)(hN:X.N.Nodup)(hi:X.N[i]?=some x)(hx:Loc X.env.scope x)(r:RelV v u)(h:∀ s',Inv X pins (σ.set i (some v)) H s'→Q () s')(hf:X.fn x=true∨X.env.scope.names.lookup x=some .local:=by first | exact .inl rfl | exact .inr rfl | assumption):wpAny M A (storeName X.env x u) Q E s:=
 o3 I hN hi hx r (fun s' I' _=>h s' I') hf
theorem Inv.FC {s':Shared}{ch:List Addr}(I:Inv X pins σ H s)(ho:s'.os=s.os)(u:Un (Fy X.stack) ch H H' s.heap s'.heap)(bU:nF X.prog X.w H' s'.heap)(hg:AllBare s'.gens)(yt:∀ b∈ch,(b∈X.ex∨X.s₀.heap.objs.size≤b)∧b≠X.env.locals∧(∀ x c,X.env.cells.lookup x=some c→c≠b)∧∀ p∈X.pn ++ pins,p.1≠b):Inv X pins σ H' s':=by
 obtain⟨h',g',d',t',o'⟩:=s'
 have e:o'=s.os:=ho
 subst e
 exact I.call (g':=g') (t':=t') (d':=d') u bU hg yt
end
abbrev XK:=Value→Option Addr→Hp→Prop
abbrev St:=List (Option V)
abbrev VK:=V→Hp→Prop
abbrev TE:=St→Hp→VK→Prop
abbrev TT:=St→Hp→(Bool→Hp→Prop)→Prop
abbrev TA:=St→Hp→(List V→Hp→Prop)→Prop
structure Ends where
 nx:St→Hp→Prop
 rt:VK
 bk:St→Hp→Prop:=fun _ _=>False
 ct:St→Hp→Prop:=fun _ _=>False
abbrev TS:=Ends→St→Hp→Prop
def EP (X:Cx)(pins:List (Addr×Obj))(σ:St)(Q:VK)(u:Value)(s':Shared):Prop:=∃ v H',Inv X pins σ H' s'∧RelV v u∧Q v H'
def TP (X:Cx)(pins:List (Addr×Obj))(σ:St)(Q:Bool→Hp→Prop)(b:Bool)(s':Shared):Prop:=∃ H',Inv X pins σ H' s'∧Q b H'
def AP (X:Cx)(pins:List (Addr×Obj))(σ:St)(Q:List V→Hp→Prop)(us:List Value)(s':Shared):Prop:=∃ vs H',Inv X pins σ H' s'∧Vals vs us∧Q vs H'
def SP (X:Cx)(pins:List (Addr×Obj))(D:Ends)(f:Flow)(s':Shared):Prop:=
 match f with
 | .next=>∃ σ' H',Inv X pins σ' H' s'∧D.nx σ' H'
 | .brk=>∃ σ' H',Inv X pins σ' H' s'∧D.bk σ' H'
 | .cont=>∃ σ' H',Inv X pins σ' H' s'∧D.ct σ' H'
 | .ret u=>∃ v σ' H',Inv X pins σ' H' s'∧RelV v u∧D.rt v H'
def PE (X:Cx)(e:Expr)(t:TE):Prop:=
 ∀ (pins:List (Addr×Obj)) (s:Shared) (σ:St) (H:Hp) (Q:VK),Inv X pins σ H s→t σ H Q→wpAny (model X.prog X.w) X.A (eval e X.env) (EP X pins σ Q) X.xe s
def PT (X:Cx)(e:Expr)(t:TT):Prop:=
 ∀ (pins:List (Addr×Obj)) (s:Shared) (σ:St) (H:Hp) (Q:Bool→Hp→Prop),Inv X pins σ H s→t σ H Q→wpAny (model X.prog X.w) X.A (isTrue e X.env (eval e X.env)) (TP X pins σ Q) X.xe s
def PW (X:Cx)(e:Expr)(t:TT):Prop:=
 ∀ (whole:Sem Value) (pins:List (Addr×Obj)) (s:Shared) (σ:St) (H:Hp) (Q:Bool→Hp→Prop),Inv X pins σ H s→t σ H Q→wpAny (model X.prog X.w) X.A (isTrue e X.env whole) (TP X pins σ Q) X.xe s
theorem PW.pt {X:Cx}{e:Expr}{t:TT}(h:PW X e t):PT X e t:=h _
def PA (X:Cx)(es:List Expr)(t:TA):Prop:=
 ∀ (pos:Pos) (pins:List (Addr×Obj)) (s:Shared) (σ:St) (H:Hp) (Q:List V→Hp→Prop),Inv X pins σ H s→t σ H Q→wpAny (model X.prog X.w) X.A (spliced (backTo pos (starEach es X.env))) (AP X pins σ Q) X.xe s
def PS (X:Cx)(st:Stmt)(t:TS):Prop:=
 ∀ (pins:List (Addr×Obj)) (s:Shared) (σ:St) (H:Hp) (D:Ends),Inv X pins σ H s→t D σ H→wpAny (model X.prog X.w) X.A (exec st X.env) (SP X pins D) X.xe s
def AI (X:Cx)(st:List Stmt)(t:TS):Prop:=
 ∀ (pins:List (Addr×Obj)) (s:Shared) (σ:St) (H:Hp) (D:Ends),Inv X pins σ H s→t D σ H→wpAny (model X.prog X.w) X.A (execs st X.env) (SP X pins D) X.xe s
theorem cM {α:Type}{t:Sem α}{Q Q':α→Shared→Prop}{M:Model}{A:Around}{E:Value→Shared→Prop}{s:Shared}(h:wpAny M A t Q E s)(hQ:∀ a s,Q a s→Q' a s):wpAny M A t Q' E s:=wpAny_mono h hQ fun _ _ x=>x
end L2
namespace L2
open PySem PySem.Spec PyProof.Rows
section
variable {X:Cx}
def abo (i:Nat):TE:=fun σ H Q=>∃ v,σ[i]?=some (some v)∧Q v H
def tC (v:V):TE:=fun _ H Q=>Q v H
theorem fP {i:Nat}{x:Str}{pos:Pos}(hN:X.N[i]?=some x)(hv:rY X.env.scope x)(hd:(x == ("__debug__":Str))=false:=by decide)(jJ:(x == ("__classdict__":Str))=false:=by decide):PE X (.Name x pos) (abo i):=by
 intro pins s σ H Q I h
 obtain⟨v,e,h⟩:=h
 obtain⟨m,hn,hl⟩:=I.loc
 obtain⟨u,r,l⟩:=hl i x v hN e hv
 have fin:EP X pins σ Q u s:=⟨v,H,I,r,h⟩
 rcases l with⟨hk,hm⟩ | ⟨hk,c,hc,M7⟩
 . exact wpAny_Name (wpAny_loadName_local I.ok.kind hk hn hm fin) hd
 . rcases hk with hk | hk
   . exact wpAny_Name (wpAny_loadName_cell I.ok.kind hk hc M7 fin) hd
   . exact wpAny_Name (wpAny_loadName_free I.ok.kind hk hc M7 fin jJ) hd
theorem Oi {i j pos}:PE X (.Constant (.int i) j pos) (tC (.int i)):=fun _ _ _ H _ I h=>wpAny_Constant_int ⟨.int i,H,I.tok _,⟨_,rfl⟩,h⟩
theorem Oj {x j pos}:PE X (.Constant (.str x) j pos) (tC (.str x)):=fun _ _ _ H _ I h=>Calls.Constant_str ⟨.str x,H,I.tok _,⟨_,rfl⟩,h⟩
def Gl (X:Cx)(x:Str):Prop:=X.env.kindOf x=some .globalImplicit
theorem rh {E:Value→Shared→Prop}{pins:List (Addr×Obj)}{s:Shared}{σ:St}{H:Hp}{x:Str}{u:Value}{pos:Pos}{Q:Value→Shared→Prop}(I:Inv X pins σ H s)(hg:Gl X x)(hm:X.mg x=some u)(h:Q u s)(hd:(x == ("__debug__":Str))=false:=by decide):wpAny (model X.prog X.w) X.A (eval (.Name x pos) X.env) Q E s:=
 Calls.Name_function_global I.ok.kind hg (Calls.loadGlobal_global (by rw[I.ok.glob];exact I.mod.glob.keeps I.bk) hm h) hd
theorem mX {E:Value→Shared→Prop}{pins:List (Addr×Obj)}{s:Shared}{σ:St}{H:Hp}{x:Str}{u:Value}{pos:Pos}{Q:Value→Shared→Prop}(I:Inv X pins σ H s)(hg:Gl X x)(hm:X.mg x=none)(hv:bootBuiltins x=some u)(h:Q u s)(hn:x≠"__name__":=by decide)(hd:(x == ("__debug__":Str))=false:=by decide):wpAny (model X.prog X.w) X.A (eval (.Name x pos) X.env) Q E s:=by
 obtain⟨mb,h1,h2⟩:=I.mod.blt
 exact Calls.Name_function_global I.ok.kind hg (Calls.loadGlobal_builtin (by rw[I.ok.glob];exact I.mod.glob.keeps I.bk) hm (by rw[I.ok.blt];exact h1.keeps I.bk) ((h2 x hn).trans hv) h) hd
theorem JZ {x:Str}{v:V}{u:Value}{pos:Pos}(hg:Gl X x)(hm:X.mg x=some u)(r:RelV v u)(hd:(x == ("__debug__":Str))=false:=by decide):PE X (.Name x pos) (tC v):=
 fun _ _ _ H _ I h=>rh I hg hm ⟨v,H,I,r,h⟩ hd
theorem J0 {x:Str}{v:V}{u:Value}{pos:Pos}(hg:Gl X x)(hm:X.mg x=none)(hv:bootBuiltins x=some u)(r:RelV v u)(hn:x≠"__name__":=by decide)(hd:(x == ("__debug__":Str))=false:=by decide):PE X (.Name x pos) (tC v):=
 fun _ _ _ H _ I h=>mX I hg hm hv ⟨v,H,I,r,h⟩ hn hd
variable {a b:Expr}{ta tb:TE}{pos:Pos}
def PC (X:Cx)(op:CmpOp)(a b:Expr)(t:TE):Prop:=
 ∀ (pins:List (Addr×Obj)) (s:Shared) (σ:St) (H:Hp) (Q:VK),Inv X pins σ H s→t σ H Q →
   wpAny (model X.prog X.w) X.A (eval a X.env) (fun v s₁=>wpAny (model X.prog X.w) X.A (eval b X.env) (fun u s₂=>wpAny (model X.prog X.w) X.A (compareOp op v u) (EP X pins σ Q) X.xe s₂) X.xe s₁) X.xe s
def tB (t:TE):TT:=fun σ H Q=>t σ H fun x H1=>∃ c,x=.bl c∧Q c H1
theorem Ol {op:CmpOp}{t:TE}(h:PC X op a b t)(h1:behindInMarks op b=false:=by first | exact Tb _ (by decide) (by decide) | rfl):PT X (.Compare a [op] [b] pos) (tB t):=by
 intro pins s σ H Q I hw
 refine wpAny_isTrue_Compare1 (cM (h pins s σ H _ I hw) fun v s1 h1=>cM h1 fun u s2 h2=>cM h2 fun c s3 ⟨x,H1,I1,r1,q1⟩=>?_) h1
 obtain⟨d,rfl,q⟩:=q1
 cases r1
 exact wpAny_truthy_bool ⟨H1,I1,q⟩
theorem Om {e:Expr}{t:TE}(h:PE X e t)(he:∀ whole,isTrue e X.env whole=(do let v ← whole;standAt e.pos;holding [v] (truthy v)):=by intro _;rfl):PT X e (tB t):=by
 intro pins s σ H Q I hw
 refine isTrue_plain (cM (h pins s σ H _ I hw) fun v s1 ⟨x,H1,I1,r1,q1⟩=>?_) (he _)
 obtain⟨d,rfl,q⟩:=q1
 cases r1
 exact wpAny_truthy_bool ⟨H1,I1,q⟩
variable {tA tB':TT}{rest:List Expr}
def abp (t u:TT):TT:=fun σ H Q=>t σ H fun c H1=>if c=true then u σ H1 Q else Q false H1
def tOr (t u:TT):TT:=fun σ H Q=>t σ H fun c H1=>if c=true then Q true H1 else u σ H1 Q
def abq (t:TT):TT:=fun σ H Q=>t σ H fun c H1=>Q (!c) H1
theorem pw_and1 (ha:PT X a tA):PW X (.BoolOp .And [a] pos) tA:=by
 intro wh pins s σ H Q I h
 refine isTrue_and (cM (ha pins s σ H Q I h) fun c s1 e=>?_)
 cases c with
 | true=>exact isTrue_and_nil e
 | false=>exact e
theorem pw_or1 (ha:PT X a tA):PW X (.BoolOp .Or [a] pos) tA:=by
 intro wh pins s σ H Q I h
 refine isTrue_or (cM (ha pins s σ H Q I h) fun c s1 e=>?_)
 cases c with
 | false=>exact isTrue_or_nil e
 | true=>exact e
theorem pw_and (ha:PT X a tA)(hb:PW X (.BoolOp .And (b::rest) pos) tB'):PW X (.BoolOp .And (a::b::rest) pos) (abp tA tB'):=by
 intro wh pins s σ H Q I h
 refine isTrue_and (cM (ha pins s σ H _ I h) fun c s1 ⟨H1,I1,q1⟩=>?_)
 cases c with
 | true=>exact hb wh pins s1 σ H1 Q I1 q1
 | false=>exact⟨H1,I1,q1⟩
theorem pw_or (ha:PT X a tA)(hb:PW X (.BoolOp .Or (b::rest) pos) tB'):PW X (.BoolOp .Or (a::b::rest) pos) (tOr tA tB'):=by
 intro wh pins s σ H Q I h
 refine isTrue_or (cM (ha pins s σ H _ I h) fun c s1 ⟨H1,I1,q1⟩=>?_)
 cases c with
 | true=>exact⟨H1,I1,q1⟩
 | false=>exact hb wh pins s1 σ H1 Q I1 q1
theorem Oo (ha:PT X a tA):PT X (.UnaryOp .Not a pos) (abq tA):=by
 intro pins s σ H Q I h
 exact isTrue_not (ha pins s σ H (fun c H1=>Q (!c) H1) I h)
def Tc (ta tb:TE):TE:=fun σ H Q=>ta σ H fun x H1=>∃ c,x=.bl c∧if c=true then tb σ H1 Q else Q (.bl false) H1
def Td (ta:TE):TE:=fun σ H Q=>ta σ H fun x H1=>∃ c,x=.bl c∧Q (.bl (!c)) H1
theorem Oq {op}{t:TE}(h:PE X a t):PE X (.BoolOp op [a] pos) t:=fun pins s σ H Q I hw=>BoolOp_one (h pins s σ H Q I hw)
theorem FE (ha:PE X a ta)(hb:PE X (.BoolOp .And (b::rest) pos) tb):PE X (.BoolOp .And (a::b::rest) pos) (Tc ta tb):=by
 intro pins s σ H Q I h
 refine BoolOp_and (cM (ha pins s σ H _ I h) fun v s1 ⟨x,H1,I1,r1,q1⟩=>?_)
 obtain⟨c,rfl,q1⟩:=q1
 cases r1
 refine wpAny_truthy_bool ?_
 cases c with
 | true=>exact hb pins s1 σ H1 Q I1 q1
 | false=>exact⟨.bl false,H1,I1,rfl,q1⟩
theorem Ot (ha:PE X a ta):PE X (.UnaryOp .Not a pos) (Td ta):=by
 intro pins s σ H Q I h
 refine UnaryOp_ (cM (ha pins s σ H _ I h) fun v s1 ⟨x,H1,I1,r1,q1⟩=>?_)
 obtain⟨c,rfl,q1⟩:=q1
 cases r1
 exact not_of (wpAny_truthy_bool ⟨.bl (!c),H1,I1,rfl,q1⟩)
def tIf (t:TT)(ta tb:TE):TE:=fun σ H Q=>t σ H fun c H1=>if c=true then ta σ H1 Q else tb σ H1 Q
theorem yG {c:Expr}(hc:PT X c tA)(ha:PE X a ta)(hb:PE X b tb):PE X (.IfExp c a b pos) (tIf tA ta tb):=by
 intro pins s σ H Q I h
 refine wpAny_IfExp (cM (hc pins s σ H _ I h) fun d s1 ⟨H1,I1,q1⟩=>?_)
 cases d with
 | true=>exact ha pins s1 σ H1 Q I1 q1
 | false=>exact hb pins s1 σ H1 Q I1 q1
end
end L2
namespace L2
open PySem PySem.Spec PyProof.Rows
def jM (K:PySem.W.Frag)(H:Hp)(a:Addr)(xs:List V):Prop:=
 Rd H a (.lst xs) ∨
   ∃ (o:Obj) (aI:Array Value) (n:Nat),K.lookup a=some o∧o.cls=.type "list"∧o.dict=none∧o.data=.seq aI n∧aI.size≤sizeLine∧Vals xs aI.toList
abbrev Az (K:PySem.W.Frag)(H:Hp)(a:Addr)(xs:List V):Prop:=TupAt K H a xs
def abr:Value→Option V
 | .none=>some .dQ
 | .bool b=>some (.bl b)
 | .int i _=>some (.int i)
 | .str x _=>some (.str x)
 | .bytes b _=>some (.E8 b)
 | .float b _=>some (.Od b)
 | .ref a=>some (.ref a)
 | .type n=>some (.ty n)
 | _=>none
theorem RelV.abs {x:V}{u:Value}(r:RelV x u):abr u=some x:=by
 cases x with
 | dQ=>cases r;rfl
 | bl _=>cases r;rfl
 | int _=>obtain⟨t,rfl⟩:=r;rfl
 | str _=>obtain⟨t,rfl⟩:=r;rfl
 | E8 _=>obtain⟨t,rfl⟩:=r;rfl
 | Od _=>obtain⟨t,rfl⟩:=r;rfl
 | ref _=>cases r;rfl
 | ty _=>cases r;rfl
theorem RelV.inj {x y:V}{u:Value}(r:RelV x u)(q:RelV y u):x=y:=Option.some.inj (r.abs.symm.trans q.abs)
theorem Vals.inj:∀ {xs ys:List V} {us:List Value},Vals xs us→Vals ys us→xs=ys
 | _,_,_,.nil,.nil=>rfl
 | _,_,_,.cons r t,.cons r' t'=>by rw[r.inj r',Vals.inj t t']
section
variable {X:Cx}{pins:List (Addr×Obj)}{σ:St}{H:Hp}{s:Shared}{a:Addr}{xs ys:List V}
theorem jM.of {K:PySem.W.Frag}(h:H a=some (.lst xs)):jM K H a xs:=.inl (.inl h)
theorem Az.of {K:PySem.W.Frag}(h:H a=some (.tup xs)):Az K H a xs:=.inl h
theorem Inv.list (I:Inv X pins σ H s)(h:jM X.K H a xs):∃ aI:List Value,Vals xs aI∧PlainL s.heap a aI.toArray∧xs.length≤sizeLine:=by
 rcases h with h | ⟨o,aI,n,hk,hc,hd,hs,hz,r⟩
 . obtain⟨z,aI,n,r,e⟩:=h.ok I.bU
   exact⟨aI,r,⟨_,n,e,rfl,rfl,rfl⟩,z⟩
 . refine⟨aI.toList,r,⟨o,n,I.jL a o hk,hc,hd,by simpa using hs⟩,?_⟩
   have e:=r.length
   simp only[Array.length_toList] at e
   omega
theorem Inv.tuple (I:Inv X pins σ H s)(h:Az X.K H a xs):∃ aI:List Value,Vals xs aI∧IsTup s.heap a aI.toArray∧xs.length≤sizeLine:=by
 rcases h with h | ⟨o,aI,n,hk,hc,hs,hz,r⟩
 . obtain⟨z,aI,r,p⟩:=(show bc X.prog X.w H s.heap a (.tup xs) from I.bU a _ h)
   exact⟨aI,r,p,z⟩
 . refine⟨aI.toList,r,⟨o,I.jL a o hk,hc,n,by simpa using hs⟩,?_⟩
   have e:=r.length
   simp only[Array.length_toList] at e
   omega
theorem Inv.yH (I:Inv X pins σ H s)(h:jM X.K H a xs)(h':jM X.K H a ys):xs=ys:=by
 obtain⟨aI,r,⟨o,n,e,_,_,d⟩,_⟩:=I.list h
 obtain⟨its',r',⟨o',n',e',_,_,d'⟩,_⟩:=I.list h'
 rw[e] at e';cases e'
 rw[d] at d'
 injection d' with d1 _
 have:aI=its':=by simpa using congrArg Array.toList d1
 subst this
 exact r.inj r'
end
section
variable {X:Cx}{pins:List (Addr×Obj)}{σ:St}{H:Hp}{s:Shared}{E:Value→Shared→Prop}
end
section
variable {X:Cx}{st:Stmt}{rest:List Stmt}{t u:TS}{e:Expr}{te:TE}{pos:Pos}
def Te:TS:=fun D σ H=>D.nx σ H
def abt (t u:TS):TS:=fun D σ H=>t { D with nx:=u D} σ H
theorem J1:AI X [] Te:=fun _ _ σ H _ I h=>wpAny_execs_nil ⟨σ,H,I,h⟩
theorem kU (h1:PS X st t)(h2:AI X rest u):AI X (st::rest) (abt t u):=by
 intro pins s σ H D I h
 refine wpAny_execs_cons (cM (h1 pins s σ H { D with nx:=u D} I h) fun f s1 q=>?_)
 cases f with
 | next=>
   obtain⟨σ',H',I',q⟩:=q
   exact h2 pins s1 σ' H' D I' q
 | ret v=>exact q
 | brk=>exact q
 | cont=>exact q
theorem jN (h1:PS X st t):AI X [st] t:=by
 intro pins s σ H D I h
 refine wpAny_execs_cons (cM (h1 pins s σ H D I h) fun f s1 q=>?_)
 cases f with
 | next=>exact wpAny_execs_nil q
 | ret v=>exact q
 | brk=>exact q
 | cont=>exact q
theorem Inv.quiet {pins:List (Addr×Obj)}{σ:St}{H:Hp}{s:Shared}(I:Inv X pins σ H s):interactive X.env=false:=by simp[interactive,I.ok.kind]
def Tf (te:TE):TS:=fun D σ H=>te σ H fun _ H1=>D.nx σ H1
theorem iM (he:PE X e te)(hs:swapsWith e none pos.line X.env=pure false:=by rfl):PS X (.Expr e pos) (Tf te):=by
 intro pins s σ H D I h
 exact wpAny_Expr_any (cM (he pins s σ H _ I h) fun v s1 ⟨x,H1,I1,r1,q1⟩=>⟨σ,H1,I1,q1⟩) I.quiet hs
def abu (te:TE):TS:=fun D σ H=>te σ H D.rt
theorem AJ (he:PE X e te):PS X (.Return (some e) pos) (abu te):=by
 intro pins s σ H D I h
 exact wpAny_Return_some (cM (he pins s σ H _ I h) fun v s1 ⟨x,H1,I1,r1,q1⟩=>⟨x,σ,H1,I1,r1,q1⟩)
def abv (c:TT)(t u:TS):TS:=fun D σ H=>c σ H fun b H1=>if b=true then t D σ H1 else u D σ H1
theorem M8 {c:Expr}{a b:List Stmt}{tc:TT}(hc:PT X c tc)(ha:AI X a t)(hb:AI X b u):PS X (.If c a b pos) (abv tc t u):=by
 intro pins s σ H D I h
 refine wpAny_If (cM (hc pins s σ H _ I h) fun d s1 ⟨H1,I1,q1⟩=>?_)
 cases d with
 | true=>exact ha pins s1 σ H1 D I1 q1
 | false=>exact hb pins s1 σ H1 D I1 q1
def Ou:TS:=fun _ _ _=>False
theorem o4 {sts:List Stmt}:AI X sts Ou:=fun _ _ _ _ _ _ h=>h.elim
end
abbrev TG:=V→St→Hp→(St→Hp→Prop)→Prop
abbrev J2:=List V→St→Hp→(St→Hp→Prop)→Prop
def PG (X:Cx)(target:Expr)(t:TG):Prop:=
 ∀ (pins:List (Addr×Obj)) (s:Shared) (σ:St) (H:Hp) (v:V) (u:Value) (Q:St→Hp→Prop),Inv X pins σ H s→RelV v u→t v σ H Q →
   wpAny (model X.prog X.w) X.A (assign target X.env u) (fun _ s'=>∃ σ' H',Inv X pins σ' H' s'∧Q σ' H') X.xe s
def Tg (X:Cx)(ts:List Expr)(t:J2):Prop:=
 ∀ (pins:List (Addr×Obj)) (s:Shared) (σ:St) (H:Hp) (vs:List V) (us:List Value) (Q:St→Hp→Prop),Inv X pins σ H s→Vals vs us→t vs σ H Q →
   wpAny (model X.prog X.w) X.A (assignInOrder ((assignEach ts X.env).map (·.2)) us) (fun _ s'=>∃ σ' H',Inv X pins σ' H' s'∧Q σ' H') X.xe s
abbrev Ov:=V→V→V→Hp→(Hp→Prop)→Prop
def Th (X:Cx)(t:Ov):Prop:=
 ∀ (pins:List (Addr×Obj)) (s:Shared) (σ:St) (H:Hp) (o i v:V) (ov iv u:Value) (Q:Hp→Prop),Inv X pins σ H s→RelV o ov→RelV i iv→RelV v u→t o i v H Q →
   wpAny (model X.prog X.w) X.A (setItem ov iv u) (fun _ s'=>∃ H',Inv X pins σ H' s'∧Q H') X.xe s
section
variable {X:Cx}{pos:Pos}
def mF (i:Nat):TG:=fun v σ H Q=>Q (σ.set i (some v)) H
theorem cD {i:Nat}{x:Str}(hN:X.N.Nodup)(hi:X.N[i]?=some x)(hx:Loc X.env.scope x)(hf:X.fn x=true∨X.env.scope.names.lookup x=some .local:=by first | exact .inl rfl | exact .inr rfl | assumption):PG X (.Name x pos) (mF i):=by
 intro pins s σ H v u Q I r h
 exact wpAny_assign_Name (yF I hN hi hx r (fun s' I'=>⟨_,H,I',h⟩) hf)
def Ow:J2:=fun vs σ H Q=>vs=[]∧Q σ H
def yI (t:TG)(u:J2):J2:=fun vs σ H Q=>∃ v r,vs=v::r∧t v σ H fun σ' H'=>u r σ' H' Q
theorem lL:Tg X [] Ow:=by
 intro pins s σ H vs us Q I r h
 obtain⟨e,h⟩:=h
 subst e
 cases r
 exact assignInOrder_nil ⟨σ,H,I,h⟩
theorem dU {e:Expr}{es:List Expr}{t:TG}{u:J2}(h1:PG X e t)(h2:Tg X es u)(hs:(assignEach (e::es) X.env).map (·.2)=assign e X.env::(assignEach es X.env).map (·.2):=by rfl):Tg X (e::es) (yI t u):=by
 intro pins s σ H vs us Q I r h
 obtain⟨v,vr,e1,h⟩:=h
 subst e1
 cases r with
 | cons r rr=>
   rw[hs]
   refine assignInOrder_cons (cM (h1 pins s σ H _ _ _ I r h) fun _ s1 ⟨σ1,H1,I1,q1⟩=>?_)
   exact h2 pins s1 σ1 H1 _ _ Q I1 rr q1
def Ox (K:PySem.W.Frag)(n:Nat)(t:J2):TG:=fun v σ H Q=>∃ a xs,v=.ref a∧Az K H a xs∧xs.length=n∧t xs σ H Q
theorem r6 {es:List Expr}{k:Nat}{t:J2}{n:Nat}(hc:X.calm=true)(h:Tg X es t)(hn:(assignEach es X.env).length=n:=by rfl)(kG:(assignEach es X.env).findIdx? (·.1)=none:=by rfl):PG X (.Tuple es k pos) (Ox X.K n t):=by
 intro pins s σ H v u Q I r hw
 obtain⟨a,xs,e1,hq,hl,hw⟩:=hw
 subst e1
 cases r
 obtain⟨aI,rv,ht,hz⟩:=I.tuple hq
 refine assign_Tuple_tuple (I.ok.hd hc) ht (by simp[hn,← hl,rv.length]) kG fun h' hx=>?_
 have I1:Inv X pins σ H { s with heap:=h'}:=I.kept (t':=s.toks) fun b o e=>hx b o (Nat.ne_of_lt (Heap.lt_size e)) e
 exact h pins _ σ H xs _ Q I1 (by simpa using rv) hw
def abw (to ti:TE)(t:Ov):TG:=fun v σ H Q=>to σ H fun o H1=>ti σ H1 fun i H2=>t o i v H2 fun H3=>Q σ H3
theorem Oy {o i:Expr}{to ti:TE}{t:Ov}(ho:PE X o to)(hi:PE X i ti)(hs:Th X t)
   (ha:∀ v,assign (.Subscript o i pos) X.env v=(do
     let ov ← holding [v] (eval o X.env)
     let iv ← holding [v,ov] (eval i X.env)
     standAt pos
     holding [v,ov,iv] (setItem ov iv v)
     release [v,ov,iv] []):=by intro _;rfl):PG X (.Subscript o i pos) (abw to ti t):=by
 intro pins s σ H v u Q I r h
 rw[ha]
 refine wpAny_bind (wpAny_holding (cM (ho pins s σ H _ I h) fun ov s1 ⟨x,H1,I1,r1,q1⟩=>?_))
 refine wpAny_bind (wpAny_holding (cM (hi pins s1 σ H1 _ I1 q1) fun iv s2 ⟨y,H2,I2,r2,q2⟩=>?_))
 refine wpAny_bind (wpAny_standAt (wpAny_bind (wpAny_holding (cM (hs pins s2 σ H2 x y v ov iv u _ I2 r1 r2 r q2) fun _ s3 ⟨H3,I3,q3⟩=>?_))))
 exact wpAny_release ⟨σ,H3,I3,q3⟩
def Ti (te:TE)(g:TG):TS:=fun D σ H=>te σ H fun x H1=>g x σ H1 D.nx
theorem we {tg e:Expr}{te:TE}{g:TG}(he:PE X e te)(hg:PG X tg g)(hs:swapsWithSole [tg] e pos.line X.env=pure false:=by rfl)(hw:swappedStores [tg] e X.env=pure none:=by rfl)(h1:(assignEach [tg] X.env).map (·.2)=[assign tg X.env]:=by rfl):PS X (.Assign [tg] e pos) (Ti te g):=by
 intro pins s σ H D I h
 refine wpAny_Assign_stores (cM (he pins s σ H _ I h) fun v s1 ⟨x,H1,I1,r1,q1⟩=>?_) hs hw
 rw[h1]
 exact cM (hg pins s1 σ H1 x v _ I1 r1 q1) fun _ s2 q=>q
theorem AL {i:Nat}{x:Str}{e:Expr}{te:TE}{pos':Pos}(hN:X.N.Nodup)(hi:X.N[i]?=some x)(hx:Loc X.env.scope x)(he:PE X e te)(hs:swapsWith e (some (.Name x pos')) pos.line X.env=pure false:=by rfl)(hf:X.fn x=true∨X.env.scope.names.lookup x=some .local:=by first | exact .inl rfl | exact .inr rfl | assumption):PS X (.Assign [.Name x pos'] e pos) (Ti te (mF i)):=by
 intro pins s σ H D I h
 refine wpAny_Assign_Name (cM (he pins s σ H _ I h) fun v s1 ⟨y,H1,I1,r1,q1⟩=>?_) hs
 exact yF I1 hN hi hx r1 (fun s2 I2=>⟨_,H1,I2,q1⟩) hf
end
section
variable {X:Cx}{pos:Pos}
def Oz (c:TT)(tb:TS):TS:=fun D σ H=>∃ W:Nat→St→Hp→Prop,(∃ m,W m σ H)∧∀ m σ H,W m σ H →
 c σ H fun b H1=>if b=true then ∃ N:St→Hp→Prop,(∀ σ' H',N σ' H'→∃ m',m' < m∧W m' σ' H')∧tb { D with nx:=N,ct:=N,bk:=D.nx} σ H1 else D.nx σ H1
theorem yJ {c:Expr}{body:List Stmt}{tc:TT}{tb:TS}(hp:PassesOwn (model X.prog X.w) X.A X.env X.xe)(hc:PT X c tc)(hb:AI X body tb):PS X (.While c body [] pos) (Oz tc tb):=by
 intro pins s σ H D I h
 obtain⟨W,⟨m0,w0⟩,turn⟩:=h
 refine wpAny_While (codeAny_whileLoop (fun n s'=>∃ σ' H',Inv X pins σ' H' s'∧W n σ' H') ?_ m0 ⟨σ,H,I,w0⟩)
 rintro n s1 ⟨σ1,H1,I1,w1⟩
 refine wpAny_passesOwn hp (cM (hc pins s1 σ1 H1 _ I1 (turn n σ1 H1 w1)) fun b s2 ⟨H2,I2,q2⟩=>?_)
 cases b with
 | true=>
   obtain⟨N,hN,q2⟩:=q2
   rw[if_pos rfl]
   refine wpAny_passesOwn hp (cM (hb pins s2 σ1 H2 _ I2 q2) fun f s3 q3=>?_)
   cases f with
   | next=>
     obtain⟨σ3,H3,I3,n3⟩:=q3
     obtain⟨m',hm,w3⟩:=hN σ3 H3 n3
     exact⟨m',hm,σ3,H3,I3,w3⟩
   | cont=>
     obtain⟨σ3,H3,I3,n3⟩:=q3
     obtain⟨m',hm,w3⟩:=hN σ3 H3 n3
     exact⟨m',hm,σ3,H3,I3,w3⟩
   | brk=>exact q3
   | ret v=>exact q3
 | false=>
   rw[if_neg Bool.false_ne_true]
   exact wpAny_execs_nil ⟨σ1,H2,I2,q2⟩
end
structure It where
 go:Nat→Hp→Prop
 JG:Nat→Hp→V→Hp→Prop
 stop:Nat→Hp→Prop
def ir (X:Cx)(pins:List (Addr×Obj))(H:Hp)(b:Addr):Prop:=
 H b=none∧b≠X.env.locals∧b ∉ X.fs∧(b∈X.ex∨X.s₀.heap.objs.size≤b)∧(∀ x c,X.env.cells.lookup x=some c→c≠b)∧∀ p∈X.pn ++ pins,p.1≠b
theorem Inv.uH {X:Cx}{pins:List (Addr×Obj)}{σ:St}{H H':Hp}{s:Shared}{b:Addr}(I:Inv X pins σ H s)(hb:s.heap.objs.size≤b)(hn:H' b=none):ir X pins H' b:=by
 refine⟨hn,Nat.ne_of_gt (Nat.lt_of_lt_of_le I.lt hb),I.abj hb,.inr (Nat.le_trans I.sz hb),fun x c e z=>?_,fun p hp z=>?_⟩
 . obtain⟨v,q⟩:=I.cell x c e
   exact absurd (Nat.lt_of_lt_of_le q.lt (by rw[z];exact hb)) (Nat.lt_irrefl _)
 . exact absurd (Nat.lt_of_lt_of_le (Heap.lt_size (I.pin p hp).1) (by rw[z];exact hb)) (Nat.lt_irrefl _)
structure Turn (P:Program)(w:World)(K:PySem.W.Frag)(tg:Expr)(J:It)(fp:List Addr)(it:Addr)(tn:Nat→Heap→Prop):Prop where
 mem:it∈fp
 obj:∀ i h,tn i h→∀ b∈fp,∃ o,h.get? b=some o∧∀ v,o.data≠.cell v
 keep:∀ i h h',tn i h→(∀ b∈fp,∀ o,h.get? b=some o→h'.get? b=some o)→tn i h'
 item:∀ (X:Cx),X.prog=P→X.w=w→X.K=K→X.calm=true→∀ (i:Nat) (pins:List (Addr×Obj)) (s:Shared) (σ:St) (H:Hp) (E:Value→Shared→Prop),Inv X pins σ H s→(∀ b∈fp,ir X pins H b)→tn i s.heap→J.go i H →
   wpAny (model P w) X.A (pyNext (.ref it)) (fun r s1=>∃ u,r=some u ∧
     wpAny (model P w) X.A (letOwnedTupleGo tg (.ref it) u) (fun _ s2=>∃ x H',Inv X pins σ H' s2∧RelV x u∧J.JG i H x H'∧tn (i+1) s2.heap∧∀ b∈fp,H' b=none) E s1) E s
 done:∀ (X:Cx),X.prog=P→X.w=w→X.K=K→X.calm=true→∀ (i:Nat) (pins:List (Addr×Obj)) (s:Shared) (σ:St) (H:Hp) (E:Value→Shared→Prop),Inv X pins σ H s→(∀ b∈fp,ir X pins H b)→tn i s.heap→J.stop i H →
   wpAny (model P w) X.A (pyNext (.ref it)) (fun r s1=>r=none∧Inv X pins σ H s1) E s
 self:∀ (A:Around) (i:Nat) (s:Shared) (Q:Value→Shared→Prop) (E:Value→Shared→Prop),tn i s.heap→Q (.ref it) s→wpAny (model P w) A (pyIter (.ref it)) Q E s
abbrev TI:=St→Hp→(It→Hp→Prop)→Prop
def PIE (X:Cx)(pins:List (Addr×Obj))(σ:St)(tg:Expr)(R:It→Hp→Prop)(OA:Value)(s2:Shared):Prop:=
 ∃ (it:Addr) (fp:List Addr) (tn:Nat→Heap→Prop) (J:It) (H':Hp),OA=.ref it∧Inv X pins σ H' s2∧Turn X.prog X.w X.K tg J fp it tn∧tn 0 s2.heap∧(∀ b∈fp,ir X pins H' b)∧R J H'
def PI (X:Cx)(tg iter:Expr)(wi:TI):Prop:=
 ∀ (pins:List (Addr×Obj)) (s:Shared) (σ:St) (H:Hp) (R:It→Hp→Prop),Inv X pins σ H s→wi σ H R →
   wpAny (model X.prog X.w) X.A (eval iter X.env) (fun v s1=>wpAny (model X.prog X.w) X.A (pyIter v) (PIE X pins σ tg R) X.xe s1) X.xe s
theorem Cg {M:Model}{A:Around}{E:Value→Shared→Prop}{s:Shared}{tg:Expr}{it:Addr}{u:Value}{o:Obj}{n:String}{vs:Array Value}{Q:Unit→Shared→Prop}(ho:s.heap.get? it=some o)(hc:o.cls=.type n)(hd:o.data=.fields vs)(hn:["enumerate","zip","dict_itemiterator","dict_reverseitemiterator","odict_iterator","itertools.zip_longest","itertools.pairwise"].contains n=false)(hQ:Q () s):wpAny M A (letOwnedTupleGo tg (.ref it) u) Q E s:=by
 unfold letOwnedTupleGo
 cases tg <;> first
   | exact wpAny_pure hQ
   | (cases u <;> first
       | exact wpAny_pure hQ
       | (refine wpAny_bind (wpAny_load ho ?_)
          rw[hc,hd]
          show wpAny M A (if (["enumerate","zip","dict_itemiterator","dict_reverseitemiterator","odict_iterator","itertools.zip_longest","itertools.pairwise"].contains n && vs[0]? == some (rawInt _))=true then _ else _) Q E s
          rw[if_neg (by intro h;rw[hn,Bool.false_and] at h;cases h)]
          exact wpAny_pure hQ))
def Tj (K:PySem.W.Frag)(a:Addr):It:=
 ⟨fun i H=>∃ xs x,jM K H a xs∧xs[i]?=some x,fun i H x H'=>H'=H∧∀ xs,jM K H a xs→xs[i]?=some x,fun i H=>∃ xs,jM K H a xs∧xs.length≤i⟩
def OB (lo:Int)(n:Nat):It:=⟨fun i _=>i < n,fun i H x H'=>H'=H∧x=.int (lo+i),fun i _=>n≤i⟩
theorem DK {P:Program}{w:World}{K:PySem.W.Frag}{tg:Expr}(a it:Addr):Turn P w K tg (Tj K a) [it] it (fun i h=>h.IsListIter it a i) where
 mem:=by simp
 obj:=fun i h st b hb=>by
   have e:b=it:=by simpa using hb
   subst e
   obtain⟨o,e,c,d⟩:=st
   exact⟨o,e,fun v z=>by rw[d] at z;cases z⟩
 keep:=fun i h h' st k=>st.at fun o e=>k it (by simp) o e
 item:=by
   intro X hP hw hK hc i pins s σ H E I hf st hg
   subst hP hw hK
   obtain⟨xs,x,hq,hx⟩:=hg
   obtain⟨aI,rv,p,hz⟩:=I.list hq
   obtain⟨u,hu,ru⟩:=rv.get hx
   obtain⟨f0,f1,f2,f3,f4,f5⟩:=hf it (by simp)
   refine wpAny_pyNext_list_item st p.isList (x:=u) (by simpa using hu) fun h' gY sb=>?_
   have I1:Inv X pins σ H { s with heap:=h'}:=I.turned (t':=s.toks) (fun b o hb e=>(sb.2 b hb).trans e) f0 f1 f3 f4 f5
   obtain⟨o,e,c,d⟩:=id gY
   exact⟨u,rfl,Cg (s:={ s with heap:=h'}) e c d (by decide) ⟨x,H,I1,ru,⟨rfl,fun ys hy=>by rw[I.yH hy hq];exact hx⟩,gY,fun b hb=>(hf b hb).1⟩⟩
 done:=by
   intro X hP hw hK hc i pins s σ H E I hf st hg
   subst hP hw hK
   obtain⟨xs,hq,hx⟩:=hg
   obtain⟨aI,rv,p,hz⟩:=I.list hq
   obtain⟨f0,f1,f2,f3,f4,f5⟩:=hf it (by simp)
   have hl:=rv.length
   exact wpAny_pyNext_list_end (I.ok.hd hc) st p.isList (by simp;omega) fun h' eb=>⟨rfl,I.turned (t':=s.toks) (fun b o hb e=>eb b o hb e) f0 f1 f3 f4 f5⟩
 self:=fun _ _ _ _ _ st h=>wpAny_pyIter_listiter st h
theorem AM {P:Program}{w:World}{K:PySem.W.Frag}{tg:Expr}(it:Addr)(lo:Int)(n:Nat):Turn P w K tg (OB lo n) [it] it (fun i h=>IsRangeIter h it (lo+(i:Nat) * 1) ((n:Int) - (i:Nat)) 1) where
 mem:=by simp
 obj:=fun i h st b hb=>by
   have e:b=it:=by simpa using hb
   subst e
   exact⟨_,st,fun v z=>by
     have z':Data.fields _=Data.cell v:=z
     cases z'⟩
 keep:=fun i h h' st k=>k it (by simp) _ st
 item:=by
   intro X hP hw hK hc i pins s σ H E I hf st hg
   subst hP hw hK
   obtain⟨f0,f1,f2,f3,f4,f5⟩:=hf it (by simp)
   have W:=Walks.range (prog:=X.prog) (w:=X.w) (I.ok.hd hc) it lo 1 n
   refine W.item i s _ _ hg st fun v h' tk hv gY kk=>?_
   obtain⟨t,rfl⟩:=hv
   have I1:Inv X pins σ H { s with heap:=h',toks:=tk}:=I.turned (fun b o hb e=>kk b o (by simpa using hb) e) f0 f1 f3 f4 f5
   refine⟨_,rfl,Cg (s:={ s with heap:=h',toks:=tk}) (n:="range_iterator") gY rfl rfl (by decide) ⟨.int (lo+i),H,I1,⟨t,?_⟩,⟨rfl,rfl⟩,gY,fun b hb=>(hf b hb).1⟩⟩
   rw[Int.mul_one]
 done:=by
   intro X hP hw hK hc i pins s σ H E I hf st hg
   subst hP hw hK
   obtain⟨f0,f1,f2,f3,f4,f5⟩:=hf it (by simp)
   exact wpAny_pyNext_range_end (I.ok.hd hc) st (by have:n≤i:=hg;omega) fun h' eb=>⟨rfl,I.turned (t':=s.toks) (fun b o hb e=>eb b o hb e) f0 f1 f3 f4 f5⟩
 self:=fun _ _ _ _ _ st h=>wpAny_pyIter_rangeiter st h
end L2
namespace L2
open PySem PySem.Spec PyProof.Rows
section
variable {X:Cx}{tg:Expr}
def FF (K:PySem.W.Frag)(tl:TE):TI:=fun σ H R=>tl σ H fun x H1=>∃ a,x=.ref a∧(∃ xs,jM K H1 a xs)∧R (Tj K a) H1
theorem iN {l:Expr}{tl:TE}(hl:PE X l tl):PI X tg l (FF X.K tl):=by
 intro pins s σ H R I h
 refine cM (hl pins s σ H _ I h) fun v s1 ⟨x,H1,I1,r1,q1⟩=>?_
 obtain⟨a,e,⟨xs,hq⟩,q⟩:=q1
 subst e
 cases r1
 obtain⟨aI,rv,p,hz⟩:=I1.list hq
 refine wpAny_pyIter_list p.isList ?_
 refine⟨s1.heap.objs.size,[s1.heap.objs.size],_,_,H1,rfl,I1.kept (t':=s1.toks) fun b o e=>Heap.get?_push_of_some _ e,DK a _,⟨_,Heap.get?_push_size _ rfl,rfl,rfl⟩,fun b hb=>?_,q⟩
 have e:b=s1.heap.objs.size:=by simpa using hb
 subst e
 exact I1.uH (Nat.le_refl _) (I1.bU.fresh (Nat.le_refl _))
theorem FG {pins:List (Addr×Obj)}{σ:St}{H:Hp}{s:Shared}{R:It→Hp→Prop}{E:Value→Shared→Prop}{lo hi:Int}{t u v:Tok}{tk:Nat}(I:Inv X pins σ H s)(h1:-(2 ^ 62)≤lo)(h2:lo < 2 ^ 62)(h3:-(2 ^ 62)≤hi)(h4:hi < 2 ^ 62)(q:R (OB lo (hi - lo).toNat) H):wpAny (model X.prog X.w) X.A (pyIter (.ref s.heap.objs.size)) (PIE X pins σ tg R) E { s with heap:=s.heap.push { cls:=.type "range",data:=.fields #[.int lo t,.int hi u,.int 1 v]},toks:=tk}:=by
 refine wpAny_pyIter_range (IsRange.new ..) (small_one h1 h2 h3 h4) ?_
 have I1:Inv X pins σ H { s with heap:=s.heap.push { cls:=.type "range",data:=.fields #[.int lo t,.int hi u,.int 1 v]},toks:=tk}:=I.kept fun b o e=>Heap.get?_push_of_some _ e
 refine⟨(s.heap.push { cls:=.type "range",data:=.fields #[.int lo t,.int hi u,.int 1 v]}).objs.size,[(s.heap.push { cls:=.type "range",data:=.fields #[.int lo t,.int hi u,.int 1 v]}).objs.size],_,_,H,rfl,
   I1.kept (t':=tk) fun b o e=>Heap.get?_push_of_some _ e,AM _ lo (hi - lo).toNat,?_,fun b hb=>?_,q⟩
 . have e1:lo+((0:Nat):Int) * 1=lo:=by simp
   have e2:(((hi - lo).toNat:Nat):Int) - ((0:Nat):Int)=Builtin.Range.rangeSize lo hi 1:=by rw[rangeSize_one];split <;> omega
   show IsRangeIter _ _ (lo+((0:Nat):Int) * 1) ((((hi - lo).toNat:Nat):Int) - ((0:Nat):Int)) 1
   rw[e1,e2]
   exact Heap.get?_push_size _ rfl
 . have e:b=(s.heap.push { cls:=.type "range",data:=.fields #[.int lo t,.int hi u,.int 1 v]}).objs.size:=by simpa using hb
   subst e
   exact I1.uH (Nat.le_refl _) (I1.bU.fresh (Nat.le_refl _))
def M9 (ta:TA):TI:=fun σ H R=>ta σ H fun vs H1=>∃ j:Int,vs=[.int j]∧-(2 ^ 62)≤j∧j < 2 ^ 62∧R (OB 0 j.toNat) H1
theorem o5 {a:Expr}{ta:TA}{p pos:Pos}(hg:Gl X "range")(hm:X.mg "range"=none)(ha:PA X [a] ta)(hs:starEach [a] X.env=[(false,eval a X.env)]:=by rfl):PI X tg (.Call (.Name "range" p) [a] [] pos) (M9 ta):=by
 intro pins s σ H R I h
 refine Call_ (mX I hg hm boot_range (PyProof.Rows.callWith_type1 (cM (ha pos pins s σ H _ I h) fun us s1 ⟨vs,H1,I1,r1,q1⟩=>?_) hs rfl))
 obtain⟨j,e,q1,q2,q⟩:=q1
 subst e
 cases r1 with
 | cons r rr=>
   cases rr
   obtain⟨t,rfl⟩:=r
   exact call_range_1 (FG I1 (by omega) (by omega) q1 q2 (by simpa using q))
def abx (wi:TI)(g:TG)(tb:TS):TS:=fun D σ H=>wi σ H fun J H1=>∃ W:Nat→Nat→St→Hp→Prop,(∃ m,W 0 m σ H1)∧∀ i m σ H,W i m σ H →
 (J.stop i H∧D.nx σ H)∨(J.go i H∧∃ N:St→Hp→Prop,(∀ σ' H',N σ' H'→∃ m',m' < m∧W (i+1) m' σ' H')∧∀ x H',J.JG i H x H'→g x σ H' fun σ2 H2=>tb { D with nx:=N,ct:=N,bk:=D.nx} σ2 H2)
def o6 (fp:List Addr)(h:Heap):List (Addr×Obj):=fp.filterMap fun b=>(h.get? b).map fun o=>(b,o)
theorem eP {fp:List Addr}{h:Heap}{b:Addr}{o:Obj}(hb:b∈fp)(e:h.get? b=some o):(b,o)∈o6 fp h:=List.mem_filterMap.mpr ⟨b,hb,by rw[e];rfl⟩
theorem DL {fp:List Addr}{h:Heap}{p:Addr×Obj}(hp:p∈o6 fp h):p.1∈fp∧h.get? p.1=some p.2:=by
 obtain⟨b,hb,e⟩:=List.mem_filterMap.mp hp
 cases q:h.get? b with
 | none=>rw[q] at e;cases e
 | some o=>
   rw[q] at e
   have e':(b,o)=p:=Option.some.inj e
   subst e'
   exact⟨hb,q⟩
theorem Inv.pinned {pins:List (Addr×Obj)}{σ:St}{H:Hp}{s:Shared}{fp:List Addr}(I:Inv X pins σ H s)(hf:∀ b∈fp,ir X pins H b)(ho:∀ b∈fp,∃ o,s.heap.get? b=some o∧∀ v,o.data≠.cell v):Inv X (pins ++ o6 fp s.heap) σ H s:=
 I.Ce fun p hp=>(List.mem_append.mp hp).elim (fun z=>I.pin p (List.mem_append_right _ z)) fun z=>by
   obtain⟨hb,e⟩:=DL z
   obtain⟨f0,f1,f2,_⟩:=hf p.1 hb
   obtain⟨o,e',d⟩:=ho p.1 hb
   rw[e] at e';cases e'
   exact⟨e,f0,f1,f2,d⟩
theorem Inv.gq {pins pl:List (Addr×Obj)}{σ:St}{H:Hp}{s:Shared}(I:Inv X (pins ++ pl) σ H s):Inv X pins σ H s:=I.Ce fun p hp=>I.pin p (List.mem_append_right _ (List.mem_append_left _ hp))
theorem wg {iter:Expr}{body:List Stmt}{wi:TI}{g:TG}{tb:TS}{pos:Pos}(hp:PassesOwn (model X.prog X.w) X.A X.env X.xe)(hc:X.calm=true)(hi:PI X tg iter wi)(hg:PG X tg g)(hb:AI X body tb)(hs:∀ x,foldedSetIterable iter X.env x=pure x:=by intro _;rfl):PS X (.For tg iter body [] pos) (abx wi g tb):=by
 intro pins s σ H D I h
 refine wpAny_For (cM (hi pins s σ H _ I h) fun v s1 h1=>cM h1 fun OA s2 h2=>?_) hs
 obtain⟨it,fp,tn,J,H2,e,I2,T,E9,f2,W,⟨m0,w0⟩,turn⟩:=h2
 subst e
 have mY:∀ {H':Hp},(∀ b∈fp,H' b=none)→∀ b∈fp,ir X pins H' b:=fun hn b hb=>⟨hn b hb,(f2 b hb).2⟩
 refine codeAny_forLoop_any (fun n s'=>∃ i σ' H',Inv X pins σ' H' s'∧tn i s'.heap∧(∀ b∈fp,H' b=none)∧W i n σ' H') ?_ m0 ⟨0,σ,H2,I2,E9,fun b hb=>(f2 b hb).1,w0⟩
 rintro n s3 ⟨i,σ3,H3,I3,st3,fr3,w3⟩
 rcases turn i n σ3 H3 w3 with⟨stop,qn⟩ | ⟨go,N,hN,step⟩
 . refine wpAny_passesOwn hp (cM (T.done X rfl rfl rfl hc i pins s3 σ3 H3 X.xe I3 (mY fr3) st3 stop) fun r s4 ⟨hr,I4⟩=>?_)
   subst hr
   exact wpAny_execs_nil ⟨σ3,H3,I4,qn⟩
 . refine wpAny_passesOwn hp (cM (T.item X rfl rfl rfl hc i pins s3 σ3 H3 X.xe I3 (mY fr3) st3 go) fun r s4 ⟨u,hr,h4⟩=>?_)
   subst hr
   refine wpAny_passesOwn hp (cM h4 fun _ s5 ⟨x,H5,I5,r5,y5,Fb,JH⟩=>?_)
   have I5':=I5.pinned (mY JH) (T.obj _ _ Fb)
   refine wpAny_passesOwn hp (cM (hg _ s5 σ3 H5 x u _ I5' r5 (step x H5 y5)) fun _ s6 ⟨σ6,H6,I6,q6⟩=>?_)
   refine wpAny_passesOwn hp (cM (hb _ s6 σ6 H6 _ I6 q6) fun f s7 q7=>?_)
   have again:∀ {σ7:St} {H7:Hp},Inv X (pins ++ o6 fp s5.heap) σ7 H7 s7→N σ7 H7→∃ m,m < n∧∃ i σ' H',Inv X pins σ' H' s7∧tn i s7.heap∧(∀ b∈fp,H' b=none)∧W i m σ' H':=fun {σ7 H7} I7 n7=>by
     obtain⟨m',hm,w7⟩:=hN σ7 H7 n7
     refine⟨m',hm,i+1,σ7,H7,I7.gq,T.keep _ _ _ Fb fun b hb o e=>(I7.pin (b,o) (List.mem_append_right _ (List.mem_append_right _ (eP hb e)))).1,fun b hb=>?_,w7⟩
     obtain⟨o,e,d⟩:=T.obj _ _ Fb b hb
     exact(I7.pin (b,o) (List.mem_append_right _ (List.mem_append_right _ (eP hb e)))).2.1
   cases f with
   | next=>obtain⟨σ7,H7,I7,n7⟩:=q7;exact again I7 n7
   | cont=>obtain⟨σ7,H7,I7,n7⟩:=q7;exact again I7 n7
   | brk=>obtain⟨σ7,H7,I7,q7⟩:=q7;exact⟨σ7,H7,I7.gq,q7⟩
   | ret v=>obtain⟨x7,σ7,H7,I7,r7,q7⟩:=q7;exact⟨x7,σ7,H7,I7.gq,r7,q7⟩
end
theorem yK {K:PySem.W.Frag}{a:Addr}{xs:List V}{g:TG}{tb:TS}{D:Ends}{σ:St}{H:Hp}(Pv:Nat→St→Hp→Prop)(h0:Pv 0 σ H)(hl:∀ i σ H,i≤xs.length→Pv i σ H→jM K H a xs)(hs:∀ i x σ H,xs[i]?=some x→Pv i σ H→g x σ H fun σ2 H2=>tb { D with nx:=Pv (i+1),ct:=Pv (i+1),bk:=D.nx} σ2 H2)(hd:∀ σ H,Pv xs.length σ H→D.nx σ H):∃ W:Nat→Nat→St→Hp→Prop,(∃ m,W 0 m σ H)∧∀ i m σ H,W i m σ H→((Tj K a).stop i H∧D.nx σ H)∨((Tj K a).go i H∧∃ N:St→Hp→Prop,(∀ σ' H',N σ' H'→∃ m',m' < m∧W (i+1) m' σ' H')∧∀ x H',(Tj K a).JG i H x H'→g x σ H' fun σ2 H2=>tb { D with nx:=N,ct:=N,bk:=D.nx} σ2 H2):=by
 refine⟨fun i m σ H=>m=xs.length - i∧i≤xs.length∧Pv i σ H,⟨xs.length,by simp,Nat.zero_le _,h0⟩,?_⟩
 rintro i m σ H ⟨rfl,hi,p⟩
 have q:=hl i σ H hi p
 by_cases dS:i < xs.length
 . refine .inr ⟨⟨xs,xs[i],q,by simp[dS]⟩,Pv (i+1),fun σ' H' p'=>⟨xs.length - (i+1),by omega,rfl,dS,p'⟩,fun x H' y=>?_⟩
   obtain⟨e,y⟩:=y
   subst e
   exact hs i x σ _ (y xs q) p
 . have e:i=xs.length:=by omega
   subst e
   exact .inl ⟨⟨xs,q,Nat.le_refl _⟩,hd σ H p⟩
theorem DM {lo:Int}{n:Nat}{g:TG}{tb:TS}{D:Ends}{σ:St}{H:Hp}(Pv:Nat→St→Hp→Prop)(h0:Pv 0 σ H)(hs:∀ i σ H,i < n→Pv i σ H→g (.int (lo+i)) σ H fun σ2 H2=>tb { D with nx:=Pv (i+1),ct:=Pv (i+1),bk:=D.nx} σ2 H2)(hd:∀ σ H,Pv n σ H→D.nx σ H):∃ W:Nat→Nat→St→Hp→Prop,(∃ m,W 0 m σ H)∧∀ i m σ H,W i m σ H→((OB lo n).stop i H∧D.nx σ H)∨((OB lo n).go i H∧∃ N:St→Hp→Prop,(∀ σ' H',N σ' H'→∃ m',m' < m∧W (i+1) m' σ' H')∧∀ x H',(OB lo n).JG i H x H'→g x σ H' fun σ2 H2=>tb { D with nx:=N,ct:=N,bk:=D.nx} σ2 H2):=by
 refine⟨fun i m σ H=>m=n - i∧i≤n∧Pv i σ H,⟨n,by simp,Nat.zero_le _,h0⟩,?_⟩
 rintro i m σ H ⟨rfl,hi,p⟩
 by_cases dS:i < n
 . refine .inr ⟨dS,Pv (i+1),fun σ' H' p'=>⟨n - (i+1),by omega,rfl,dS,p'⟩,fun x H' y=>?_⟩
   obtain⟨e,y⟩:=y
   subst e y
   exact hs i σ _ dS p
 . have e:i=n:=by omega
   subst e
   exact .inl ⟨Nat.le_refl _,hd σ H p⟩
end L2
namespace L2
open PySem PySem.Spec PyProof.Rows
abbrev R2:=V→V→Hp→VK→Prop
def kT (X:Cx)(f:Value→Value→Sem Value)(r:R2):Prop:=
 ∀ (pins:List (Addr×Obj)) (s:Shared) (σ:St) (H:Hp) (x y:V) (v u:Value) (Q:VK),Inv X pins σ H s→RelV x v→RelV y u→r x y H Q →
   wpAny (model X.prog X.w) X.A (f v u) (EP X pins σ Q) X.xe s
def UnR (X:Cx)(f:Value→Sem Value)(r:V→Hp→VK→Prop):Prop:=
 ∀ (pins:List (Addr×Obj)) (s:Shared) (σ:St) (H:Hp) (x:V) (v:Value) (Q:VK),Inv X pins σ H s→RelV x v→r x H Q →
   wpAny (model X.prog X.w) X.A (f v) (EP X pins σ Q) X.xe s
def gZ (X:Cx)(f:Value)(r:List V→Hp→VK→Prop):Prop:=
 ∀ (pins:List (Addr×Obj)) (s:Shared) (σ:St) (H:Hp) (xs:List V) (us:List Value) (Q:VK),Inv X pins σ H s→Vals xs us→r xs H Q →
   wpAny (model X.prog X.w) X.A (call f us) (EP X pins σ Q) X.xe s
def Tn (r:R2)(ta tb:TE):TE:=fun σ H Q=>ta σ H fun x H1=>tb σ H1 fun y H2=>r x y H2 Q
def tUn (r:V→Hp→VK→Prop)(ta:TE):TE:=fun σ H Q=>ta σ H fun x H1=>r x H1 Q
def rI (C:Int→Int→Prop)(g:Int→Int→V):R2:=fun x y H Q=>∃ i j,x=.int i∧y=.int j∧C i j∧Q (g i j) H
def J3 (g:Int→Int→V):R2:=fun x y H Q=>∃ i j,x=.int i∧y=.int j∧Q (g i j) H
def rU (g:Int→V):V→Hp→VK→Prop:=fun x H Q=>∃ i,x=.int i∧Q (g i) H
section
variable {X:Cx}{a b c:Expr}{ta tb tc:TE}{pos:Pos}
theorem OC (ha:PE X a ta)(hb:PE X b tb){pins:List (Addr×Obj)}{s:Shared}{σ:St}{H:Hp}{R:V→V→Hp→Prop}(I:Inv X pins σ H s)(h:ta σ H fun x H1=>tb σ H1 fun y H2=>R x y H2){Q:Value→Shared→Prop}{f:Value→Value→Sem Value}(hf:∀ v u s2 x y H2,Inv X pins σ H2 s2→RelV x v→RelV y u→R x y H2→wpAny (model X.prog X.w) X.A (f v u) Q X.xe s2):wpAny (model X.prog X.w) X.A (eval a X.env) (fun v s₁=>wpAny (model X.prog X.w) X.A (eval b X.env) (fun u s₂=>wpAny (model X.prog X.w) X.A (f v u) Q X.xe s₂) X.xe s₁) X.xe s:=by
 refine cM (ha pins s σ H _ I h) fun v s1 ⟨x,H1,I1,r1,q1⟩=>?_
 refine cM (hb pins s1 σ H1 _ I1 q1) fun u s2 ⟨y,H2,I2,r2,q2⟩=>?_
 exact hf v u s2 x y H2 I2 r1 r2 q2
theorem Na {op:Operator}{r:R2}(ho:kT X (binaryOp op) r)(ha:PE X a ta)(hb:PE X b tb):PE X (.BinOp a op b pos) (Tn r ta tb):=by
 intro pins s σ H Q I h
 exact wpAny_BinOp (OC ha hb I h fun v u s2 x y H2 I2 rx ry q=>ho pins s2 σ H2 x y v u Q I2 rx ry q)
theorem To {op:UnaryOp}{r:V→Hp→VK→Prop}(ho:UnR X (unaryOp op) r)(ha:PE X a ta):PE X (.UnaryOp op a pos) (tUn r ta):=by
 intro pins s σ H Q I h
 exact UnaryOp_ (cM (ha pins s σ H _ I h) fun v s1 ⟨x,H1,I1,r1,q1⟩=>ho pins s1 σ H1 x v Q I1 r1 q1)
theorem opI {f:Value→Value→Sem Value}{C:Int→Int→Prop}{g:Int→Int→Int}(rule:∀ (i j:Int) (t u:Tok) (s:Shared) (Q:Value→Shared→Prop) (E:Value→Shared→Prop),C i j→Q (.int (g i j) s.toks) { s with toks:=s.toks+1}→wpAny (model X.prog X.w) X.A (f (.int i t) (.int j u)) Q E s):kT X f (rI C fun i j=>.int (g i j)):=by
 intro pins s σ H x y v u Q I rx ry h
 obtain⟨i,j,rfl,rfl,hc,q⟩:=h
 obtain⟨t,rfl⟩:=rx
 obtain⟨t',rfl⟩:=ry
 exact rule i j t t' s _ _ hc ⟨.int (g i j),H,I.tok _,⟨_,rfl⟩,q⟩
theorem Tp {f:Value→Value→Sem Value}{g:Int→Int→Int}(rule:∀ (i j:Int) (t u:Tok) (s:Shared) (Q:Value→Shared→Prop) (E:Value→Shared→Prop),Q (.int (g i j) s.toks) { s with toks:=s.toks+1}→wpAny (model X.prog X.w) X.A (f (.int i t) (.int j u)) Q E s):kT X f (J3 fun i j=>.int (g i j)):=by
 intro pins s σ H x y v u Q I rx ry h
 obtain⟨i,j,rfl,rfl,q⟩:=h
 obtain⟨t,rfl⟩:=rx
 obtain⟨t',rfl⟩:=ry
 exact rule i j t t' s _ _ ⟨.int (g i j),H,I.tok _,⟨_,rfl⟩,q⟩
theorem J4 {f:Value→Value→Sem Value}{g:Int→Int→Bool}(rule:∀ (i j:Int) (t u:Tok) (s:Shared) (Q:Value→Shared→Prop) (E:Value→Shared→Prop),Q (.bool (g i j)) s→wpAny (model X.prog X.w) X.A (f (.int i t) (.int j u)) Q E s):kT X f (J3 fun i j=>.bl (g i j)):=by
 intro pins s σ H x y v u Q I rx ry h
 obtain⟨i,j,rfl,rfl,q⟩:=h
 obtain⟨t,rfl⟩:=rx
 obtain⟨t',rfl⟩:=ry
 exact rule i j t t' s _ _ ⟨.bl (g i j),H,I,rfl,q⟩
def Tq (i j:Int):Prop:=0≤j∧j≤1000000∧i.natAbs < 2 ^ 64
def nG (i j:Int):Prop:=(-(2 ^ 64) < i∧i < 2 ^ 64)∨(-(2 ^ 64) < j∧j < 2 ^ 64)
theorem nG.ok {i j:Int}(h:nG i j):IntMulOk i j:=by
 rcases h with⟨h1,h2⟩ | ⟨h1,h2⟩
 . exact .of_left (intBits_le_64 h1 h2)
 . exact .of_right (intBits_le_64 h1 h2)
theorem OD:kT X (binaryOp .Add) (J3 fun i j=>.int (i+j)):=Tp fun _ _ _ _ _ _ _ q=>add_int q
theorem OE:kT X (binaryOp .Sub) (J3 fun i j=>.int (i - j)):=Tp fun _ _ _ _ _ _ _ q=>sub_int q
theorem OF:kT X (binaryOp .Mod) (rI (fun _ j=>0 < j) fun i j=>.int (i % j)):=opI fun i j _ _ _ _ _ hc q=>by
 have h1:(0:Int) < j:=hc
 exact mod_int' (by omega) (by rw[Int.fmod_eq_emod_of_nonneg i (by omega)];exact q)
theorem OG:kT X (binaryOp .Pow) (rI Tq fun i j=>.int (i ^ j.toNat)):=opI fun _ _ _ _ _ _ _ hc q=>pow_int_small hc.1 hc.2.1 hc.2.2 q
theorem unI {f:Value→Sem Value}{g:Int→Int}(rule:∀ (i:Int) (t:Tok) (s:Shared) (Q:Value→Shared→Prop) (E:Value→Shared→Prop),Q (.int (g i) s.toks) { s with toks:=s.toks+1}→wpAny (model X.prog X.w) X.A (f (.int i t)) Q E s):UnR X f (rU fun i=>.int (g i)):=by
 intro pins s σ H x v Q I rx h
 obtain⟨i,rfl,q⟩:=h
 obtain⟨t,rfl⟩:=rx
 exact rule i t s _ _ ⟨.int (g i),H,I.tok _,⟨_,rfl⟩,q⟩
theorem OH:UnR X (unaryOp .USub) (rU fun i=>.int (-i)):=unI fun _ _ _ _ _ q=>neg_int q
end
def J5:V→V→Bool
 | .dQ,.dQ=>true | .dQ,.int _=>true | .int _,.dQ=>true | .dQ,.bl _=>true | .bl _,.dQ=>true | .dQ,.str _=>true | .str _,.dQ=>true
 | .int _,.int _=>true | .bl _,.bl _=>true | .str _,.str _=>true | .E8 _,.E8 _=>true
 | .int _,.str _=>true | .str _,.int _=>true | .bl _,.str _=>true | .str _,.bl _=>true
 | _,_=>false
def rEq:R2:=fun x y H Q=>J5 x y=true∧Q (.bl (decide (x=y))) H
def rNe:R2:=fun x y H Q=>J5 x y=true∧Q (.bl (!decide (x=y))) H
theorem lM {i j:Int}:decide (V.int i=V.int j)=(i == j):=by
 rw[Bool.eq_iff_iff]
 simp
theorem FH {i j:Bool}:decide (V.bl i=V.bl j)=(i == j):=by
 rw[Bool.eq_iff_iff]
 simp
theorem rj {i j:Str}:decide (V.str i=V.str j)=(i == j):=by
 rw[Bool.eq_iff_iff]
 simp
theorem Ci {i j:Array UInt8}:decide (V.E8 i=V.E8 j)=(i.toList == j.toList):=by
 rw[Bool.eq_iff_iff]
 cases i
 cases j
 simp
section
variable {X:Cx}{a b c:Expr}{ta tb tc:TE}{pos:Pos}
theorem cq {pins:List (Addr×Obj)}{σ:St}{H:Hp}{s:Shared}{Q:VK}{k k':Bool}(I:Inv X pins σ H s)(q:Q (.bl k) H)(e:k=k'):EP X pins σ Q (.bool k') s:=by
 subst e
 exact⟨.bl k,H,I,rfl,q⟩
theorem FI:kT X (compareOp .Eq) rEq:=by
 intro pins s σ H x y v u Q I rx ry h
 obtain⟨hs,q⟩:=h
 cases x with
 | dQ=>
   cases rx
   cases y with
   | dQ=>cases ry;exact PySem.EqNone.eq_none_none (cq I q (by simp))
   | bl j=>cases ry;exact PySem.EqNone.eq_none_bool (cq I q (by simp))
   | int j=>obtain⟨t',rfl⟩:=ry;exact PySem.EqNone.eq_none_int (cq I q (by simp))
   | str j=>obtain⟨t',rfl⟩:=ry;exact PySem.EqNone.eq_none_str (cq I q (by simp))
   | _=>exact absurd (show false=true from hs) Bool.false_ne_true
 | bl i=>
   cases rx
   cases y with
   | dQ=>cases ry;exact PySem.EqNone.eq_bool_none (cq I q (by simp))
   | bl j=>cases ry;exact eq_bool (cq I q FH)
   | str j=>obtain⟨t',rfl⟩:=ry;exact PySem.EqMixed.eq_bool_str (cq I q (by simp))
   | _=>exact absurd (show false=true from hs) Bool.false_ne_true
 | int i=>
   obtain⟨t,rfl⟩:=rx
   cases y with
   | dQ=>cases ry;exact PySem.EqNone.eq_int_none (cq I q (by simp))
   | int j=>obtain⟨t',rfl⟩:=ry;exact eq_int (cq I q lM)
   | str j=>obtain⟨t',rfl⟩:=ry;exact PySem.EqMixed.eq_int_str (cq I q (by simp))
   | _=>exact absurd (show false=true from hs) Bool.false_ne_true
 | str i=>
   obtain⟨t,rfl⟩:=rx
   cases y with
   | dQ=>cases ry;exact PySem.EqNone.eq_str_none (cq I q (by simp))
   | bl j=>cases ry;exact PySem.EqMixed.eq_str_bool (cq I q (by simp))
   | int j=>obtain⟨t',rfl⟩:=ry;exact PySem.EqMixed.eq_str_int (cq I q (by simp))
   | str j=>obtain⟨t',rfl⟩:=ry;exact eq_str (cq I q rj)
   | _=>exact absurd (show false=true from hs) Bool.false_ne_true
 | E8 i=>
   obtain⟨t,rfl⟩:=rx
   cases y with
   | E8 j=>obtain⟨t',rfl⟩:=ry;exact PySem.W.eq_bytes (cq I q Ci)
   | _=>exact absurd (show false=true from hs) Bool.false_ne_true
 | _=>cases y <;> exact absurd (show false=true from hs) Bool.false_ne_true
theorem Ts:kT X (compareOp .NotEq) rNe:=by
 intro pins s σ H x y v u Q I rx ry h
 obtain⟨hs,q⟩:=h
 cases x with
 | dQ=>
   cases rx
   cases y with
   | dQ=>cases ry;exact PySem.EqNone.ne_none_none (cq I q (by simp))
   | bl j=>cases ry;exact PySem.EqNone.ne_none_bool (cq I q (by simp))
   | int j=>obtain⟨t',rfl⟩:=ry;exact PySem.EqNone.ne_none_int (cq I q (by simp))
   | str j=>obtain⟨t',rfl⟩:=ry;exact PySem.EqNone.ne_none_str (cq I q (by simp))
   | _=>exact absurd (show false=true from hs) Bool.false_ne_true
 | bl i=>
   cases rx
   cases y with
   | dQ=>cases ry;exact PySem.EqNone.ne_bool_none (cq I q (by simp))
   | bl j=>cases ry;exact ne_bool (cq I q (congrArg not FH))
   | str j=>obtain⟨t',rfl⟩:=ry;exact PySem.EqMixed.ne_bool_str (cq I q (by simp))
   | _=>exact absurd (show false=true from hs) Bool.false_ne_true
 | int i=>
   obtain⟨t,rfl⟩:=rx
   cases y with
   | dQ=>cases ry;exact PySem.EqNone.ne_int_none (cq I q (by simp))
   | int j=>obtain⟨t',rfl⟩:=ry;exact ne_int (cq I q (congrArg not lM))
   | str j=>obtain⟨t',rfl⟩:=ry;exact PySem.EqMixed.ne_int_str (cq I q (by simp))
   | _=>exact absurd (show false=true from hs) Bool.false_ne_true
 | str i=>
   obtain⟨t,rfl⟩:=rx
   cases y with
   | dQ=>cases ry;exact PySem.EqNone.ne_str_none (cq I q (by simp))
   | bl j=>cases ry;exact PySem.EqMixed.ne_str_bool (cq I q (by simp))
   | int j=>obtain⟨t',rfl⟩:=ry;exact PySem.EqMixed.ne_str_int (cq I q (by simp))
   | str j=>obtain⟨t',rfl⟩:=ry;exact ne_str (cq I q (congrArg not rj))
   | _=>exact absurd (show false=true from hs) Bool.false_ne_true
 | E8 i=>
   obtain⟨t,rfl⟩:=rx
   cases y with
   | E8 j=>obtain⟨t',rfl⟩:=ry;exact PySem.W.ne_bytes (cq I q (congrArg not Ci))
   | _=>exact absurd (show false=true from hs) Bool.false_ne_true
 | _=>cases y <;> exact absurd (show false=true from hs) Bool.false_ne_true
theorem Tt:kT X (compareOp .Lt) (J3 fun i j=>.bl (decide (i < j))):=J4 fun _ _ _ _ _ _ _ q=>lt_int q
theorem yL:kT X (compareOp .LtE) (J3 fun i j=>.bl (decide (i≤j))):=J4 fun _ _ _ _ _ _ _ q=>le_int q
theorem Tu:kT X (compareOp .Gt) (J3 fun i j=>.bl (decide (j < i))):=J4 fun _ _ _ _ _ _ _ q=>gt_int q
theorem Tv:kT X (compareOp .GtE) (J3 fun i j=>.bl (decide (j≤i))):=J4 fun _ _ _ _ _ _ _ q=>ge_int q
theorem kW (b:Expr){op:CmpOp}(h:op≠.In:=by decide)(h2:op≠.NotIn:=by decide):behindInMarks op b=false:=by
 have e1:(op == CmpOp.In)=false:=by cases op <;> first | rfl | exact absurd rfl h
 have e2:(op == CmpOp.NotIn)=false:=by cases op <;> first | rfl | exact absurd rfl h2
 cases b <;> simp[behindInMarks,e1,e2]
theorem J6 {op:CmpOp}{r:R2}(ho:kT X (compareOp op) r)(ha:PE X a ta)(hb:PE X b tb)(hm:behindInMarks op b=false):PE X (.Compare a [op] [b] pos) (Tn r ta tb):=by
 intro pins s σ H Q I h
 exact wpAny_Compare1 (OC ha hb I h fun v u s2 x y H2 I2 rx ry q=>ho pins s2 σ H2 x y v u Q I2 rx ry q) hm
def Nb (t:TE):TT:=fun σ H Q=>t σ H fun x H'=>∃ k,x=.bl k∧Q k H'
theorem J7 {op:CmpOp}{r:R2}(ho:kT X (compareOp op) r)(ha:PE X a ta)(hb:PE X b tb)(hm:behindInMarks op b=false):PT X (.Compare a [op] [b] pos) (Nb (Tn r ta tb)):=by
 intro pins s σ H Q I h
 refine wpAny_isTrue_Compare1 (cM (ha pins s σ H _ I h) fun v s1 ⟨x,H1,I1,r1,q1⟩=>cM (hb pins s1 σ H1 _ I1 q1) fun u s2 ⟨y,H2,I2,r2,q2⟩=>
   cM (ho pins s2 σ H2 x y v u _ I2 r1 r2 q2) fun c s3 ⟨z,H3,I3,r3,k,e,q3⟩=>?_) hm
 subst e
 cases r3
 exact wpAny_truthy_bool ⟨H3,I3,q3⟩
def FJ (r r':R2)(ta tb tc:TE):TE:=fun σ H Q=>ta σ H fun x H1=>tb σ H1 fun y H2=>r x y H2 fun z H3=>∃ k,z=.bl k ∧
 (if k=true then tc σ H3 fun w' H4=>r' y w' H4 Q else Q (.bl false) H3)
theorem FK {op AN:CmpOp}{r r':R2}(ho:kT X (compareOp op) r)(AH:kT X (compareOp AN) r')(ha:PE X a ta)(hb:PE X b tb)(hc:PE X c tc)(hm:lastMarks [op,AN] [b,c]=false:=by with_unfolding_all rfl):PE X (.Compare a [op,AN] [b,c] pos) (FJ r r' ta tb tc):=by
 intro pins s σ H Q I h
 refine Compare_chain (cM (ha pins s σ H _ I h) fun v s1 ⟨x,H1,I1,r1,q1⟩=>chain_link (cM (hb pins s1 σ H1 _ I1 q1) fun u s2 ⟨y,H2,I2,r2,q2⟩=>
   cM (ho pins s2 σ H2 x y v u _ I2 r1 r2 q2) fun d s3 ⟨z,H3,I3,r3,k,e,q3⟩=>?_)) hm
 subst e
 cases r3
 refine wpAny_truthy_bool ?_
 cases k with
 | false=>exact ite_ff ⟨.bl false,H3,I3,rfl,q3⟩
 | true=>exact ite_tt (chain_last (cM (hc pins s3 σ H3 _ I3 q3) fun w' s4 ⟨z',H4,I4,r4,q4⟩=>AH pins s4 σ H4 y z' u w' Q I4 r2 r4 q4))
theorem FL {op AN:CmpOp}{r r':R2}(ho:kT X (compareOp op) r)(AH:kT X (compareOp AN) r')(ha:PE X a ta)(hb:PE X b tb)(hc:PE X c tc)(hm:lastMarks [op,AN] [b,c]=false:=by with_unfolding_all rfl):PT X (.Compare a [op,AN] [b,c] pos) (Nb (FJ r r' ta tb tc)):=by
 intro pins s σ H Q I h
 refine isTrue_chain (cM (ha pins s σ H _ I h) fun v s1 ⟨x,H1,I1,r1,q1⟩=>test_link (cM (hb pins s1 σ H1 _ I1 q1) fun u s2 ⟨y,H2,I2,r2,q2⟩=>
   cM (ho pins s2 σ H2 x y v u _ I2 r1 r2 q2) fun d s3 ⟨z,H3,I3,r3,k,e,q3⟩=>?_)) hm
 subst e
 cases r3
 refine wpAny_truthy_bool ?_
 cases k with
 | false=>
   obtain⟨k',e',q'⟩:=q3
   cases e'
   exact ite_ff ⟨H3,I3,q'⟩
 | true=>
   refine ite_tt (test_last (cM (hc pins s3 σ H3 _ I3 q3) fun w' s4 ⟨z',H4,I4,r4,q4⟩=>cM (AH pins s4 σ H4 y z' u w' _ I4 r2 r4 q4) fun d' s5 ⟨z2,H5,I5,r5,k2,e2,q5⟩=>?_))
   subst e2
   cases r5
   exact wpAny_truthy_bool ⟨H5,I5,q5⟩
theorem i7:(sizeLine:Nat) < 2 ^ 63:=by rw[sizeLine_eq];decide
theorem AO:kT X (binaryOp .Add) (fun x y H Q=>∃ i j,x=.str i∧y=.str j∧i.length+j.length≤sizeLine∧Q (.str (i ++ j)) H):=by
 intro pins s σ H x y v u Q I rx ry h
 obtain⟨i,j,rfl,rfl,hz,q⟩:=h
 obtain⟨t,rfl⟩:=rx
 obtain⟨t',rfl⟩:=ry
 exact add_str (fun t' tk=>⟨.str (i ++ j),H,I.tok _,⟨_,rfl⟩,q⟩) hz
theorem vals1 {x:V}{us:List Value}(r:Vals [x] us):∃ u,us=[u]∧RelV x u:=by
 cases r with
 | cons r1 r2=>cases r2;exact⟨_,rfl,r1⟩
theorem vals2 {x y:V}{us:List Value}(r:Vals [x,y] us):∃ u w',us=[u,w']∧RelV x u∧RelV y w':=by
 cases r with
 | cons r1 r2=>
   cases r2 with
   | cons r3 r4=>cases r4;exact⟨_,_,rfl,r1,r3⟩
theorem DN (hc:X.calm=true):gZ X (.builtin "max") (fun xs H Q=>∃ i j,xs=[.int i,.int j]∧Q (.int (if j > i then j else i)) H):=by
 intro pins s σ H xs us Q I r h
 obtain⟨i,j,rfl,q⟩:=h
 obtain⟨u,w',rfl,⟨t,rfl⟩,⟨t',rfl⟩⟩:=vals2 r
 refine max_two_ints (I.ok.hd hc) fun h' tk k=>⟨_,H,I.kept k,?_,q⟩
 by_cases hj:j > i
 . rw[if_pos hj,if_pos hj];exact⟨_,rfl⟩
 . rw[if_neg hj,if_neg hj];exact⟨_,rfl⟩
theorem DO (hc:X.calm=true):gZ X (.builtin "min") (fun xs H Q=>∃ i j,xs=[.int i,.int j]∧Q (.int (if j < i then j else i)) H):=by
 intro pins s σ H xs us Q I r h
 obtain⟨i,j,rfl,q⟩:=h
 obtain⟨u,w',rfl,⟨t,rfl⟩,⟨t',rfl⟩⟩:=vals2 r
 refine min_two_ints (I.ok.hd hc) fun h' tk k=>⟨_,H,I.kept k,?_,q⟩
 by_cases hj:j < i
 . rw[if_pos hj,if_pos hj];exact⟨_,rfl⟩
 . rw[if_neg hj,if_neg hj];exact⟨_,rfl⟩
end
end L2
namespace L2
open PySem PySem.Spec PyProof.Rows
structure AQ (h:Heap)(x dx C:Addr)(mA:Str→Option Value):Prop where
 obj:h.get? x=some (PySem.W.instObj C dx)
 ns:h.Ns1 dx mA
 ne:dx≠x
theorem DP {h:Heap}{dx:Addr}{mA:Str→Option Value}(n:h.Ns1 dx mA):∃ od,h.get? dx=some od∧∀ name,PySem.W.lookIn name od=some (mA name):=by
 obtain⟨o,es,ep,ho,hd,hk,_,hm⟩:=n
 refine⟨o,ho,fun name=>?_⟩
 have e:=hm name
 unfold nsFind findBy at e
 rw[← Array.find?_toList] at e
 unfold PySem.W.lookIn
 rw[hd]
 dsimp only
 split
 . rename_i y q
   rw[q] at e
   exact congrArg some e
 . rename_i q
   rw[q] at e
   have a:es.toList.any (·.refKey)=false:=by
     rw[List.any_eq_false]
     intro y hy
     obtain⟨z,t,abz⟩:=hk y (Array.mem_toList_iff.mp hy)
     simp[DictEntry.refKey,abz]
   have a':¬ es.toList.any (·.refKey)=true:=by rw[a];exact Bool.false_ne_true
   rw[if_neg a']
   exact congrArg some e
theorem AQ.look {h:Heap}{x dx C:Addr}{mA:Str→Option Value}(I:AQ h x dx C mA):∃ od,PySem.W.InstAt h x (PySem.W.instObj C dx) C (some od)∧∀ name,PySem.W.lookIn name od=some (mA name):=
 let ⟨od,ho,hl⟩:=DP I.ns
 ⟨od,⟨I.obj,rfl,rfl,ho⟩,hl⟩
section
variable {prog:Program}{w:World}{A:Around}{E:Value→Shared→Prop}{s:Shared}{K:PySem.W.Frag}{x dx C f:Addr}{mA:Str→Option Value}{name:Str}{v:Value}
theorem get_map {expr:Bool}{Q:Value→Shared→Prop}(X:K.In s.heap)(I:AQ s.heap x dx C mA)(hg:PySem.W.plainGet K C name=true)(hh:PySem.W.hasDictIn K C=true)(ha:PySem.W.findIn K (.ref C) name=some none)(hv:mA name=some v)(hv':PySem.W.handedIn v=true)(h:Q v { s with toks:=s.toks+1}):wpAny (model prog w) A (getAttr (.ref x) name expr) Q E s:=by
 obtain⟨od,J,hl⟩:=I.look
 exact PySem.W.get_value X J (PySem.W.plainGet_of hg).1 (PySem.W.findObj_own hh ha rfl (by rw[hl,hv])) hv' h
theorem FN {pl:Sem Bool}{Q:Value×List Value→Shared→Prop}(X:K.In s.heap)(I:AQ s.heap x dx C mA)(hg:PySem.W.plainGet K C name=true)(hf:PySem.W.findIn K (.ref C) name=some (some (.ref f)))(ht:PySem.W.isFn K (.ref f)=true)(hv:mA name=none)(h:Q (.ref f,[.ref x]) s):wpAny (model prog w) A (getMethod (.ref x) name pl) Q E s:=by
 obtain⟨od,J,hl⟩:=I.look
 exact PySem.W.method_fn X J (PySem.W.plainGet_of hg).1 (PySem.W.plainGet_of hg).2 hf (beq_iff_eq.mp ht) (by show(PySem.W.lookIn name od).map (·.isSome)=some false;rw[hl,hv];rfl) h
theorem J8 {ns:List Str}{Q:Unit→Shared→Prop}(X:K.In s.heap)(I:AQ s.heap x dx C mA)
   (hs:PySem.W.findIn K (.ref C) "__setattr__"=some (some (.builtin "object.__setattr__"))) (hp:PySem.W.plainOver K C=true) (ht:PySem.W.takerIn K C name=some none) (hh:PySem.W.hasDictIn K C=true)
   (hw:PySem.Within mA ns) (hsz:ns.length≤sizeLine)
   (h:∀ h',AQ h' x dx C (fun y=>if y=name then some v else mA y)→Heap.SameBut dx s.heap h'→Q () { s with heap:=h',toks:=s.toks+2}) :
   wpAny (model prog w) A (setAttr (.ref x) name v) Q E s:=by
 obtain⟨od,J,hl⟩:=I.look
 refine PySem.W.set_plain X J hs (PySem.W.osa_open (s:={ s with toks:=s.toks+1}) (r:=none) X J hp ht fun b=>?_)
 obtain⟨cd,hc,Sv⟩:=PySem.W.any_some hh
 have hx:s.heap.get? x=some ⟨.ref C,some dx,.plain,#[]⟩:=I.obj
 refine wpAny_bind (wpAny_pure (wpAny_bind (wpAny_bind (wpAny_loadPart hx (wpAny_bind (PySem.W.Looks.here (s:={ s with toks:=s.toks+1}) (PySem.W.looks_clsIn X hc) ?_))))))
 rw[Sv]
 refine wpAny_pure (a:=some dx) (wpAny_bind (wpAny_pure (wpAny_bind ?_)))
 refine wpAny_nsSet1 (s:={ s with toks:=s.toks+1}) I.ns fun h' OI yM=>?_
 obtain⟨oD,esD,epD,hoD,hdD,J9⟩:=OI.count (PySem.Within.cons name v hw)
 refine wpAny_bind (wpAny_lookBehind hoD (by rw[hdD];exact pastItsLine_dict (Nat.le_trans J9 (by rw[List.length_cons];omega))) ?_)
 exact wpAny_pure (h _ ⟨(yM.2 _ (Ne.symm I.ne)).trans I.obj,OI,I.ne⟩ yM)
theorem FO {R:Result→Shared→Prop}{vs:List Value}{kw:List (Str×Value)}(X:K.In s.heap)(hm:PySem.W.makesIn K C=true)(hi:PySem.W.findIn K (.ref C) "__init__"=some (some (.ref f)))(hf:PySem.W.typeIn K (.ref f)=some (.type "function"))(h:codeAny (model prog w) (A.under (.builtin "type.__call__" ⟨.ref C::vs,kw⟩)) (.call (.ref f) ⟨.ref (s.heap.objs.size+1)::vs,kw⟩) (PySem.W.InitBack (s.heap.objs.size+1) R) { s with heap:=(s.heap.push PySem.W.emptyDict).push (PySem.W.instObj C s.heap.objs.size)}):codeAny (model prog w) A (.call (.ref C) ⟨vs,kw⟩) R s:=by
 obtain⟨hh,g,d,t,os⟩:=s
 exact PySem.W.make_core (PySem.W.makes_of X hm) (PySem.W.looks_findIn X hi) (fun self=>PySem.W.bind_fn X self hf) (.inl rfl) h
theorem DQ {R:Result→Shared→Prop}(X:K.In s.heap)(hm:PySem.W.makesIn K C=true)(hi:PySem.W.findIn K (.ref C) "__init__"=some (some (.builtin "object.__init__")))(hb:∀ self,PySem.W.Looks (model prog w) s.heap (bindSpecial (.builtin "object.__init__") self) (.builtin "object.__init__",[self]))(h:codeAny (model prog w) (A.under (.builtin "type.__call__" ⟨[.ref C],[]⟩)) (.call (.builtin "object.__init__") ⟨[.ref (s.heap.objs.size+1)],[]⟩) (PySem.W.InitBack (s.heap.objs.size+1) R) { s with heap:=(s.heap.push PySem.W.emptyDict).push (PySem.W.instObj C s.heap.objs.size)}):codeAny (model prog w) A (.call (.ref C) ⟨[],[]⟩) R s:=by
 obtain⟨hh,g,d,t,os⟩:=s
 exact PySem.W.make_core (PySem.W.makes_of X hm) (PySem.W.looks_findIn X hi) hb (.inr ⟨rfl,rfl⟩) h
end
def eF (f:Str)(v:V):List (Str×V)→List (Str×V)
 | []=>[(f,v)]
 | (g,x)::r=>if g=f then (g,v)::r else (g,x)::eF f v r
theorem kX (f g:Str)(v:V):∀ fs:List (Str×V),(eF f v fs).lookup g=if g=f then some v else fs.lookup g
 | []=>by
   show List.lookup g [(f,v)]=_
   by_cases h:g=f
   . have hb:(g == f)=true:=beq_iff_eq.mpr h
     simp only[List.lookup,hb,if_pos h]
   . have hb:(g == f)=false:=beq_eq_false_iff_ne.mpr h
     simp only[List.lookup,hb,if_neg h]
 | (k,x)::r=>by
   have ih:=kX f g v r
   rw[show eF f v ((k,x)::r)=(if k=f then (k,v)::r else (k,x)::eF f v r) from rfl]
   by_cases hk:k=f
   . rw[if_pos hk]
     by_cases h:g=k
     . have hb:(g == k)=true:=beq_iff_eq.mpr h
       simp only[List.lookup,hb,if_pos (h.trans hk)]
     . have hb:(g == k)=false:=beq_eq_false_iff_ne.mpr h
       simp only[List.lookup,hb,if_neg (fun e:g=f=>h (e.trans hk.symm))]
   . rw[if_neg hk]
     by_cases h:g=k
     . have hb:(g == k)=true:=beq_iff_eq.mpr h
       simp only[List.lookup,hb,if_neg (fun e:g=f=>hk (h.symm.trans e))]
     . have hb:(g == k)=false:=beq_eq_false_iff_ne.mpr h
       simp only[List.lookup,hb]
       exact ih
theorem o7 (f:Str)(v:V):∀ fs:List (Str×V),f∈(eF f v fs).map (·.1)∧∀ g,g∈fs.map (·.1)→g∈(eF f v fs).map (·.1)
 | []=>⟨by simp[eF],fun g h=>by simp at h⟩
 | (k,x)::r=>by
   obtain⟨i1,i2⟩:=o7 f v r
   rw[show eF f v ((k,x)::r)=(if k=f then (k,v)::r else (k,x)::eF f v r) from rfl]
   by_cases hk:k=f
   . rw[if_pos hk]
     subst hk
     exact⟨by simp,fun g h=>by simpa using h⟩
   . rw[if_neg hk]
     refine⟨?_,fun g h=>?_⟩
     . rw[List.map_cons]
       exact List.mem_cons_of_mem _ i1
     . rw[List.map_cons] at h ⊢
       rcases List.mem_cons.mp h with e | e
       . exact List.mem_cons.mpr (.inl e)
       . exact List.mem_cons_of_mem _ (i2 g e)
theorem p8 (f:Str)(v:V):∀ fs:List (Str×V),(eF f v fs).length≤fs.length+1
 | []=>by simp[eF]
 | (k,x)::r=>by
   have ih:=p8 f v r
   rw[show eF f v ((k,x)::r)=(if k=f then (k,v)::r else (k,x)::eF f v r) from rfl]
   by_cases hk:k=f
   . rw[if_pos hk,List.length_cons,List.length_cons];omega
   . rw[if_neg hk,List.length_cons,List.length_cons];omega
theorem l5.some_of {v:V}{o:Option Value}(r:l5 (some v) o):∃ u,o=some u∧RelV v u:=by
 cases o with
 | none=>exact(show False from r).elim
 | some u=>exact⟨u,rfl,r⟩
theorem l5.none_of {o:Option Value}(r:l5 none o):o=none:=by
 cases o with
 | none=>rfl
 | some u=>exact(show False from r).elim
theorem DR {v:V}{u:Value}(r:RelV v u):PySem.W.handedIn u=true:=by
 cases v with
 | dQ=>cases (show u=Value.none from r);rfl
 | bl b=>cases (show u=Value.bool b from r);rfl
 | int i=>obtain⟨t,e⟩:=(show ∃ t,u=Value.int i t from r);cases e;rfl
 | str x=>obtain⟨t,e⟩:=(show ∃ t,u=Value.str x t from r);cases e;rfl
 | E8 b=>obtain⟨t,e⟩:=(show ∃ t,u=Value.bytes b t from r);cases e;rfl
 | Od b=>obtain⟨t,e⟩:=(show ∃ t,u=Value.float b t from r);cases e;rfl
 | ref a=>cases (show u=Value.ref a from r);rfl
 | ty n=>cases (show u=Value.type n from r);rfl
section
variable {P:Program}{w:World}{H H':Hp}{h h':Heap}{a C dx:Addr}{fs fs':List (Str×V)}
theorem rm (bU:nF P w H h)(e:Rd H a (.ins C dx fs)):∃ mA,AQ h a dx C mA∧(∀ f,l5 (fs.lookup f) (mA f))∧PySem.Within mA (fs.map (·.1))∧fs.length≤1000∧H dx=some (.own a):=by
 obtain⟨d,z,ne,ob,mA,n,r,q⟩:=(show bc P w H h a (.ins C dx fs) from e.ok bU)
 exact⟨mA,⟨ob,n,ne⟩,r,q,z,d⟩
end
structure nH (K:PySem.W.Frag)(C:Addr):Prop where
 pg:PySem.W.plainGet K C Str.empty=true
 hd:PySem.W.hasDictIn K C=true
 po:PySem.W.plainOver K C=true
 sa:PySem.W.findIn K (.ref C) "__setattr__"=some (some (.builtin "object.__setattr__"))
theorem nH.get {K:PySem.W.Frag}{C:Addr}(c:nH K C)(f:Str):PySem.W.plainGet K C f=true:=c.pg
def cu (K:PySem.W.Frag)(C:Addr)(f:Str):Prop:=PySem.W.findIn K (.ref C) f=some none
theorem cu.Tw {K:PySem.W.Frag}{C:Addr}{f:Str}(n:cu K C f):PySem.W.takerIn K C f=some none:=by
 unfold PySem.W.takerIn
 rw[show PySem.W.findIn K (.ref C) f=some none from n]
 rfl
structure Con (K:PySem.W.Frag)(C:Addr)(f:Str)(v:V)(u:Value):Prop where
 at_:PySem.W.findIn K (.ref C) f=some (some u)
 rel:RelV v u
 get:PySem.W.specialIn K u "__get__"=some none
 cp:PySem.W.copiedNames.contains f=false
structure Meth (K:PySem.W.Frag)(C:Addr)(m:Str)(f:Addr):Prop where
 at_:PySem.W.findIn K (.ref C) m=some (some (.ref f))
 fn:PySem.W.isFn K (.ref f)=true
 kp:PySem.W.keepIn K (.ref f)=true
section
variable {X:Cx}{pins:List (Addr×Obj)}{σ:St}{H:Hp}{s:Shared}{a C dx:Addr}{fs:List (Str×V)}{f:Str}{v:V}{A:Around}{E:Value→Shared→Prop}
theorem AR {b:Bool}{Q:Value→Shared→Prop}(I:Inv X pins σ H s)(e:Rd H a (.ins C dx fs))(c:nH X.K C)(n:cu X.K C f)(l:fs.lookup f=some v)(h:∀ u s',Inv X pins σ H s'→RelV v u→Q u s'):wpAny (model X.prog X.w) A (getAttr (.ref a) f b) Q E s:=by
 obtain⟨mA,O,r,_,_,_⟩:=rm I.bU e
 obtain⟨u,hu,ru⟩:=l5.some_of (v:=v) (o:=mA f) (by rw[← l];exact r f)
 exact get_map I.jL O (c.get f) c.hd n hu (DR ru) (h u _ (I.tok _) ru)
theorem r8 {m:Str}{g:Addr}{pl:Sem Bool}{Q:Value×List Value→Shared→Prop}(I:Inv X pins σ H s)(e:Rd H a (.ins C dx fs))(c:nH X.K C)(k:Meth X.K C m g)(l:fs.lookup m=none)(h:Q (.ref g,[.ref a]) s):wpAny (model X.prog X.w) A (getMethod (.ref a) m pl) Q E s:=by
 obtain⟨mA,O,r,_,_,_⟩:=rm I.bU e
 have hn:mA m=none:=l5.none_of (by rw[← l];exact r m)
 exact FN I.jL O (c.get m) k.at_ k.fn hn h
theorem AS {y:V}{u:Value}{Q:Unit→Shared→Prop}(I:Inv X pins σ H s)(e:H a=some (.ins C dx fs))(c:nH X.K C)(n:cu X.K C f)(hl:fs.length < 1000)(ry:RelV y u)(h:∀ s',Inv X pins σ (upd H a (.ins C dx (eF f y fs))) s'→Q () s'):wpAny (model X.prog X.w) A (setAttr (.ref a) f u) Q E s:=by
 obtain⟨mA,O,r,wi,_,ho⟩:=rm I.bU (.of e)
 have hz:(fs.map (·.1)).length≤sizeLine:=by rw[List.length_map,sizeLine_eq];omega
 refine J8 I.jL O c.sa c.po n.Tw c.hd wi hz fun h' O' sb=>h _ ?_
 have hd:∃ o,h'.get? dx=some o:=let ⟨o,_,_,e',_⟩:=O'.ns;⟨o,e'⟩
 refine I.write (x:=a) (e:=dx) (by rw[e];exact True.intro) (.inr ho) (fun b q hb z=>(sb.2 b hb).trans z) hd ?_
 refine⟨by rw[ah O.ne];exact ho,?_,O.ne,O'.obj,_,O'.ns,fun g=>?_,fun g hg=>?_⟩
 . have:=p8 f y fs;omega
 . show l5 ((eF f y fs).lookup g) (if g=f then some u else mA g)
   rw[kX]
   by_cases q:g=f
   . rw[if_pos q,if_pos q];exact ry
   . rw[if_neg q,if_neg q];exact r g
 . by_cases q:g=f
   . rw[q];exact(o7 f y fs).1
   . refine(o7 f y fs).2 g (wi g fun z=>hg ?_)
     show(if g=f then some u else mA g)=none
     rw[if_neg q];exact z
theorem Inv.made (I:Inv X pins σ H s):Inv X pins σ (upd (upd H s.heap.objs.size (.own (s.heap.objs.size+1))) (s.heap.objs.size+1) (.ins C s.heap.objs.size [])) { s with heap:=(s.heap.push PySem.W.emptyDict).push (PySem.W.instObj C s.heap.objs.size)}:=by
 have e1:(s.heap.push PySem.W.emptyDict).get? s.heap.objs.size=some PySem.W.emptyDict:=Heap.get?_push_size s.heap rfl
 have e2:((s.heap.push PySem.W.emptyDict).push (PySem.W.instObj C s.heap.objs.size)).get? (s.heap.objs.size+1)=some (PySem.W.instObj C s.heap.objs.size):=by
   have:=Heap.get?_push_size (s.heap.push PySem.W.emptyDict) (o:=PySem.W.instObj C s.heap.objs.size) rfl
   rwa [Heap.size_push] at this
 have e3:(s.heap.push PySem.W.emptyDict).Ns s.heap.objs.size (fun _=>none):=⟨PySem.W.emptyDict,#[],_,e1,rfl,(fun e he=>absurd he (by simp)),fun _=>rfl⟩
 have I1:=I.laid (a:=s.heap.objs.size) (o:=.own (s.heap.objs.size+1)) (h':=s.heap.push PySem.W.emptyDict) (t':=s.toks) (fun b u q=>Heap.get?_push_of_some _ q) (Nat.le_refl _) ⟨_,e1⟩
 refine I1.laid (a:=s.heap.objs.size+1) (o:=.ins C s.heap.objs.size []) (t':=s.toks) (fun b u q=>Heap.get?_push_of_some _ q) (Nat.le_of_eq (Heap.size_push _ _)) ?_
 have ne:s.heap.objs.size≠s.heap.objs.size+1:=Nat.ne_of_lt (Nat.lt_succ_self _)
 refine⟨by rw[ah ne,aq],Nat.zero_le _,ne,e2,fun _=>none,(Heap.Ns1.of_empty e3).at fun o q=>Heap.get?_push_of_some _ q,fun _=>True.intro,fun y hy=>absurd rfl hy⟩
theorem Ka {prog:Program}{w:World}{env:Env}{e:Expr}{f:Str}{pos:Pos}{s:Shared}{Q:Value→Shared→Prop}(hb:attributeBase e f env (eval e env)=eval e env)(h:wpAny (model prog w) A (eval e env) (fun o s₁=>wpAny (model prog w) A (getAttr o f true) Q E s₁) E s):wpAny (model prog w) A (eval (.Attribute e f pos) env) Q E s:=
 Attribute_any_ h (by rw[arm_eval_Attribute,hb])
end
def abA (K:PySem.W.Frag)(ta:TE)(f:Str):TE:=fun σ H Q=>ta σ H fun x H1=>∃ a C dx fs v,x=.ref a∧Rd H1 a (.ins C dx fs)∧nH K C∧cu K C f∧fs.lookup f=some v∧Q v H1
def abB (K:PySem.W.Frag)(ta tv:TE)(f:Str):TS:=fun D σ H=>tv σ H fun y H1=>ta σ H1 fun x H2=>∃ a C dx fs,x=.ref a∧H2 a=some (.ins C dx fs)∧nH K C∧cu K C f∧fs.length < 1000 ∧
 D.nx σ (upd H2 a (.ins C dx (eF f y fs)))
section
variable {X:Cx}{o e value:Expr}{f:Str}{pos pos' wj:Pos}{ta tv:TE}
theorem sd (he:PE X e ta)(hb:attributeBase e f X.env (eval e X.env)=eval e X.env):PE X (.Attribute e f pos) (abA X.K ta f):=by
 intro pins s σ H Q I h
 refine Ka hb (cM (he pins s σ H _ I h) fun u s1 ⟨x,H1,I1,rx,a,C,dx,fs,v,ex,ea,c,n,l,q⟩=>?_)
 subst ex
 obtain rfl:u=Value.ref a:=rx
 exact AR I1 ea c n l fun u' s2 I2 ru=>⟨v,H1,I2,ru,q⟩
theorem se (ha:PE X o ta)(hv:PE X value tv)(hs:swapsWith value (some (.Attribute o f pos')) pos.line X.env=pure false):PS X (.Assign [.Attribute o f pos'] value pos) (abB X.K ta tv f):=by
 intro pins s σ H D I h
 refine plainObj_wpAny_Assign_Attribute (cM (hv pins s σ H _ I h) fun u s1 ⟨y,H1,I1,ry,q⟩=>cM (ha pins s1 σ H1 _ I1 q) fun ov s2 ⟨x,H2,I2,rx,a,C,dx,fs,ex,ea,c,n,l,q2⟩=>?_) hs
 subst ex
 obtain rfl:ov=Value.ref a:=rx
 exact AS I2 ea c n l ry fun s3 I3=>⟨σ,_,I3,q2⟩
end
section
variable {X:Cx}{pins:List (Addr×Obj)}{σ:St}{H:Hp}{s:Shared}{A:Around}{E:Value→Shared→Prop}{Q:Value→Shared→Prop}{c:Value}{b:Bool}
inductive qo (K:PySem.W.Frag)(H:Hp):V→Value→Prop where
 | dQ:qo K H .dQ (.type "NoneType")
 | bl (x:Bool):qo K H (.bl x) (.type "bool")
 | int (i:Int):qo K H (.int i) (.type "int")
 | str (x:Str):qo K H (.str x) (.type "str")
 | Od (x:UInt64):qo K H (.Od x) (.type "float")
 | lst {a:Addr} {xs:List V} (e:H a=some (.lst xs)):qo K H (.ref a) (.type "list")
 | b8 {a:Addr} {o:Obj} {xs:List V} (e:H a=some (.b8 o (.lst xs))):qo K H (.ref a) (.type "list")
 | tup {a:Addr} {xs:List V} (e:H a=some (.tup xs)):qo K H (.ref a) (.type "tuple")
 | dK {a:Addr} {kvs:List (Key×V)} (e:H a=some (.dK kvs)):qo K H (.ref a) (.type "dict")
 | dT {a:Addr} {kvs:List (List Key×V)} (e:H a=some (.dT kvs)):qo K H (.ref a) (.type "dict")
 | ins {a C dx:Addr} {fs:List (Str×V)} (e:Rd H a (.ins C dx fs)) (cl:nH K C) (ha:PySem.W.findIn K (.ref C) "__class__"=some (some (.builtin "object.__class__")))
     (hn:PySem.W.specialIn K (.builtin "object.__class__") "__get__"=some (some (.builtin "getset_descriptor.__get__"))) (OJ:PySem.W.takesIn K (.builtin "object.__class__")=some true)
     (hm:PySem.W.mroIn K C (.type "object")=some true):qo K H (.ref a) (.ref C)
theorem o8 {x:V}{u t:Value}(I:Inv X pins σ H s)(rx:RelV x u)(ty:qo X.K H x t)(e:PySem.W.kitOne X.K t c=some b)(h:∀ tk,Q (.bool b) { s with toks:=tk}):wpAny (model X.prog X.w) A (call (.builtin "isinstance") [u,c]) Q E s:=by
 cases ty with
 | dQ=>cases (show u=Value.none from rx);exact PySem.W.kia_one PySem.W.kitx_none I.jL True.intro e (fun z=>nomatch z) h
 | bl y=>cases (show u=Value.bool y from rx);exact PySem.W.kia_one PySem.W.kitx_bool I.jL True.intro e (fun z=>nomatch z) h
 | int i=>obtain⟨t,q⟩:=(show ∃ t,u=Value.int i t from rx);cases q;exact PySem.W.kia_one PySem.W.kitx_int I.jL True.intro e (fun z=>nomatch z) h
 | str y=>obtain⟨t,q⟩:=(show ∃ t,u=Value.str y t from rx);cases q;exact PySem.W.kia_one PySem.W.kitx_str I.jL True.intro e (fun z=>nomatch z) h
 | Od y=>obtain⟨t,q⟩:=(show ∃ t,u=Value.float y t from rx);cases q;exact PySem.W.kia_one PySem.W.kitx_float I.jL True.intro e (fun z=>nomatch z) h
 | @lst a xs ea=>
   cases (show u=Value.ref a from rx)
   obtain⟨_,_,n,_,h1⟩:=(show bc X.prog X.w H s.heap a (.lst xs) from I.bU a _ ea)
   exact PySem.W.kia_one PySem.W.kitx_list I.jL ⟨_,h1,rfl⟩ e (fun z=>nomatch z) h
 | @b8 a ob xs ea=>
   cases (show u=Value.ref a from rx)
   obtain⟨_,_,_,n,_,h1⟩:=(show bc X.prog X.w H s.heap a (.b8 ob (.lst xs)) from I.bU a _ ea)
   exact PySem.W.kia_one PySem.W.kitx_list I.jL ⟨_,h1,rfl⟩ e (fun z=>nomatch z) h
 | @tup a xs ea=>
   cases (show u=Value.ref a from rx)
   obtain⟨_,_,_,p⟩:=(show bc X.prog X.w H s.heap a (.tup xs) from I.bU a _ ea)
   obtain⟨o,h1,h2,_⟩:=p
   exact PySem.W.kia_one PySem.W.kitx_tuple I.jL ⟨o,h1,h2⟩ e (fun z=>nomatch z) h
 | @dK a kvs ea=>
   cases (show u=Value.ref a from rx)
   obtain⟨_,_,vs,_,p⟩:=(show bc X.prog X.w H s.heap a (.dK kvs) from I.bU a _ ea)
   obtain⟨o,es,ep,h1,h2,_⟩:=p
   exact PySem.W.kia_one PySem.W.kitx_dict I.jL ⟨o,h1,h2.1⟩ e (fun z=>nomatch z) h
 | @dT a kvs ea=>
   cases (show u=Value.ref a from rx)
   obtain⟨_,_,xs,_,o,es,ep,h1,h2,_⟩:=(show bc X.prog X.w H s.heap a (.dT kvs) from I.bU a _ ea)
   exact PySem.W.kia_one PySem.W.kitx_dict I.jL ⟨o,h1,h2.1⟩ e (fun z=>nomatch z) h
 | @ins a C dx fs ea cl ha hn OJ hm=>
   cases (show u=Value.ref a from rx)
   obtain⟨mA,O,_⟩:=rm I.bU ea
   obtain⟨od,J,_⟩:=O.look
   exact PySem.W.kia_one (PySem.W.kitx_own (cl.get _) cl.hd ha hn OJ hm) I.jL J e (fun z=>nomatch z) h
end
end L2
namespace L2
open PySem PySem.Spec PyProof.Rows
structure er (k:Nat)(A:Around):Prop where
 hd:A.handled=none
 dp:A.depth+3 * k+5 < recursionLimit
 un:A.units+16 * k+200 < cLine
theorem er.mono {j k:Nat}{A:Around}(r:er k A)(h:j≤k):er j A:=⟨r.hd,by have:=r.dp;omega,by have:=r.un;omega⟩
theorem er.deeper {k:Nat}{A:Around}(r:er (k+1) A)(env:Env):er k (A.deeper env):=
 ⟨r.hd,by have:=r.dp;show A.depth+1+3 * k+5 < _;omega,by have:=r.un;show A.units+3+16 * k+200 < _;omega⟩
theorem AU {A:Around}{C:Addr}{us:List Value}{kw:List (Str×Value)}:(A.under (.builtin "type.__call__" ⟨.ref C::us,kw⟩)).depth=A.depth+1:=by
 first | rfl | simp[Around.under,Code.weight,Code.isCreation,Code.isGuard,Code.isCaller,Code.frames,Code.isFrame,guardIds]
theorem AV {A:Around}{C:Addr}{us:List Value}{kw:List (Str×Value)}:(A.under (.builtin "type.__call__" ⟨.ref C::us,kw⟩)).units=A.units+1:=by
 first | rfl | simp[Around.under,Code.cUnits,Code.frames,Code.isFrame]
theorem er.make {k:Nat}{A:Around}(r:er (k+1) A)(C:Addr)(us:List Value)(kw:List (Str×Value)):er k (A.under (.builtin "type.__call__" ⟨.ref C::us,kw⟩)):=
 ⟨r.hd,by have:=r.dp;rw[AU];omega,by have:=r.un;rw[AV];omega⟩
theorem er.depth {k:Nat}{A:Around}(r:er k A):A.depth < recursionLimit:=by have:=r.dp;omega
theorem er.units {k:Nat}{A:Around}(r:er k A):A.units+64 < cLine:=by have:=r.un;omega
def Tx:TA:=fun _ H Q=>Q [] H
def Tz (ta:TE)(tr:TA):TA:=fun σ H Q=>ta σ H fun x H1=>tr σ H1 fun xs H2=>Q (x::xs) H2
section
variable {X:Cx}{e:Expr}{es:List Expr}{te:TE}{t:TA}{pos:Pos}
theorem kY:PA X [] Tx:=fun _ _ _ _ H Q I h=>Calls.spliced_nil ⟨[],H,I,.nil,h⟩
theorem iO (ha:PE X e te)(hr:PA X es t)(hs:starEach (e::es) X.env=(false,eval e X.env)::starEach es X.env:=by rfl):PA X (e::es) (Tz te t):=by
 intro pos pins s σ H Q I h
 rw[hs]
 show wpAny _ _ (spliced ((false,eval e X.env)::backTo pos (starEach es X.env))) _ _ s
 refine Calls.spliced_cons (cM (ha pins s σ H _ I h) fun u s1 ⟨x,H1,I1,r1,q1⟩=>?_)
 exact cM (hr pos pins s1 σ H1 _ I1 q1) fun us s2 ⟨xs,H2,I2,r2,q2⟩=>⟨x::xs,H2,I2,.cons r1 r2,q2⟩
def abC (t:TA):TE:=fun σ H Q=>t σ H fun xs H1=>xs.length≤sizeLine∧∀ p,H1 p=none→Q (.ref p) (upd H1 p (.tup xs))
def abD (t:TA):TE:=fun σ H Q=>t σ H fun xs H1=>xs.length≤sizeLine∧∀ p,H1 p=none→Q (.ref p) (upd H1 p (.lst xs))
theorem OK {x1}(h:PA X es t):PE X (.Tuple es x1 pos) (abC t):=by
 intro pins s σ H Q I hq
 refine wpAny_Tuple_spliced (cM (h pos pins s σ H _ I hq) fun us s1 ⟨xs,H1,I1,r,z,q⟩=>⟨by rw[← r.length];exact z,?_⟩)
 have hf:H1 s1.heap.objs.size=none:=I1.bU.fresh (Nat.le_refl _)
 refine⟨.ref s1.heap.objs.size,upd H1 s1.heap.objs.size (.tup xs),I1.laid (t':=s1.toks) (fun b u e=>Heap.get?_push_of_some _ e) (Nat.le_refl _) ?_,rfl,q _ hf⟩
 exact⟨z,us,r,⟨_,Heap.get?_push_size _ rfl,rfl,_,rfl⟩⟩
theorem sh (h:PA X es t):PE X (.List es pos) (abD t):=by
 intro pins s σ H Q I hq
 refine wpAny_List_spliced (cM (h pos pins s σ H _ I hq) fun us s1 ⟨xs,H1,I1,r,z,q⟩=>⟨by rw[← r.length];exact z,?_⟩)
 have hf:H1 s1.heap.objs.size=none:=I1.bU.fresh (Nat.le_refl _)
 refine⟨.ref s1.heap.objs.size,upd H1 s1.heap.objs.size (.lst xs),I1.laid (t':=s1.toks) (fun b u e=>Heap.get?_push_of_some _ e) (Nat.le_refl _) ?_,rfl,q _ hf⟩
 exact⟨z,us,0,r,Heap.get?_push_size _ rfl⟩
end
abbrev Sp:=List V→Hp→VK→XK→Prop
abbrev mG:=List Env→Hp→Shared→XK→Value→Shared→Prop
structure yN (P:Program)(w:World)(K:PySem.W.Frag)(mg:Str→Option Value)(base:Heap)(A:Around)(outer:List Env)(s:Shared)(H:Hp):Prop where
 frames:A.frames=some outer
 mod:Mod K mg base
 bs:∀ b o,base.get? b=some o→s.heap.get? b=some o∧H b=none
 Cd:base.objs.size≤s.heap.objs.size
 oZ:s.heap.FunFrames base outer
 M6:∀ b∈Fy outer,H b=none
 bU:nF P w H s.heap
 bare:AllBare s.gens
def CE (outer:List Env)(P:Program)(w:World)(H:Hp)(s:Shared)(Q:VK)(u:Value)(s':Shared):Prop:=
 ∃ v H',s'.os=s.os∧AllBare s'.gens∧Un (Fy outer) [] H H' s.heap s'.heap∧nF P w H' s'.heap∧RelV v u∧Q v H'
def CR (CX:mG)(outer:List Env)(P:Program)(w:World)(H:Hp)(s:Shared)(Q:VK)(E:XK)(r:Result)(s':Shared):Prop:=
 match r with
 | .ok (.ret u)=>CE outer P w H s Q u s'
 | .ok _=>False
 | .error e=>CX outer H s E e s'
structure gu (P:Program)(w:World)(K:PySem.W.Frag)(mg:Str→Option Value)(base:Heap)(CX:mG)(k:Nat)(f:Addr)(fd:FuncData)(ps:List Str)(sp:Sp):Prop where
 len:∀ vs H Q E,sp vs H Q E→vs.length=ps.length
 run:∀ (A:Around) (outer:List Env) (s:Shared) (H:Hp) (args:Args) (us:List Value) (vs:List V) (Q:VK) (E:XK),er k A→yN P w K mg base A outer s H→BindsTo s fd args (ps.zip us)→Vals vs us→sp vs H Q E →
   codeAny (model P w) A (.call (.ref f) args) (CR CX outer P w H s Q E) s
theorem yN.make {P:Program}{w:World}{K:PySem.W.Frag}{mg:Str→Option Value}{base:Heap}{A:Around}{outer:List Env}{s:Shared}{H:Hp}(e:yN P w K mg base A outer s H)(C:Addr)(us:List Value)(kw:List (Str×Value)):yN P w K mg base (A.under (.builtin "type.__call__" ⟨.ref C::us,kw⟩)) outer s H:=⟨by first | exact e.frames | (simpa [Around.under,Code.envs,Code.isFrame,pushEnvs] using e.frames),e.mod,e.bs,e.Cd,e.oZ,e.M6,e.bU,e.bare⟩
section
variable {X:Cx}{pins:List (Addr×Obj)}{σ:St}{H:Hp}{s s':Shared}
theorem Inv.TB (I:Inv X pins σ H s):yN X.prog X.w X.K X.mg X.base X.A X.stack s H:=
 ⟨I.ok.frames,I.ok.mod,I.bs,Nat.le_trans I.ok.Cd I.sz,I.stack,I.rg,I.bU,I.bare⟩
theorem Inv.after {Q:VK}{u:Value}(I:Inv X pins σ H s)(h:CE X.stack X.prog X.w H s Q u s'):EP X pins σ Q u s':=by
 obtain⟨v,H',os,bare,un,bU,r,q⟩:=h
 obtain⟨hh,g,d,t,os'⟩:=s'
 obtain rfl:os'=s.os:=os
 exact⟨v,H',I.call (h':=hh) (g':=g) (d':=d) (t':=t) (ch:=[]) un bU bare (fun b z=>absurd z (by simp)),r,q⟩
end
def TC (sp:Sp)(dvs:List V)(E:XK)(t:TA):TE:=fun σ H Q=>t σ H fun vs H1=>sp (vs ++ dvs) H1 Q E
def Nc (C:Addr)(m:Str)(sp:Sp)(dvs:List V)(E:XK)(ta:TE)(t:TA):TE:=fun σ H Q=>ta σ H fun x H1=>∃ a dx fs,x=.ref a∧Rd H1 a (.ins C dx fs)∧fs.lookup m=none ∧
 t σ H1 fun vs H2=>sp (x::(vs ++ dvs)) H2 Q E
def TF (C:Addr)(sp:Sp)(dvs:List V)(E:XK)(t:TA):TE:=fun σ H Q=>t σ H fun vs H1=>∀ x dx,H1 x=none→H1 dx=none→dx≠x →
 sp (.ref x::(vs ++ dvs)) (upd (upd H1 dx (.own x)) x (.ins C dx [])) (fun v H2=>v=.dQ∧Q (.ref x) H2) E
def Binds (K:PySem.W.Frag)(fd:FuncData)(ps:List Str)(ds:List Value):Prop:=
 ∀ (s:Shared) (us:List Value),K.In s.heap→(us ++ ds).length=ps.length→BindsTo s fd ⟨us,[]⟩ (ps.zip (us ++ ds))
theorem Binds.all {K:PySem.W.Frag}{fd:FuncData}{ps:List Str}(h:∀ us:List Value,us.length=ps.length→bindArgs fd ⟨us,[]⟩=pure (ps.zip us)):Binds K fd ps []:=fun s us _ hl=>by
 rw[List.append_nil] at hl ⊢
 exact .of_eq (h us hl)
def Passes (CX:mG)(X:Cx)(E:XK):Prop:=∀ (pins:List (Addr×Obj)) (σ:St) (H:Hp) (s:Shared) (e:Value) (s':Shared),Inv X pins σ H s→CX X.stack H s E e s'→X.xe e s'
section
variable {X:Cx}{CX:mG}{k:Nat}{f C:Addr}{fd:FuncData}{ps:List Str}{sp:Sp}{dvs:List V}{ds:List Value}{E:XK}{x m:Str}{p pos apos:Pos}{e o:Expr}{es:List Expr}{ta:TE}{t:TA}
theorem AW {pins:List (Addr×Obj)}{σ:St}{H:Hp}{s:Shared}{Q:VK}{us:List Value}{vs:List V}(F:gu X.prog X.w X.K X.mg X.base CX k f fd ps sp)(hr:er k X.A)(hb:Binds X.K fd ps ds)(hd:Vals dvs ds)(hx:Passes CX X E)(I:Inv X pins σ H s)(r:Vals vs us)(h:sp (vs ++ dvs) H Q E):wpAny (model X.prog X.w) X.A (call (.ref f) us) (EP X pins σ Q) X.xe s:=by
 have r2:Vals (vs ++ dvs) (us ++ ds):=r.append hd
 have hl:(us ++ ds).length=ps.length:=by rw[← r2.length];exact F.len _ _ _ _ h
 refine wpAny_call (codeAny_mono (F.run X.A X.stack s H ⟨us,[]⟩ (us ++ ds) (vs ++ dvs) Q E hr I.TB (hb s us I.jL hl) r2 h) fun r s' hq=>?_)
 cases r with
 | error e=>exact hx pins σ H s e s' I hq
 | ok fl=>
   cases fl with
   | ret u=>exact I.after hq
   | next=>exact False.elim hq
   | brk=>exact False.elim hq
   | cont=>exact False.elim hq
theorem Cj (F:gu X.prog X.w X.K X.mg X.base CX k f fd ps sp)(hr:er k X.A)(hg:Gl X x)(hm:X.mg x=some (.ref f))(hk:PySem.W.keepIn X.K (.ref f)=true)(hb:Binds X.K fd ps ds)(hd:Vals dvs ds)(hx:Passes CX X E)(ha:PA X (e::es) t)(jK:(x == ("__debug__":Str))=false:=by decide)(he:starEach (e::es) X.env=(false,eval e X.env)::starEach es X.env:=by rfl)(kH:(backTo pos (starEach es X.env)).any (·.1)=false:=by rfl):PE X (.Call (.Name x p) (e::es) [] pos) (TC sp dvs E t):=by
 intro pins s σ H Q I h
 refine wpAny_Call_Name_kw (rh I hg hm ?_ jK)
 refine PySem.W.callWith_K (h₀:=X.base) I.ok.mod.SY hk (cM (ha pos pins s σ H _ I h) fun us s1 ⟨vs,H1,I1,r,q⟩=>⟨I1.jL,?_⟩) he kH
 exact AW F hr hb hd hx I1 r q
theorem Ck {pl:Sem Bool}(he:PE X o ta)(c:nH X.K C)(hm:Meth X.K C m f)(F:gu X.prog X.w X.K X.mg X.base CX k f fd ps sp)(hr:er k X.A)(hb:Binds X.K fd ps ds)(hd:Vals dvs ds)(hx:Passes CX X E)(ha:PA X (e::es) t)
   (kG:starEach (e::es) X.env=(false,eval e X.env)::starEach es X.env:=by rfl) (kH:(backTo pos (starEach es X.env)).any (·.1)=false:=by rfl)
   (ht:eval (.Call (.Attribute o m apos) (e::es) [] pos) X.env=(do
     let ov ← eval o X.env
     standAt apos.atName
     let (f,first) ← holding [ov] (getMethod ov m pl)
     callWith pos f first (backTo pos (starEach (e::es) X.env)) (backToKw pos (keywordEach [] X.env))):=by rfl) :
   PE X (.Call (.Attribute o m apos) (e::es) [] pos) (Nc C m sp dvs E ta t):=by
 intro pins s σ H Q I h
 refine PySem.W.methodCall_KW (pl:=pl) (cM (he pins s σ H _ I h) fun u s1 ⟨x,H1,I1,rx,a,dx,fs,ex,ea,l,q⟩=>?_) ht
 subst ex
 obtain rfl:u=Value.ref a:=rx
 refine r8 I1 ea c hm l ?_
 refine PySem.W.callWith_K (first:=[.ref a]) (h₀:=X.base) I.ok.mod.SY hm.kp (cM (ha pos pins s1 σ H1 _ I1 q) fun us s2 ⟨vs,H2,I2,r,q2⟩=>⟨I2.jL,?_⟩) kG kH
 exact AW (us:=.ref a::us) (vs:=.ref a::vs) F hr hb hd hx I2 (.cons rfl r) q2
theorem yO {pl:Sem Bool}(he:PE X o ta)(c:nH X.K C)(hm:Meth X.K C m f)(F:gu X.prog X.w X.K X.mg X.base CX k f fd ps sp)(hr:er k X.A)(hb:Binds X.K fd ps ds)(hd:Vals dvs ds)(hx:Passes CX X E)
   (ht:eval (.Call (.Attribute o m apos) [] [] pos) X.env=(do
     let ov ← eval o X.env
     standAt apos.atName
     let (f,first) ← holding [ov] (getMethod ov m pl)
     callWith pos f first (backTo pos (starEach [] X.env)) (backToKw pos (keywordEach [] X.env))):=by rfl) :
   PE X (.Call (.Attribute o m apos) [] [] pos) (Nc C m sp dvs E ta Tx):=by
 intro pins s σ H Q I h
 refine PySem.W.methodCall_KW (pl:=pl) (cM (he pins s σ H _ I h) fun u s1 ⟨x,H1,I1,rx,a,dx,fs,ex,ea,l,q⟩=>?_) ht
 subst ex
 obtain rfl:u=Value.ref a:=rx
 refine r8 I1 ea c hm l ?_
 exact PySem.W.callWith_K0 (first:=[.ref a]) I1.jL hm.kp (AW (us:=[.ref a]) (vs:=[.ref a]) F hr hb hd hx I1 (.cons rfl .nil) q)
structure Mk (K:PySem.W.Frag)(C f:Addr):Prop where
 makes:PySem.W.makesIn K C=true
 init:PySem.W.findIn K (.ref C) "__init__"=some (some (.ref f))
 fn:PySem.W.isFn K (.ref f)=true
 kp:PySem.W.keepIn K (.ref C)=true
theorem FP {pins:List (Addr×Obj)}{σ:St}{H:Hp}{s:Shared}{Q:VK}{us:List Value}{vs:List V}(M:Mk X.K C f)(F:gu X.prog X.w X.K X.mg X.base CX k f fd ps sp)(hr:er (k+1) X.A)(hb:Binds X.K fd ps ds)(hd:Vals dvs ds)(hx:Passes CX X E)(I:Inv X pins σ H s)(r:Vals vs us)(h:∀ x dx,H x=none→H dx=none→dx≠x→sp (.ref x::(vs ++ dvs)) (upd (upd H dx (.own x)) x (.ins C dx [])) (fun v H2=>v=.dQ∧Q (.ref x) H2) E):wpAny (model X.prog X.w) X.A (call (.ref C) us) (EP X pins σ Q) X.xe s:=by
 have hq:=h (s.heap.objs.size+1) s.heap.objs.size (I.bU.fresh (Nat.le_succ _)) (I.bU.fresh (Nat.le_refl _)) (Nat.ne_of_lt (Nat.lt_succ_self _))
 have I2:=Inv.made (C:=C) I
 have r2:Vals (V.ref (s.heap.objs.size+1)::(vs ++ dvs)) (Value.ref (s.heap.objs.size+1)::(us ++ ds)):=.cons rfl (r.append hd)
 have hl:(Value.ref (s.heap.objs.size+1)::us ++ ds).length=ps.length:=by
   have e:=r2.length
   rw[F.len _ _ _ _ hq] at e
   exact e.symm
 refine wpAny_call (FO (f:=f) I.jL M.makes M.init (beq_iff_eq.mp M.fn) (codeAny_mono (F.run _ X.stack _ _ ⟨Value.ref (s.heap.objs.size+1)::us,[]⟩ (Value.ref (s.heap.objs.size+1)::(us ++ ds)) _ _ E (hr.make C us [])
   (I2.TB.make C us []) (hb _ (Value.ref (s.heap.objs.size+1)::us) I2.jL hl) r2 hq) fun r s' TH=>?_))
 cases r with
 | error e=>exact hx pins σ _ _ e s' I2 TH
 | ok fl=>
   cases fl with
   | ret u=>
     obtain⟨v,H',I3,rv,ev,q3⟩:=I2.after TH
     subst ev
     exact⟨rv,⟨V.ref (s.heap.objs.size+1),H',I3,rfl,q3⟩⟩
   | next=>exact False.elim TH
   | brk=>exact False.elim TH
   | cont=>exact False.elim TH
theorem Cm (M:Mk X.K C f)(F:gu X.prog X.w X.K X.mg X.base CX k f fd ps sp)(hr:er (k+1) X.A)(hg:Gl X x)(hm:X.mg x=some (.ref C))(hb:Binds X.K fd ps ds)(hd:Vals dvs ds)(hx:Passes CX X E)(ha:PA X (e::es) t)(jK:(x == ("__debug__":Str))=false:=by decide)(he:starEach (e::es) X.env=(false,eval e X.env)::starEach es X.env:=by rfl)(kH:(backTo pos (starEach es X.env)).any (·.1)=false:=by rfl):PE X (.Call (.Name x p) (e::es) [] pos) (TF C sp dvs E t):=by
 intro pins s σ H Q I h
 refine wpAny_Call_Name_kw (rh I hg hm ?_ jK)
 refine PySem.W.callWith_K (h₀:=X.base) I.ok.mod.SY M.kp (cM (ha pos pins s σ H _ I h) fun us s1 ⟨vs,H1,I1,r,q⟩=>⟨I1.jL,?_⟩) he kH
 exact FP M F hr hb hd hx I1 r q
end
section
variable {X:Cx}{CX:mG}{k:Nat}{f C:Addr}{fd:FuncData}{ps ks:List Str}{sp:Sp}{E:XK}{x m:Str}{p pos apos aiN:Pos}{e o:Expr}{es:List Expr}{kws:List Keyword}{te ta:TE}{t tk:TA}{nm:Option Str}
structure abF (K:PySem.W.Frag)(fd:FuncData)(ps ks:List Str)(g:List Value→List Value→List Value)(gV:List V→List V→List V):Prop where
 to:∀ (s:Shared) (us ws:List Value),K.In s.heap→(g us ws).length=ps.length→BindsTo s fd ⟨us,ks.zip ws⟩ (ps.zip (g us ws))
 rel:∀ {vs:List V} {us:List Value} {zs:List V} {ws:List Value},Vals vs us→Vals zs ws→Vals (gV vs zs) (g us ws)
variable {g:List Value→List Value→List Value}{gV:List V→List V→List V}
end
structure ax (N P:List Str)(sc:Scope):Prop where
 kind:sc.kind=.function
 co:sc.isCoroutine=false
 gen:sc.isGenerator=false
 nd:N.Nodup
 pre:N.take P.length=P
 par:∀ x∈P,sc.names.lookup x=some .local∨sc.names.lookup x=some .cell
 OL:∀ y∈sc.names,y.2≠.free
theorem vy {kindOf:Str→Option NameKind}{x:Str}:∀ {binds:List (Str×Value)} {m:Str→Option Value},(∀ v,(x,v) ∉ binds)→bindL kindOf binds m x=m x
 | [],_,_=>rfl
 | (n,v)::r,m,h=>by
   unfold bindL
   rw[vy fun w hw=>h w (List.mem_cons_of_mem _ hw)]
   split
   . have:x≠n:=by rintro rfl;exact h v List.mem_cons_self
     simp[this]
   . rfl
theorem vz {kindOf:Str→Option NameKind}{x:Str}:∀ {binds:List (Str×Value)} {m:Str→Option Value},(∀ v,(x,v) ∉ binds)→bindC kindOf binds m x=m x
 | [],_,_=>rfl
 | (n,v)::r,m,h=>by
   unfold bindC
   rw[vz fun w hw=>h w (List.mem_cons_of_mem _ hw)]
   split
   . rfl
   . have:x≠n:=by rintro rfl;exact h v List.mem_cons_self
     simp[this]
theorem vA {kindOf:Str→Option NameKind}{x:Str}{v:Value}:∀ {P:List Str} {vs:List Value} {i:Nat} {m:Str→Option Value},P.Nodup→P[i]?=some x→vs[i]?=some v→kindOf x=some .local→bindL kindOf (P.zip vs) m x=some v
 | [],_,_,_,_,h,_,_=>by simp at h
 | _::_,[],_,_,_,_,h,_=>by simp at h
 | p::P,w::vs,0,m,nd,h1,h2,hk=>by
   simp at h1 h2;subst h1;subst h2
   show bindL kindOf ((p,w)::P.zip vs) m p=_
   unfold bindL
   rw[vy fun v hv=>(List.nodup_cons.mp nd).1 (List.of_mem_zip hv).1,if_pos hk]
   simp
 | p::P,w::vs,i+1,m,nd,h1,h2,hk=>by
   show bindL kindOf ((p,w)::P.zip vs) m x=_
   unfold bindL
   exact vA (i:=i) (List.nodup_cons.mp nd).2 (by simpa using h1) (by simpa using h2) hk
theorem vB {kindOf:Str→Option NameKind}{x:Str}{v:Value}:∀ {P:List Str} {vs:List Value} {i:Nat} {m:Str→Option Value},P.Nodup→P[i]?=some x→vs[i]?=some v→kindOf x≠some .local→bindC kindOf (P.zip vs) m x=some v
 | [],_,_,_,_,h,_,_=>by simp at h
 | _::_,[],_,_,_,_,h,_=>by simp at h
 | p::P,w::vs,0,m,nd,h1,h2,hk=>by
   simp at h1 h2;subst h1;subst h2
   show bindC kindOf ((p,w)::P.zip vs) m p=_
   unfold bindC
   rw[vz fun v hv=>(List.nodup_cons.mp nd).1 (List.of_mem_zip hv).1,if_neg hk]
   simp
 | p::P,w::vs,i+1,m,nd,h1,h2,hk=>by
   show bindC kindOf ((p,w)::P.zip vs) m x=_
   unfold bindC
   exact vB (i:=i) (List.nodup_cons.mp nd).2 (by simpa using h1) (by simpa using h2) hk
def start (N:List Str)(vs:List V):St:=vs.map some ++ List.replicate (N.length - vs.length) none
def yP (CX:mG)(P:Program)(w:World)(K:PySem.W.Frag)(mg:Str→Option Value)(base:Heap)(N:List Str)(qual:Str)(scope:Scope)(f:Addr)(cd:Value)(A:Around)(outer:List Env)(s:Shared)(H:Hp)(E:XK):Cx where
 prog:=P
 w:=w
 K:=K
 mg:=mg
 base:=base
 A:=A.deeper (envOfC qual scope s.heap.objs.size f cd)
 N:=N
 s₀:=s
 H₀:=H
 env:=envOfC qual scope s.heap.objs.size f cd
 outer:=outer
 stack:=envOfC qual scope s.heap.objs.size f cd::outer
 ex:=[]
 calm:=true
 fn:=fun _=>true
 pn:=[]
 xe:=fun e s'=>wpAny (model P w) (A.deeper (envOfC qual scope s.heap.objs.size f cd)) (leaving (envOfC qual scope s.heap.objs.size f cd) e) (fun _ OM=>CX outer H s E e OM) (fun e' OM=>CX outer H s E e' OM) s'
theorem yQ {sc:Scope}{n:Nat}{x:Str}(h:sc.names.lookup x=some .cell):∃ c,(cellsFrom n sc.names []).lookup x=some c:=by
 have q:=PySem.W.cellsFrom_some sc.names n [] (.inl h)
 exact Option.isSome_iff_exists.mp q
theorem DS {CX:mG}{P:Program}{w:World}{K:PySem.W.Frag}{mg:Str→Option Value}{base:Heap}{N ps:List Str}{qual:Str}{scope:Scope}{f:Addr}{cd:Value}{A:Around}{outer:List Env}{s s1:Shared}{H:Hp}{E:XK}{us:List Value}{vs:List V}(S:ax N ps scope)(hd:A.handled=none)(e0:yN P w K mg base A outer s H)(hl:vs.length=ps.length)(r:Vals vs us)(x:InCallC s s.heap.objs.size (bindL (envOfC qual scope s.heap.objs.size f cd).kindOf (ps.zip us) fun _=>none) (cellsFrom (s.heap.objs.size+1) scope.names []) (bindC (envOfC qual scope s.heap.objs.size f cd).kindOf (ps.zip us) fun _=>none) s1):Inv (yP CX P w K mg base N qual scope f cd A outer s H E) [] (start N vs) H s1:=by
 have kH:ps.length≤N.length:=by have:=congrArg List.length S.pre;rw[List.length_take] at this;omega
 obtain⟨h1,tk,rfl,hk⟩:=x.done
 have TJ:∀ b:Addr,b ∉ (yP CX P w K mg base N qual scope f cd A outer s H E).ex:=fun b z=>absurd (show b∈([]:List Addr) from z) (by simp)
 refine⟨⟨e0.mod,S.kind,rfl,rfl,Nat.le_refl _,fun y z c h1 h2=>?_,fun y hy=>?_,fun y c _ h=>?_,fun _=>hd,Around.frames_deeper e0.frames,.inr ⟨rfl,rfl⟩,fun b z=>absurd z (TJ b),e0.bs,e0.Cd,fun b _ _=>TJ b,fun b z=>absurd z (TJ b),e0.oZ,e0.M6⟩,
   rfl,e0.bare,Un.kept hk,⟨_,x.toInCall.ns,fun i y v h1 h2 h3=>?_⟩,fun y c h=>⟨_,x.cell y c h⟩,e0.bU.fresh (Nat.le_refl _),fun y c h=>?_,fun p hp=>absurd (show p∈([]:List (Addr×Obj)) from hp) (by simp),e0.bU.kept hk,?_⟩
 . exact name_of_addr x.apart (PySem.mem_of_lookup h1) (PySem.mem_of_lookup h2)
 . have hy:scope.names.lookup y=some .cell∨scope.names.lookup y=some .free:=hy
   rcases hy with hy | hy
   . exact yQ hy
   . exact absurd rfl (S.OL _ (PySem.mem_of_lookup hy))
 . exact Nat.le_of_lt (x.above y c (PySem.mem_of_lookup h))
 . have hi:i < vs.length:=by
     unfold start at h2
     by_cases hi:i < vs.length
     . exact hi
     . rw[List.getElem?_append_right (by simpa using hi)] at h2
       rw[List.getElem?_replicate] at h2
       split at h2 <;> cases h2
   have ha:vs[i]?=some v:=by
     unfold start at h2
     rw[List.getElem?_append_left (by simpa using hi),List.getElem?_map] at h2
     cases e:vs[i]? with
     | none=>rw[e] at h2;cases h2
     | some a=>rw[e] at h2;cases h2;rfl
   obtain⟨u,hu,rv⟩:=r.get ha
   have hp:ps[i]?=some y:=by
     rw[← S.pre,List.getElem?_take_of_lt (by omega)];exact h1
   have ndP:ps.Nodup:=by rw[← S.pre];exact S.nd.sublist (List.take_sublist _ _)
   refine⟨u,rv,?_⟩
   rcases S.par y (List.mem_of_getElem? hp) with k | k
   . exact .inl ⟨k,vA ndP hp hu k⟩
   . obtain⟨c,e⟩:=yQ (n:=s.heap.objs.size+1) k
     refine .inr ⟨.inl k,c,e,?_⟩
     have q:=x.cell y c e
     rw[vB ndP hp hu (by show scope.names.lookup y≠_;rw[k];decide)] at q
     exact q
 . exact e0.bU.fresh (Nat.le_of_lt (x.above y c (PySem.mem_of_lookup h)))
 . unfold start
   show _=N.length
   rw[List.length_append,List.length_map,List.length_replicate]
   omega
theorem FQ {CX:mG}{P:Program}{w:World}{K:PySem.W.Frag}{mg:Str→Option Value}{base:Heap}{k:Nat}{f:Addr}{name qual:Str}{params:Arguments}{body:List Stmt}{scope:Scope}{dV kV doc pm cS ct oc:Value}{an od:Option Addr}{AX:Array (Option Value)}{N ps:List Str}{sp:Sp}(lk:K.lookup f=some ⟨oc,od,.func (PySem.W.fnOf name qual params body scope dV kV doc pm an cS ct),AX⟩)(jJ:PySem.W.codeIn K cS qual=true)(S:ax N ps scope)(len:∀ vs H Q E,sp vs H Q E→vs.length=ps.length)(nI:∀ (A:Around) (outer:List Env) (s:Shared) (H:Hp) (vs:List V) (Q:VK) (E:XK),er k (A.deeper (envOfC qual scope s.heap.objs.size f cS))→sp vs H Q E→∃ t,AI (yP CX P w K mg base N qual scope f cS A outer s H E) body t∧t { nx:=fun _ H'=>Q .dQ H',rt:=Q} (start N vs) H):gu P w K mg base CX (k+1) f (PySem.W.fnOf name qual params body scope dV kV doc pm an cS ct) ps sp:=by
 refine⟨len,fun A outer s H args us vs Q E hr e0 hb r Nd=>?_⟩
 have hl:=len _ _ _ _ Nd
 have KX:K.In s.heap:=e0.mod.SY.keeps fun b o e=>(e0.bs b o e).1
 have lim:s.heap.NoLimit:=e0.mod.nolimit.keeps fun b o e=>(e0.bs b o e).1
 have TK:∀ y∈ps.zip us,scope.names.lookup y.1=some .local∨(scope.names.lookup y.1=some .cell∧((cellsFrom (s.heap.objs.size+1) scope.names []).lookup y.1).isSome=true):=fun⟨n,v⟩ hy=>by
   rcases S.par n (List.of_mem_zip hy).1 with q | q
   . exact .inl q
   . exact .inr ⟨q,PySem.W.cellsFrom_some _ _ _ (.inl q)⟩
 refine codeAny_call_function hr.depth (KX _ _ lk) rfl S.co S.gen rfl (PySem.W.codeRec_of KX jJ) (hb _ _ _ _ ?_)
 refine wpAny_newFunctionEnv_cells S.kind TK fun env he s1 x=>?_
 subst he
 refine⟨lim.keeps x.toInCall.keep,codeAny_func ?_⟩
 obtain⟨t,ht,hq⟩:=nI A outer s H vs Q E (hr.deeper _) Nd
 have I:Inv (yP CX P w K mg base N qual scope f cS A outer s H E) [] (start N vs) H s1:=DS S hr.hd e0 hl r x
 refine wpAny_mono (ht [] s1 (start N vs) H _ I hq) (fun fl s' hs=>?_) fun e s' hs=>hs
 have fin:∀ {σ':St} {H':Hp} {v:V} {u:Value},Inv (yP CX P w K mg base N qual scope f cS A outer s H E) [] σ' H' s'→RelV v u→Q v H'→CE outer P w H s Q u s':=
   fun {σ' H' v u} J rv q=>⟨v,H',J.os,J.bare,J.base,J.bU,rv,q⟩
 cases fl with
 | ret u=>
   obtain⟨v,σ',H',J,rv,q⟩:=hs
   exact fin J rv q
 | next=>
   obtain⟨σ',H',J,q⟩:=hs
   exact fin (v:=V.dQ) (u:=Value.none) J rfl q
 | brk=>
   obtain⟨_,_,_,q⟩:=hs
   exact False.elim q
 | cont=>
   obtain⟨_,_,_,q⟩:=hs
   exact False.elim q
end L2
namespace L2
open PySem PySem.Spec PyProof.Rows
section
variable {X:Cx}{x:Str}{p pos:Pos}{e:Expr}{es:List Expr}{t:TA}{id T:String}{r:List V→Hp→VK→Prop}
def tCB (r:List V→Hp→VK→Prop)(t:TA):TE:=fun σ H Q=>t σ H fun vs H1=>r vs H1 Q
theorem eQ (hc:gZ X (.builtin id) r)(hg:Gl X x)(hm:X.mg x=none)(hv:bootBuiltins x=some (.builtin id))(ha:PA X (e::es) t)(hn:x≠"__name__":=by decide)(jK:(x == ("__debug__":Str))=false:=by decide)(he:starEach (e::es) X.env=(false,eval e X.env)::starEach es X.env:=by rfl)(kH:(backTo pos (starEach es X.env)).any (·.1)=false:=by rfl):PE X (.Call (.Name x p) (e::es) [] pos) (tCB r t):=by
 intro pins s σ H Q I h
 refine wpAny_Call_Name_kw (mX I hg hm hv ?_ hn jK)
 exact PyProof.Rows.callWith_builtin1 (cM (ha pos pins s σ H _ I h) fun us s1 ⟨vs,H1,I1,r1,q1⟩=>hc pins s1 σ H1 vs us Q I1 r1 q1) he kH
theorem lN (hc:gZ X (.type T) r)(hg:Gl X x)(hm:X.mg x=none)(hv:bootBuiltins x=some (.type T))(ha:PA X (e::es) t)(hn:x≠"__name__":=by decide)(jK:(x == ("__debug__":Str))=false:=by decide)(he:starEach (e::es) X.env=(false,eval e X.env)::starEach es X.env:=by rfl)(kH:(backTo pos (starEach es X.env)).any (·.1)=false:=by rfl):PE X (.Call (.Name x p) (e::es) [] pos) (tCB r t):=by
 intro pins s σ H Q I h
 refine wpAny_Call_Name_kw (mX I hg hm hv ?_ hn jK)
 exact PyProof.Rows.callWith_type1 (cM (ha pos pins s σ H _ I h) fun us s1 ⟨vs,H1,I1,r1,q1⟩=>hc pins s1 σ H1 vs us Q I1 r1 q1) he kH
end
end L2
namespace HT
open PySem PyProof.Rows
section
open PySem.SeqAt
open PySem.AutoSeq1 (wpAny_loadPart')
open PySem.MeetsSeq PySem.MeetsSeq2 PySem.MeetsSeq3
end
section
variable {prog:Program}{w:World}{A:Around}{E:Value→Shared→Prop}{s:Shared}
def yR (n d:Nat):Option Int→Nat
 | none=>d
 | some v=>if v < 0 then (v+(n:Int)).toNat else min v.toNat n
theorem FR (n d:Nat):yR n d none=d:=rfl
theorem Kb (n d k:Nat):yR n d (some (k:Int))=min k n:=by
 show(if (k:Int) < 0 then ((k:Int)+(n:Int)).toNat else min (k:Int).toNat n)=min k n
 rw[if_neg (by omega),Int.toNat_natCast]
end
end HT
namespace L2
open PySem PySem.Spec PyProof.Rows
abbrev TO:=St→Hp→(Option Int→Hp→Prop)→Prop
def PO (X:Cx)(e:Option Expr)(t:TO):Prop:=
 ∀ (pins:List (Addr×Obj)) (s:Shared) (σ:St) (H:Hp) (Q:Option Int→Hp→Prop),Inv X pins σ H s→t σ H Q →
   wpAny (model X.prog X.w) X.A (evalPart e X.env) (fun u s'=>∃ o H',Inv X pins σ H' s'∧IsPart u o∧Q o H') X.xe s
def Kc:TO:=fun _ H Q=>Q none H
def TL (t:TE):TO:=fun σ H Q=>t σ H fun x H1=>∃ i,x=.int i∧Q (some i) H1
section
variable {X:Cx}{e:Expr}{te:TE}{lo hi:Option Expr}{tl th:TO}{pos p2:Pos}
theorem Cn:PO X none Kc:=by
 intro pins s σ H Q I h
 rw[evalPart_none]
 exact wpAny_pure ⟨none,H,I,.none,h⟩
theorem Cp (h:PE X e te):PO X (some e) (TL te):=by
 intro pins s σ H Q I hw
 rw[evalPart_some]
 refine cM (h pins s σ H _ I hw) fun u s1 ⟨x,H1,I1,r1,q1⟩=>?_
 obtain⟨i,rfl,q⟩:=q1
 obtain⟨t,rfl⟩:=r1
 exact⟨some i,H1,I1,.int i t,q⟩
def SlR (X:Cx)(r:V→Option Int→Option Int→Hp→VK→Prop):Prop:=
 ∀ (pins:List (Addr×Obj)) (s:Shared) (σ:St) (H:Hp) (x:V) (v vl vu:Value) (lo hi:Option Int) (sl:Addr) (Q:VK),Inv X pins σ H s→RelV x v→s.heap.IsSliceOf sl vl vu .none→IsPart vl lo→IsPart vu hi→r x lo hi H Q →
   ∃ T id,typeLookup (.type T) "__getitem__"=pure (some (.builtin id))∧s.TypeIs v T∧wpAny (model X.prog X.w) X.A (getItem v (.ref sl)) (EP X pins σ Q) X.xe s
def tSl (r:V→Option Int→Option Int→Hp→VK→Prop)(te:TE)(tl th:TO):TE:=fun σ H Q=>te σ H fun x H1=>tl σ H1 fun l H2=>th σ H2 fun u H3=>r x l u H3 Q
theorem yS {r:V→Option Int→Option Int→Hp→VK→Prop}(hr:SlR X r)(he:PE X e te)(hl:PO X lo tl)(hu:PO X hi th):PE X (.Subscript e (.Slice lo hi none p2) pos) (tSl r te tl th):=by
 intro pins s σ H Q I h
 refine Subscript_ (cM (he pins s σ H _ I h) fun v s1 ⟨x,H1,I1,r1,q1⟩=>?_)
 refine wpAny_Slice (cM (hl pins s1 σ H1 _ I1 q1) fun vl s2 ⟨l,H2,I2,pl,q2⟩=>cM (hu pins s2 σ H2 _ I2 q2) fun vu s3 ⟨u,H3,I3,pu,q3⟩=>?_)
 rw[evalPart_none]
 refine wpAny_pure ?_
 have I4:Inv X pins σ H3 { s3 with heap:=s3.heap.push { cls:=.type "slice",data:=.fields #[vl,vu,.none]}}:=I3.kept (t':=s3.toks) fun b ob q=>Heap.get?_push_of_some _ q
 obtain⟨T,id,hT,ht,hg⟩:=hr pins { s3 with heap:=s3.heap.push { cls:=.type "slice",data:=.fields #[vl,vu,.none]}} σ H3 x v vl vu l u s3.heap.objs.size Q I4 r1 (Heap.IsSliceOf.new ..) pl pu q3
 show wpAny (model X.prog X.w) X.A (subscriptTail e (.Slice lo hi none p2) v (.ref s3.heap.objs.size)) (EP X pins σ Q) X.xe { s3 with heap:=s3.heap.push { cls:=.type "slice",data:=.fields #[vl,vu,.none]}}
 exact tail_any (ops:=[.ref s3.heap.objs.size,v]) ht hT hg (by with_unfolding_all rfl)
def DT (xs:List V)(lo hi:Option Int):List V:=(xs.drop (HT.yR xs.length 0 lo)).take (HT.yR xs.length xs.length hi - HT.yR xs.length 0 lo)
theorem yT (xs:List V)(lo hi:Option Int):(DT xs lo hi).length≤xs.length:=by
 unfold DT
 rw[List.length_take,List.length_drop]
 omega
theorem yU:gZ X (.type "tuple") (fun xs H Q=>∃ a ys,xs=[.ref a]∧Az X.K H a ys∧Q (.ref a) H):=by
 intro pins s σ H xs us Q I r h
 obtain⟨a,ys,rfl,ha,q⟩:=h
 obtain⟨u,rfl,ru⟩:=vals1 r
 cases ru
 obtain⟨aI,_,p1,_⟩:=I.tuple ha
 exact call_tuple_same (items:=aI.toArray) p1 ⟨.ref a,H,I,rfl,q⟩
end
end L2
namespace L2
open PySem PySem.Spec PyProof.Rows
def AY (n:Nat)(i:Int):Option Nat:=if 0≤i then (if i < n then some i.toNat else none) else if -(n:Int)≤i then some (i+n).toNat else none
def jO {α:Type}(xs:List α)(i:Int):Option α:=(AY xs.length i).bind fun j=>xs[j]?
theorem Cq {n:Nat}{i:Int}{j:Nat}(h:AY n i=some j):seqIndex? i n=some j∧j < n∧-(n:Int)≤i∧i < n:=by
 unfold AY at h
 by_cases h0:0≤i
 . rw[if_pos h0] at h
   by_cases h1:i < n
   . rw[if_pos h1] at h
     have e:i.toNat=j:=Option.some.inj h
     exact⟨by rw[seqIndex_of h0 h1,e],by omega,by omega,h1⟩
   . rw[if_neg h1] at h;cases h
 . rw[if_neg h0] at h
   by_cases h1:-(n:Int)≤i
   . rw[if_pos h1] at h
     have e:(i+n).toNat=j:=Option.some.inj h
     exact⟨by rw[seqIndex_neg (by omega) h1,e],by omega,h1,by omega⟩
   . rw[if_neg h1] at h;cases h
theorem wk {α:Type}{xs:List α}{i:Int}{v:α}(h:jO xs i=some v):∃ j,seqIndex? i xs.length=some j∧xs[j]?=some v∧j < xs.length∧-(xs.length:Int)≤i∧i < xs.length:=by
 unfold jO at h
 cases e:AY xs.length i with
 | none=>rw[e] at h;cases h
 | some j=>
   rw[e] at h
   obtain⟨h1,h2,h3,h4⟩:=Cq e
   exact⟨j,h1,h,h2,h3,h4⟩
theorem iP {α:Type}{xs:List α}{j:Nat}{v:α}(h:xs[j]?=some v):jO xs (j:Int)=some v:=by
 have hj:j < xs.length:=(List.getElem?_eq_some_iff.mp h).1
 have e:AY xs.length (j:Int)=some j:=by
   unfold AY
   rw[if_pos (by omega),if_pos (by omega)];simp
 unfold jO;rw[e];exact h
def ia (b:Expr):Prop:=∀ o i,subscripted b false o i=operate [o,i] (getItem o i)
def Sy (X:Cx)(r:R2):Prop:=
 ∀ (value slice:Expr) (pins:List (Addr×Obj)) (s:Shared) (σ:St) (H:Hp) (x y:V) (v u:Value) (Q:VK),Inv X pins σ H s→RelV x v→RelV y u→r x y H Q →
   subscripted slice false v u=operate [v,u] (getItem v u)→wpAny (model X.prog X.w) X.A (subscriptTail value slice v u) (EP X pins σ Q) X.xe s
def Sz (X:Cx)(id:String)(r:V→List V→Hp→VK→Prop):Prop:=
 ∀ (pins:List (Addr×Obj)) (s:Shared) (σ:St) (H:Hp) (x:V) (xs:List V) (v:Value) (us:List Value) (Q:VK),Inv X pins σ H s→RelV x v→Vals xs us→r x xs H Q →
   wpAny (model X.prog X.w) X.A (call (.builtin id) (v::us)) (EP X pins σ Q) X.xe s
section
variable {X:Cx}{a b:Expr}{ta tb:TE}{pos:Pos}
theorem si {r:R2}(hr:Sy X r)(ha:PE X a ta)(hb:PE X b tb)(hs:ia b):PE X (.Subscript a b pos) (Tn r ta tb):=by
 intro pins s σ H Q I h
 exact Subscript_ (OC ha hb I h fun v u s2 x y H2 I2 rx ry q=>hr a b pins s2 σ H2 x y v u Q I2 rx ry q (hs _ _))
def abH (K:PySem.W.Frag):R2:=fun x y H Q=>∃ p xs i v,x=.ref p∧y=.int i∧jM K H p xs∧jO xs i=some v∧Q v H
def abI (K:PySem.W.Frag):R2:=fun x y H Q=>∃ p xs i v,x=.ref p∧y=.int i∧Az K H p xs∧jO xs i=some v∧Q v H
def abJ:R2:=fun x y H Q=>∃ z i c,x=.str z∧y=.int i∧z.length≤sizeLine∧jO z.cps.toList i=some c∧Q (.str ⟨#[c]⟩) H
theorem wq:Sy X (abH X.K):=by
 intro value slice pins s σ H x y v u Q I rx ry h hs
 obtain⟨p,xs,i,z,rfl,rfl,hq,he,q⟩:=h
 cases rx
 obtain⟨t,rfl⟩:=ry
 obtain⟨aI,r,pl,hz⟩:=I.list hq
 obtain⟨j,h1,h2,h3,h4,h5⟩:=wk he
 obtain⟨w,ew,Kd⟩:=r.get h2
 have hl:=r.length
 have hn:=i7
 have fin:EP X pins σ Q w s:=⟨z,H,I,Kd,q⟩
 by_cases h0:0≤i
 . have hj:i.toNat=j:=by
     rw[seqIndex_of h0 h5] at h1
     exact Option.some.inj h1
   exact item_listR pl.isList h0 (by omega) (by rw[hj];simpa using ew) fin hs
 . have hj:(i+(aI.toArray.size:Int)).toNat=j:=by
     rw[seqIndex_neg (by omega) h4] at h1
     rw[List.size_toArray,← hl]
     exact Option.some.inj h1
   exact subscriptTail_builtinR (x:=w) pl.isList.typeIs slot_list_getitem.lookup
     (wpAny_getItem_list_neg (Q:=fun r s'=>r=w∧EP X pins σ Q r s') pl.isList (by omega) (by rw[List.size_toArray] <;> omega) (by omega) (by rw[hj];simpa using ew) ⟨rfl,fin⟩) hs
theorem ON:Sy X (abI X.K):=by
 intro value slice pins s σ H x y v u Q I rx ry h hs
 obtain⟨p,xs,i,z,rfl,rfl,hq,he,q⟩:=h
 cases rx
 obtain⟨t,rfl⟩:=ry
 obtain⟨aI,r,pl,hz⟩:=I.tuple hq
 obtain⟨j,h1,h2,h3,h4,h5⟩:=wk he
 obtain⟨w,ew,Kd⟩:=r.get h2
 have hl:=r.length
 have hn:=i7
 have fin:EP X pins σ Q w s:=⟨z,H,I,Kd,q⟩
 exact subscriptTail_builtinR (x:=w) pl.typeIs slot_tuple_getitem.lookup
   (getItem_tuple (j:=j) (Q:=fun r s'=>r=w∧EP X pins σ Q r s') pl (by omega) (by omega) (by rw[List.size_toArray,← hl];exact h1) (by simpa using ew) ⟨rfl,fin⟩) hs
theorem OO:Sy X abJ:=by
 intro value slice pins s σ H x y v u Q I rx ry h hs
 obtain⟨z,i,c,rfl,rfl,hz,he,q⟩:=h
 obtain⟨t,rfl⟩:=rx
 obtain⟨t',rfl⟩:=ry
 obtain⟨j,h1,h2,h3,h4,h5⟩:=wk he
 have hl:z.cps.toList.length=z.length:=by simp[Str.length]
 rw[hl] at h1 h4 h5
 have hn:=i7
 exact tail_any (typeIs_str s z t) slot_str_getitem.lookup (getItem_str (c:=c) (by
   have e1:decide (i < -(2 ^ 63:Int))=false:=decide_eq_false (by omega)
   have e2:decide (i ≥ 2 ^ 63)=false:=decide_eq_false (by omega)
   rw[e1,e2,Bool.or_false]) (by rw[h1];simpa using h2) ⟨.str ⟨#[c]⟩,H,I.tok _,⟨_,rfl⟩,q⟩) hs
theorem AZ (aI:List Value)(n j:Nat)(u:Value):Obj.mapSeq (·.setIfInBounds j u) { cls:=.type "list",data:=.seq aI.toArray n}={ cls:=.type "list",data:=.seq (aI.set j u).toArray n}:=by
 simp[Obj.mapSeq]
theorem Inv.lst {pins:List (Addr×Obj)}{σ:St}{H:Hp}{s:Shared}{p:Addr}{xs:List V}(I:Inv X pins σ H s)(h:H p=some (.lst xs)):∃ (aI:List Value) (n:Nat),Vals xs aI∧s.heap.get? p=some { cls:=.type "list",data:=.seq aI.toArray n}∧xs.length≤sizeLine:=by
 obtain⟨z,aI,n,r,e⟩:=I.bU p _ h
 exact⟨aI,n,r,e,z⟩
theorem Inv.OP {pins:List (Addr×Obj)}{σ:St}{H:Hp}{s:Shared}{p:Addr}{xs ys:List V}{aI its':List Value}{n n':Nat}{f:Obj→Obj}(I:Inv X pins σ H s)(h:H p=some (.lst xs))(ho:s.heap.get? p=some { cls:=.type "list",data:=.seq aI.toArray n})(hf:f { cls:=.type "list",data:=.seq aI.toArray n}={ cls:=.type "list",data:=.seq its'.toArray n'})(r:Vals ys its')(hz:ys.length≤sizeLine)(t:Nat):Inv X pins σ (upd H p (.lst ys)) { s with heap:=s.heap.update p f,toks:=t}:=by
 have e:(s.heap.update p f).get? p=some { cls:=.type "list",data:=.seq its'.toArray n'}:=by
   rw[Heap.get?_update_self f ho (by rw[hf] <;> rfl),hf]
 refine I.write (x:=p) (e:=p) (by rw[h];trivial) (.inl rfl) (fun b u hb q=>(Heap.get?_update_other _ _ (Ne.symm hb)).trans q) ⟨_,e⟩ ?_
 exact⟨hz,its',n',r,e⟩
def TM:V→V→V→Hp→(Hp→Prop)→Prop:=fun o i v H Q=>∃ p xs k j,o=.ref p∧i=.int k∧H p=some (.lst xs)∧AY xs.length k=some j∧Q (upd H p (.lst (xs.set j v)))
theorem set_list:Th X TM:=by
 intro pins s σ H o i v ov iv u Q I ro ri rv h
 obtain⟨p,xs,k,j,rfl,rfl,hp,hj,q⟩:=h
 cases ro
 obtain⟨t,rfl⟩:=ri
 obtain⟨aI,n,r,ho,hz⟩:=I.lst hp
 obtain⟨h1,h2,h3,h4⟩:=Cq hj
 have hl:=r.length
 have hn:=i7
 have I':Inv X pins σ (upd H p (.lst (xs.set j v))) { s with heap:=s.heap.update p (Obj.mapSeq (·.setIfInBounds j u))}:=
   I.OP hp ho (AZ aI n j u) (r.set rv j) (by rw[List.length_set];exact hz) s.toks
 by_cases h0:0≤k
 . have hk:k.toNat=j:=by
     rw[seqIndex_of h0 h4] at h1
     exact Option.some.inj h1
   exact PySem.W.ki_setAt ho h0 (by omega) (by rw[List.size_toArray,← hl];exact h4) (by rw[hk];exact⟨_,I',q⟩)
 . have hk:(k+(aI.toArray.size:Int)).toNat=j:=by
     rw[seqIndex_neg (by omega) h3] at h1
     rw[List.size_toArray,← hl]
     exact Option.some.inj h1
   exact PySem.W.ki_setBack ho (by omega) (by rw[List.size_toArray,← hl];exact h3) (by omega) (by rw[hk];exact⟨_,I',q⟩)
theorem wt (lo hi:Option Int)(n:Nat):(sliceBounds lo hi none n).1=((HT.yR n 0 lo:Nat):Int)∧(sliceBounds lo hi none n).2.1=((HT.yR n n hi:Nat):Int)∧(sliceBounds lo hi none n).2.2=1:=by
 refine⟨?_,?_,rfl⟩
 . cases lo with
   | none=>simp[sliceBounds,HT.yR]
   | some i=>
     simp only[sliceBounds,HT.yR,Option.getD_none,show(1:Int) > 0 by decide,if_true]
     by_cases h:i < 0
     . simp only[h,if_true] <;> omega
     . simp only[h,if_false] <;> omega
 . cases hi with
   | none=>simp[sliceBounds,HT.yR]
   | some i=>
     simp only[sliceBounds,HT.yR,Option.getD_none,show(1:Int) > 0 by decide,if_true]
     by_cases h:i < 0
     . simp only[h,if_true] <;> omega
     . simp only[h,if_false] <;> omega
theorem uI (aI:List Value)(lo hi:Option Int):slicePick aI.toArray lo hi none=((aI.drop (HT.yR aI.length 0 lo)).take (HT.yR aI.length aI.length hi - HT.yR aI.length 0 lo)).toArray:=by
 obtain⟨h1,h2,h3⟩:=wt lo hi aI.toArray.size
 unfold slicePick
 rw[h1,h2,h3]
 simp only[sliceRange_one,pick_run,List.size_toArray] <;> rfl
def abK (K:PySem.W.Frag):V→Option Int→Option Int→Hp→VK→Prop:=fun x lo hi H Q=>∃ a xs,x=.ref a∧jM K H a xs∧∀ p,H p=none→Q (.ref p) (upd H p (.lst (DT xs lo hi)))
theorem Ke:SlR X (abK X.K):=by
 intro pins s σ H x v vl vu lo hi sl Q I rx hs pl pu h
 obtain⟨a,xs,rfl,hx,q⟩:=h
 cases rx
 obtain⟨aI,r,ht,hz⟩:=I.list hx
 have hlen:=r.length
 refine⟨"list",_,slot_list_getitem.lookup,ht.isList.typeIs,?_⟩
 refine wpAny_getItem_list_slice ht.isList hs pl pu .none (by simp) ?_ (by rw[List.size_toArray] <;> omega)
 rw[uI,← hlen]
 refine⟨.ref s.heap.objs.size,_,I.laid (t':=s.toks) (o:=.lst (DT xs lo hi)) (fun b ob q=>Heap.get?_push_of_some _ q) (Nat.le_refl _) ?_,rfl,q _ (I.bU.fresh (Nat.le_refl _))⟩
 exact⟨Nat.le_trans (yT xs lo hi) hz,_,0,(r.drop (HT.yR xs.length 0 lo)).take (HT.yR xs.length xs.length hi - HT.yR xs.length 0 lo),Heap.get?_push_size _ rfl⟩
def nJ:V→Bool
 | .dQ=>true
 | .bl _=>true
 | .int _=>true
 | .str _=>true
 | _=>false
def JI:V→V→Bool
 | .dQ,.dQ=>true
 | .bl a,.bl b=>a == b
 | .bl a,.int b=>(if a then 1 else 0) == b
 | .int a,.bl b=>a == (if b then 1 else 0)
 | .int a,.int b=>a == b
 | .str a,.str b=>a == b
 | _,_=>false
theorem OQ {A:Around}{s:Shared}{y x:V}{u v:Value}(ry:RelV y u)(rx:RelV x v)(fy:nJ y=true)(fx:nJ x=true):SeqAt.EqAt A s u v (JI y x):=by
 cases y with
 | dQ=>
   cases ry
   cases x with
   | dQ=>cases rx;exact SeqAt.EqAt.same _
   | bl b=>cases rx;exact SeqAt.EqAt.none_bool b
   | int b=>obtain⟨t,rfl⟩:=rx;exact SeqAt.EqAt.none_int b t
   | str b=>obtain⟨t,rfl⟩:=rx;exact SeqAt.EqAt.none_str b t
   | _=>exact absurd (show false=true from fx) Bool.false_ne_true
 | bl a=>
   cases ry
   cases x with
   | dQ=>cases rx;exact SeqAt.EqAt.bool_none a
   | bl b=>cases rx;exact SeqAt.EqAt.bool_bool a b
   | int b=>obtain⟨t,rfl⟩:=rx;exact SeqAt.EqAt.bool_int a b t
   | str b=>obtain⟨t,rfl⟩:=rx;exact SeqAt.EqAt.bool_str a b t
   | _=>exact absurd (show false=true from fx) Bool.false_ne_true
 | int a=>
   obtain⟨t',rfl⟩:=ry
   cases x with
   | dQ=>cases rx;exact SeqAt.EqAt.int_none a t'
   | bl b=>cases rx;exact SeqAt.EqAt.int_bool a t' b
   | int b=>obtain⟨t,rfl⟩:=rx;exact SeqAt.EqAt.int_int a t' b t
   | str b=>obtain⟨t,rfl⟩:=rx;exact SeqAt.EqAt.int_str a t' b t
   | _=>exact absurd (show false=true from fx) Bool.false_ne_true
 | str a=>
   obtain⟨t',rfl⟩:=ry
   cases x with
   | dQ=>cases rx;exact SeqAt.EqAt.str_none a t'
   | bl b=>cases rx;exact SeqAt.EqAt.str_bool a t' b
   | int b=>obtain⟨t,rfl⟩:=rx;exact SeqAt.EqAt.str_int a t' b t
   | str b=>obtain⟨t,rfl⟩:=rx;exact SeqAt.EqAt.str_str a t' b t
   | _=>exact absurd (show false=true from fx) Bool.false_ne_true
 | _=>exact absurd (show false=true from fy) Bool.false_ne_true
def A0 (x:V)(u:Value):Bool:=match u with
 | .none=>JI .dQ x
 | .bool b=>JI (.bl b) x
 | .int i _=>JI (.int i) x
 | .str z _=>JI (.str z) x
 | _=>false
theorem FT {x y:V}{u:Value}(r:RelV y u)(f:nJ y=true):A0 x u=JI y x:=by
 cases y with
 | dQ=>cases r;rfl
 | bl b=>cases r;rfl
 | int i=>obtain⟨t,rfl⟩:=r;rfl
 | str z=>obtain⟨t,rfl⟩:=r;rfl
 | _=>exact absurd (show false=true from f) Bool.false_ne_true
theorem nK {x:V}:∀ {xs:List V} {us:List Value},Vals xs us→xs.all nJ=true→us.any (A0 x)=xs.any fun y=>JI y x
 | _,_,.nil,_=>rfl
 | y::xs,u::us,.cons r t,f=>by
   rw[List.all_cons,Bool.and_eq_true] at f
   rw[List.any_cons,List.any_cons,FT r f.1,nK t f.2]
theorem kZ {A:Around}{s:Shared}{x:V}{v:Value}(rx:RelV x v)(fx:nJ x=true):∀ {xs:List V} {us:List Value},Vals xs us→xs.all nJ=true→∀ u∈us,SeqAt.EqAt A s u v (A0 x u)
 | _,_,.nil,_=>fun u hu=>by cases hu
 | y::xs,u::us,.cons r t,f=>fun u' hu=>by
   rw[List.all_cons,Bool.and_eq_true] at f
   rcases List.mem_cons.mp hu with rfl | hu
   . rw[FT r f.1];exact OQ r rx f.1 fx
   . exact kZ rx fx t f.2 u' hu
def TN (x:V)(xs:List V):Bool:=xs.any fun y=>JI y x
def rIn (K:PySem.W.Frag)(neg:Bool):R2:=fun x y H Q=>∃ p xs,y=.ref p∧(jM K H p xs∨Az K H p xs)∧nJ x=true∧xs.all nJ=true∧Q (.bl (if neg then !TN x xs else TN x xs)) H
theorem vC:kT X (compareOp .In) (rIn X.K false):=by
 intro pins s σ H x y v u Q I rx ry h
 obtain⟨p,xs,rfl,hq,fx,fs,q⟩:=h
 cases ry
 rcases hq with hq | hq
 . obtain⟨aI,r,pl,hz⟩:=I.list hq
   refine SeqAt.in_listAt (A0 x) pl.isList (fun w hw=>kZ rx fx r fs w (by simpa using hw)) ⟨.bl _,H,I,rfl,?_⟩
   rw[show aI.toArray.any (A0 x)=aI.any (A0 x) by simp,nK r fs]
   exact q
 . obtain⟨aI,r,pl,hz⟩:=I.tuple hq
   refine SeqAt.in_tupleAt (A0 x) pl (fun w hw=>kZ rx fx r fs w (by simpa using hw)) ⟨.bl _,H,I,rfl,?_⟩
   rw[show aI.toArray.any (A0 x)=aI.any (A0 x) by simp,nK r fs]
   exact q
theorem nL:kT X (compareOp .NotIn) (rIn X.K true):=by
 intro pins s σ H x y v u Q I rx ry h
 obtain⟨p,xs,rfl,hq,fx,fs,q⟩:=h
 cases ry
 rcases hq with hq | hq
 . obtain⟨aI,r,pl,hz⟩:=I.list hq
   refine SeqAt.notIn_listAt (A0 x) pl.isList (fun w hw=>kZ rx fx r fs w (by simpa using hw)) ⟨.bl _,H,I,rfl,?_⟩
   rw[show aI.toArray.any (A0 x)=aI.any (A0 x) by simp,nK r fs]
   exact q
 . obtain⟨aI,r,pl,hz⟩:=I.tuple hq
   refine SeqAt.notIn_tupleAt (A0 x) pl (fun w hw=>kZ rx fx r fs w (by simpa using hw)) ⟨.bl _,H,I,rfl,?_⟩
   rw[show aI.toArray.any (A0 x)=aI.any (A0 x) by simp,nK r fs]
   exact q
theorem nM:gZ X (.builtin "len") (fun xs H Q=>∃ p ys,xs=[.ref p]∧(jM X.K H p ys∨Az X.K H p ys)∧Q (.int ys.length) H):=by
 intro pins s σ H xs us Q I r h
 obtain⟨p,ys,rfl,hq,q⟩:=h
 obtain⟨u,rfl,rx⟩:=vals1 r
 cases rx
 have hn:=i7
 rcases hq with hq | hq
 . obtain⟨aI,r',pl,hz⟩:=I.list hq
   have hlen:=r'.length
   exact Calls.call_len_list pl.isList (by simp only[List.size_toArray] <;> omega) ⟨.int ys.length,H,I.tok _,⟨s.toks+1,by rw[List.size_toArray,hlen]⟩,q⟩
 . obtain⟨aI,r',pl,hz⟩:=I.tuple hq
   have hlen:=r'.length
   exact len_tuple pl (by simp only[List.size_toArray] <;> omega) ⟨.int ys.length,H,I.tok _,⟨s.toks+1,by rw[List.size_toArray,hlen]⟩,q⟩
theorem wu:gZ X (.builtin "len") (fun xs H Q=>∃ z,xs=[.str z]∧z.length≤sizeLine∧Q (.int z.length) H):=by
 intro pins s σ H xs us Q I r h
 obtain⟨z,rfl,hz,q⟩:=h
 obtain⟨u,rfl,t,rfl⟩:=vals1 r
 have hn:=i7
 exact len_str (by omega) ⟨.int z.length,H,I.tok _,⟨_,rfl⟩,q⟩
theorem wz:gZ X (.type "list") (fun xs H Q=>∃ p ys,xs=[.ref p]∧(jM X.K H p ys∨Az X.K H p ys)∧∀ l,H l=none→Q (.ref l) (upd H l (.lst ys))):=by
 intro pins s σ H xs us Q I r h
 obtain⟨p,ys,rfl,hq,q⟩:=h
 obtain⟨u,rfl,rx⟩:=vals1 r
 cases rx
 have fin:∀ (aI:List Value),Vals ys aI→ys.length≤sizeLine→∀ (h':Heap) (c':Nat),(∀ b o',s.heap.get? b=some o'→h'.get? b=some o') →
     h'.get? s.heap.objs.size=some { cls:=.type "list",dict:=none,data:=.seq aI.toArray c',slots:=#[]}→EP X pins σ Q (.ref s.heap.objs.size) { s with heap:=h'}:=fun aI r' hz h' c' kp e=>
   ⟨.ref s.heap.objs.size,_,I.laid (t':=s.toks) kp (Nat.le_refl _) (show bc X.prog X.w _ h' _ (.lst ys) from⟨hz,aI,c',r',e⟩),rfl,q _ (I.bU.fresh (Nat.le_refl _))⟩
 rcases hq with hq | hq
 . obtain⟨aI,r',pl,hz⟩:=I.list hq
   have hlen:=r'.length
   obtain⟨o,ho,hc,n,hd⟩:=pl.isList
   exact call_list_seq p (.inl rfl) ho hc hd (fun h' c' kp e=>fin aI r' hz h' c' kp e) (by simp only[List.size_toArray] <;> omega)
 . obtain⟨aI,r',pl,hz⟩:=I.tuple hq
   have hlen:=r'.length
   obtain⟨o,ho,hc,n,hd⟩:=pl
   exact call_list_seq p (.inr rfl) ho hc hd (fun h' c' kp e=>fin aI r' hz h' c' kp e) (by simp only[List.size_toArray] <;> omega)
def tyV (K:PySem.W.Frag)(T:String)(x:V)(H:Hp):Prop:=match x with
 | .str _=>T="str"
 | .int _=>T="int"
 | .ref p=>(T="list"∧∃ xs,jM K H p xs)∨(T="tuple"∧∃ o,K.lookup p=some o∧o.cls=.type "tuple"∧o.dict=none) ∨
     (T="dict"∧((∃ kvs,H p=some (.dK kvs))∨(∃ kvs,H p=some (.dT kvs))∨∃ tg o kvs,H p=some (.kd tg o kvs)))∨(T="set"∧∃ S n,H p=some (.set S n)) ∨
     (T="list"∧∃ (a:Addr) (ls:gK) (ns:List Nat) (j:Nat) (f:Nat→List (Key×FD)) (N:Nat),H a=some (.cm ls ns)∧ls[j]?=some (p,f)∧ns[j]?=some N)
 | _=>False
theorem FU {pins:List (Addr×Obj)}{σ:St}{H:Hp}{s:Shared}{T:String}{x:V}{v:Value}(I:Inv X pins σ H s)(r:RelV x v)(ty:tyV X.K T x H):s.TypeIs v T∧∀ a,v=.ref a→∃ ob,s.heap.get? a=some ob∧ob.dict=none:=by
 cases x with
 | str z=>
   obtain⟨t,rfl⟩:=r
   cases (show T="str" from ty)
   exact⟨typeIs_str s z t,fun _ e=>nomatch e⟩
 | int i=>
   obtain⟨t,rfl⟩:=r
   cases (show T="int" from ty)
   exact⟨typeIs_int s i t,fun _ e=>nomatch e⟩
 | ref p=>
   cases r
   rcases ty with⟨rfl,xs,hq⟩ | ⟨rfl,o,hk,hc,hd⟩ | ⟨rfl,hk⟩ | ⟨rfl,S,n,hk⟩ | ⟨rfl,a,ls,ns,j,f,N,h1,h2,h3⟩
   . obtain⟨aI,_,pl,_⟩:=I.list hq
     refine⟨pl.isList.typeIs,fun a e=>?_⟩
     cases e
     obtain⟨o,n,e,c,hd,_⟩:=pl
     exact⟨o,e,hd⟩
   . refine⟨⟨o,I.jL p o hk,hc⟩,fun a e=>?_⟩
     cases e
     exact⟨o,I.jL _ o hk,hd⟩
   . have z:∃ o,s.heap.get? p=some o∧o.ExactDict:=by
       rcases hk with⟨kvs,hk⟩ | ⟨kvs,hk⟩ | ⟨tg,ob,kvs,hk⟩
       . obtain⟨_,_,_,_,o,_,_,e,ex,_⟩:=I.bU p _ hk
         exact⟨o,e,ex⟩
       . obtain⟨_,_,_,_,o,_,_,e,ex,_⟩:=I.bU p _ hk
         exact⟨o,e,ex⟩
       . obtain⟨_,⟨_,_,_,_,o,_,_,e,ex,_⟩,_⟩:=I.bU p _ hk
         exact⟨o,e,ex⟩
     obtain⟨o,e,ex⟩:=z
     refine⟨⟨o,e,ex.1⟩,fun a e2=>?_⟩
     cases e2
     exact⟨o,e,ex.2.1⟩
   . obtain⟨o,_,_,_,e,ex,_⟩:=I.bU p _ hk
     refine⟨⟨o,e,ex.1⟩,fun a e2=>?_⟩
     cases e2
     exact⟨o,e,ex.2.1⟩
   . obtain⟨_,_,_,_,_,_,h6⟩:=(show bc X.prog X.w H s.heap a (.cm ls ns) from I.bU a _ h1)
     obtain⟨aI,c,e1,e2,e3⟩:=h6 j p f N h2 h3
     refine⟨⟨_,e1,rfl⟩,fun a' e4=>?_⟩
     cases e4
     exact⟨_,e1,rfl⟩
 | _=>exact False.elim ty
def abL (K:PySem.W.Frag)(T:String)(r:V→List V→Hp→VK→Prop)(to:TE):TE:=fun σ H Q=>to σ H fun x H1=>tyV K T x H1∧r x [] H1 Q
def tBM (K:PySem.W.Frag)(T:String)(r:V→List V→Hp→VK→Prop)(to:TE)(t:TA):TE:=fun σ H Q=>to σ H fun x H1=>tyV K T x H1∧t σ H1 fun xs H2=>r x xs H2 Q
variable {o e:Expr}{es:List Expr}{to:TE}{t:TA}{name:Str}{apos bR:Pos}{T id:String}{r:V→List V→Hp→VK→Prop}
theorem FV (pa:PlainAttrs T)(slot:Slot T name id)(TQ:typeOf (.builtin id)=pure (.type "method_descriptor"))(hm:Sz X id r)(ho:PE X o to)(gv:attributeBase o name X.env (eval o X.env)=eval o X.env:=by rfl)(gw:(apos.endLine == bR.line)=true:=by rfl):PE X (.Call (.Attribute o name apos) [] [] bR) (abL X.K T r to):=by
 intro pins s σ H Q I h
 refine wpAny_Call_method0_late gv gw (cM (ho pins s σ H _ I h) fun v s1 ⟨x,H1,I1,r1,ty,q1⟩=>?_)
 obtain⟨h1,h2⟩:=FU I1 r1 ty
 exact⟨T,id,pa,slot,TQ,h1,h2,Calls.callWith_builtin rfl (PySem.evalArgs_none (hm pins s1 σ H1 x [] v [] Q I1 r1 .nil q1))⟩
theorem sj (pa:PlainAttrs T)(slot:Slot T name id)(TQ:typeOf (.builtin id)=pure (.type "method_descriptor"))(hm:Sz X id r)(ho:PE X o to)(ha:PA X (e::es) t)
   (gv:attributeBase o name X.env (eval o X.env)=eval o X.env:=by rfl)
   (sk:((backTo bR (starEach (e::es) X.env)).all (fun x=>!x.1) && (backToKw bR (keywordEach [] X.env)).all (fun x=>x.1.isSome)
     && decide ((e::es).length+([]:List Keyword).length+(if ([]:List Keyword).isEmpty then 0 else 1) < 30))=true:=by rfl)
   (gw:(apos.endLine == bR.line)=true:=by rfl) (hs:starEach (e::es) X.env=(false,eval e X.env)::starEach es X.env:=by rfl) (OR:(backTo bR (starEach es X.env)).any (·.1)=false:=by rfl) :
   PE X (.Call (.Attribute o name apos) (e::es) [] bR) (tBM X.K T r to t):=by
 intro pins s σ H Q I h
 refine wpAny_Call_method_late gv sk gw rfl (cM (ho pins s σ H _ I h) fun v s1 ⟨x,H1,I1,r1,ty,q1⟩=>?_)
 obtain⟨h1,h2⟩:=FU I1 r1 ty
 refine⟨T,id,pa,slot,TQ,h1,h2,?_⟩
 have hA:=ha bR pins s1 σ H1 _ I1 q1
 rw[hs] at hA ⊢
 refine Calls.callWith_builtin (by show(false || (backTo bR (starEach es X.env)).any (·.1))=false;rw[OR] <;> rfl) (Calls.evalArgs_plain ?_)
 exact cM hA fun us s2 ⟨vs,H2,I2,r2,q2⟩=>hm pins s2 σ H2 x vs v us Q I2 r1 r2 q2
end
end L2
namespace L2
open PySem PySem.Spec PyProof.Rows
def MtM (X:Cx)(id:String)(r:V→List V→Hp→VK→Prop):Prop:=
 ∀ (pins:List (Addr×Obj)) (s:Shared) (σ:St) (H:Hp) (x:V) (xs:List V) (v:Value) (us:List Value) (Q:VK),Inv X pins σ H s→RelV x v→Vals xs us→r x xs H Q →
   wpAny (model X.prog X.w) X.A (call (.builtin id) (v::us)) (EP X pins σ Q) X.xe s
theorem Vals.one:∀ {x:V} {us:List Value},Vals [x] us→∃ u,us=[u]∧RelV x u
 | _,_,.cons r .nil=>⟨_,rfl,r⟩
theorem Vals.zero:∀ {us:List Value},Vals [] us→us=[]
 | _,.nil=>rfl
theorem Vals.dropLast {xs:List V}{us:List Value}(h:Vals xs us):Vals xs.dropLast us.dropLast:=by
 induction h with
 | nil=>exact .nil
 | cons r t ih=>
   cases t with
   | nil=>exact .nil
   | cons q t'=>exact .cons r ih
theorem Vals.rep {xs:List V}{us:List Value}(h:Vals xs us):∀ k:Nat,Vals (List.replicate k xs).flatten (List.replicate k us).flatten
 | 0=>.nil
 | k+1=>by
   rw[List.replicate_succ,List.replicate_succ,List.flatten_cons,List.flatten_cons]
   exact Vals.append h (Vals.rep h k)
theorem A1 {α:Type}(l:List α):l.eraseIdx (l.length - 1)=l.dropLast:=by
 induction l with
 | nil=>rfl
 | cons a r ih=>
   cases r with
   | nil=>rfl
   | cons b r=>
     have e:(a::b::r).length - 1=((b::r).length - 1)+1:=by
       have h1:(a::b::r).length=r.length+2:=rfl
       have h2:(b::r).length=r.length+1:=rfl
       omega
     rw[e,List.eraseIdx_cons_succ,ih]
     all_goals rfl
theorem foldl_rep (aI:List Value):∀ (k:Nat) (acc:List Value),List.foldl (fun x1 x2=>x1 ++ x2) acc.toArray (List.replicate k aI.toArray)=(acc ++ (List.replicate k aI).flatten).toArray
 | 0,acc=>by simp
 | k+1,acc=>by
   have e:acc.toArray ++ aI.toArray=(acc ++ aI).toArray:=by simp
   have e2:(acc ++ aI) ++ (List.replicate k aI).flatten=acc ++ (List.replicate (k+1) aI).flatten:=by
     rw[List.replicate_succ,List.flatten_cons,List.append_assoc]
   rw[← e2,← foldl_rep aI k (acc ++ aI),← e,List.replicate_succ,List.foldl_cons]
section
variable {X:Cx}{pins:List (Addr×Obj)}{σ:St}{H:Hp}{s:Shared}{l b:Addr}{xs ys zs:List V}
theorem Inv.OS {aI its':List Value}{n:Nat}{f:Array Value→Array Value}{t':Nat}(I:Inv X pins σ H s)(hH:H l=some (.lst xs))(e:s.heap.get? l=some { cls:=.type "list",data:=.seq aI.toArray n})(hf:f aI.toArray=its'.toArray)(hv:Vals ys its')(hz:ys.length≤sizeLine):Inv X pins σ (upd H l (.lst ys)) { s with heap:=s.heap.update l (Obj.mapSeq f),toks:=t'}:=by
 have q:=PySem.IsL.update e f
 rw[hf] at q
 refine I.write (x:=l) (e:=l) (by rw[hH];exact trivial) (.inl rfl) (fun b' u hb hu=>(Heap.get?_update_other s.heap (Obj.mapSeq f) (Ne.symm hb)).trans hu) ⟨_,q⟩ ?_
 exact⟨hz,its',_,hv,q⟩
theorem Inv.TR {aI:List Value}{t':Nat}(I:Inv X pins σ H s)(hv:Vals ys aI)(hz:ys.length≤sizeLine):Inv X pins σ (upd H s.heap.objs.size (.lst ys)) { s with heap:=s.heap.push { cls:=.type "list",data:=.seq aI.toArray},toks:=t'}:=
 I.laid (fun _ _ q=>Heap.get?_push_of_some _ q) (Nat.le_refl _) ⟨hz,aI,0,hv,Heap.get?_push_size _ rfl⟩
theorem Inv.fresh (I:Inv X pins σ H s):H s.heap.objs.size=none:=I.bU.fresh (Nat.le_refl _)
theorem Inv.A2 (I:Inv X pins σ H s)(hH:H l=some (.lst xs)):xs.length≤sizeLine∧∃ (aI:List Value) (n:Nat),Vals xs aI∧xs.length=aI.length∧s.heap.get? l=some { cls:=.type "list",data:=.seq aI.toArray n}:=by
 obtain⟨z,aI,n,r,e⟩:=I.bU l _ hH
 exact⟨z,aI,n,r,r.length,e⟩
theorem yV {n:Nat}(h:n≤sizeLine):Builtin.List.listTooLong n=false:=by
 unfold Builtin.List.listTooLong
 exact decide_eq_false (by omega)
end
section
variable {X:Cx}
def Kf:V→List V→Hp→VK→Prop:=fun x vs H Q=>∃ l xs y,x=.ref l∧vs=[y]∧H l=some (.lst xs)∧xs.length < sizeLine∧Q .dQ (upd H l (.lst (xs ++ [y])))
theorem lO:MtM X "list.append" Kf:=by
 intro pins s σ H x vs v us Q I rx rv h
 obtain⟨l,xs,y,rfl,rfl,hH,hz,q⟩:=h
 cases rx
 obtain⟨u,rfl,ru⟩:=rv.one
 obtain⟨z,aI,n,r,hl,e⟩:=I.A2 hH
 refine call_meets F.slot_list_append ⟨_,e,rfl⟩ F.entry_list_append (F.args_list_append_2 _ _) (PySem.list_append l aI.toArray n u (by rw[List.size_toArray];omega)) ⟨e,?_⟩
 refine⟨.dQ,_,I.OS (its':=aI ++ [u]) hH e (by simp) (r.append (.cons ru .nil)) ?_,rfl,q⟩
 rw[List.length_append,List.length_singleton]
 omega
def Kg:V→List V→Hp→VK→Prop:=fun x vs H Q=>∃ l b xs zs,x=.ref l∧vs=[.ref b]∧H l=some (.lst xs)∧H b=some (.lst zs)∧xs.length+zs.length≤sizeLine∧Q .dQ (upd H l (.lst (xs ++ zs)))
theorem DU:MtM X "list.extend" Kg:=by
 intro pins s σ H x vs v us Q I rx rv h
 obtain⟨l,b,xs,zs,rfl,rfl,hH,hB,hz,q⟩:=h
 cases rx
 obtain⟨u,rfl,ru⟩:=rv.one
 cases ru
 obtain⟨z,aI,n,r,hl,e⟩:=I.A2 hH
 obtain⟨z2,A3,n2,r2,Nf,e2⟩:=I.A2 hB
 have hsz:aI.toArray.size+A3.toArray.size≤sizeLine:=by rw[List.size_toArray,List.size_toArray];omega
 have FW:¬ (!aI.toArray.isEmpty && Builtin.List.listTooLong (aI.toArray.size+A3.toArray.size))=true:=by
   rw[yV hsz,Bool.and_false]
   exact Bool.false_ne_true
 refine call_meets F.slot_list_extend ⟨_,e,rfl⟩ F.entry_list_extend (F.args_list_extend_2 _ _)
   (AutoSeq1.list_extend_list_list_0 l aI.toArray n b A3.toArray n2 FW (by rw[List.size_toArray];omega) (by omega)) ⟨e,e2,?_⟩
 refine⟨.dQ,_,I.OS (its':=aI ++ A3) hH e (by simp) (r.append r2) ?_,rfl,q⟩
 rw[List.length_append]
 omega
def abN:V→List V→Hp→VK→Prop:=fun x vs H Q=>∃ l xs y,x=.ref l∧vs=[]∧H l=some (.lst xs)∧xs[xs.length - 1]?=some y∧Q y (upd H l (.lst xs.dropLast))
theorem OT:MtM X "list.pop" abN:=by
 intro pins s σ H x vs v us Q I rx rv h
 obtain⟨l,xs,y,rfl,rfl,hH,hy,q⟩:=h
 cases rx
 have hus:=rv.zero
 subst hus
 obtain⟨z,aI,n,r,hl,e⟩:=I.A2 hH
 obtain⟨u,hu,ru⟩:=r.get hy
 have TU:aI.toArray[aI.toArray.size - 1]?=some u:=by
   show aI.toArray[aI.length - 1]?=some u
   rw[← Array.getElem?_toList,← hl]
   exact hu
 refine call_meets F.slot_list_pop ⟨_,e,rfl⟩ F.entry_list_pop (F.args_list_pop_1 _) (MeetsSeq.list_pop_last l aI.toArray n u TU (by rw[List.size_toArray];omega)) ⟨e,?_⟩
 refine⟨y,_,I.OS (its':=aI.dropLast) hH e ?_ r.dropLast ?_,ru,q⟩
 . show aI.toArray.eraseIdxIfInBounds (aI.toArray.size - 1)=aI.dropLast.toArray
   rw[List.size_toArray,List.eraseIdxIfInBounds_toArray,A1]
 . rw[List.length_dropLast]
   omega
def abO:R2:=fun x y H Q=>∃ l b xs zs,x=.ref l∧y=.ref b∧H l=some (.lst xs)∧H b=some (.lst zs)∧xs.length+zs.length≤sizeLine∧∀ p,H p=none→Q (.ref p) (upd H p (.lst (xs ++ zs)))
theorem OU:kT X (binaryOp .Add) abO:=by
 intro pins s σ H x y v u Q I rx ry h
 obtain⟨l,b,xs,zs,rfl,rfl,hH,hB,hz,q⟩:=h
 cases rx
 cases ry
 obtain⟨z,aI,n,r,hl,e⟩:=I.A2 hH
 obtain⟨z2,A3,n2,r2,Nf,e2⟩:=I.A2 hB
 refine PySem.P.add_list e e2 ?_ (by rw[List.size_toArray,List.size_toArray];omega)
 have ea:aI.toArray ++ A3.toArray=(aI ++ A3).toArray:=by simp
 rw[ea]
 exact⟨.ref _,_,I.TR (t':=s.toks) (r.append r2) (by rw[List.length_append];omega),rfl,q _ I.fresh⟩
def abP:R2:=fun x y H Q=>∃ l k xs,x=.ref l∧y=.int k∧H l=some (.lst xs)∧-(2 ^ 63)≤k∧k < 2 ^ 63∧xs.length * k.toNat≤sizeLine ∧
 ∀ p,H p=none→Q (.ref p) (upd H p (.lst (List.replicate k.toNat xs).flatten))
theorem len_rep {α:Type}(xs:List α)(k:Nat):(List.replicate k xs).flatten.length=k * xs.length:=by
 induction k with
 | zero=>simp
 | succ k ih=>rw[List.replicate_succ,List.flatten_cons,List.length_append,ih,Nat.succ_mul,Nat.add_comm]
theorem OV:kT X (binaryOp .Mult) abP:=by
 intro pins s σ H x y v u Q I rx ry h
 obtain⟨l,k,xs,rfl,rfl,hH,h1,h2,hz,q⟩:=h
 cases rx
 obtain⟨t,rfl⟩:=ry
 obtain⟨z,aI,n,r,hl,e⟩:=I.A2 hH
 have hlen:aI.toArray.size * k.toNat≤sizeLine:=by rw[List.size_toArray,← hl];exact hz
 have abQ:¬ aI.toArray.size * k.toNat > (2 ^ 63 - 1) / 8:=by
   have:(sizeLine:Nat)≤(2 ^ 63 - 1) / 8:=by decide
   omega
 have sq:¬ (!Builtin.List.listFitsIndex k)=true:=by
   rw[fitsIndex_both h1 h2]
   exact Bool.false_ne_true
 have FW:¬ Builtin.List.listTooLong (aI.toArray.size * k.toNat)=true:=by
   rw[yV hlen]
   exact Bool.false_ne_true
 have DV:List.foldl (fun x1 x2=>x1 ++ x2) #[] (List.replicate (if aI.toArray.isEmpty=true then 0 else k.toNat) aI.toArray)=(List.replicate k.toNat aI).flatten.toArray:=by
   have f0:∀ m:Nat,List.foldl (fun x1 x2=>x1 ++ x2) #[] (List.replicate m aI.toArray)=(List.replicate m aI).flatten.toArray:=fun m=>by
     have:=foldl_rep aI m []
     rw[List.nil_append] at this
     exact this
   rw[f0]
   cases aI with
   | nil=>simp
   | cons a r'=>rw[if_neg (by simp)]
 refine wpAny_binaryOp_repeat_ref (T:="list") (U:="int") (by decide) ⟨_,e,rfl⟩ (fun s'=>typeIs_int s' k t) noFill_list_mul F.fills_int_mul F.slot_int_rmul repeat_list F.slot_int_index.lookup
   (call_meets F.slot_int_rmul (typeIs_int s k t) F.entry_int_rmul (F.args_int_rmul_2 _ _) (int___rmul___int_list k t l aI.toArray n)
     ⟨e,rfl,⟨_,e,rfl⟩,call_meets F.slot_list_mul ⟨_,e,rfl⟩ F.entry_list_mul (F.args_list_mul_2 _ _) (AutoListH.list___mul___list_int_3 l aI.toArray n k t sq abQ FW) ⟨e,?_⟩⟩)
 rw[DV]
 exact⟨.ref _,_,I.TR (t':=s.toks) (r.rep k.toNat) (by rw[len_rep,Nat.mul_comm];exact hz),rfl,q _ I.fresh⟩
end
section
variable {prog:Program}{w:World}{A:Around}{E:Value→Shared→Prop}{s:Shared}
end
section
variable {X:Cx}
end
end L2
namespace L2
open PySem PySem.Spec PyProof.Rows
section
variable {κ:Type}[DecidableEq κ]
def k4 (kvs:List (κ×V))(k:κ):Option V:=(kvs.find? fun kv=>decide (kv.1=k)).map (·.2)
def putK (kvs:List (κ×V))(k:κ)(v:V):List (κ×V):=
 if (kvs.any fun kv=>decide (kv.1=k))=true then kvs.map (fun kv=>if kv.1=k then (kv.1,v) else kv) else kvs ++ [(k,v)]
theorem k6 {p:κ×V}{r:List (κ×V)}{k:κ}(e:p.1=k):k4 (p::r) k=some p.2:=by simp[k4,List.find?_cons,e]
theorem jl {p:κ×V}{r:List (κ×V)}{k:κ}(e:¬ p.1=k):k4 (p::r) k=k4 r k:=by simp[k4,List.find?_cons,e]
theorem nO (k:κ):∀ kvs:List (κ×V),(kvs.any fun kv=>decide (kv.1=k))=(k4 kvs k).isSome
 | []=>rfl
 | p::r=>by
   rw[List.any_cons]
   by_cases e:p.1=k
   . simp only[k6 e,decide_eq_true e,Bool.true_or,Option.isSome_some]
   . rw[jl e,decide_eq_false e,Bool.false_or];exact nO k r
theorem p9 (kvs:List (κ×V))(k:κ)(v:V):(putK kvs k v).length≤kvs.length+1:=by
 unfold putK
 split
 . rw[List.length_map];omega
 . rw[List.length_append,List.length_cons,List.length_nil];omega
theorem l5.o9 {o:Option V}{u:Option Value}(r:l5 o u):o.isSome=u.isSome:=by
 cases o with
 | none=>cases u with
   | none=>rfl
   | some _=>exact(show False from r).elim
 | some _=>cases u with
   | none=>exact(show False from r).elim
   | some _=>rfl
theorem KV.val {kvs:List (κ×V)}{vs:List (κ×Value)}(r:KV kvs vs)(k:κ):l5 (k4 kvs k) (valueAt vs k):=by
 unfold KV at r
 induction r with
 | nil=>exact True.intro
 | @cons p q ps qs h t ih=>
   obtain⟨h1,h2⟩:=h
   by_cases e:p.1=k
   . have e':q.1=k:=h1.symm.trans e
     have b:valueAt (q::qs) k=some q.2:=by simp[valueAt,List.find?_cons,e']
     rw[k6 e,b];exact h2
   . have e':¬ q.1=k:=fun z=>e (h1.trans z)
     have b:valueAt (q::qs) k=valueAt qs k:=by simp[valueAt,List.find?_cons,e']
     rw[jl e,b];exact ih
theorem KV.any {kvs:List (κ×V)}{vs:List (κ×Value)}(r:KV kvs vs)(k:κ):(kvs.any fun kv=>decide (kv.1=k))=vs.any fun kv=>decide (kv.1=k):=by
 unfold KV at r
 induction r with
 | nil=>rfl
 | cons h t ih=>rw[List.any_cons,List.any_cons,ih,h.1]
theorem KV.OW {kvs:List (κ×V)}{vs:List (κ×Value)}(r:KV kvs vs)(k:κ){y:V}{u:Value}(ry:RelV y u):KV (kvs.map fun kv=>if kv.1=k then (kv.1,y) else kv) (vs.map fun kv=>if kv.1=k then (kv.1,u) else kv):=by
 unfold KV at r ⊢
 induction r with
 | nil=>exact .nil
 | @cons p q ps qs h t ih=>
   rw[List.map_cons,List.map_cons]
   refine .cons ?_ ih
   obtain⟨h1,h2⟩:=h
   by_cases e:p.1=k
   . rw[if_pos e,if_pos (h1.symm.trans e)];exact⟨h1,ry⟩
   . rw[if_neg e,if_neg (fun z=>e (h1.trans z))];exact⟨h1,h2⟩
theorem KV.put {kvs:List (κ×V)}{vs:List (κ×Value)}(r:KV kvs vs)(k:κ){y:V}{u:Value}(ry:RelV y u):KV (putK kvs k y) (stored vs k u):=by
 unfold putK stored
 rw[r.any k]
 by_cases e:(vs.any fun kv=>decide (kv.1=k))=true
 . rw[if_pos e,if_pos e];exact r.OW k ry
 . rw[if_neg e,if_neg e];exact Paired.snoc r ⟨rfl,ry⟩
theorem KV.length {kvs:List (κ×V)}{vs:List (κ×Value)}(r:KV kvs vs):kvs.length=vs.length:=Paired.length r
end
theorem yW {P:Program}{w:World}{k:Key}{u:Value}(r:RelV (kV k) u):(du P w).is k u=true:=by
 cases k with
 | inl i=>obtain⟨t,e⟩:=(show ∃ t,u=Value.int i t from r);subst e;exact yy P w i t
 | inr x=>obtain⟨t,e⟩:=(show ∃ t,u=Value.str x t from r);subst e;exact yz P w x t
theorem vD {P:Program}{w:World}:∀ {ks:List Key} {us:List Value},Vals (ks.map kV) us→ItemsAre (du P w) ks us
 | [],_,r=>by rw[List.map_nil] at r;cases r;exact .nil
 | k::ks,_,r=>by
   rw[List.map_cons] at r
   cases r with
   | cons h t=>exact .cons (yW h) (vD t)
abbrev KT (H:Hp):List (List Key×V)→List (List Key×Addr×Value)→Prop:=Paired fun p q=>p.1=q.1∧H q.2.1=some (.tup (p.1.map kV))∧RelV p.2 q.2.2
theorem KT.val {H:Hp}{kvs:List (List Key×V)}{xs:List (List Key×Addr×Value)}(r:KT H kvs xs)(k:List Key):l5 (k4 kvs k) ((atKey xs k).map (·.2)):=by
 induction r with
 | nil=>exact True.intro
 | @cons p q ps qs h t ih=>
   obtain⟨h1,_,h2⟩:=h
   by_cases e:p.1=k
   . have e':q.1=k:=h1.symm.trans e
     have b:atKey (q::qs) k=some q.2:=by simp[atKey,List.find?_cons,e']
     rw[k6 e,b];exact h2
   . have e':¬ q.1=k:=fun z=>e (h1.trans z)
     have b:atKey (q::qs) k=atKey qs k:=by simp[atKey,List.find?_cons,e']
     rw[jl e,b];exact ih
theorem KT.OW {H:Hp}{kvs:List (List Key×V)}{xs:List (List Key×Addr×Value)}(r:KT H kvs xs)(k:List Key){y:V}{u:Value}(ry:RelV y u):KT H (kvs.map fun kv=>if kv.1=k then (kv.1,y) else kv) (xs.map (putAt k u)):=by
 induction r with
 | nil=>exact .nil
 | @cons p q ps qs h t ih=>
   rw[List.map_cons,List.map_cons]
   refine .cons ?_ ih
   obtain⟨h1,h2,h3⟩:=h
   unfold putAt
   by_cases e:p.1=k
   . rw[if_pos e,if_pos (h1.symm.trans e)];exact⟨h1,h2,ry⟩
   . rw[if_neg e,if_neg (fun z=>e (h1.trans z))];exact⟨h1,h2,h3⟩
theorem KT.put {H:Hp}{kvs:List (List Key×V)}{xs:List (List Key×Addr×Value)}(r:KT H kvs xs)(k:List Key){b:Addr}{y:V}{u:Value}(hb:H b=some (.tup (k.map kV)))(ry:RelV y u):KT H (putK kvs k y) (storedH xs k b u):=by
 have e:(kvs.any fun kv=>decide (kv.1=k))=(atKey xs k).isSome:=by
   rw[nO,(r.val k).o9,Option.isSome_map]
 unfold putK storedH
 rw[e]
 by_cases q:(atKey xs k).isSome=true
 . rw[if_pos q,if_pos q];exact r.OW k ry
 . rw[if_neg q,if_neg q];exact Paired.snoc r ⟨rfl,hb,ry⟩
theorem KT.keeps {H H':Hp}{kvs:List (List Key×V)}{xs:List (List Key×Addr×Value)}(r:KT H kvs xs)(ht:∀ b ys,H b=some (.tup ys)→H' b=some (.tup ys)):KT H' kvs xs:=
 Paired.Og r fun _ _ z=>⟨z.1,ht _ _ z.2.1,z.2.2⟩
section
variable {P:Program}{w:World}{H:Hp}{h:Heap}{a:Addr}
theorem Ng {u:HO}(ok:nF P w H h)(e:Rd H a u):bc P w H h a u:=e.ok ok
theorem qb {kvs:List (Key×V)}(ok:nF P w H h)(e:Rd H a (.dK kvs)):kvs.length≤sizeLine∧(a == sysModules)=false∧∃ vs,KV kvs vs∧h.DictOf (du P w) a vs:=
 show bc P w H h a (.dK kvs) from Ng ok e
theorem Nh {kvs:List (Key×V)}(ok:nF P w H h)(e:H a=some (.dK kvs)):kvs.length≤sizeLine∧(a == sysModules)=false∧∃ vs,KV kvs vs∧h.DictOf (du P w) a vs:=qb ok (.inl e)
theorem wA {ks:List Key}(ok:nF P w H h)(e:H a=some (.tup (ks.map kV))):(tupleKind (du P w)).is h ks a:=by
 obtain⟨_,aI,r,o,h1,h2,n,h3⟩:=(show bc P w H h a (.tup (ks.map kV)) from ok a _ e)
 exact⟨o,aI.toArray,n,h1,h2,h3,by simpa using vD r⟩
theorem Cr {kvs:List (List Key×V)}(ok:nF P w H h)(e:Rd H a (.dT kvs)):kvs.length≤sizeLine∧(a == sysModules)=false∧∃ xs,KT H kvs xs∧h.DictOfH (tupleKind (du P w)) a xs:=by
 obtain⟨z,y,xs,r,o,es,ep,h1,h2,h3,h4,h5⟩:=(show bc P w H h a (.dT kvs) from Ng ok e)
 refine⟨z,y,xs,r,o,es,ep,h1,h2,h3,h4,fun x hx=>?_,h5⟩
 have all:∀ {l:List (List Key×V)} {m:List (List Key×Addr×Value)},KT H l m→∀ x∈m,(tupleKind (du P w)).is h x.1 x.2.1:=by
   intro l m q
   induction q with
   | nil=>intro x hx;exact nomatch hx
   | @cons p q ps qs hq t ih=>
     intro x hx
     rcases List.mem_cons.mp hx with e | hx
     . subst e
       exact wA ok (by rw[← hq.1];exact hq.2.1)
     . exact ih x hx
 exact all r x hx
theorem TV {kvs:List (List Key×V)}(ok:nF P w H h)(e:H a=some (.dT kvs)):kvs.length≤sizeLine∧(a == sysModules)=false∧∃ xs,KT H kvs xs∧h.DictOfH (tupleKind (du P w)) a xs:=Cr ok (.inl e)
end
def qp (H:Hp)(a:Addr)(y:V)(r:Option V):Prop:=
 (∃ kvs k,Rd H a (.dK kvs)∧y=kV k∧r=k4 kvs k)∨∃ kvs k b,Rd H a (.dT kvs)∧y=.ref b∧H b=some (.tup (k.map kV))∧r=k4 kvs k
def DW (H:Hp)(a:Addr)(y v:V)(H':Hp):Prop:=
 (∃ kvs k,H a=some (.dK kvs)∧y=kV k∧kvs.length < sizeLine∧H'=upd H a (.dK (putK kvs k v))) ∨
 ∃ kvs k b,H a=some (.dT kvs)∧y=.ref b∧H b=some (.tup (k.map kV))∧kvs.length < sizeLine∧H'=upd H a (.dT (putK kvs k v))
theorem qp.k {H:Hp}{a:Addr}{kvs:List (Key×V)}{k:Key}(e:H a=some (.dK kvs)):qp H a (kV k) (k4 kvs k):=.inl ⟨kvs,k,.inl e,rfl,rfl⟩
theorem DW.k {H:Hp}{a:Addr}{kvs:List (Key×V)}{k:Key}{v:V}(e:H a=some (.dK kvs))(hl:kvs.length < sizeLine):DW H a (kV k) v (upd H a (.dK (putK kvs k v))):=.inl ⟨kvs,k,e,rfl,hl,rfl⟩
section
variable {X:Cx}{pins:List (Addr×Obj)}{σ:St}{H:Hp}{s:Shared}{a:Addr}{y v:V}{u r:Value}{o:Option V}{A:Around}{E:Value→Shared→Prop}
theorem Inv.big (I:Inv X pins σ H s):sysModules < s.heap.objs.size:=by
 have h:mainGlobals < s.heap.objs.size:=(I.mod.glob.keeps I.bk).lt
 exact Nat.lt_trans (by decide) h
theorem DX {Q:Value→Shared→Prop}(hu:A.units+1 < cLine)(I:Inv X pins σ H s)(g:qp H a y (some v))(ry:RelV y u)(h:∀ w' s',Inv X pins σ H s'→RelV v w'→Q w' s'):wpAny (model X.prog X.w) A (getItem (.ref a) u) Q E s:=by
 rcases g with⟨kvs,k,e,ey,l⟩ | ⟨kvs,k,b,e,ey,eb,l⟩
 . subst ey
   obtain⟨z,hd,vs,rel,dd⟩:=qb I.bU e
   obtain⟨w',hw,Kd⟩:=l5.some_of (v:=v) (o:=valueAt vs k) (by rw[l];exact rel.val k)
   exact wpAny_getItem_of (yW ry) dd.mapOf hw (h w' _ (I.tok _) Kd)
 . subst ey
   cases (show u=Value.ref b from ry)
   obtain⟨z,hd,xs,rel,dd⟩:=Cr I.bU e
   obtain⟨w',hw,Kd⟩:=l5.some_of (v:=v) (o:=(atKey xs k).map (·.2)) (by rw[l];exact rel.val k)
   obtain⟨p,hp,uJ⟩:=Option.map_eq_some_iff.mp hw
   refine wpAny_getItem_heap (tupleKind_room_in1 hu) (wA I.bU eb) dd hp ?_
   rw[uJ]
   exact h w' _ (I.tok _) Kd
theorem Kh {Q:Value→Shared→Prop}(hu:A.units+1 < cLine)(I:Inv X pins σ H s)(g:qp H a y o)(ry:RelV y u)(h:∀ s',Inv X pins σ H s'→Q (.bool (!o.isSome)) s'):wpAny (model X.prog X.w) A (compareOp .NotIn u (.ref a)) Q E s:=by
 rcases g with⟨kvs,k,e,ey,l⟩ | ⟨kvs,k,b,e,ey,eb,l⟩
 . subst ey
   obtain⟨z,hd,vs,rel,dd⟩:=qb I.bU e
   refine wpAny_notIn_of (yW ry) hd dd.mapOf ?_
   rw[← (rel.val k).o9,← l]
   exact h _ (I.tok _)
 . subst ey
   cases (show u=Value.ref b from ry)
   obtain⟨z,hd,xs,rel,dd⟩:=Cr I.bU e
   refine wpAny_notIn_heap (tupleKind_room_in1 hu) (wA I.bU eb) hd dd ?_
   have q:=(rel.val k).o9
   rw[Option.isSome_map] at q
   rw[← q,← l]
   exact h _ (I.tok _)
theorem jP {h':Heap}{t':Nat}{ob:HO}(I:Inv X pins σ H s)(mu:Sq (H a))(hs:Heap.SameBut a s.heap h')(he:∃ q,h'.get? a=some q)(new:bc X.prog X.w (upd H a ob) h' a ob):Inv X pins σ (upd H a ob) { s with heap:=h',toks:=t'}:=
 I.write (x:=a) (e:=a) mu (.inl rfl) (fun b q hb z=>(hs.2 b hb).trans z) he new
theorem FX {P:Program}{w:World}{H':Hp}{h':Heap}{kvs:List (Key×V)}{vs:List (Key×Value)}(z:kvs.length≤sizeLine)(hd:(a == sysModules)=false)(rel:KV kvs vs)(dd:h'.DictOf (du P w) a vs):bc P w H' h' a (.dK kvs):=⟨z,hd,vs,rel,dd⟩
theorem DY {H':Hp}{Q:Unit→Shared→Prop}(hu:A.units+1 < cLine)(I:Inv X pins σ H s)(g:DW H a y v H')(ry:RelV y u)(rv:RelV v r)(h:∀ s',Inv X pins σ H' s'→Q () s'):wpAny (model X.prog X.w) A (setItem (.ref a) u r) Q E s:=by
 rcases g with⟨kvs,k,e,ey,l,eH⟩ | ⟨kvs,k,b,e,ey,eb,l,eH⟩
 . subst ey eH
   obtain⟨z,hd,vs,rel,dd⟩:=Nh I.bU e
   have hz:vs.length≤sizeLine:=by rw[← rel.length];exact z
   have hl:(putK kvs k v).length≤sizeLine:=by have:=p9 kvs k v;omega
   refine wpAny_setItem_pairs (hsz:=hz) (yW ry) dd fun h' OX hs=>h _ ?_
   have he:∃ q,h'.get? a=some q:=let ⟨q,_,_,hq,_⟩:=OX;⟨q,hq⟩
   exact jP I (by rw[e];exact True.intro) hs he (FX hl hd (rel.put k rv) OX)
 . subst ey eH
   cases (show u=Value.ref b from ry)
   obtain⟨z,hd,xs,rel,dd⟩:=TV I.bU e
   have hz:xs.length≤sizeLine:=by rw[← Paired.length rel];exact z
   have hl:(putK kvs k v).length≤sizeLine:=by have:=p9 kvs k v;omega
   refine wpAny_setItem_heap (hsz:=hz) (tupleKind_room_in1 hu) (wA I.bU eb) dd fun h' OX hs=>h _ ?_
   obtain⟨q,es,ep,hq,h2,h3,h4,_,h5⟩:=OX
   refine jP I (by rw[e];exact True.intro) hs ⟨q,hq⟩ ⟨hl,hd,_,(rel.put k eb rv).keeps fun c ys ec=>?_,q,es,ep,hq,h2,h3,h4,h5⟩
   rw[ah (SV ec e (fun z=>nomatch z))]
   exact ec
end
section
variable {X:Cx}{pins:List (Addr×Obj)}{σ:St}{H:Hp}{s:Shared}{a:Addr}{kvs:List (Key×V)}{k:Key}{u:Value}{A:Around}{E:Value→Shared→Prop}
end
def Ki (i:Expr):Prop:=∀ ov iv,subscripted i false ov iv=operate [ov,iv] (getItem ov iv)
theorem Kj {prog:Program}{w:World}{A:Around}{E:Value→Shared→Prop}{s:Shared}{env:Env}{value slice:Expr}{pos:Pos}{T id:String}{Q:Value→Shared→Prop}(hl:typeLookup (.type T) "__getitem__"=pure (some (.builtin id)))(hs:Ki slice)(h:wpAny (model prog w) A (eval value env) (fun o s₁=>wpAny (model prog w) A (eval slice env) (fun i s₂=>s₂.TypeIs o T∧wpAny (model prog w) A (getItem o i) Q E s₂) E s₁) E s):wpAny (model prog w) A (eval (.Subscript value slice pos) env) Q E s:=by
 refine Subscript_ (wpAny_mono h (fun o s₁ h₁=>wpAny_mono h₁ (fun i s₂ h₂=>?_) fun _ _ x=>x) fun _ _ x=>x)
 obtain⟨hT,h₂⟩:=h₂
 unfold subscriptTail
 refine wpAny_bind ?_
 rw[getitemInPython_of_ne hT.not_modules]
 refine wpAny_bind (wpAny_specialOf hT hl ?_)
 have fin:wpAny (model prog w) A (subscripted slice false o i) (fun r s₃=>wpAny (model prog w) A (letTemporaryGo value o r >>= fun _=>pure r) Q E s₃) E s₂:=by
   rw[hs o i]
   exact wpAny_operating (wpAny_mono h₂ (fun r s₃ h₃=>wpAny_bind (wpAny_letTemporaryGo (wpAny_pure h₃))) fun _ _ x=>x)
 first
   | exact wpAny_pure (wpAny_bind fin)
   | exact wpAny_bind (wpAny_pure (wpAny_bind fin))
   | exact wpAny_bind fin
theorem yX {X:Cx}{pins:List (Addr×Obj)}{σ:St}{H:Hp}{s:Shared}{a:Addr}{y:V}{o:Option V}(I:Inv X pins σ H s)(g:qp H a y o):s.TypeIs (.ref a) "dict":=by
 rcases g with⟨kvs,k,e,_,_⟩ | ⟨kvs,k,b,e,_,_,_⟩
 . obtain⟨_,_,vs,_,dd⟩:=qb I.bU e
   exact dd.typeIs
 . obtain⟨_,_,xs,_,dd⟩:=Cr I.bU e
   exact dd.typeIs
def TX (td ty:TE):TE:=fun σ H Q=>td σ H fun x H1=>ty σ H1 fun y H2=>∃ a v,x=.ref a∧qp H2 a y (some v)∧Q v H2
def abR (ty td:TE):TE:=fun σ H Q=>ty σ H fun y H1=>td σ H1 fun x H2=>∃ a o,x=.ref a∧qp H2 a y o∧Q (.bl o.isSome) H2
def Ct (ty td:TE):TE:=fun σ H Q=>ty σ H fun y H1=>td σ H1 fun x H2=>∃ a o,x=.ref a∧qp H2 a y o∧Q (.bl (!o.isSome)) H2
def TY (td ty tv:TE):TS:=fun D σ H=>tv σ H fun v H1=>td σ H1 fun x H2=>ty σ H2 fun y H3=>∃ a H4,x=.ref a∧DW H3 a y v H4∧D.nx σ H4
section
variable {X:Cx}{o i e value:Expr}{pos pos' wj:Pos}{td ty tv:TE}
theorem Cu (hu:X.A.units+1 < cLine)(ho:PE X o td)(hi:PE X i ty)(hs:Ki i):PE X (.Subscript o i pos) (TX td ty):=by
 intro pins s σ H Q I h
 refine Kj PySem.F.slot_dict_getitem.lookup hs (cM (ho pins s σ H _ I h) fun u s1 ⟨x,H1,I1,rx,q1⟩=>cM (hi pins s1 σ H1 _ I1 q1) fun iv s2 ⟨y,H2,I2,ry,a,v,ex,g,q2⟩=>?_)
 subst ex
 obtain rfl:u=Value.ref a:=rx
 exact⟨yX I2 g,DX hu I2 g ry fun w' s3 I3 Kd=>⟨v,H2,I3,Kd,q2⟩⟩
theorem DZ (hu:X.A.units+1 < cLine)(hi:PE X i ty)(ho:PE X o td):PC X .NotIn i o (Ct ty td):=by
 intro pins s σ H Q I h
 refine cM (hi pins s σ H _ I h) fun iv s1 ⟨y,H1,I1,ry,q1⟩=>cM (ho pins s1 σ H1 _ I1 q1) fun u s2 ⟨x,H2,I2,rx,a,ov,ex,g,q2⟩=>?_
 subst ex
 obtain rfl:u=Value.ref a:=rx
 exact Kh hu I2 g ry fun s3 I3=>⟨.bl (!ov.isSome),H2,I3,rfl,q2⟩
theorem Cv (hu:X.A.units+1 < cLine)(ho:PE X o td)(hi:PE X i ty)(hv:PE X value tv)(hs:swapsWith value (some (.Subscript o i pos')) pos.line X.env=pure false):PS X (.Assign [.Subscript o i pos'] value pos) (TY td ty tv):=by
 intro pins s σ H D I h
 refine wpAny_Assign_Subscript (cM (hv pins s σ H _ I h) fun r s1 ⟨v,H1,I1,rv,q1⟩=>cM (ho pins s1 σ H1 _ I1 q1) fun u s2 ⟨x,H2,I2,rx,q2⟩=>cM (hi pins s2 σ H2 _ I2 q2) fun iv s3 ⟨y,H3,I3,ry,a,H4,ex,g,q3⟩=>?_) hs
 subst ex
 obtain rfl:u=Value.ref a:=rx
 exact DY hu I3 g ry rv fun s4 I4=>⟨σ,H4,I4,q3⟩
end
theorem yY {P:Program}{w:World}{H:Hp}(h:Heap)(hb:sysModules < h.objs.size):bc P w H (h.push { cls:=.type "dict",data:=.dict #[]}) h.objs.size (.dK []):=
 ⟨Nat.zero_le _,beq_eq_false_iff_ne.mpr (Ne.symm (Nat.ne_of_lt hb)),[],.nil,Heap.DictOf.new h⟩
def OY:TE:=fun _ H Q=>∀ p,H p=none→Q (.ref p) (upd H p (.dK []))
section
variable {X:Cx}{pos:Pos}
theorem yZ:PE X (.Dict [] [] pos) OY:=fun pins s σ H Q I h=>
 wpAny_Dict_empty ⟨.ref s.heap.objs.size,_,I.laid (a:=s.heap.objs.size) (o:=.dK []) (t':=s.toks) (fun _ _ q=>Heap.get?_push_of_some _ q) (Nat.le_refl _) (yY s.heap I.big),rfl,h _ (I.bU.fresh (Nat.le_refl _))⟩
end
structure M1 (X:Cx)(o:Expr)(m:Str)(apos:Pos)(e:Expr)(bR:Pos):Prop where
 base:attributeBase o m X.env (eval o X.env)=eval o X.env
 few:((backTo bR (starEach [e] X.env)).all (fun x=>!x.1) && (backToKw bR (keywordEach [] X.env)).all (fun x=>x.1.isSome)
   && decide (([e]:List Expr).length+([]:List Keyword).length+(if ([]:List Keyword).isEmpty then 0 else 1) < 30))=true
 line:(apos.endLine == bR.line)=true
 trees:backTo bR (starEach [e] X.env)=[(false,eval e X.env)]
structure M2 (X:Cx)(o:Expr)(m:Str)(apos:Pos)(e f:Expr)(bR:Pos):Prop where
 base:attributeBase o m X.env (eval o X.env)=eval o X.env
 few:((backTo bR (starEach [e,f] X.env)).all (fun x=>!x.1) && (backToKw bR (keywordEach [] X.env)).all (fun x=>x.1.isSome)
   && decide (([e,f]:List Expr).length+([]:List Keyword).length+(if ([]:List Keyword).isEmpty then 0 else 1) < 30))=true
 line:(apos.endLine == bR.line)=true
 trees:backTo bR (starEach [e,f] X.env)=[(false,eval e X.env),(false,eval f X.env)]
section
variable {X:Cx}{pins:List (Addr×Obj)}{σ:St}{H:Hp}{s:Shared}{a:Addr}{y d:V}{u r:Value}{o:Option V}{A:Around}{E:Value→Shared→Prop}
end
section
variable {X:Cx}{o e f:Expr}{apos bR:Pos}{td ty tx:TE}
end
section
variable {X:Cx}{pins:List (Addr×Obj)}{σ:St}{H:Hp}{s:Shared}{a:Addr}{kvs:List (Key×V)}{A:Around}{E:Value→Shared→Prop}
end
section
variable {X:Cx}{pins:List (Addr×Obj)}{σ:St}{H:Hp}{s:Shared}{a:Addr}{y:V}{u:Value}{A:Around}{E:Value→Shared→Prop}
end
end L2
namespace Att
open PySem PySem.W PySem.Calls PyProof.Rows
theorem qr {P:Params}{h:Heap}:∀ (ns:List Int) (vs:List Value),WellAll P h vs (ns.map WData.int)→IntsAre vs ns:=by
 intro ns
 induction ns with
 | nil=>
   intro vs w
   rw[List.map_nil] at w
   cases w
   exact .nil
 | cons n ns ih=>
   intro vs w
   rw[List.map_cons] at w
   cases w with
   | cons a b=>
     cases a
     exact .cons _ _ (ih _ b)
theorem D1 {l:OpenLaw}{n:Nat}(hn:l.most=some n){P:Params}{h:Heap}{args:List WData}{vals:List Value}(Kk:l.row.toRowW.claim.pre args=true)(OZ:WellAll P h vals args):∃ a vs ns,vals=[Value.ref a]∧args=[WData.list (ns.map WData.int)]∧h.get? a=some { cls:=.type "list",data:=.seq vs.toArray}∧IntsAre vs ns∧ns.length≤n:=by
 have hsh:WShape.hasAll [] args [.list .int]=true:=(pre_splitW Kk).1
 have hc:l.pre.holds [] { args:=args}=true:=(pre_splitW Kk).2
 obtain⟨d,r,rfl,h1,h2⟩:=hasAllW_cons hsh
 obtain rfl:=hasAllW_nil h2
 obtain⟨xs,rfl,h3⟩:=hasW_list h1
 obtain⟨ns,rfl⟩:=items_int h3
 have hlen:ns.length≤n:=by
   unfold OpenLaw.pre at hc
   have h4:(WTm.not (.lt (.lit (.int (n:Int))) (.len (.arg 0)))).holds [] { args:=[.list (ns.map .int)]}=true:=by
     have h4:=(holds_andW hc).1
     rw[hn] at h4
     exact h4
   have h5:=condW_of h4 (w_not (w_lt w_lit (w_len_list (w_arg rfl))))
   rw[List.length_map] at h5
   refine Nat.le_of_not_lt fun q=>?_
   have q':(n:Int) < ((ns.length:Nat):Int):=by omega
   first
     | (rw[decide_eq_true q'] at h5;exact absurd h5 (by decide))
     | (simp at h5;omega)
 cases OZ with
 | cons w1 w2=>
   cases w2
   cases w1 with
   | list ho abS=>exact⟨_,_,ns,rfl,rfl,ho,qr ns _ abS,hlen⟩
theorem D4 (l:OpenLaw)(args:List WData):l.row.toRowW.claim.post args (.bool true) args=true:=
 postW_of (r:=l.row.toRowW) (X:=(true == true))
   (show WShape.has [] (.bool true) .bool=true by first | rfl | decide | simp[WShape.has,WShape.arms,WShape.armsAll])
   (show(WTm.eq .res (.lit (.bool true))).value [] { args:=args,res:=some (.bool true),after:=args}=some (.bool (true == true)) from w_eq_bool (w_res rfl) w_lit) rfl
theorem zb {l:OpenLaw}{n:Nat}{q:Program}{loose:List Str}{XP:(Str→Option Value)→Heap→Prop}{YP:World→Heap→Prop}{d:DefRec}(hn:l.most=some n)(TZ:d.params.defaults=[])(call:∀ (w:World) (s₀ s₁:Shared) (mg mb:Str→Option Value) (fa:Addr) (o:Obj) (pm cd doc:Value) (a:Addr) (vs:List Value) (ns:List Int),Ground q loose [] XP w s₀ mg mb s₁.heap→YP w s₁.heap→s₁.heap.get? fa=some o→o.data=.func (docDef d.name d.params d.body d.scope pm cd doc)→s₁.heap.CodeRec cd d.name→mg d.name=some (.ref fa)→s₁.heap.get? a=some { cls:=.type "list",data:=.seq vs.toArray}→IntsAre vs ns→ns.length≤n→s₁.gens=#[]→codeAny (model l.prog w) callerA (.call (.ref fa) ⟨[.ref a],[]⟩) (fun r s'=>r=.ok (.ret (.bool true))∧OldK s₁.heap s'.heap∧s'.os=s₁.os∧AllBare s'.gens) s₁):WalkO q loose XP YP l.row.toRowW d [] (fun f vs=>PySem.call f vs):=by
 intro w s₀ s₁ mg mb G Y fa o pm cd doc dV kV ho hd jJ hD T1 hg args vals as Kk aiT Ni OZ hlo
 obtain rfl:dV=.none:=Dflts.none hD TZ
 obtain rfl:kV=.none:=Dflts.noKw hD
 obtain⟨a,vs,ns,rfl,rfl,O0,hints,hlen⟩:=D1 hn Kk OZ
 refine enter_call (codeAny_mono (call w s₀ s₁ mg mb fa o pm cd doc a vs ns G Y ho (fd_plain hd) jJ T1 O0 hints hlen hg) fun r s' hq=>?_)
 obtain⟨rfl,h2,h3,h4⟩:=hq
 exact⟨.inl ⟨.bool true,.bool true,[],rfl,fun _=>rfl,.bool true,D4 l _,fun _=>⟨List.Pairwise.nil,fun _ hm=>(nomatch hm)⟩⟩,h2,h3,h4⟩
section
variable {prog:Program}{w:World}{A:Around}{E:Value→Shared→Prop}{s:Shared}{K:Frag}
end
end Att
namespace L2
open PySem PySem.Spec PyProof.Rows
theorem jm:∀ {vs:List Value} {ns:List Int},IntsAre vs ns→Vals (ns.map V.int) vs
 | _,_,.nil=>.nil
 | _,_,.cons n t h=>.cons ⟨t,rfl⟩ (jm h)
def Kl (H:Hp):Prop:=∀ b,H b=none∨∃ o xs,H b=some (.b8 o (.lst xs))
theorem FY {P:Program}{w:World}{K:PySem.W.Frag}{mg mb:Str→Option Value}{CX:mG}{k:Nat}{fa a:Addr}{fd:FuncData}{x:Str}{sp:Sp}{s₁:Shared}{vs:List Value}{ns:List Int}(KX:K.In s₁.heap)(Fc:s₁.heap.Ns mainGlobals mg)(hb:s₁.heap.Ns builtinsNs mb)(hbb:∀ x:Str,x≠"__name__"→mb x=bootBuiltins x)(abT:s₁.heap.NoLimit)(hg:s₁.gens=#[])(ha:s₁.heap.get? a=some { cls:=.type "list",data:=.seq vs.toArray})(hi:IntsAre vs ns)(hl:ns.length≤sizeLine)(hr:er k callerA)(F:∀ base:Heap,K.In base→base.Ns mainGlobals mg→gu P w K mg base CX k fa fd [x] sp)(T2:∀ (s:Shared) (u:Value),BindsTo s fd ⟨[u],[]⟩ [(x,u)])(Nd:∀ H:Hp,Kl H→jM K H a (ns.map V.int)→sp [.ref a] H (fun v _=>v=.bl true) fun _ _ _=>False)(T3:∀ H e s',CX [] H s₁ (fun _ _ _=>False) e s'→False):codeAny (model P w) callerA (.call (.ref fa) ⟨[.ref a],[]⟩) (fun r s'=>r=.ok (.ret (.bool true))∧OldK s₁.heap s'.heap∧s'.os=s₁.os∧AllBare s'.gens) s₁:=by
 have rv:=jm hi
 have abU:=hi.length
 have core:∀ H:Hp,Kl H→jM K H a (ns.map V.int)→nF P w H s₁.heap→(∀ b,H b≠none→b=a)→(H a≠none→K.lookup a=none) →
     codeAny (model P w) callerA (.call (.ref fa) ⟨[.ref a],[]⟩) (fun r s'=>r=.ok (.ret (.bool true))∧OldK s₁.heap s'.heap∧s'.os=s₁.os∧AllBare s'.gens) s₁:=by
   intro H hO hS bU hA hK
   have Cw:∀ {b:Addr} {o:Obj},s₁.heap.get? b=some o→H b=none→(wc s₁.heap H).get? b=some o:=fun e n=>Fx e n
   have TJ:∀ {b:Addr} {o:Obj} {es:Array DictEntry} {ep:Nat},s₁.heap.get? b=some o→o.data=.dict es ep→H b=none:=fun {b o es ep} e d=>by
     cases q:H b with
     | none=>rfl
     | some u=>
       have e':b=a:=hA b (by rw[q];simp)
       subst e'
       rw[ha] at e;cases e
       have d':Data.seq vs.toArray _=Data.dict es ep:=d
       cases d'
   have nsK:∀ {b:Addr} {m:Str→Option Value},s₁.heap.Ns b m→(wc s₁.heap H).Ns b m:=fun {b m} ⟨o,es,ep,e,d,r⟩=>⟨o,es,ep,Cw e (TJ e d),d,r⟩
   have hKb:K.In (wc s₁.heap H):=fun b o e=>Cw (KX b o e) (by
     cases q:H b with
     | none=>rfl
     | some u=>
       have e':b=a:=hA b (by rw[q];simp)
       subst e'
       rw[hK (by rw[q];simp)] at e;cases e)
   have hM:Mod K mg (wc s₁.heap H):=⟨hKb,nsK Fc,⟨mb,nsK hb,hbb⟩,let ⟨mc,h1,h2⟩:=abT;⟨mc,nsK h1,h2⟩⟩
   have e0:yN P w K mg (wc s₁.heap H) callerA [] s₁ H:=⟨rfl,hM,fun b o e=>JV e,Nat.le_of_eq (DJ _ _),trivial,fun b hb=>absurd (show b∈([]:List Addr) from hb) (by simp),bU,.of_eq hg⟩
   refine codeAny_mono ((F _ hKb (nsK Fc)).run callerA [] s₁ H ⟨[.ref a],[]⟩ [.ref a] [.ref a] _ _ hr e0 (T2 s₁ (.ref a)) (.cons rfl .nil) (Nd H hO hS)) fun r s' h=>?_
   cases r with
   | error e=>exact(T3 H e s' h).elim
   | ok fl=>
     cases fl with
     | next=>exact False.elim h
     | brk=>exact False.elim h
     | cont=>exact False.elim h
     | ret u=>
       obtain⟨v,H',os,bare,un,abV,r',q⟩:=h
       have q':v=.bl true:=q
       subst q'
       obtain rfl:u=Value.bool true:=r'
       refine⟨rfl,OldK.of_keep fun b o e=>?_,os,bare⟩
       cases q:H b with
       | none=>exact un.keep b o e q (by intro z;exact absurd (show b∈([]:List Addr) from z) (by simp)) (by simp)
       | some u=>
         rcases hO b with z | ⟨ob,xs,z⟩
         . rw[q] at z;cases z
         . have z2:=un.wb b ob _ z
           obtain⟨e1,_⟩:=bU b _ z
           obtain⟨e2,_⟩:=abV b _ z2
           rw[e] at e1;cases e1
           exact e2
 cases hk:K.lookup a with
 | some o=>
   have e:=KX a o hk
   rw[ha] at e
   cases e
   refine core (fun _=>none) (fun _=>.inl rfl) (.inr ⟨_,vs.toArray,_,hk,rfl,rfl,rfl,by rw[List.size_toArray,abU];exact hl,by simpa using rv⟩) (fun b u z=>by have z':(none:Option HO)=some u:=z;cases z') (fun b z=>absurd rfl z) fun z=>absurd rfl z
 | none=>
   refine core (fun b=>if b=a then some (.b8 { cls:=.type "list",data:=.seq vs.toArray} (.lst (ns.map V.int))) else none) (fun b=>?_) (.inl (.inr (.inl ⟨{ cls:=.type "list",data:=.seq vs.toArray},if_pos rfl⟩))) (fun b u z=>?_) (fun b z=>?_) fun _=>hk
   . by_cases hb:b=a
     . exact .inr ⟨_,_,if_pos hb⟩
     . exact .inl (if_neg hb)
   . by_cases hb:b=a
     . have z':=(if_pos hb).symm.trans z
       cases z'
       subst hb
       exact⟨ha,by rw[List.length_map];exact hl,vs,_,rv,ha⟩
     . have z':=(if_neg hb).symm.trans z
       cases z'
   . by_cases hb:b=a
     . exact hb
     . exact absurd (if_neg hb) z
end L2
namespace L2
open PySem PySem.Spec PyProof.Rows
abbrev KOf {K:PySem.W.Frag}{h:Heap}(_:K.In h):PySem.W.Frag:=K
theorem Km {l:PySem.W.OpenLaw}{n k:Nat}{q:Program}{loose:List Str}{XP:(Str→Option Value)→Heap→Prop}{YP:World→Heap→Prop}{d:DefRec}{K:Params→PySem.W.Frag}{CX:World→mG}{sp:World→Sp}{x:Str}(hn:l.most=some n)(OI:n≤sizeLine)(TZ:d.params.defaults=[])(hr:er k callerA)(hY:∀ (w:World) (h:Heap),YP w h→(K w.params).In h)(F:∀ (w:World) (mg:Str→Option Value) (fa:Addr) (h:Heap),(K w.params).In h→h.Ns mainGlobals mg→mg d.name=some (.ref fa)→∃ fd:FuncData,(∀ (s:Shared) (u:Value),BindsTo s fd ⟨[u],[]⟩ [(x,u)])∧∀ base:Heap,(K w.params).In base→base.Ns mainGlobals mg→gu l.prog w (K w.params) mg base (CX w) k fa fd [x] (sp w))(Nd:∀ (w:World) (H:Hp) (a:Addr) (ns:List Int),ns.length≤n→Kl H→jM (K w.params) H a (ns.map V.int)→sp w [.ref a] H (fun v _=>v=.bl true) fun _ _ _=>False)(T3:∀ (w:World) (H:Hp) (s:Shared) (e:Value) (s':Shared),CX w [] H s (fun _ _ _=>False) e s'→False):PySem.W.WalkO q loose XP YP l.row.toRowW d [] (fun f vs=>PySem.call f vs):=by
 refine Att.zb hn TZ fun w s₀ s₁ mg mb fa o pm cd doc a vs ns G Y ho hd jJ T1 O0 hints hlen hg=>?_
 have KX:=hY w _ Y
 obtain⟨fd,hb,hF⟩:=F w mg fa _ KX G.T.g T1
 exact FY KX G.T.g G.T.b G.T.builtins G.T.nolimit hg O0 hints (Nat.le_trans hlen OI) hr hF hb (fun H hO hS=>Nd w H a ns hlen hO hS) fun H e s'=>T3 w H s₁ e s'
theorem FZ {l:PySem.W.OpenLaw}{n k:Nat}{q:Program}{loose:List Str}{XP:(Str→Option Value)→Heap→Prop}{YP:World→Heap→Prop}{d:DefRec}{K:Params→PySem.W.Frag}{CX:mG}{sp:PySem.W.Frag→Sp}{x:Str}(hn:l.most=some n)(OI:n≤sizeLine)(TZ:d.params.defaults=[])(hr:er k callerA)(hY:∀ (w:World) (h:Heap),YP w h→(K w.params).In h)(F:∀ (w:World) (mg:Str→Option Value) (fa:Addr) (h:Heap),(K w.params).In h→h.Ns mainGlobals mg→mg d.name=some (.ref fa)→∃ fd:FuncData,(∀ (s:Shared) (u:Value),BindsTo s fd ⟨[u],[]⟩ [(x,u)])∧∀ base:Heap,(K w.params).In base→base.Ns mainGlobals mg→gu l.prog w (K w.params) mg base CX k fa fd [x] (sp (K w.params)))(Nd:∀ (K:PySem.W.Frag) (H:Hp) (a:Addr) (ns:List Int),ns.length≤n→Kl H→jM K H a (ns.map V.int)→sp K [.ref a] H (fun v _=>v=.bl true) fun _ _ _=>False)(T3:∀ (H:Hp) (s:Shared) (e:Value) (s':Shared),CX [] H s (fun _ _ _=>False) e s'→False):PySem.W.WalkO q loose XP YP l.row.toRowW d [] (fun f vs=>PySem.call f vs):=
 Km (K:=K) (CX:=fun _=>CX) (sp:=fun w=>sp (K w.params)) hn OI TZ hr hY F (fun w H a ns h1 h2 h3=>Nd (K w.params) H a ns h1 h2 h3) fun _ H s e s'=>T3 H s e s'
end L2
namespace L2
open PySem PySem.Spec PyProof.Rows
def inClass (s:Stmt)(j:Nat):Stmt:=match s with
 | .ClassDef _ _ _ body _ _ _ _ _ _ _=>body.getD j (.Pass ⟨0,0,0,0⟩)
 | _=>.Pass ⟨0,0,0,0⟩
def ak (s:Stmt):Arguments:=match s with
 | .FunctionDef _ a _ _ _ _ _ _ _ _=>a
 | _=>{ posonlyargs:=[],args:=[],vararg:=none,kwonlyargs:=[],kw_defaults:=[],kwarg:=none,defaults:=[]}
def ai (s:Stmt):List Stmt:=match s with
 | .FunctionDef _ _ b _ _ _ _ _ _ _=>b
 | _=>[]
def af (s:Stmt):Scope:=match s with
 | .FunctionDef _ _ _ _ _ _ sc _ _ _=>sc
 | _=>{ kind:=.function,names:=[],isGenerator:=false,isCoroutine:=false}
abbrev CX0:mG:=fun _ _ _ _ _ _=>False
abbrev E0:XK:=fun _ _ _=>False
structure fL (K:PySem.W.Frag)(x qual:Str)(st:Stmt)(f:Addr)(fd:FuncData):Prop where
 ex:∃ (oc:Value) (od:Option Addr) (kV doc pm:Value) (an:Option Addr) (cS ct:Value) (AX:Array (Option Value)),
   fd=PySem.W.fnOf x qual (ak st) (ai st) (af st) .none kV doc pm an cS ct∧K.lookup f=some ⟨oc,od,.func fd,AX⟩∧PySem.W.codeIn K cS qual=true
 kp:PySem.W.keepIn K (.ref f)=true
section
variable {P:Program}{w:World}{K:PySem.W.Frag}{mg:Str→Option Value}{base:Heap}
theorem fL.binds {x qual:Str}{st:Stmt}{f:Addr}{fd:FuncData}{ps:List Str}(F:fL K x qual st f fd)(h:∀ (kV doc pm:Value) (an:Option Addr) (cS ct:Value) (us:List Value),us.length=ps.length→bindArgs (PySem.W.fnOf x qual (ak st) (ai st) (af st) .none kV doc pm an cS ct) ⟨us,[]⟩=pure (ps.zip us)):Binds K fd ps []:=by
 obtain⟨oc,od,kV,doc,pm,an,cS,ct,AX,rfl,lk,jJ⟩:=F.ex
 exact .all (h kV doc pm an cS ct)
theorem au {x qual:Str}{st:Stmt}{f:Addr}{oc:Value}{od an:Option Addr}{AX:Array (Option Value)}{kV doc pm cS ct:Value}(l:K.lookup f=some ⟨oc,od,.func (PySem.W.fnOf x qual (ak st) (ai st) (af st) .none kV doc pm an cS ct),AX⟩)(c:PySem.W.codeIn K cS qual=true)(k:PySem.W.keepIn K (.ref f)=true):fL K x qual st f (PySem.W.fnOf x qual (ak st) (ai st) (af st) .none kV doc pm an cS ct):=⟨⟨oc,od,kV,doc,pm,an,cS,ct,AX,rfl,l,c⟩,k⟩
end
theorem pj {n:Nat}(h:n≤1000):n < sizeLine:=Nat.lt_of_le_of_lt h (by decide)
section
variable {X:Cx}
end
theorem wC {A B:Prop}(h:B):if false=true then A else B:=by
 rw[if_neg Bool.false_ne_true]
 exact h
theorem wD {A B:Prop}(h:A):if true=true then A else B:=by
 rw[if_pos rfl]
 exact h
def aL (H H':Hp):Prop:=∀ b o,H b=some o→H' b=some o
theorem aL.refl (H:Hp):aL H H:=fun _ _ h=>h
theorem aL.trans {H H1 H2:Hp}(a:aL H H1)(b:aL H1 H2):aL H H2:=fun c o h=>b c o (a c o h)
theorem aL.free {H H':Hp}(e:aL H H'){l:Addr}(h:H' l=Option.none):H l=Option.none:=by
 cases q:H l with
 | none=>rfl
 | some o=>
   rw[e l o q] at h
   cases h
theorem aL.seq {K:PySem.W.Frag}{H H':Hp}{a:Addr}{xs:List V}(e:aL H H')(h:jM K H a xs):jM K H' a xs:=by
 rcases h with(h | ⟨o,h⟩ | ⟨_,_,_,_,h⟩ | ⟨o,h⟩) | h
 . exact .inl (.inl (e _ _ h))
 . exact .inl (.inr (.inl ⟨o,e _ _ h⟩))
 . cases h
 . exact .inl (.inr (.inr (.inr ⟨o,e _ _ h⟩)))
 . exact .inr h
section
variable {κ:Type}[DecidableEq κ]
end
end L2
set_option maxHeartbeats 4000000
namespace Sg
open PySem PySem.Spec PyProof.Rows L2 PySem.Builtin PySem.Builtin.Getset_descriptor
def A4 (h:Heap)(x D:Addr):Prop:=∃ ox,h.get? x=some ox∧ox.cls=.ref D
theorem A4.ty {M:Model}{h:Heap}{x D:Addr}(I:A4 h x D):PySem.W.Looks M h (typeOf (.ref x)) (.ref D):=by
 obtain⟨ox,h1,h2⟩:=I
 rw[← h2]
 exact(PySem.W.Looks.ld h1).andThen .now
theorem O1 {prog:Program}{w:World}{A:Around}{E:Value→Shared→Prop}{K:PySem.W.Frag}{s:Shared}{x D:Addr}{name:Str}{tk:Tok}{fill expr:Bool}{Q:Value→Shared→Prop}{r:Builtin.ObjectAttr.Found}(X:K.In s.heap)(I:A4 s.heap x D)
   (hga:PySem.W.findIn K (.ref D) "__getattribute__"=some (some (.builtin "BaseException.__getattribute__"))) (hgt:PySem.W.findIn K (.ref D) "__getattr__"=some none) (rb:PySem.W.mroIn K D (.type "BaseException")=some true)
   (hf:PySem.W.Looks (model prog w) s.heap (Builtin.ObjectAttr.find (.ref x) (.ref D) name) r)
   (h:match r with
     | .bind g a=>wpAny (model prog w) A.in1 (call g [a,.ref x,.ref D]) (fun v s'=>wpAny (model prog w) A (handedOut v) Q E s') (fun _ _=>False) s
     | .value v=>wpAny (model prog w) A (handedOut v) Q E s
     | .missing=>False) :
   wpAny (model prog w) A (getAttrBy (.ref x) (.str name tk) fill expr) Q E s:=by
 obtain⟨hh,gg,d,t,os⟩:=s
 have L0:=I.ty (M:=model prog w)
 have L1:=PySem.W.looks_findIn (M:=model prog w) X hga
 have L2':=PySem.W.looks_findIn (M:=model prog w) X hgt
 have L4:=PySem.W.looks_mroIn (M:=model prog w) X rb
 have f3:=PySem.F.excAttr_ValueError.ga.bind (.ref x)
 unfold getAttrBy
 refine wpAny_holding (wpAny_bind (L0.at (wpAny_bind (L1.at ?_))))
 have O2:(Value.builtin "BaseException.__getattribute__" == Value.builtin "object.__getattribute__")=false:=by
   decide +kernel
 simp only[O2,Bool.and_false,Bool.false_eq_true,if_false]
 unfold getAttrByItsOwn hookBefore
 refine wpAny_bind (L2'.at ?_)
 refine wpAny_bind (wpAny_attempt (wpAny_holding ?_))
 unfold callGetattribute boundAndCalled
 have hx0:(expr && onTheHeap (Value.builtin "BaseException.__getattribute__"))=false:=by
   cases expr <;> rfl
 rw[hx0,f3]
 simp only[Bool.false_eq_true,if_false]
 refine wpAny_bind (wpAny_pure ?_)
 have hbi:PySem.W.Looks (model prog w) hh (isInstance (.ref x) (.type "BaseException")) true:=L0.andThen L4
 refine wpAny_call (codeAny_call_builtin PySem.F.excAttr_ValueError.ga.plain PySem.F.entry_bexc_ga (@PySem.W.check_slot (model prog w) _ _ _ "BaseException.__getattribute__" "BaseException" "__getattribute__" (.ref x) [.str name tk] [] _ (by decide +kernel) (by decide +kernel) hbi (PySem.F.args_bexc_ga _ _) ?_))
 unfold Builtin.«object.__getattribute__»
 refine wpAny_bind (wpAny_pure ?_)
 show wpAny (model prog w) A.in1 (Builtin.ObjectAttr.attrName (.str name tk) >>= _) _ _ _
 unfold Builtin.ObjectAttr.attrName
 refine wpAny_bind (wpAny_pure (wpAny_bind (L0.at (wpAny_bind (hf.at ?_)))))
 cases r with
 | bind g a=>
   show wpAny (model prog w) A.in1 (Builtin.ObjectAttr.bindTo g a (.ref x) (.ref D)) _ _ _
   unfold Builtin.ObjectAttr.bindTo
   show wpAny (model prog w) A.in1 (holding [a] (call g [a,.ref x,.ref D]) >>= ret) _ _ _
   exact wpAny_bind (wpAny_holding (wpAny_mono h (fun v s' z=>wpAny_pure z) fun _ _ z=>z.elim))
 | value v=>
   show wpAny (model prog w) A.in1 (ret v) _ _ _
   exact wpAny_pure h
 | missing=>exact h.elim
theorem Kn {prog:Program}{w:World}{A:Around}{K:PySem.W.Frag}{s:Shared}{x D:Addr}{tp:Value}{R:Result→Shared→Prop}(X:K.In s.heap)(I:A4 s.heap x D)(hm:PySem.W.mroIn K D (.type "object")=some true)(hR:R (.ok (.ret (.ref D))) s):codeAny (model prog w) A (.call (.builtin "getset_descriptor.__get__") ⟨[.builtin "object.__class__",.ref x,tp],[]⟩) R s:=by
 obtain⟨hh,g,dr,t,os⟩:=s
 have L0:=I.ty (M:=model prog w)
 have L1:=PySem.W.looks_mroIn (M:=model prog w) X hm
 have pl:=PySem.W.KF.slot_gs.plain
 have ent:=PySem.W.KF.entry_gs
 refine codeAny_call_builtin pl ent (PySem.W.KF.slot_gs.check _ _ _ _ _ _ _ _ PySem.W.KF.type_class (PySem.W.KF.args_gs _ _ _) ?_)
 unfold Builtin.«getset_descriptor.__get__» descrGet
 rw[PySem.W.dga_obj]
 refine wpAny_bind (wpAny_pure ?_)
 unfold descrGetter descrCheckInstance descrNameAndClass isInstance
 simp only[PySem.W.KF.owner_class]
 repeat lk
 refine⟨Code.quiet_builtin _ (by decide +kernel),codeAny_builtin PySem.W.KF.entry_class ?_⟩
 unfold Builtin.«object.__class__» shownTypeOf
 repeat lk
 exact hR
structure SD (K:PySem.W.Frag)(C:Addr):Prop where
 hc:(PySem.W.clsIn K C).isSome=true
 ga:PySem.W.findIn K (.ref C) "__getattribute__"=some (some (.builtin "BaseException.__getattribute__"))
 gt:PySem.W.findIn K (.ref C) "__getattr__"=some none
 be:PySem.W.mroIn K C (.type "BaseException")=some true
 ha:PySem.W.findIn K (.ref C) "__class__"=some (some (.builtin "object.__class__"))
 hn:PySem.W.specialIn K (.builtin "object.__class__") "__get__"=some (some (.builtin "getset_descriptor.__get__"))
 OJ:PySem.W.takesIn K (.builtin "object.__class__")=some true
 hm:PySem.W.mroIn K C (.type "object")=some true
theorem F0 {M:Model}{K:PySem.W.Frag}{h:Heap}{x C:Addr}(X:K.In h)(T:SD K C):PySem.W.Looks M h (Builtin.ObjectAttr.find (.ref x) (.ref C) "__class__") (.bind (.builtin "getset_descriptor.__get__") (.builtin "object.__class__")):=by
 refine(PySem.W.looks_findIn X T.ha).andThen ?_
 refine(PySem.W.looks_specialIn X T.hn:PySem.W.Looks M h (Builtin.ObjectAttr.getOf (some (.builtin "object.__class__"))) _).andThen ?_
 refine((PySem.W.looks_takesIn X T.OJ).andThen .now:PySem.W.Looks M h (Builtin.ObjectAttr.dataDescriptor? (some (.builtin "object.__class__")) (some (.builtin "getset_descriptor.__get__"))) (some (.builtin "getset_descriptor.__get__",.builtin "object.__class__"))).andThen ?_
 exact PySem.W.Looks.tag .now
theorem zc {K:PySem.W.Frag}{x D:Addr}(T:SD K D):PySem.W.KitX K (.ref x) (.ref D) (fun h=>A4 h x D) where
 ty:=fun _ _ _ I=>I.ty
 it:=fun M h X _=>by
   obtain⟨cdD,J9⟩:=Option.isSome_iff_exists.mp T.hc
   unfold PySem.W.clsIn at J9
   split at J9
   . rename_i u1 u2 u3 u4 hlk
     intro A' Q' E' s' k q
     unfold isType loadHead
     exact wpAny_bind (wpAny_loadPart (k _ _ (X _ _ hlk)) (wpAny_pure q))
   . cases J9
 ne:=fun h tp dd aI n sl X htp=>by
   obtain⟨cdD,J9⟩:=Option.isSome_iff_exists.mp T.hc
   refine Bool.eq_false_iff.mpr fun q=>?_
   have e:D=tp:=Value.ref.inj (beq_iff_eq.mp q)
   subst e
   unfold PySem.W.clsIn at J9
   split at J9
   . rename_i u1 u2 u3 u4 hlk
     have z:=(X _ _ hlk).symm.trans htp
     cases z
   . cases J9
 ca:=fun {prog w A E Q s} X I k=>by
   unfold getAttr? getAttrBy?
   refine wpAny_bind (wpAny_mkText (wpAny_bind (wpAny_attempt ?_)))
   refine O1 (s:={ s with toks:=s.toks+1}) X I T.ga T.gt T.be (F0 X T) ?_
   refine wpAny_call (Kn (s:={ s with toks:=s.toks+1}) X I T.hm ?_)
   exact PySem.W.handed_on rfl (wpAny_pure k)
end Sg
namespace Sg
open PySem PySem.Spec PyProof.Rows L2
abbrev St:=L2.St
def F1 (h:Heap)(x C dx:Addr):Prop:=∃ ox,h.get? x=some ox∧ox.cls=.ref C∧ox.dict=some dx∧∃ vs,ox.data=.fields vs
theorem F1.of {h:Heap}{x C dx:Addr}(I:F1 h x C dx):A4 h x C:=let ⟨ox,h1,h2,_⟩:=I;⟨ox,h1,h2⟩
inductive Dt where
 | dQ
 | bl (b:Bool)
 | int (i:Int)
 | str (x:Str)
 | tup (ds:List Dt)
 | lst (ds:List Dt)
 | lP (ns:List Int)
 | eB (kvs:List (Key×Dt))
 | obj (C:Addr) (fs:List (Str×Dt))
 | ty (n:String)
 | cls (C:Addr)
 | xo (C:Addr)
 | pk (kvs:List (Key×Dt))
 | Cy (C:Addr) (fs:List (Str×Dt))
 | eu (kvs:List (Key×Dt))
 | memo (a:Addr) (ls:gK) (j n:Nat)
 | eA (a:Addr) (ls:gK) (j n:Nat)
 | uG (a:Addr) (ls:gK) (n:Nat)
 | uK (C:Addr) (fs:List (Str×Dt)) (gs:List (Nat→List (Key×FD))) (nm:List Str) (n:Nat)
 | fD (fd:FD)
 | jo (Nj:List (List Key×Int))
def qc (fs:List (Str×Dt))(nm:List Str)(a:Addr)(ls:gK)(n:Nat):List (Str×Dt):=fs ++ (List.range nm.length).map fun j=>(nm.getD j "",.memo a ls j n)
def Known (H:Hp)(p:Addr)(f:Nat→List (Key×FD))(n:Nat):Prop:=∀ i,i < n→∃ q o kvs,H q=some (.kd (some (p,i)) o kvs)∧oY H kvs (f i)
def cP (H:Hp)(a:Addr)(ls:gK):Prop:=H a=some (.memo ls)∨∃ ns,H a=some (.cm ls ns)
theorem Known.mono {H H':Hp}{p:Addr}{f:Nat→List (Key×FD)}{n:Nat}(e:∀ b u,H b=some u→H' b=some u)(h:Known H p f n):Known H' p f n:=fun i hi=>let ⟨q,o,kvs,h1,h2⟩:=h i hi;⟨q,o,kvs,e _ _ h1,h2.kp (.of e)⟩
theorem cP.mono {H H':Hp}{a:Addr}{ls:gK}(e:∀ b u,H b=some u→H' b=some u)(h:cP H a ls):cP H' a ls:=h.imp (e _ _) fun⟨ns,z⟩=>⟨ns,e _ _ z⟩
mutual
inductive Rep (K:PySem.W.Frag)(H:Hp):V→Dt→Prop
 | dQ:Rep K H .dQ .dQ
 | bl (b:Bool):Rep K H (.bl b) (.bl b)
 | int (i:Int):Rep K H (.int i) (.int i)
 | str (x:Str):Rep K H (.str x) (.str x)
 | tup {a:Addr} {vs:List V} {ds:List Dt}:Az K H a vs→bY K H vs ds→Rep K H (.ref a) (.tup ds)
 | lst {a:Addr} {vs:List V} {ds:List Dt}:H a=some (.lst vs)→bY K H vs ds→Rep K H (.ref a) (.lst ds)
 | lP {a:Addr} {ns:List Int}:jM K H a (ns.map V.int)→Rep K H (.ref a) (.lP ns)
 | eB {a:Addr} {kvs:List (Key×V)} {kds:List (Key×Dt)}:H a=some (.dK kvs)→dv K H kvs kds→Rep K H (.ref a) (.eB kds)
 | obj {a C dx:Addr} {fs:List (Str×V)} {ds:List (Str×Dt)}:Rd H a (.ins C dx fs)→bS K H fs ds→Rep K H (.ref a) (.obj C ds)
 | ty (n:String):Rep K H (.ty n) (.ty n)
 | cls (C:Addr):Rep K H (.ref C) (.cls C)
 | xo {a C:Addr} {ph:Heap→Prop}:H a=some (.ext ph)→(∀ h,ph h→A4 h a C)→Rep K H (.ref a) (.xo C)
 | pk {a:Addr} {ob:Obj} {kvs:List (Key×V)} {kds:List (Key×Dt)}:H a=some (.b8 ob (.dK kvs))→dv K H kvs kds→Rep K H (.ref a) (.pk kds)
 | Cy {a C dx:Addr} {ph:Heap→Prop} {fs:List (Str×V)} {ds:List (Str×Dt)}:H a=some (.ext ph)→(∀ h,ph h→F1 h a C dx)→H dx=some (.xd fs)→bS K H fs ds→Rep K H (.ref a) (.Cy C ds)
 | eu {a:Addr} {tg:Option (Addr×Nat)} {ob:Obj} {kvs:List (Key×V)} {kds:List (Key×Dt)}:H a=some (.kd tg ob kvs)→dv K H kvs kds→Rep K H (.ref a) (.eu kds)
 | memo {a p:Addr} {ls:gK} {j n:Nat} {f:Nat→List (Key×FD)}:ls[j]?=some (p,f)→H a=some (.memo ls)→(p=a∨H p=some (.part a))→Known H p f n→Rep K H (.ref p) (.memo a ls j n)
 | eA {a p:Addr} {ls:gK} {j n:Nat} {f:Nat→List (Key×FD)}:ls[j]?=some (p,f)→cP H a ls→(p=a∨H p=some (.part a))→Known H p f n→Rep K H (.ref p) (.eA a ls j n)
 | uG {a:Addr} {ls:gK} {n:Nat}:(∀ (j:Nat) (p:Addr) (f:Nat→List (Key×FD)),ls[j]?=some (p,f)→Known H p f n)→Rep K H .dQ (.uG a ls n)
 | uK {s a C dx:Addr} {fv:List (Str×V)} {fs:List (Str×Dt)} {gs:List (Nat→List (Key×FD))} {nm:List Str} {n:Nat} {ls:gK}:ls.map (·.2)=gs→Rd H s (.ins C dx fv)→bS K H fv (qc fs nm a ls n)→Rep K H (.ref s) (.uK C fs gs nm n)
 | fD {v:V} {fd:FD}:Fz H v fd→Rep K H v (.fD fd)
 | jo {a:Addr} {Nj:List (List Key×Int)}:H a=some (.dT (Nj.map fun k=>(k.1,V.int k.2)))→Rep K H (.ref a) (.jo Nj)
inductive bY (K:PySem.W.Frag)(H:Hp):List V→List Dt→Prop
 | nil:bY K H [] []
 | cons {v:V} {d:Dt} {vs:List V} {ds:List Dt}:Rep K H v d→bY K H vs ds→bY K H (v::vs) (d::ds)
inductive dv (K:PySem.W.Frag)(H:Hp):List (Key×V)→List (Key×Dt)→Prop
 | nil:dv K H [] []
 | cons {k:Key} {v:V} {d:Dt} {vs:List (Key×V)} {ds:List (Key×Dt)}:Rep K H v d→dv K H vs ds→dv K H ((k,v)::vs) ((k,d)::ds)
inductive bS (K:PySem.W.Frag)(H:Hp):List (Str×V)→List (Str×Dt)→Prop
 | nil:bS K H [] []
 | cons {k:Str} {v:V} {d:Dt} {vs:List (Str×V)} {ds:List (Str×Dt)}:Rep K H v d→bS K H vs ds→bS K H ((k,v)::vs) ((k,d)::ds)
end
theorem eY {H H':Hp}{a:Addr}{u:HO}(e:aL H H')(h:Rd H a u):Rd H' a u:=by
 rcases h with h | ⟨o,h⟩ | ⟨tg,o,kvs,h,z⟩ | ⟨o,h⟩
 . exact .inl (e _ _ h)
 . exact .inr (.inl ⟨o,e _ _ h⟩)
 . exact .inr (.inr (.inl ⟨tg,o,kvs,e _ _ h,z⟩))
 . exact .inr (.inr (.inr ⟨o,e _ _ h⟩))
theorem eU {K:PySem.W.Frag}{H H':Hp}{a:Addr}{xs:List V}(e:aL H H')(h:Az K H a xs):Az K H' a xs:=by
 rcases h with h | h
 . exact .inl (e _ _ h)
 . exact .inr h
mutual
theorem Rep.mono {K:PySem.W.Frag}{H H':Hp}(e:aL H H'):∀ {v:V} {d:Dt},Rep K H v d→Rep K H' v d
 | _,_,.dQ=>.dQ
 | _,_,.bl b=>.bl b
 | _,_,.int i=>.int i
 | _,_,.str x=>.str x
 | _,_,.tup h r=>.tup (eU e h) (bY.mono e r)
 | _,_,.lst h r=>.lst (e _ _ h) (bY.mono e r)
 | _,_,.lP h=>.lP (e.seq h)
 | _,_,.eB h r=>.eB (e _ _ h) (dv.mono e r)
 | _,_,.obj h r=>.obj (eY e h) (bS.mono e r)
 | _,_,.ty n=>.ty n
 | _,_,.cls C=>.cls C
 | _,_,.xo h r=>.xo (e _ _ h) r
 | _,_,.pk h r=>.pk (e _ _ h) (dv.mono e r)
 | _,_,.Cy h q g r=>.Cy (e _ _ h) q (e _ _ g) (bS.mono e r)
 | _,_,.eu h r=>.eu (e _ _ h) (dv.mono e r)
 | _,_,.memo h1 h2 h3 h4=>.memo h1 (e _ _ h2) (h3.imp id fun z=>e _ _ z) (h4.mono e)
 | _,_,.eA h1 h2 h3 h4=>.eA h1 (h2.mono e) (h3.imp id fun z=>e _ _ z) (h4.mono e)
 | _,_,.uG h=>.uG fun j p f z=>(h j p f z).mono e
 | _,_,.uK h1 h2 h3=>.uK h1 (eY e h2) (bS.mono e h3)
 | _,_,.fD h=>.fD (h.st fun b u q _=>e b u q)
 | _,_,.jo h=>.jo (e _ _ h)
theorem bY.mono {K:PySem.W.Frag}{H H':Hp}(e:aL H H'):∀ {v:List V} {d:List Dt},bY K H v d→bY K H' v d
 | _,_,.nil=>.nil
 | _,_,.cons h r=>.cons (Rep.mono e h) (bY.mono e r)
theorem dv.mono {K:PySem.W.Frag}{H H':Hp}(e:aL H H'):∀ {v:List (Key×V)} {d:List (Key×Dt)},dv K H v d→dv K H' v d
 | _,_,.nil=>.nil
 | _,_,.cons h r=>.cons (Rep.mono e h) (dv.mono e r)
theorem bS.mono {K:PySem.W.Frag}{H H':Hp}(e:aL H H'):∀ {v:List (Str×V)} {d:List (Str×Dt)},bS K H v d→bS K H' v d
 | _,_,.nil=>.nil
 | _,_,.cons h r=>.cons (Rep.mono e h) (bS.mono e r)
end
theorem bY.length {K:PySem.W.Frag}{H:Hp}:∀ {v:List V} {d:List Dt},bY K H v d→v.length=d.length
 | _,_,.nil=>rfl
 | _,_,.cons _ r=>congrArg (·+1) (bY.length r)
theorem bY.get {K:PySem.W.Frag}{H:Hp}:∀ {v:List V} {d:List Dt} {i:Nat} {x:Dt},bY K H v d→d[i]?=some x→∃ y,v[i]?=some y∧Rep K H y x
 | _,_,_,_,.nil,e=>by simp at e
 | _,_,0,_,.cons h _,e=>by simp at e;subst e;exact⟨_,rfl,h⟩
 | _,_,i+1,x,.cons _ r,e=>by
   obtain⟨y,h1,h2⟩:=bY.get (i:=i) (x:=x) r (by simpa using e)
   exact⟨y,by simpa using h1,h2⟩
theorem bY.get' {K:PySem.W.Frag}{H:Hp}{v:List V}{d:List Dt}{i:Nat}{y:V}(r:bY K H v d)(e:v[i]?=some y):∃ x,d[i]?=some x∧Rep K H y x:=by
 have hi:i < v.length:=(List.getElem?_eq_some_iff.mp e).1
 have hi':i < d.length:=by rw[← r.length];exact hi
 obtain⟨z,h1,h2⟩:=r.get (List.getElem?_eq_getElem hi')
 rw[e] at h1;cases h1
 exact⟨_,List.getElem?_eq_getElem hi',h2⟩
theorem bY.append {K:PySem.W.Frag}{H:Hp}:∀ {v:List V} {d:List Dt} {v':List V} {d':List Dt},bY K H v d→bY K H v' d'→bY K H (v ++ v') (d ++ d')
 | _,_,_,_,.nil,s=>s
 | _,_,_,_,.cons h r,s=>.cons h (bY.append r s)
theorem bY.take {K:PySem.W.Frag}{H:Hp}:∀ {v:List V} {d:List Dt} (n:Nat),bY K H v d→bY K H (v.take n) (d.take n)
 | _,_,0,_=>.nil
 | _,_,_+1,.nil=>.nil
 | _,_,n+1,.cons h r=>.cons h (bY.take n r)
theorem bY.set {K:PySem.W.Frag}{H:Hp}{y:V}{x:Dt}(q:Rep K H y x):∀ {v:List V} {d:List Dt} (n:Nat),bY K H v d→bY K H (v.set n y) (d.set n x)
 | _,_,_,.nil=>.nil
 | _,_,0,.cons _ r=>.cons q r
 | _,_,n+1,.cons h r=>.cons h (bY.set q n r)
theorem bS.lookup {K:PySem.W.Frag}{H:Hp}{f:Str}:∀ {v:List (Str×V)} {d:List (Str×Dt)} {x:Dt},bS K H v d→d.lookup f=some x→∃ y,v.lookup f=some y∧Rep K H y x
 | _,_,_,.nil,e=>by simp at e
 | (k,v)::r,(_,d)::s,x,.cons h t,e=>by
   rw[List.lookup_cons] at e ⊢
   cases q:(f == k) with
   | true=>rw[q] at e;cases e;exact⟨v,rfl,h⟩
   | false=>rw[q] at e;exact bS.lookup t e
theorem bS.none_of {K:PySem.W.Frag}{H:Hp}{f:Str}:∀ {v:List (Str×V)} {d:List (Str×Dt)},bS K H v d→d.lookup f=none→v.lookup f=none
 | _,_,.nil,_=>rfl
 | (k,v)::r,(_,d)::s,.cons h t,e=>by
   rw[List.lookup_cons] at e ⊢
   cases q:(f == k) with
   | true=>rw[q] at e;cases e
   | false=>rw[q] at e;exact bS.none_of t e
theorem bS.length {K:PySem.W.Frag}{H:Hp}:∀ {v:List (Str×V)} {d:List (Str×Dt)},bS K H v d→v.length=d.length
 | _,_,.nil=>rfl
 | _,_,.cons _ r=>congrArg (·+1) (bS.length r)
theorem dv.length {K:PySem.W.Frag}{H:Hp}:∀ {v:List (Key×V)} {d:List (Key×Dt)},dv K H v d→v.length=d.length
 | _,_,.nil=>rfl
 | _,_,.cons _ r=>congrArg (·+1) (dv.length r)
structure bX (Hf H aT H':Hp):Prop where
 big:aL H H'
 b8:aL Hf aT
 sub:aL aT H'
 new:∀ a o,aT a=some o→(∃ o,Hf a=some o)∨H a=Option.none∨Kept o
theorem bX.refl {Hf H:Hp}(s:aL Hf H):bX Hf H Hf H:=⟨aL.refl _,aL.refl _,s,fun a o h=>.inl ⟨o,h⟩⟩
theorem bX.trans {Hf H aA H1 cU H2:Hp}(a:bX Hf H aA H1)(b:bX aA H1 cU H2):bX Hf H cU H2:=
 ⟨a.big.trans b.big,a.b8.trans b.b8,b.sub,fun x o h=>by
   rcases b.new x o h with⟨o',h'⟩ | h' | h'
   . have e:=b.b8 _ _ h'
     rw[h] at e;cases e
     exact a.new x o h'
   . exact .inr (.inl (a.big.free h'))
   . exact .inr (.inr h')⟩
theorem bX.wF {Hf H aT H':Hp}(g:bX Hf H aT H'){a:Addr}{u o:HO}(h:H a=some u)(nk:¬ Kept u)(q:aT a=some o):∃ o,Hf a=some o:=by
 rcases g.new a o q with z | z | z
 . exact z
 . rw[h] at z;cases z
 . have e:=g.big _ _ h
   rw[g.sub _ _ q] at e;cases e
   exact absurd z nk
theorem cv {H:Hp}{p:Addr}{o:HO}(n:H p=Option.none):aL H (upd H p o):=fun b u e=>by
 rw[ah (aB e n)];exact e
theorem dP {Hf H:Hp}{p:Addr}{o:HO}(s:aL Hf H):aL (upd Hf p o) (upd H p o):=fun b u e=>by
 by_cases hb:b=p
 . subst hb;rw[aq] at e ⊢;exact e
 . rw[ah hb] at e ⊢;exact s _ _ e
theorem vE {Hf H:Hp}{p:Addr}{o:HO}(s:aL Hf H)(n:Hf p=Option.none):aL Hf (upd H p o):=fun b u e=>by
 rw[ah (aB e n)];exact s _ _ e
theorem bX.alloc {Hf H:Hp}{p:Addr}{o:HO}(s:aL Hf H)(n:H p=Option.none):bX Hf H (upd Hf p o) (upd H p o):=
 ⟨cv n,cv (s.free n),dP s,fun a u h=>by
   by_cases hb:a=p
   . subst hb;exact .inr (.inl n)
   . rw[ah hb] at h;exact .inl ⟨u,h⟩⟩
theorem bX.eC {Hf H:Hp}{p:Addr}{o:HO}(s:aL Hf H)(n:H p=Option.none):bX Hf H Hf (upd H p o):=
 ⟨cv n,aL.refl _,vE s (s.free n),fun a u h=>.inl ⟨u,h⟩⟩
inductive Own where
 | lst (ds:List Dt)
 | eB (kds:List (Key×Dt))
 | obj (C:Addr) (fs:List (Str×Dt))
 | zd (x:Addr) (C:Addr) (fs:List (Str×Dt))
 | pq (C:Addr) (fs:List (Str×Dt)) (gs:List (Nat→List (Key×FD))) (nm:List Str) (n:Nat)
 | wG (x:Addr) (C:Addr) (fs:List (Str×Dt)) (gs:List (Nat→List (Key×FD))) (nm:List Str) (n:Nat)
 | jo (Nj:List (List Key×Int))
inductive Slot where
 | bE
 | val (d:Dt)
 | own (o:Own)
def fg (K:PySem.W.Frag)(Hf H:Hp)(a:Addr):Own→Prop
 | .lst ds=>∃ vs,H a=some (.lst vs)∧bY K Hf vs ds
 | .eB kds=>∃ kvs,H a=some (.dK kvs)∧dv K Hf kvs kds
 | .obj C ds=>∃ dx fs,H a=some (.ins C dx fs)∧bS K Hf fs ds
 | .zd x C ds=>a=x∧∃ dx fs,H a=some (.ins C dx fs)∧bS K Hf fs ds
 | .pq C ds gs nm n=>∃ dx fs b ls,(ls:gK).map (·.2)=gs∧H a=some (.ins C dx fs)∧bS K Hf fs (qc ds nm b ls n)
 | .wG x C ds gs nm n=>a=x∧∃ dx fs b ls,(ls:gK).map (·.2)=gs∧H a=some (.ins C dx fs)∧bS K Hf fs (qc ds nm b ls n)
 | .jo Nj=>H a=some (.dT (Nj.map fun k=>(k.1,V.int k.2)))
theorem fg.T4 {K:PySem.W.Frag}{Hf H:Hp}{a:Addr}:∀ {o:Own},fg K Hf H a o→∃ u,H a=some u∧¬ Kept u
 | .lst _,⟨_,h,_⟩=>⟨_,h,fun z=>z⟩
 | .eB _,⟨_,h,_⟩=>⟨_,h,fun z=>z⟩
 | .obj _ _,⟨_,_,h,_⟩=>⟨_,h,fun z=>z⟩
 | .zd _ _ _,⟨_,_,_,h,_⟩=>⟨_,h,fun z=>z⟩
 | .pq _ _ _ _ _,⟨_,_,_,_,_,h,_⟩=>⟨_,h,fun z=>z⟩
 | .wG _ _ _ _ _ _,⟨_,_,_,_,_,_,h,_⟩=>⟨_,h,fun z=>z⟩
 | .jo _,h=>⟨_,h,fun z=>z⟩
theorem fg.some {K:PySem.W.Frag}{Hf H:Hp}{a:Addr}:∀ {o:Own},fg K Hf H a o→∃ u,H a=some u
 | .lst _,⟨_,h,_⟩=>⟨_,h⟩
 | .eB _,⟨_,h,_⟩=>⟨_,h⟩
 | .obj _ _,⟨_,_,h,_⟩=>⟨_,h⟩
 | .zd _ _ _,⟨_,_,_,h,_⟩=>⟨_,h⟩
 | .pq _ _ _ _ _,⟨_,_,_,_,_,h,_⟩=>⟨_,h⟩
 | .wG _ _ _ _ _ _,⟨_,_,_,_,_,_,h,_⟩=>⟨_,h⟩
 | .jo _,h=>⟨_,h⟩
theorem fg.grow {K:PySem.W.Frag}{Hf H aT H':Hp}{a:Addr}(e:H' a=H a)(f:aL Hf aT):∀ {o:Own},fg K Hf H a o→fg K aT H' a o
 | .lst _,⟨vs,h,r⟩=>⟨vs,by rw[e];exact h,r.mono f⟩
 | .eB _,⟨vs,h,r⟩=>⟨vs,by rw[e];exact h,r.mono f⟩
 | .obj _ _,⟨dx,fs,h,r⟩=>⟨dx,fs,by rw[e];exact h,r.mono f⟩
 | .zd _ _ _,⟨q,dx,fs,h,r⟩=>⟨q,dx,fs,by rw[e];exact h,r.mono f⟩
 | .pq _ _ _ _ _,⟨dx,fs,b,ls,q,h,r⟩=>⟨dx,fs,b,ls,q,by rw[e];exact h,r.mono f⟩
 | .wG _ _ _ _ _ _,⟨q0,dx,fs,b,ls,q,h,r⟩=>⟨q0,dx,fs,b,ls,q,by rw[e];exact h,r.mono f⟩
 | .jo Nj,h=>(show H' a=Option.some (HO.dT (Nj.map fun k=>(k.1,V.int k.2))) from by rw[e];exact h)
structure Gr where
 Hf:Hp
 H:Hp
structure d7 (K:PySem.W.Frag)(G:Gr)(st:L2.St)(Hf H:Hp)(dl:List Slot):Prop where
 gr:bX G.Hf G.H Hf H
 len:st.length=dl.length
 val:∀ (i:Nat) d,dl[i]?=some (.val d)→∃ v,st[i]?=some (some v)∧Rep K Hf v d
 own:∀ (i:Nat) o,dl[i]?=some (.own o)→∃ a,st[i]?=some (some (.ref a))∧Hf a=Option.none∧G.H a=Option.none∧fg K Hf H a o
 D5:∀ (i j:Nat) o o' a,dl[i]?=some (.own o)→dl[j]?=some (.own o')→st[i]?=some (some (.ref a))→st[j]?=some (some (.ref a))→i=j
section
variable {K:PySem.W.Frag}{G:Gr}{st:L2.St}{Hf H aT H':Hp}{dl dl':List Slot}
theorem d7.sub (S:d7 K G st Hf H dl):aL Hf H:=S.gr.sub
theorem d7.grow (S:d7 K G st Hf H dl)(g:bX Hf H aT H'):d7 K G st aT H' dl:=by
 refine⟨S.gr.trans g,S.len,fun i d h=>let ⟨v,h1,h2⟩:=S.val i d h;⟨v,h1,h2.mono g.b8⟩,fun i o h=>?_,S.D5⟩
 obtain⟨a,h1,h2,h3,h4⟩:=S.own i o h
 obtain⟨u,hu,nk⟩:=h4.T4
 refine⟨a,h1,?_,h3,h4.grow (by rw[hu];exact g.big _ _ hu) g.b8⟩
 cases q:aT a with
 | none=>rfl
 | some u'=>
   obtain⟨o',z⟩:=g.wF hu nk q
   rw[h2] at z;cases z
theorem d7.set (S:d7 K G st Hf H dl){i:Nat}{v:V}{d:Dt}(r:Rep K Hf v d):d7 K G (st.set i (some v)) Hf H (dl.set i (.val d)):=by
 have ln:=S.len
 refine⟨S.gr,by simp[S.len],fun j x h=>?_,fun j o h=>?_,fun j k o o' a h1 h2 h3 h4=>?_⟩
 . by_cases e:i=j
   . subst e
     by_cases hl:i < dl.length
     . rw[List.getElem?_set_self hl] at h;cases h
       exact⟨v,List.getElem?_set_self (by omega),r⟩
     . rw[List.getElem?_eq_none (by simp;omega)] at h;cases h
   . rw[List.getElem?_set_ne e] at h ⊢;exact S.val j x h
 . by_cases e:i=j
   . subst e
     by_cases hl:i < dl.length
     . rw[List.getElem?_set_self hl] at h;cases h
     . rw[List.getElem?_eq_none (by simp;omega)] at h;cases h
   . rw[List.getElem?_set_ne e] at h ⊢;exact S.own j o h
 . have nj:i≠j:=fun e=>by
     subst e
     by_cases hl:i < dl.length
     . rw[List.getElem?_set_self hl] at h1;cases h1
     . rw[List.getElem?_eq_none (by simp;omega)] at h1;cases h1
   have nk:i≠k:=fun e=>by
     subst e
     by_cases hl:i < dl.length
     . rw[List.getElem?_set_self hl] at h2;cases h2
     . rw[List.getElem?_eq_none (by simp;omega)] at h2;cases h2
   rw[List.getElem?_set_ne nj] at h1 h3
   rw[List.getElem?_set_ne nk] at h2 h4
   exact S.D5 j k o o' a h1 h2 h3 h4
theorem d7.D6 (S:d7 K G st Hf H dl){i:Nat}{p:Addr}{o:HO}{w w':Own}(hi:dl[i]?=some (.own w))(hp:st[i]?=some (some (.ref p)))(r:fg K Hf (upd H p o) p w'):d7 K G st Hf (upd H p o) (dl.set i (.own w')):=by
 have ln:=S.len
 obtain⟨p',q1,q2,q3,q4⟩:=S.own i w hi
 rw[hp] at q1;cases q1
 have hl:i < dl.length:=(List.getElem?_eq_some_iff.mp hi).1
 have g:bX G.Hf G.H Hf (upd H p o):=⟨fun b u e=>by rw[ah (aB e q3)];exact S.gr.big _ _ e,S.gr.b8,vE S.sub q2,S.gr.new⟩
 refine⟨g,by simp[S.len],fun j x h=>?_,fun j o' h=>?_,fun j k o1 o2 a h1 h2 h3 h4=>?_⟩
 . by_cases e:i=j
   . subst e;rw[List.getElem?_set_self hl] at h;cases h
   . rw[List.getElem?_set_ne e] at h;exact S.val j x h
 . by_cases e:i=j
   . subst e;rw[List.getElem?_set_self hl] at h;cases h
     exact⟨p,hp,q2,q3,r⟩
   . rw[List.getElem?_set_ne e] at h
     obtain⟨a,z1,z2,z3,z4⟩:=S.own j o' h
     have:a≠p:=fun q=>by subst q;exact e (S.D5 i j _ _ _ hi h hp z1)
     exact⟨a,z1,z2,z3,z4.grow (ah this) (aL.refl _)⟩
 . have tr:∀ (j:Nat) o',(dl.set i (.own w'))[j]?=some (.own o')→∃ O3,dl[j]?=some (.own O3):=fun j o' h=>by
     by_cases e:i=j
     . subst e;exact⟨_,hi⟩
     . rw[List.getElem?_set_ne e] at h;exact⟨_,h⟩
   obtain⟨_,t1⟩:=tr j o1 h1
   obtain⟨_,t2⟩:=tr k o2 h2
   exact S.D5 j k _ _ a t1 t2 h3 h4
def Le (dl dl':List Slot):Prop:=dl.length=dl'.length∧∀ (i:Nat) s,dl[i]?=some s→s≠.bE→dl'[i]?=some s
theorem Le.refl (dl:List Slot):Le dl dl:=⟨rfl,fun _ _ h _=>h⟩
theorem d7.weak (S:d7 K G st Hf H dl')(l:Le dl dl'):d7 K G st Hf H dl:=
 ⟨S.gr,by rw[S.len,l.1],fun i d h=>S.val i d (l.2 i _ h (by intro z;cases z)),fun i o h=>S.own i o (l.2 i _ h (by intro z;cases z)),
  fun i j o o' a h1 h2=>S.D5 i j o o' a (l.2 i _ h1 (by intro z;cases z)) (l.2 j _ h2 (by intro z;cases z))⟩
def T5:List Slot→List Slot→Prop
 | [],[]=>True
 | .bE::r,_::s=>T5 r s
 | x::r,y::s=>x=y∧T5 r s
 | _,_=>False
theorem Le.of:∀ {dl dl':List Slot},T5 dl dl'→Le dl dl'
 | [],[],_=>Le.refl _
 | .bE::r,y::s,h=>by
   have q:=Le.of (dl:=r) (dl':=s) h
   refine⟨congrArg (·+1) q.1,fun i x e n=>?_⟩
   cases i with
   | zero=>simp at e;exact absurd e.symm n
   | succ i=>exact q.2 i x (by simpa using e) n
 | .val d::r,y::s,h=>by
   obtain⟨h1,h2⟩:=(show Slot.val d=y∧T5 r s from h)
   subst h1
   have q:=Le.of h2
   refine⟨congrArg (·+1) q.1,fun i x e n=>?_⟩
   cases i with
   | zero=>exact e
   | succ i=>exact q.2 i x (by simpa using e) n
 | .own d::r,y::s,h=>by
   obtain⟨h1,h2⟩:=(show Slot.own d=y∧T5 r s from h)
   subst h1
   have q:=Le.of h2
   refine⟨congrArg (·+1) q.1,fun i x e n=>?_⟩
   cases i with
   | zero=>exact e
   | succ i=>exact q.2 i x (by simpa using e) n
end
def tD (K:PySem.W.Frag)(G:Gr)(dl:List Slot)(d:Dt):TE:=fun st H Q=>∃ Hf,d7 K G st Hf H dl∧∀ v aT H',bX Hf H aT H'→Rep K aT v d→Q v H'
def T6 (K:PySem.W.Frag)(G:Gr)(dl:List Slot)(ds:List Dt):TA:=fun st H Q=>∃ Hf,d7 K G st Hf H dl∧∀ vs aT H',bX Hf H aT H'→bY K aT vs ds→Q vs H'
def T7 (K:PySem.W.Frag)(G:Gr)(dl:List Slot)(b:Bool):TT:=fun st H Q=>∃ Hf,d7 K G st Hf H dl∧∀ aT H',bX Hf H aT H'→Q b H'
abbrev EE (X:Cx)(G:Gr)(dl:List Slot)(e:Expr)(d:Dt):Prop:=PE X e (tD X.K G dl d)
abbrev EA (X:Cx)(G:Gr)(dl:List Slot)(es:List Expr)(ds:List Dt):Prop:=PA X es (T6 X.K G dl ds)
abbrev EB (X:Cx)(G:Gr)(dl:List Slot)(e:Expr)(b:Bool):Prop:=PT X e (T7 X.K G dl b)
def ExcAt (K:PySem.W.Frag)(Hf:Hp)(od:Option Addr)(fs:List (Str×Dt)):Prop:=match od with
 | none=>fs=[]
 | some dx=>∃ fv,Hf dx=some (.xd fv)∧bS K Hf fv fs
inductive Out where
 | nx (dl:List Slot)
 | rt (d:Dt)
 | ro (w:Own)
 | bk (dl:List Slot)
 | ct (dl:List Slot)
 | ex (c:Value) (fs:List (Str×Dt))
 | raw (R:L2.St→Hp→Prop)
def uL (K:PySem.W.Frag)(G:Gr)(E:XK)(D:Ends)(Hf:Hp):Out→Prop
 | .nx dl=>∀ st aT H,aL Hf aT→d7 K G st aT H dl→D.nx st H
 | .bk dl=>∀ st aT H,aL Hf aT→d7 K G st aT H dl→D.bk st H
 | .ct dl=>∀ st aT H,aL Hf aT→d7 K G st aT H dl→D.ct st H
 | .rt d=>∀ v aT H,bX G.Hf G.H aT H→Rep K aT v d→D.rt v H
 | .ro o=>∀ p aT H,bX G.Hf G.H aT H→G.H p=none→aT p=none→fg K aT H p o→D.rt (.ref p) H
 | .ex c fs=>∀ od aT H,bX G.Hf G.H aT H→ExcAt K aT od fs→E c od H
 | .raw R=>∀ st H,R st H→D.nx st H
theorem uL.mono {K:PySem.W.Frag}{G:Gr}{E:XK}{D:Ends}{Hf aA:Hp}(s:aL Hf aA):∀ {o:Out},uL K G E D Hf o→uL K G E D aA o
 | .nx _,k=>fun st aT H s' S=>k st aT H (s.trans s') S
 | .bk _,k=>fun st aT H s' S=>k st aT H (s.trans s') S
 | .ct _,k=>fun st aT H s' S=>k st aT H (s.trans s') S
 | .rt _,k=>k
 | .ro _,k=>k
 | .ex _ _,k=>k
 | .raw _,k=>k
def tO (K:PySem.W.Frag)(G:Gr)(E:XK)(dl:List Slot)(o:Out):TS:=fun D st H=>∃ Hf,d7 K G st Hf H dl∧uL K G E D Hf o
abbrev ES (X:Cx)(G:Gr)(E:XK)(dl:List Slot)(s:Stmt)(o:Out):Prop:=PS X s (tO X.K G E dl o)
abbrev jQ (X:Cx)(G:Gr)(E:XK)(dl:List Slot)(s:List Stmt)(o:Out):Prop:=AI X s (tO X.K G E dl o)
theorem fh {X:Cx}{e:Expr}{t t':TE}(h:PE X e t)(i:∀ st H Q,t' st H Q→t st H Q):PE X e t':=fun pins s st H Q I q=>h pins s st H Q I (i st H Q q)
theorem T8 {X:Cx}{e:Expr}{t t':TT}(h:PT X e t)(i:∀ st H Q,t' st H Q→t st H Q):PT X e t':=fun pins s st H Q I q=>h pins s st H Q I (i st H Q q)
theorem paI {X:Cx}{e:List Expr}{t t':TA}(h:PA X e t)(i:∀ st H Q,t' st H Q→t st H Q):PA X e t':=fun pos pins s st H Q I q=>h pos pins s st H Q I (i st H Q q)
theorem qt {X:Cx}{e:Stmt}{t t':TS}(h:PS X e t)(i:∀ D st H,t' D st H→t D st H):PS X e t':=fun pins s st H D I q=>h pins s st H D I (i D st H q)
theorem ze {X:Cx}{e:List Stmt}{t t':TS}(h:AI X e t)(i:∀ D st H,t' D st H→t D st H):AI X e t':=fun pins s st H D I q=>h pins s st H D I (i D st H q)
section
variable {X:Cx}{G:Gr}{E:XK}{dl dl1 dl2:List Slot}{a b c e:Expr}{es:List Expr}{i j:Int}{d d1 d2:Dt}{ds:List Dt}{pos:Pos}{o o':Out}{x y:Str}{u v:Bool}
theorem aa (n:Nat){x:Str}{pos:Pos}(hd:dl[n]?=some (.val d):=by rfl)(hN:X.N[n]?=some x:=by rfl)(hv:rY X.env.scope x:=by first | exact Or.inl rfl | exact Or.inr (Or.inl rfl) | exact Or.inr (Or.inr rfl))(hb:(x == ("__debug__":Str))=false:=by decide)(jJ:(x == ("__classdict__":Str))=false:=by decide):EE X G dl (.Name x pos) d:=
 fh (fP hN hv hb jJ) fun st H Q ⟨Hf,S,k⟩=>let ⟨v,h1,h2⟩:=S.val n d hd;⟨v,h1,k v Hf H (.refl S.sub) h2⟩
theorem ar {z:Int}{j pos}:EE X G dl (.Constant (.int z) j pos) (.int z):=fh Oi fun st H Q ⟨Hf,S,k⟩=>k _ Hf H (.refl S.sub) (.int z)
theorem eJ {z:Str}{j pos}:EE X G dl (.Constant (.str z) j pos) (.str z):=fh Oj fun st H Q ⟨Hf,S,k⟩=>k _ Hf H (.refl S.sub) (.str z)
def A5 (K:PySem.W.Frag)(r:R2)(d1 d2 d:Dt):Prop:=∀ v w Hf H Q,aL Hf H→Rep K Hf v d1→Rep K Hf w d2→(∀ u aT H',bX Hf H aT H'→Rep K aT u d→Q u H')→r v w H Q
theorem su {r:R2}(h:A5 X.K r d1 d2 d):∀ st H Q,tD X.K G dl d st H Q→Tn r (tD X.K G dl d1) (tD X.K G dl d2) st H Q:=fun st H Q ⟨Hf,S,k⟩=>
 ⟨Hf,S,fun v aA H1 g1 r1=>⟨aA,S.grow g1,fun w cU H2 g2 r2=>h v w cU H2 Q g2.sub (r1.mono g2.b8) r2 fun u fM H3 g3 r3=>k u fM H3 ((g1.trans g2).trans g3) r3⟩⟩
theorem sv {op:Operator}{r:R2}(ho:kT X (binaryOp op) r)(h:A5 X.K r d1 d2 d)(ha:EE X G dl a d1)(hb:EE X G dl b d2):EE X G dl (.BinOp a op b pos) d:=fh (Na ho ha hb) (su h)
theorem A6 {op:CmpOp}{r:R2}(ho:kT X (compareOp op) r)(h:A5 X.K r d1 d2 d)(hm:behindInMarks op b=false)(ha:EE X G dl a d1)(hb:EE X G dl b d2):EE X G dl (.Compare a [op] [b] pos) d:=fh (J6 ho ha hb hm) (su h)
theorem jR {op:CmpOp}{r:R2}(ho:kT X (compareOp op) r)(h:A5 X.K r d1 d2 (.bl u))(hm:behindInMarks op b=false)(ha:EE X G dl a d1)(hb:EE X G dl b d2):EB X G dl (.Compare a [op] [b] pos) u:=
 T8 (J7 ho ha hb hm) fun st H Q ⟨Hf,S,k⟩=>su h st H _ ⟨Hf,S,fun v aT H' g r=>by cases r;exact⟨u,rfl,k aT H' g⟩⟩
theorem mH {K:PySem.W.Frag}{g:Int→Int→V}{g':Int→Int→Dt}(h:∀ K H i j,Rep K H (g i j) (g' i j)):A5 K (J3 g) (.int i) (.int j) (g' i j):=fun v w Hf H Q s r1 r2 k=>by
 cases r1;cases r2;exact⟨i,j,rfl,rfl,k _ Hf H (.refl s) (h _ _ _ _)⟩
theorem Ko {K:PySem.W.Frag}{C:Int→Int→Prop}{g:Int→Int→V}{g':Int→Int→Dt}(h:∀ K H i j,Rep K H (g i j) (g' i j))(hc:C i j):A5 K (rI C g) (.int i) (.int j) (g' i j):=fun v w Hf H Q s r1 r2 k=>by
 cases r1;cases r2;exact⟨i,j,rfl,rfl,hc,k _ Hf H (.refl s) (h _ _ _ _)⟩
theorem bu (ha:EE X G dl a (.int i))(hb:EE X G dl b (.int j)):EE X G dl (.BinOp a .Add b pos) (.int (i+j)):=sv OD (mH (g':=fun i j=>.int (i+j)) fun _ _ _ _=>.int _) ha hb
theorem eD (ha:EE X G dl a (.int i))(hb:EE X G dl b (.int j)):EE X G dl (.BinOp a .Sub b pos) (.int (i - j)):=sv OE (mH (g':=fun i j=>.int (i - j)) fun _ _ _ _=>.int _) ha hb
theorem Kq:kT X (binaryOp .Mult) (rI IntMulOk fun i j=>.int (i * j)):=opI fun _ _ _ _ _ _ _ hc q=>mul_int q hc
theorem ff (ha:EE X G dl a (.int i))(hb:EE X G dl b (.int j))(hc:IntMulOk i j):EE X G dl (.BinOp a .Mult b pos) (.int (i * j)):=sv Kq (Ko (g':=fun i j=>.int (i * j)) (fun _ _ _ _=>.int _) hc) ha hb
theorem F2:kT X (binaryOp .FloorDiv) (rI (fun _ j=>0 < j∧j.natAbs.log2 < 9000) fun i j=>.int (i / j)):=opI fun i j _ _ _ _ _ hc q=>by
 refine floordiv_int (Int.ne_of_gt hc.1) ?_ (.inl (PyProof.noPylong_of_log2 hc.2))
 rw[Int.fdiv_eq_ediv_of_nonneg _ (Int.le_of_lt hc.1)]
 exact q
theorem eZ (ha:EE X G dl a (.int i))(hb:EE X G dl b (.int j))(hc:0 < j∧j.natAbs.log2 < 9000):EE X G dl (.BinOp a .FloorDiv b pos) (.int (i / j)):=sv F2 (Ko (g':=fun i j=>.int (i / j)) (fun _ _ _ _=>.int _) hc) ha hb
theorem dj (ha:EE X G dl a (.int i))(hb:EE X G dl b (.int j))(hc:0 < j):EE X G dl (.BinOp a .Mod b pos) (.int (i % j)):=sv OF (Ko (g':=fun i j=>.int (i % j)) (fun _ _ _ _=>.int _) hc) ha hb
theorem F3 (ha:EE X G dl a (.int i))(hb:EE X G dl b (.int j))(hc:Tq i j):EE X G dl (.BinOp a .Pow b pos) (.int (i ^ j.toNat)):=sv OG (Ko (g':=fun i j=>.int (i ^ j.toNat)) (fun _ _ _ _=>.int _) hc) ha hb
theorem O4 {K:PySem.W.Frag}(h:x.length+y.length≤sizeLine):A5 K (fun a b H Q=>∃ i j,a=.str i∧b=.str j∧i.length+j.length≤sizeLine∧Q (.str (i ++ j)) H) (.str x) (.str y) (.str (x ++ y)):=fun v w Hf H Q s r1 r2 k=>by
 cases r1;cases r2;exact⟨x,y,rfl,rfl,h,k _ Hf H (.refl s) (.str _)⟩
theorem O5 (ha:EE X G dl a (.str x))(hb:EE X G dl b (.str y))(h:x.length+y.length≤sizeLine):EE X G dl (.BinOp a .Add b pos) (.str (x ++ y)):=sv AO (O4 h) ha hb
theorem fQ (ha:EE X G dl a (.int i)):EE X G dl (.UnaryOp .USub a pos) (.int (-i)):=
 fh (To OH ha) fun st H Q ⟨Hf,S,k⟩=>⟨Hf,S,fun v aA H1 g1 r1=>by cases r1;exact⟨i,rfl,k _ aA H1 g1 (.int _)⟩⟩
theorem zf (h:EE X G dl e (.bl u))(he:∀ whole,isTrue e X.env whole=(do let v ← whole;standAt e.pos;holding [v] (truthy v)):=by intro _;rfl):EB X G dl e u:=
 T8 (Om h he) fun st H Q ⟨Hf,S,k⟩=>⟨Hf,S,fun v aA H1 g1 r1=>by cases r1;exact⟨u,rfl,k aA H1 g1⟩⟩
end
end Sg
namespace Sg
open PySem PySem.Spec PyProof.Rows L2
section
variable {X:Cx}{G:Gr}{E:XK}{dl dl1 dl2:List Slot}{a b c e:Expr}{es:List Expr}{i j:Int}{d d1 d2:Dt}{ds:List Dt}{pos:Pos}{o o':Out}{x y:Str}{u v:Bool}{rest:List Expr}{sts D7:List Stmt}{s:Stmt}
theorem A7:PE X e fun _ _ _=>False:=fun _ _ _ _ _ _ h=>h.elim
theorem pw_nev:PW X e fun _ _ _=>False:=fun _ _ _ _ _ _ _ h=>h.elim
abbrev EW (X:Cx)(G:Gr)(dl:List Slot)(e:Expr)(b:Bool):Prop:=PW X e (T7 X.K G dl b)
theorem pwI {e:Expr}{t t':TT}(h:PW X e t)(i:∀ st H Q,t' st H Q→t st H Q):PW X e t':=fun wh pins s st H Q I q=>h wh pins s st H Q I (i st H Q q)
theorem rq (ha:EB X G dl a u):EW X G dl (.BoolOp .And [a] pos) u:=pw_and1 ha
theorem sx (ha:EB X G dl a u):EW X G dl (.BoolOp .Or [a] pos) u:=pw_or1 ha
theorem pv (ha:EB X G dl a u)(hb:u=true→EW X G dl (.BoolOp .And (b::rest) pos) v):EW X G dl (.BoolOp .And (a::b::rest) pos) (u && v):=by
 cases u with
 | true=>exact pwI (pw_and ha (hb rfl)) fun st H Q ⟨Hf,S,k⟩=>⟨Hf,S,fun aA H1 g1=>wD ⟨aA,S.grow g1,fun cU H2 g2=>k cU H2 (g1.trans g2)⟩⟩
 | false=>exact pwI (pw_and ha pw_nev) fun st H Q ⟨Hf,S,k⟩=>⟨Hf,S,fun aA H1 g1=>wC (k aA H1 g1)⟩
theorem vF (ha:EB X G dl a u)(hb:u=false→EW X G dl (.BoolOp .Or (b::rest) pos) v):EW X G dl (.BoolOp .Or (a::b::rest) pos) (u || v):=by
 cases u with
 | false=>exact pwI (pw_or ha (hb rfl)) fun st H Q ⟨Hf,S,k⟩=>⟨Hf,S,fun aA H1 g1=>wC ⟨aA,S.grow g1,fun cU H2 g2=>k cU H2 (g1.trans g2)⟩⟩
 | true=>exact pwI (pw_or ha pw_nev) fun st H Q ⟨Hf,S,k⟩=>⟨Hf,S,fun aA H1 g1=>wD (k aA H1 g1)⟩
theorem uM (h:EW X G dl e u):EB X G dl e u:=h.pt
theorem wH (ha:EB X G dl a u):EB X G dl (.UnaryOp .Not a pos) (!u):=T8 (Oo ha) fun st H Q ⟨Hf,S,k⟩=>⟨Hf,S,fun aA H1 g1=>k aA H1 g1⟩
theorem nP (ha:EE X G dl a (.bl u)):EE X G dl (.BoolOp .And [a] pos) (.bl u):=Oq ha
theorem sy (ha:EE X G dl a (.bl u))(hb:u=true→EE X G dl (.BoolOp .And (b::rest) pos) (.bl v)):EE X G dl (.BoolOp .And (a::b::rest) pos) (.bl (u && v)):=by
 cases u with
 | true=>exact fh (FE ha (hb rfl)) fun st H Q ⟨Hf,S,k⟩=>⟨Hf,S,fun w aA H1 g1 r1=>by cases r1;exact⟨true,rfl,wD ⟨aA,S.grow g1,fun w cU H2 g2 r2=>k w cU H2 (g1.trans g2) r2⟩⟩⟩
 | false=>exact fh (FE ha A7) fun st H Q ⟨Hf,S,k⟩=>⟨Hf,S,fun w aA H1 g1 r1=>by cases r1;exact⟨false,rfl,wC (k _ aA H1 g1 (.bl _))⟩⟩
theorem O6 (ha:EE X G dl a (.bl u)):EE X G dl (.UnaryOp .Not a pos) (.bl (!u)):=fh (Ot ha) fun st H Q ⟨Hf,S,k⟩=>⟨Hf,S,fun w aA H1 g1 r1=>by cases r1;exact⟨u,rfl,k _ aA H1 g1 (.bl _)⟩⟩
theorem d5 (h:EB X G dl e u)(q:u=v):EB X G dl e v:=by subst q;exact h
theorem bP (h:EE X G dl e d)(q:d=d1):EE X G dl e d1:=by subst q;exact h
theorem O7 (hc:EB X G dl c u)(ha:u=true→EE X G dl a d)(hb:u=false→EE X G dl b d):EE X G dl (.IfExp c a b pos) d:=by
 cases u with
 | true=>exact fh (yG hc (ha rfl) A7) fun st H Q ⟨Hf,S,k⟩=>⟨Hf,S,fun aA H1 g1=>wD ⟨aA,S.grow g1,fun w cU H2 g2 r2=>k w cU H2 (g1.trans g2) r2⟩⟩
 | false=>exact fh (yG hc A7 (hb rfl)) fun st H Q ⟨Hf,S,k⟩=>⟨Hf,S,fun aA H1 g1=>wC ⟨aA,S.grow g1,fun w cU H2 g2 r2=>k w cU H2 (g1.trans g2) r2⟩⟩
theorem ao:EA X G dl [] []:=paI kY fun st H Q ⟨Hf,S,k⟩=>k [] Hf H (.refl S.sub) .nil
theorem ae (ha:EE X G dl e d)(hr:EA X G dl es ds)(hs:starEach (e::es) X.env=(false,eval e X.env)::starEach es X.env:=by rfl):EA X G dl (e::es) (d::ds):=
 paI (iO ha hr hs) fun st H Q ⟨Hf,S,k⟩=>⟨Hf,S,fun v aA H1 g1 r1=>⟨aA,S.grow g1,fun vs cU H2 g2 r2=>k _ cU H2 (g1.trans g2) (.cons (r1.mono g2.b8) r2)⟩⟩
theorem d8 {x1}(h:EA X G dl es ds)(hl:ds.length≤sizeLine:=by decide):EE X G dl (.Tuple es x1 pos) (.tup ds):=
 fh (OK h) fun st H Q ⟨Hf,S,k⟩=>⟨Hf,S,fun vs aA H1 g1 r1=>⟨by rw[r1.length];exact hl,fun p hp=>k _ (upd aA p (.tup vs)) _ (g1.trans (.alloc g1.sub hp)) (.tup (.of aq) (r1.mono (cv (g1.sub.free hp))))⟩⟩
theorem F4 (h:EA X G dl es ds)(hl:ds.length≤sizeLine:=by decide):EE X G dl (.List es pos) (.lst ds):=
 fh (sh h) fun st H Q ⟨Hf,S,k⟩=>⟨Hf,S,fun vs aA H1 g1 r1=>⟨by rw[r1.length];exact hl,fun p hp=>k _ (upd aA p (.lst vs)) _ (g1.trans (.alloc g1.sub hp)) (.lst aq (r1.mono (cv (g1.sub.free hp))))⟩⟩
theorem bY.jO {K:PySem.W.Frag}{H:Hp}{vs:List V}{ds:List Dt}{i:Int}{d:Dt}(r:bY K H vs ds)(h:L2.jO ds i=some d):∃ v,L2.jO vs i=some v∧Rep K H v d:=by
 unfold L2.jO at h ⊢
 rw[r.length]
 cases q:AY ds.length i with
 | none=>rw[q] at h;cases h
 | some n=>
   rw[q] at h
   exact r.get h
theorem bV (ha:EE X G dl a (.tup ds))(hb:EE X G dl b (.int i))(h:jO ds i=some d)(hs:ia b:=by intro _ _;rfl):EE X G dl (.Subscript a b pos) d:=
 fh (si ON ha hb hs) (su fun v w Hf H Q s r1 r2 k=>by
   cases r1 with
   | tup q r=>
     cases r2
     obtain⟨v,h1,h2⟩:=r.jO h
     exact⟨_,_,i,v,rfl,rfl,eU s q,h1,k v Hf H (.refl s) h2⟩)
theorem mZ (ha:EE X G dl a (.lst ds))(hb:EE X G dl b (.int i))(h:jO ds i=some d)(hs:ia b:=by intro _ _;rfl):EE X G dl (.Subscript a b pos) d:=
 fh (si wq ha hb hs) (su fun v w Hf H Q s r1 r2 k=>by
   cases r1 with
   | lst q r=>
     cases r2
     obtain⟨v,h1,h2⟩:=r.jO h
     exact⟨_,_,i,v,rfl,rfl,.of (s _ _ q),h1,k v Hf H (.refl s) h2⟩)
theorem pA {ns:List Int}{z:Int}(ha:EE X G dl a (.lP ns))(hb:EE X G dl b (.int i))(h:jO ns i=some z)(hs:ia b:=by intro _ _;rfl):EE X G dl (.Subscript a b pos) (.int z):=
 fh (si wq ha hb hs) (su fun v w Hf H Q s r1 r2 k=>by
   cases r1 with
   | lP q=>
     cases r2
     have h':L2.jO (ns.map V.int) i=some (.int z):=by
       unfold L2.jO at h ⊢
       rw[List.length_map]
       cases q2:AY ns.length i with
       | none=>rw[q2] at h;cases h
       | some n=>
         rw[q2] at h
         show(ns.map V.int)[n]?=_
         rw[List.getElem?_map,show ns[n]?=some z from h];rfl
     exact⟨_,_,i,_,rfl,rfl,s.seq q,h',k _ Hf H (.refl s) (.int z)⟩)
theorem O8 {z:Nat}(ha:EE X G dl a (.str x))(hb:EE X G dl b (.int i))(h:jO x.cps.toList i=some z)(hl:x.length≤sizeLine)(hs:ia b:=by intro _ _;rfl):EE X G dl (.Subscript a b pos) (.str ⟨#[z]⟩):=
 fh (si OO ha hb hs) (su fun v w Hf H Q s r1 r2 k=>by
   cases r1;cases r2
   exact⟨x,i,z,rfl,rfl,hl,h,k _ Hf H (.refl s) (.str _)⟩)
theorem dk:jQ X G E dl [] (.nx dl):=ze J1 fun D st H ⟨Hf,S,k⟩=>k st Hf H (aL.refl _) S
theorem aj (h1:ES X G E dl s (.nx dl1))(h2:jQ X G E dl1 sts o):jQ X G E dl (s::sts) o:=
 ze (kU h1 h2) fun D st H ⟨Hf,S,k⟩=>⟨Hf,S,fun gY aT H' s' S'=>⟨aT,S',k.mono s'⟩⟩
theorem av (h1:ES X G E dl s o):jQ X G E dl [s] o:=jN h1
theorem uL.stop {K:PySem.W.Frag}{D D':Ends}{Hf:Hp}(h:(∀ dl,o≠.nx dl)∧∀ R,o≠.raw R)(hr:D'.rt=D.rt)(hb:D'.bk=D.bk)(hc:D'.ct=D.ct)(k:uL K G E D Hf o):uL K G E D' Hf o:=by
 cases o with
 | nx dl=>exact absurd rfl (h.1 dl)
 | raw R=>exact absurd rfl (h.2 R)
 | rt d=>show ∀ v Hf H,_→_→D'.rt v H;rw[hr];exact k
 | ro d=>show ∀ v Hf H,_→_→_→_→D'.rt _ H;rw[hr];exact k
 | bk d=>show ∀ v Hf H,_→_→D'.bk v H;rw[hb];exact k
 | ct d=>show ∀ v Hf H,_→_→D'.ct v H;rw[hc];exact k
 | ex c fs=>exact k
theorem nQ (h1:ES X G E dl s o)(h:(∀ dl,o≠.nx dl)∧(∀ R,o≠.raw R):=by exact⟨(fun _ z=>nomatch z),(fun _ z=>nomatch z)⟩):jQ X G E dl (s::sts) o:=
 ze (kU h1 (o4 (sts:=sts))) fun D st H ⟨Hf,S,k⟩=>⟨Hf,S,uL.stop (D:=D) h rfl rfl rfl k⟩
theorem Cz (h1:jQ X G E dl1 sts o)(l:Le dl1 dl):jQ X G E dl sts o:=ze h1 fun D st H ⟨Hf,S,k⟩=>⟨Hf,S.weak l,k⟩
theorem dm (hc:EB X G dl c u)(h1:u=true→jQ X G E dl sts o)(h2:u=false→jQ X G E dl D7 o):ES X G E dl (.If c sts D7 pos) o:=by
 cases u with
 | true=>exact qt (M8 hc (h1 rfl) (o4 (sts:=D7))) fun D st H ⟨Hf,S,k⟩=>⟨Hf,S,fun aA H1 g1=>wD ⟨aA,S.grow g1,k.mono g1.b8⟩⟩
 | false=>exact qt (M8 hc (o4 (sts:=sts)) (h2 rfl)) fun D st H ⟨Hf,S,k⟩=>⟨Hf,S,fun aA H1 g1=>wC ⟨aA,S.grow g1,k.mono g1.b8⟩⟩
theorem aV (h:EE X G dl e d):ES X G E dl (.Return (some e) pos) (.rt d):=qt (AJ h) fun D st H ⟨Hf,S,k⟩=>⟨Hf,S,fun v aA H1 g1 r1=>k v aA H1 (S.gr.trans g1) r1⟩
theorem nS (h:EE X G dl e d)(hs:swapsWith e none pos.line X.env=pure false:=by rfl):ES X G E dl (.Expr e pos) (.nx dl):=
 qt (iM h hs) fun D st H ⟨Hf,S,k⟩=>⟨Hf,S,fun v aA H1 g1 r1=>k st aA H1 g1.b8 (S.grow g1)⟩
theorem aE (n:Nat){x:Str}{pos':Pos}(hN:X.N.Nodup)(he:EE X G dl e d)(hi:X.N[n]?=some x:=by rfl)(hx:Loc X.env.scope x:=by first | exact Or.inl rfl | exact Or.inr rfl)(hs:swapsWith e (some (.Name x pos')) pos.line X.env=pure false:=by rfl)(hf:X.fn x=true∨X.env.scope.names.lookup x=some .local:=by first | exact .inl rfl | exact .inr rfl | assumption):ES X G E dl (.Assign [.Name x pos'] e pos) (.nx (dl.set n (.val d))):=
 qt (AL hN hi hx he hs hf) fun D st H ⟨Hf,S,k⟩=>⟨Hf,S,fun v aA H1 g1 r1=>k _ aA H1 g1.b8 ((S.grow g1).set r1)⟩
inductive mI (X:Cx)(G:Gr)(E:XK)(body:List Stmt)(S:Nat→List Slot)(pre:Nat→List Slot)(n m:Nat):Out→Prop
 | all (h:m=n):mI X G E body S pre n m (.nx (S n))
 | rt {d:Dt} (h:m < n) (hb:jQ X G E (pre m) body (.rt d)):mI X G E body S pre n m (.rt d)
 | ro {d:Own} (h:m < n) (hb:jQ X G E (pre m) body (.ro d)):mI X G E body S pre n m (.ro d)
 | bk {dl':List Slot} (h:m < n) (hb:jQ X G E (pre m) body (.bk dl')):mI X G E body S pre n m (.nx dl')
 | ex {c:Value} {fs:List (Str×Dt)} (h:m < n) (hb:jQ X G E (pre m) body (.ex c fs)):mI X G E body S pre n m (.ex c fs)
inductive Goes (X:Cx)(G:Gr)(E:XK)(body:List Stmt)(pre post:List Slot):Prop
 | nx {dl':List Slot} (hb:jQ X G E pre body (.nx dl')) (l:Le post dl')
 | ct {dl':List Slot} (hb:jQ X G E pre body (.ct dl')) (l:Le post dl')
def F5 (X:Cx)(G:Gr)(E:XK)(body:List Stmt):TS:=fun D st H=>∃ pre o,jQ X G E pre body o∧tO X.K G E pre o D st H
theorem nT {body:List Stmt}:AI X body (F5 X G E body):=fun pins s st H D J ⟨pre,o,h,q⟩=>h pins s st H D J q
theorem lQ {body:List Stmt}{pre post:List Slot}{D:Ends}{st:L2.St}{Hf H:Hp}(g:Goes X G E body pre post)(S:d7 X.K G st Hf H pre)(hn:∀ st aT H,aL Hf aT→d7 X.K G st aT H post→D.nx st H)(hc:∀ st aT H,aL Hf aT→d7 X.K G st aT H post→D.ct st H):F5 X G E body D st H:=by
 cases g with
 | nx hb l=>exact⟨_,_,hb,Hf,S,fun gY aT H' s' S'=>hn gY aT H' s' (S'.weak l)⟩
 | ct hb l=>exact⟨_,_,hb,Hf,S,fun gY aT H' s' S'=>hc gY aT H' s' (S'.weak l)⟩
theorem pB {body:List Stmt}{S pre:Nat→List Slot}{n m:Nat}{D D':Ends}{st:L2.St}{Hf H:Hp}(e:mI X G E body S pre n m o)(hm:m < n)(S':d7 X.K G st Hf H (pre m))(k:uL X.K G E D Hf o)(hr:D'.rt=D.rt)(O9:D'.bk=D.nx):F5 X G E body D' st H:=by
 cases e with
 | all h=>omega
 | rt h hb=>exact⟨_,_,hb,Hf,S',by show ∀ v Hf H,_→_→D'.rt v H;rw[hr];exact k⟩
 | ro h hb=>exact⟨_,_,hb,Hf,S',by show ∀ v Hf H,_→_→_→_→D'.rt _ H;rw[hr];exact k⟩
 | bk h hb=>exact⟨_,_,hb,Hf,S',by show ∀ v Hf H,_→_→D'.bk v H;rw[O9];exact k⟩
 | ex h hb=>exact⟨_,_,hb,Hf,S',k⟩
theorem F6 (nN:Nat){x:Str}{px:Pos}{body:List Stmt}{lo:Int}{n m:Nat}(S:Nat→List Slot)(hN:X.N.Nodup)(nU:X.calm=true)(hp:PassesOwn (model X.prog X.w) X.A X.env X.xe){wi:TI}{iter:Expr}(hI:PI X (.Name x px) iter wi)(hw:∀ st Hf H R,d7 X.K G st Hf H dl→(∀ aT H',bX Hf H aT H'→R (OB lo n) H')→wi st H R)(h0:Le (S 0) dl)(hmn:m≤n)(hb:∀ k,k < m→Goes X G E body ((S k).set nN (.val (.int (lo+k)))) (S (k+1)))(he:mI X G E body S (fun k=>(S k).set nN (.val (.int (lo+k)))) n m o)(hi:X.N[nN]?=some x:=by rfl)(hx:Loc X.env.scope x:=by first | exact Or.inl rfl | exact Or.inr rfl)(hf:X.fn x=true∨X.env.scope.names.lookup x=some .local:=by first | exact .inl rfl | exact .inr rfl | assumption)(hs:∀ x,foldedSetIterable iter X.env x=pure x:=by intro _;rfl):ES X G E dl (.For (.Name x px) iter body [] pos) o:=by
 refine qt (wg hp nU hI (cD hN hi hx hf) (nT (G:=G) (E:=E)) hs) fun D st H ⟨Hf,S0,k⟩=>hw st Hf H _ S0 fun aT H' g=>?_
 refine DM (lo:=lo) (n:=n) (fun j st H=>j≤m∧∃ aA,aL Hf aA∧d7 X.K G st aA H (S j)) ⟨Nat.zero_le _,aT,g.b8,(S0.grow g).weak h0⟩ (fun j st H hj ⟨hjm,aA,s1,Sj⟩=>?_) (fun st H ⟨hnm,aA,s1,Sn⟩=>?_)
 . have Sp:d7 X.K G (st.set nN (some (.int (lo+j)))) aA H ((S j).set nN (.val (.int (lo+j)))):=Sj.set (.int _)
   by_cases dS:j < m
   . exact lQ (hb j dS) Sp (fun st cU H s2 S'=>⟨dS,cU,s1.trans s2,S'⟩) (fun st cU H s2 S'=>⟨dS,cU,s1.trans s2,S'⟩)
   . have e:j=m:=by omega
     subst e
     exact pB he hj Sp (k.mono s1) rfl rfl
 . have e:m=n:=by omega
   subst e
   cases he with
   | all _=>exact k st aA H s1 Sn
   | rt h _=>omega
   | ro h _=>omega
   | bk h _=>omega
   | ex h _=>omega
theorem ip (nN:Nat){x:Str}{p px pc:Pos}{body:List Stmt}{n:Int}{m:Nat}(S:Nat→List Slot)(hN:X.N.Nodup)(nU:X.calm=true)(hp:PassesOwn (model X.prog X.w) X.A X.env X.xe)(Pa:X.mg "range"=none)(ha:EA X G dl [a] [.int n])(hn:-(2 ^ 62)≤n∧n < 2 ^ 62)(h0:Le (S 0) dl)(hmn:m≤n.toNat)(hb:∀ k:Nat,k < m→Goes X G E body ((S k).set nN (.val (.int k))) (S (k+1)))(he:mI X G E body S (fun k=>(S k).set nN (.val (.int k))) n.toNat m o)(hg:Gl X "range":=by rfl)(hi:X.N[nN]?=some x:=by rfl)(hx:Loc X.env.scope x:=by first | exact Or.inl rfl | exact Or.inr rfl)(hf:X.fn x=true∨X.env.scope.names.lookup x=some .local:=by first | exact .inl rfl | exact .inr rfl | assumption)(Fd:starEach [a] X.env=[(false,eval a X.env)]:=by rfl)(hs:∀ z,foldedSetIterable (.Call (.Name "range" p) [a] [] pc) X.env z=pure z:=by intro _;rfl):ES X G E dl (.For (.Name x px) (.Call (.Name "range" p) [a] [] pc) body [] pos) o:=by
 have ez:∀ k:Nat,(0:Int)+k=k:=fun k=>Int.zero_add _
 have eS:(fun k:Nat=>(S k).set nN (.val (.int ((0:Int)+k))))=fun k:Nat=>(S k).set nN (.val (.int k)):=by funext k;rw[ez]
 refine F6 nN (lo:=0) (n:=n.toNat) (m:=m) S hN nU hp (o5 hg Pa ha Fd) (fun st Hf H R S0 h=>⟨Hf,S0,fun vs aA H1 g1 r1=>?_⟩) h0 hmn (fun k hk=>by rw[ez];exact hb k hk) (by rw[eS];exact he) hi hx hf hs
 cases r1 with
 | cons r t=>cases t;cases r;exact⟨n,rfl,hn.1,hn.2,h aA H1 g1⟩
theorem CA (nN:Nat){x:Str}{px:Pos}{iter:Expr}{body:List Stmt}{xs:List Dt}{m:Nat}(S:Nat→List Slot)(hN:X.N.Nodup)(nU:X.calm=true)(hp:PassesOwn (model X.prog X.w) X.A X.env X.xe)(hl:EE X G dl iter (.lst xs))(h0:Le (S 0) dl)(hmn:m≤xs.length)(hb:∀ (k:Nat) (z:Dt),k < m→xs[k]?=some z→Goes X G E body ((S k).set nN (.val z)) (S (k+1)))(he:mI X G E body S (fun k=>(S k).set nN (.val (xs.getD k .dQ))) xs.length m o)(hi:X.N[nN]?=some x:=by rfl)(hx:Loc X.env.scope x:=by first | exact Or.inl rfl | exact Or.inr rfl)(hf:X.fn x=true∨X.env.scope.names.lookup x=some .local:=by first | exact .inl rfl | exact .inr rfl | assumption)(hs:∀ z,foldedSetIterable iter X.env z=pure z:=by intro _;rfl):ES X G E dl (.For (.Name x px) iter body [] pos) o:=by
 refine qt (wg hp nU (iN hl) (cD hN hi hx hf) (nT (G:=G) (E:=E)) hs) fun D st H ⟨Hf,S0,k⟩=>⟨Hf,S0,fun v aT H' g r=>?_⟩
 cases r with
 | @lst a vs _ q r=>
   have hlen:=r.length
   refine⟨a,rfl,⟨vs,.of (g.sub _ _ q)⟩,yK (xs:=vs) (fun j st H=>j≤m∧∃ aA,aL aT aA∧d7 X.K G st aA H (S j)) ⟨Nat.zero_le _,aT,aL.refl _,(S0.grow g).weak h0⟩ ?_ ?_ ?_⟩
   . rintro j st H _ ⟨_,aA,s1,Sj⟩
     exact .of (Sj.sub _ _ (s1 _ _ q))
   . rintro j v st H hv ⟨hjm,aA,s1,Sj⟩
     obtain⟨z,hz,rz⟩:=r.get' hv
     have hj:j < xs.length:=(List.getElem?_eq_some_iff.mp hz).1
     have Sp:d7 X.K G (st.set nN (some v)) aA H ((S j).set nN (.val z)):=Sj.set (rz.mono s1)
     by_cases dS:j < m
     . exact lQ (hb j z dS hz) Sp (fun st cU H s2 S'=>⟨dS,cU,s1.trans s2,S'⟩) (fun st cU H s2 S'=>⟨dS,cU,s1.trans s2,S'⟩)
     . have e:j=m:=by omega
       subst e
       have ez:xs.getD j .dQ=z:=by rw[List.getD_eq_getElem?_getD,hz];rfl
       exact pB he hj (by show d7 _ _ _ _ _ ((S j).set nN (.val (xs.getD j .dQ)));rw[ez];exact Sp) (k.mono (g.b8.trans s1)) rfl rfl
   . rintro st H ⟨hnm,aA,s1,Sn⟩
     have e:m=xs.length:=by omega
     subst e
     rw[hlen] at Sn
     cases he with
     | all _=>exact k st aA H (g.b8.trans s1) Sn
     | rt h _=>omega
     | ro h _=>omega
     | bk h _=>omega
     | ex h _=>omega
inductive Res where
 | ret (d:Dt)
 | own (w:Own)
 | exc (c:Value) (fs:List (Str×Dt))
def T9 (K:PySem.W.Frag)(Hf H:Hp)(Q:VK)(E:XK):Res→Prop
 | .ret d=>∀ v aT H',bX Hf H aT H'→Rep K aT v d→Q v H'
 | .own w=>∀ p aT H',bX Hf H aT H'→H p=none→aT p=none→fg K aT H' p w→Q (.ref p) H'
 | .exc c fs=>∀ od aT H',bX Hf H aT H'→ExcAt K aT od fs→E c od H'
def CB (K:PySem.W.Frag)(n:Nat)(R:List Dt→Res→Prop):Sp:=fun vs H Q E=>∃ Hf ds r,aL Hf H∧bY K Hf vs ds∧ds.length=n∧R ds r∧T9 K Hf H Q E r
def AA (CX:mG):Prop:=∀ outer H s e s',CX outer H s E0 e s'→False
theorem aF:AA CX0:=fun _ _ _ _ _ h=>h
theorem AA.passes {CX:mG}(n:AA CX):Passes CX X E0:=fun _ _ _ _ _ _ _ h=>(n _ _ _ _ _ h).elim
def slots (N:List Str)(ds:List Dt):List Slot:=ds.map Slot.val ++ List.replicate (N.length - ds.length) .bE
theorem vG {K:PySem.W.Frag}{N:List Str}{Hf H:Hp}{vs:List V}{ds:List Dt}(s:aL Hf H)(r:bY K Hf vs ds):d7 K ⟨Hf,H⟩ (start N vs) Hf H (slots N ds):=by
 have hl:=r.length
 have v9:∀ (i:Nat) o,(slots N ds)[i]?≠some (.own o):=fun i o h=>by
   unfold slots at h
   by_cases hi:i < ds.length
   . rw[List.getElem?_append_left (by simpa using hi),List.getElem?_map] at h
     cases e:ds[i]? with
     | none=>rw[e] at h;cases h
     | some a=>rw[e] at h;cases h
   . rw[List.getElem?_append_right (by simpa using hi),List.getElem?_replicate] at h
     split at h <;> cases h
 refine⟨.refl s,?_,fun i d h=>?_,fun i o h=>absurd h (v9 i o),fun i j o o' a h=>absurd h (v9 i o)⟩
 . unfold L2.start slots
   simp[hl]
 . unfold slots at h
   by_cases hi:i < ds.length
   . rw[List.getElem?_append_left (by simpa using hi),List.getElem?_map] at h
     cases e:ds[i]? with
     | none=>rw[e] at h;cases h
     | some a=>
       rw[e] at h;cases h
       obtain⟨v,h1,h2⟩:=r.get e
       refine⟨v,?_,h2⟩
       unfold L2.start
       rw[List.getElem?_append_left (by simp;omega),List.getElem?_map,h1];rfl
   . rw[List.getElem?_append_right (by simpa using hi),List.getElem?_replicate] at h
     split at h <;> cases h
inductive Comes:Out→Res→Prop
 | rt (d:Dt):Comes (.rt d) (.ret d)
 | ro (d:Own):Comes (.ro d) (.own d)
 | nx (dl:List Slot):Comes (.nx dl) (.ret .dQ)
 | kn {dl:List Slot} {d:Dt} (h:∀ K G st Hf H,d7 K G st Hf H dl→Rep K Hf .dQ d):Comes (.nx dl) (.ret d)
 | ex (c:Value) (fs:List (Str×Dt)):Comes (.ex c fs) (.exc c fs)
theorem Comes.ends {K:PySem.W.Frag}{Hf H:Hp}{Q:VK}{o:Out}{r:Res}(h:Comes o r)(k:T9 K Hf H Q E r):uL K ⟨Hf,H⟩ E { nx:=fun _ H'=>Q .dQ H',rt:=Q} Hf o:=by
 cases h with
 | rt d=>exact k
 | ro d=>exact k
 | nx dl=>exact fun st aT H' s' S=>k _ aT H' S.gr .dQ
 | kn h=>exact fun st aT H' s' S=>k _ aT H' S.gr (h _ _ _ _ _ S)
 | ex c fs=>exact k
theorem gx {P:Program}{w:World}{K:PySem.W.Frag}{mg:Str→Option Value}{base:Heap}{CX:mG}{x qual:Str}{st:Stmt}{f:Addr}{fd:FuncData}{N ps:List Str}{k n:Nat}{R:List Dt→Res→Prop}(F:fL K x qual st f fd)(S:ax N ps (af st))(hn:ps.length=n)(nI:∀ (cS:Value) (A:Around) (outer:List Env) (s:Shared) (H:Hp) (E:XK) (G:Gr) (ds:List Dt) (r:Res),er k (A.deeper (envOfC qual (af st) s.heap.objs.size f cS))→ds.length=n→R ds r→∃ o,Comes o r∧jQ (yP CX P w K mg base N qual (af st) f cS A outer s H E) G E (slots N ds) (ai st) o):gu P w K mg base CX (k+1) f fd ps (CB K n R):=by
 obtain⟨oc,od,kV,doc,pm,an,cS,ct,AX,rfl,lk,jJ⟩:=F.ex
 refine FQ lk jJ S (fun vs H Q E ⟨Hf,ds,r,s,rp,hl,_⟩=>by rw[rp.length,hl,hn]) fun A outer s H vs Q E hr ⟨Hf,ds,r,sm,rp,hl,hR,hk⟩=>?_
 obtain⟨o,hc,hb⟩:=nI cS A outer s H E ⟨Hf,H⟩ ds r hr hl hR
 exact⟨_,hb,Hf,vG sm rp,hc.ends hk⟩
section
variable {CX:mG}{k n:Nat}{f C:Addr}{fd:FuncData}{ps:List Str}{R:List Dt→Res→Prop}{m:Str}{p apos:Pos}{ob:Expr}{dvs:List Dt}{vds:List V}{D8:List Value}{fs:List (Str×Dt)}
theorem Kr (F:gu X.prog X.w X.K X.mg X.base CX k f fd ps (CB X.K n R))(nx:AA CX)(hr:er k X.A)(hm:X.mg x=some (.ref f))(hk:PySem.W.keepIn X.K (.ref f)=true)(hb:Binds X.K fd ps D8)(hd:Vals vds D8)(A8:∀ H,bY X.K H vds dvs)(ha:EA X G dl (e::es) ds)(hl:(ds ++ dvs).length=n)(h:R (ds ++ dvs) (.ret d))(hg:Gl X x:=by rfl)(jK:(x == ("__debug__":Str))=false:=by decide)(he:starEach (e::es) X.env=(false,eval e X.env)::starEach es X.env:=by rfl)(kH:(backTo pos (starEach es X.env)).any (·.1)=false:=by rfl):EE X G dl (.Call (.Name x p) (e::es) [] pos) d:=
 fh (Cj (E:=E0) F hr hg hm hk hb hd nx.passes ha jK he kH) fun st H Q ⟨Hf,S,k⟩=>⟨Hf,S,fun vs aA H1 g1 r1=>⟨aA,ds ++ dvs,.ret d,g1.sub,r1.append (A8 _),hl,h,fun v cU H2 g2 r2=>k v cU H2 (g1.trans g2) r2⟩⟩
theorem CC {pl:Sem Bool}(he:EE X G dl ob (.obj C fs))(c:nH X.K C)(hm:Meth X.K C m f)(F:gu X.prog X.w X.K X.mg X.base CX k f fd ps (CB X.K n R))(nx:AA CX)(hr:er k X.A)(hb:Binds X.K fd ps D8)(hd:Vals vds D8)(A8:∀ H,bY X.K H vds dvs)
   (ha:EA X G dl (e::es) ds) (hl:(.obj C fs::(ds ++ dvs)).length=n) (h:R (.obj C fs::(ds ++ dvs)) (.ret d)) (qd:fs.lookup m=none)
   (kG:starEach (e::es) X.env=(false,eval e X.env)::starEach es X.env:=by rfl) (kH:(backTo pos (starEach es X.env)).any (·.1)=false:=by rfl)
   (ht:eval (.Call (.Attribute ob m apos) (e::es) [] pos) X.env=(do
     let ov ← eval ob X.env
     standAt apos.atName
     let (f,first) ← holding [ov] (getMethod ov m pl)
     callWith pos f first (backTo pos (starEach (e::es) X.env)) (backToKw pos (keywordEach [] X.env))):=by rfl):EE X G dl (.Call (.Attribute ob m apos) (e::es) [] pos) d:=
 fh (Ck (pl:=pl) (E:=E0) he c hm F hr hb hd nx.passes ha kG kH ht) fun st H Q ⟨Hf,S,k⟩=>⟨Hf,S,fun v aA H1 g1 r1=>by
   cases r1 with
   | @obj a _ dx fv _ q r=>
     exact⟨a,dx,fv,rfl,eY g1.sub q,r.none_of qd,aA,S.grow g1,fun vs cU H2 g2 r2=>⟨cU,_,.ret d,g2.sub,.cons (.obj (eY g2.b8 q) (r.mono g2.b8)) (r2.append (A8 _)),hl,h,fun v fM H3 g3 r3=>k v fM H3 ((g1.trans g2).trans g3) r3⟩⟩⟩
theorem zg {pl:Sem Bool}(he:EE X G dl ob (.obj C fs))(c:nH X.K C)(hm:Meth X.K C m f)(F:gu X.prog X.w X.K X.mg X.base CX k f fd ps (CB X.K n R))(nx:AA CX)(hr:er k X.A)(hb:Binds X.K fd ps D8)(hd:Vals vds D8)(A8:∀ H,bY X.K H vds dvs)
   (hl:(Dt.obj C fs::dvs).length=n) (h:R (.obj C fs::dvs) (.ret d)) (qd:fs.lookup m=none)
   (ht:eval (.Call (.Attribute ob m apos) [] [] pos) X.env=(do
     let ov ← eval ob X.env
     standAt apos.atName
     let (f,first) ← holding [ov] (getMethod ov m pl)
     callWith pos f first (backTo pos (starEach [] X.env)) (backToKw pos (keywordEach [] X.env))):=by rfl):EE X G dl (.Call (.Attribute ob m apos) [] [] pos) d:=
 fh (yO (pl:=pl) (E:=E0) he c hm F hr hb hd nx.passes ht) fun st H Q ⟨Hf,S,k⟩=>⟨Hf,S,fun v aA H1 g1 r1=>by
   cases r1 with
   | @obj a _ dx fv _ q r=>
     exact⟨a,dx,fv,rfl,eY g1.sub q,r.none_of qd,aA,_,.ret d,g1.sub,.cons (.obj q r) (A8 _),hl,h,fun v fM H3 g3 r3=>k v fM H3 (g1.trans g3) r3⟩⟩
end
end
end Sg
namespace Sg
open PySem PySem.Spec PyProof.Rows L2
section
variable {X:Cx}{G:Gr}{E:XK}{dl dl1 dl2:List Slot}{a b c e:Expr}{es:List Expr}{i j:Int}{d d1 d2:Dt}{ds:List Dt}{pos p p':Pos}{o o':Out}{x y f:Str}{u v:Bool}{rest:List Expr}{sts D7:List Stmt}{s:Stmt}{C:Addr}{fs:List (Str×Dt)}
theorem Nk {T:String}(hm:X.mg x=none)(hv:bootBuiltins x=some (.type T))(hg:Gl X x:=by rfl)(hn:x≠"__name__":=by decide)(hd:(x == ("__debug__":Str))=false:=by decide):EE X G dl (.Name x pos) (.ty T):=
 fh (J0 (v:=.ty T) hg hm hv rfl hn hd) fun st H Q ⟨Hf,S,k⟩=>k _ Hf H (.refl S.sub) (.ty T)
theorem iQ {w:V}{z:Value}(hm:X.mg x=some z)(r:RelV w z)(hr:∀ H,Rep X.K H w d)(hg:Gl X x:=by rfl)(hd:(x == ("__debug__":Str))=false:=by decide):EE X G dl (.Name x pos) d:=
 fh (JZ hg hm r hd) fun st H Q ⟨Hf,S,k⟩=>k _ Hf H (.refl S.sub) (hr _)
theorem boot_int:bootBuiltins "int"=some (.type "int"):=by decide +kernel
theorem boot_bool:bootBuiltins "bool"=some (.type "bool"):=by decide +kernel
theorem boot_list:bootBuiltins "list"=some (.type "list"):=by decide +kernel
theorem boot_dict:bootBuiltins "dict"=some (.type "dict"):=by decide +kernel
structure Mk0 (K:PySem.W.Frag)(C:Addr):Prop where
 makes:PySem.W.makesIn K C=true
 init:PySem.W.findIn K (.ref C) "__init__"=some (some (.builtin "object.__init__"))
 kp:PySem.W.keepIn K (.ref C)=true
theorem D9 {pins:List (Addr×Obj)}{st:L2.St}{H:Hp}{s:Shared}{Q:VK}(M:Mk0 X.K C)(I:L2.Inv X pins st H s)(h:∀ x dx,H x=none→H dx=none→dx≠x→Q (.ref x) (upd (upd H dx (.own x)) x (.ins C dx []))):wpAny (model X.prog X.w) X.A (call (.ref C) []) (EP X pins st Q) X.xe s:=by
 have hq:=h (s.heap.objs.size+1) s.heap.objs.size (I.bU.fresh (Nat.le_succ _)) (I.bU.fresh (Nat.le_refl _)) (Nat.ne_of_lt (Nat.lt_succ_self _))
 have I2:=L2.Inv.made (C:=C) I
 refine wpAny_call (DQ (s:=s) I.jL M.makes M.init (fun self=>PySem.W.Looks.of_pure (PySem.W.oi_bind self)) ?_)
 obtain⟨hh,g,d,t,os⟩:=s
 have Y:=PySem.W.makes_of (M:=model X.prog X.w) I.jL M.makes
 have t1:PySem.W.Looks (model X.prog X.w) ((hh.push PySem.W.emptyDict).push (PySem.W.instObj C hh.objs.size)) (typeOf (.ref (hh.objs.size+1))) (.ref C):=by
   have e2:=Heap.get?_push_size (hh.push PySem.W.emptyDict) (o:=PySem.W.instObj C hh.objs.size) rfl
   rw[Heap.size_push] at e2
   exact(PySem.W.Looks.ld e2).andThen .now
 have t2:PySem.W.Looks (model X.prog X.w) ((hh.push PySem.W.emptyDict).push (PySem.W.instObj C hh.objs.size)) (isInstance (.ref (hh.objs.size+1)) (.type "object")) true:=t1.andThen (Y.top.keeps fun b o e=>Heap.get?_push_of_some _ (Heap.get?_push_of_some _ e))
 refine codeAny_call_builtin PySem.W.oi_plain PySem.W.entry_oi (@PySem.W.check_slot (model X.prog X.w) _ _ _ "object.__init__" "object" "__init__" (.ref (hh.objs.size+1)) [] [] _ PySem.W.oi_kind PySem.W.oi_split t2 (PySem.W.oi_args (.ref (hh.objs.size+1))) ?_)
 rw[PySem.W.oi_run]
 exact wpAny_pure (And.intro rfl ⟨V.ref (hh.objs.size+1),_,I2,rfl,hq⟩)
theorem aP (he:EE X G dl e (.obj C fs))(c:nH X.K C)(n:cu X.K C f)(h:fs.lookup f=some d)(hb:attributeBase e f X.env (eval e X.env)=eval e X.env:=by rfl):EE X G dl (.Attribute e f pos) d:=
 fh (sd he hb) fun st H Q ⟨Hf,S,k⟩=>⟨Hf,S,fun v aA H1 g1 r1=>by
   cases r1 with
   | @obj a _ dx fv _ q r=>
     obtain⟨y,h1,h2⟩:=r.lookup h
     exact⟨a,C,dx,fv,y,rfl,eY g1.sub q,c,n,h1,k y aA H1 g1 h2⟩⟩
theorem CD (hm:X.mg "len"=none)(ha:EE X G dl a (.lst ds))(hg:Gl X "len":=by rfl)(he:starEach [a] X.env=[(false,eval a X.env)]:=by rfl):EE X G dl (.Call (.Name "len" p) [a] [] pos) (.int ds.length):=
 fh (eQ nM hg hm PySem.boot_len (ae ha ao he) (he:=he)) fun st H Q ⟨Hf,S,k⟩=>⟨Hf,S,fun vs aA H1 g1 r1=>by
   cases r1 with
   | cons r t=>cases t;cases r with
     | @lst q vs _ z w=>exact⟨q,vs,rfl,.inl (.of (g1.sub _ _ z)),by rw[w.length];exact k _ aA H1 g1 (.int _)⟩⟩
theorem rA {ns:List Int}(hm:X.mg "len"=none)(ha:EE X G dl a (.lP ns))(hg:Gl X "len":=by rfl)(he:starEach [a] X.env=[(false,eval a X.env)]:=by rfl):EE X G dl (.Call (.Name "len" p) [a] [] pos) (.int ns.length):=
 fh (eQ nM hg hm PySem.boot_len (ae ha ao he) (he:=he)) fun st H Q ⟨Hf,S,k⟩=>⟨Hf,S,fun vs aA H1 g1 r1=>by
   cases r1 with
   | cons r t=>cases t;cases r with
     | @lP q _ z=>exact⟨q,_,rfl,.inl (g1.sub.seq z),by rw[List.length_map];exact k _ aA H1 g1 (.int _)⟩⟩
theorem wI (hm:X.mg "len"=none)(ha:EE X G dl a (.str x))(hl:x.length≤sizeLine)(hg:Gl X "len":=by rfl)(he:starEach [a] X.env=[(false,eval a X.env)]:=by rfl):EE X G dl (.Call (.Name "len" p) [a] [] pos) (.int x.length):=
 fh (eQ wu hg hm PySem.boot_len (ae ha ao he) (he:=he)) fun st H Q ⟨Hf,S,k⟩=>⟨Hf,S,fun vs aA H1 g1 r1=>by
   cases r1 with
   | cons r t=>cases t;cases r;exact⟨x,rfl,hl,k _ aA H1 g1 (.int _)⟩⟩
def tyD:Dt→Value
 | .dQ=>.type "NoneType"
 | .bl _=>.type "bool"
 | .int _=>.type "int"
 | .str _=>.type "str"
 | .tup _=>.type "tuple"
 | .lst _=>.type "list"
 | .lP _=>.type "list"
 | .eB _=>.type "dict"
 | .obj C _=>.ref C
 | .ty _=>.type "type"
 | .cls _=>.type "type"
 | .xo C=>.ref C
 | .pk _=>.type "dict"
 | .Cy C _=>.ref C
 | .eu _=>.type "dict"
 | .memo _ _ _ _=>.type "list"
 | .eA _ _ _ _=>.type "list"
 | .uG _ _ _=>.type "NoneType"
 | .uK C _ _ _ _=>.ref C
 | _=>.type "object"
structure TyC (K:PySem.W.Frag)(C:Addr):Prop where
 cl:nH K C
 ha:PySem.W.findIn K (.ref C) "__class__"=some (some (.builtin "object.__class__"))
 hn:PySem.W.specialIn K (.builtin "object.__class__") "__get__"=some (some (.builtin "getset_descriptor.__get__"))
 OJ:PySem.W.takesIn K (.builtin "object.__class__")=some true
 hm:PySem.W.mroIn K C (.type "object")=some true
def Pb (K:PySem.W.Frag):Dt→Prop
 | .obj C _=>TyC K C
 | .xo C=>SD K C
 | .Cy C _=>SD K C
 | .memo _ _ _ _=>False
 | .eA _ _ _ _=>False
 | .uG _ _ _=>False
 | .uK C _ _ _ _=>TyC K C
 | .fD _=>False
 | .jo _=>False
 | .ty _=>False
 | .cls _=>False
 | _=>True
def Ua:Dt→Option Value
 | .ty n=>some (.type n)
 | .cls C=>some (.ref C)
 | _=>none
theorem F7 {pins:List (Addr×Obj)}{st:L2.St}{Hf H:Hp}{s:Shared}{Q:Value→Shared→Prop}{w:V}{z c:Value}{r:Bool}(I:L2.Inv X pins st H s)(sm:aL Hf H)(rp:Rep X.K Hf w d)(rx:RelV w z)(t:Pb X.K d)(e:PySem.W.kitOne X.K (tyD d) c=some r)(h:∀ tk,Q (.bool r) { s with toks:=tk}):wpAny (model X.prog X.w) X.A (call (.builtin "isinstance") [z,c]) Q X.xe s:=by
 cases rp with
 | dQ=>cases (show z=Value.none from rx);exact PySem.W.kia_one PySem.W.kitx_none I.jL True.intro e (fun z=>nomatch z) h
 | bl y=>cases (show z=Value.bool y from rx);exact PySem.W.kia_one PySem.W.kitx_bool I.jL True.intro e (fun z=>nomatch z) h
 | int i=>obtain⟨t,q⟩:=(show ∃ t,z=Value.int i t from rx);cases q;exact PySem.W.kia_one PySem.W.kitx_int I.jL True.intro e (fun z=>nomatch z) h
 | str y=>obtain⟨t,q⟩:=(show ∃ t,z=Value.str y t from rx);cases q;exact PySem.W.kia_one PySem.W.kitx_str I.jL True.intro e (fun z=>nomatch z) h
 | @tup a vs ds q rr=>
   cases (show z=Value.ref a from rx)
   obtain⟨aI,_,⟨o,h1,h2,_⟩,_⟩:=I.tuple (eU sm q)
   exact PySem.W.kia_one PySem.W.kitx_tuple I.jL ⟨o,h1,h2⟩ e (fun z=>nomatch z) h
 | @lst a vs ds q rr=>
   cases (show z=Value.ref a from rx)
   obtain⟨aI,_,⟨o,n,h1,h2,_⟩,_⟩:=I.list (.of (sm _ _ q))
   exact PySem.W.kia_one PySem.W.kitx_list I.jL ⟨o,h1,h2⟩ e (fun z=>nomatch z) h
 | @lP a ns q=>
   cases (show z=Value.ref a from rx)
   obtain⟨aI,_,⟨o,n,h1,h2,_⟩,_⟩:=I.list (sm.seq q)
   exact PySem.W.kia_one PySem.W.kitx_list I.jL ⟨o,h1,h2⟩ e (fun z=>nomatch z) h
 | @eB a kvs kds q rr=>
   cases (show z=Value.ref a from rx)
   exact o8 (x:=.ref a) I rfl (.dK (sm _ _ q)) e h
 | @obj a C dx fv fs q rr=>
   cases (show z=Value.ref a from rx)
   have t:TyC X.K C:=t
   exact o8 (x:=.ref a) I rfl (.ins (eY sm q) t.cl t.ha t.hn t.OJ t.hm) e h
 | ty n=>exact t.elim
 | cls C=>exact t.elim
 | @xo a C ph q hp=>
   cases (show z=Value.ref a from rx)
   have t:SD X.K C:=t
   have ok:bc X.prog X.w H s.heap a (.ext ph):=I.bU a _ (sm _ _ q)
   exact PySem.W.kia_one (zc t) I.jL (hp _ ok.1) e (fun z=>nomatch z) h
 | @pk a ob kvs kds q rr=>
   cases (show z=Value.ref a from rx)
   obtain⟨_,_,vs,_,D⟩:=qb (kvs:=kvs) I.bU (.inr (.inl ⟨ob,sm _ _ q⟩))
   exact PySem.W.kia_one PySem.W.kitx_dict I.jL D.typeIs e (fun z=>nomatch z) h
 | @Cy a C dx ph fv fs q hp g rr=>
   cases (show z=Value.ref a from rx)
   have t:SD X.K C:=t
   have ok:bc X.prog X.w H s.heap a (.ext ph):=I.bU a _ (sm _ _ q)
   exact PySem.W.kia_one (zc t) I.jL (hp _ ok.1).of e (fun z=>nomatch z) h
 | @eu a tg ob kvs kds q rr=>
   cases (show z=Value.ref a from rx)
   obtain⟨_,_,vs,_,D⟩:=qb (kvs:=kvs) I.bU (.inr (.inr (.inl ⟨tg,ob,kvs,sm _ _ q,rfl⟩)))
   exact PySem.W.kia_one PySem.W.kitx_dict I.jL D.typeIs e (fun z=>nomatch z) h
 | memo=>exact t.elim
 | eA=>exact t.elim
 | fD=>exact t.elim
 | jo=>exact t.elim
 | uG=>exact t.elim
 | @uK a _ C dx fv fs gs nm n ls _ q rr=>
   cases (show z=Value.ref a from rx)
   have t:TyC X.K C:=t
   exact o8 (x:=.ref a) I rfl (.ins (eY sm q) t.cl t.ha t.hn t.OJ t.hm) e h
theorem boot_isinstance:bootBuiltins "isinstance"=some (.builtin "isinstance"):=by decide +kernel
def abY (K:PySem.W.Frag)(d d2:Dt)(r:Bool):List V→Hp→VK→Prop:=fun xs H Q=>∃ Hf w c,xs=[w,c]∧aL Hf H∧Rep K Hf w d∧Rep K Hf c d2∧Q (.bl r) H
theorem F8 {r:Bool}{z:Value}(hc:Ua d2=some z)(t:Pb X.K d)(h:PySem.W.kitOne X.K (tyD d) z=some r):gZ X (.builtin "isinstance") (abY X.K d d2 r):=by
 intro pins s st H xs us Q I rv ⟨Hf,w,c,e,sm,r1,r2,q⟩
 subst e
 cases rv with
 | cons q1 t1=>
   cases t1 with
   | cons q2 t2=>
     cases t2
     rename_i ud uc
     have ez:uc=z:=by
       cases r2 with
       | ty n=>cases hc;exact q2
       | cls C=>cases hc;exact q2
       | _=>cases hc
     subst ez
     exact F7 I sm r1 q1 t h fun tk=>⟨.bl r,H,I.tok _,rfl,q⟩
theorem F9 {r:Bool}{z:Value}(hm:X.mg "isinstance"=none)(ha:EE X G dl a d)(hb:EE X G dl b d2)(hc:Ua d2=some z)(t:Pb X.K d)(h:PySem.W.kitOne X.K (tyD d) z=some r)(hg:Gl X "isinstance":=by rfl)(he:starEach [a,b] X.env=(false,eval a X.env)::starEach [b] X.env:=by rfl)(Pd:starEach [b] X.env=[(false,eval b X.env)]:=by rfl)(kH:(backTo pos (starEach [b] X.env)).any (·.1)=false:=by rfl):EE X G dl (.Call (.Name "isinstance" p) [a,b] [] pos) (.bl r):=
 fh (eQ (F8 hc t h) hg hm boot_isinstance (ae ha (ae hb ao Pd) he) (by decide) (by decide) he kH) fun st H Q ⟨Hf,S,k⟩=>⟨Hf,S,fun vs aA H1 g1 r1=>by
   cases r1 with
   | cons r1 t1=>cases t1 with
     | cons r2 t2=>cases t2;exact⟨aA,_,_,rfl,g1.sub,r1,r2,k _ aA H1 g1 (.bl _)⟩⟩
mutual
def pd:Dt→PyData
 | .dQ=>.none
 | .bl b=>.bool b
 | .int i=>.int i
 | .str x=>.str x
 | .tup ds=>.tuple (pds ds)
 | .lst ds=>.list (pds ds)
 | .lP _=>.none
 | .eB _=>.none
 | .obj _ _=>.none
 | .ty _=>.none
 | .cls _=>.none
 | .xo _=>.none
 | .pk _=>.none
 | .Cy _ _=>.none
 | .eu _=>.none
 | .memo _ _ _ _=>.none
 | .eA _ _ _ _=>.none
 | .uG _ _ _=>.none
 | .uK _ _ _ _ _=>.none
 | .fD _=>.none
 | .jo _=>.none
def pds:List Dt→List PyData
 | []=>[]
 | d::r=>pd d::pds r
end
mutual
def plain:Dt→Bool
 | .tup ds=>A9 ds
 | .lst ds=>A9 ds
 | .lP _=>false
 | .eB _=>false
 | .obj _ _=>false
 | .ty _=>false
 | .cls _=>false
 | .xo _=>false
 | .pk _=>false
 | .Cy _ _=>false
 | .eu _=>false
 | .memo _ _ _ _=>false
 | .eA _ _ _ _=>false
 | .uG _ _ _=>false
 | .uK _ _ _ _ _=>false
 | .fD _=>false
 | .jo _=>false
 | .dQ=>true
 | .bl _=>true
 | .int _=>true
 | .str _=>true
def A9:List Dt→Bool
 | []=>true
 | d::r=>plain d && A9 r
end
section
variable {pins:List (Addr×Obj)}{st:L2.St}{Hf H:Hp}{s:Shared}
end
theorem sA (ha:EE X G dl a (.int i))(hb:EE X G dl b (.int j)):EB X G dl (.Compare a [.Lt] [b] pos) (decide (i < j)):=jR Tt (mH (g':=fun i j=>.bl (decide (i < j))) fun _ _ _ _=>.bl _) (kW _) ha hb
theorem nV (ha:EE X G dl a (.int i))(hb:EE X G dl b (.int j)):EB X G dl (.Compare a [.LtE] [b] pos) (decide (i≤j)):=jR yL (mH (g':=fun i j=>.bl (decide (i≤j))) fun _ _ _ _=>.bl _) (kW _) ha hb
theorem zh (ha:EE X G dl a (.int i))(hb:EE X G dl b (.int j)):EB X G dl (.Compare a [.Gt] [b] pos) (decide (j < i)):=jR Tu (mH (g':=fun i j=>.bl (decide (j < i))) fun _ _ _ _=>.bl _) (kW _) ha hb
theorem Ga (ha:EE X G dl a (.int i))(hb:EE X G dl b (.int j)):EB X G dl (.Compare a [.GtE] [b] pos) (decide (j≤i)):=jR Tv (mH (g':=fun i j=>.bl (decide (j≤i))) fun _ _ _ _=>.bl _) (kW _) ha hb
theorem wJ {K:PySem.W.Frag}{w1 w2:V}{g:Bool→Bool}(h1:∀ H w,Rep K H w d1→w=w1)(h2:∀ H w,Rep K H w d2→w=w2)(hs:J5 w1 w2=true):A5 K (fun x y H Q=>J5 x y=true∧Q (.bl (g (decide (x=y)))) H) d1 d2 (.bl (g (decide (w1=w2)))):=fun v w Hf H Q s r1 r2 k=>by
 cases h1 _ _ r1;cases h2 _ _ r2;exact⟨hs,k _ Hf H (.refl s) (.bl _)⟩
theorem lM (i j:Int):decide (V.int i=V.int j)=decide (i=j):=by simp
theorem rj (i j:Str):decide (V.str i=V.str j)=decide (i=j):=by simp
theorem Ba (ha:EE X G dl a (.int i))(hb:EE X G dl b (.int j)):EE X G dl (.Compare a [.Eq] [b] pos) (.bl (decide (i=j))):=by
 rw[← lM];exact A6 FI (wJ (g:=id) (fun _ _ r=>by cases r;rfl) (fun _ _ r=>by cases r;rfl) rfl) (kW _) ha hb
theorem jS (ha:EE X G dl a (.int i))(hb:EE X G dl b (.int j)):EB X G dl (.Compare a [.Eq] [b] pos) (decide (i=j)):=by
 rw[← lM];exact jR FI (wJ (g:=id) (fun _ _ r=>by cases r;rfl) (fun _ _ r=>by cases r;rfl) rfl) (kW _) ha hb
theorem Pe (ha:EE X G dl a (.int i))(hb:EE X G dl b (.int j)):EB X G dl (.Compare a [.NotEq] [b] pos) (!decide (i=j)):=by
 rw[← lM];exact jR Ts (wJ (g:=(!·)) (fun _ _ r=>by cases r;rfl) (fun _ _ r=>by cases r;rfl) rfl) (kW _) ha hb
theorem m5 (ha:EE X G dl a (.str x))(hb:EE X G dl b (.str y)):EB X G dl (.Compare a [.Eq] [b] pos) (decide (x=y)):=by
 rw[← rj];exact jR FI (wJ (g:=id) (fun _ _ r=>by cases r;rfl) (fun _ _ r=>by cases r;rfl) rfl) (kW _) ha hb
end
end Sg
namespace Sg
open PySem PySem.Spec PyProof.Rows L2
structure GF (P:Program)(w:World)(K:PySem.W.Frag)(mg:Str→Option Value)(base:Heap)(CX:mG)(k:Nat)(x:Str)(n:Nat)(R:List Dt→Res→Prop):Prop where
 ex:∃ f fd ps,gu P w K mg base CX k f fd ps (CB K n R)∧mg x=some (.ref f)∧PySem.W.keepIn K (.ref f)=true∧Binds K fd ps []
structure MF (P:Program)(w:World)(K:PySem.W.Frag)(mg:Str→Option Value)(base:Heap)(CX:mG)(k:Nat)(C:Addr)(m:Str)(n:Nat)(R:List Dt→Res→Prop):Prop where
 cl:nH K C
 ex:∃ f fd ps,gu P w K mg base CX k f fd ps (CB K n R)∧Meth K C m f∧Binds K fd ps []
section
variable {X:Cx}{G:Gr}{E:XK}{dl:List Slot}{e:Expr}{es:List Expr}{d:Dt}{ds:List Dt}{pos p apos:Pos}{x m:Str}{C:Addr}{fs:List (Str×Dt)}{CX:mG}{k k' n:Nat}{R:List Dt→Res→Prop}{ob:Expr}
theorem cR (F:GF X.prog X.w X.K X.mg X.base CX k x n R)(nx:AA CX)(hr:er k' X.A)(ha:EA X G dl (e::es) ds)(h:R ds (.ret d))(wK:k≤k':=by decide)(hl:ds.length=n:=by rfl)(hg:Gl X x:=by rfl)(jK:(x == ("__debug__":Str))=false:=by decide)(he:starEach (e::es) X.env=(false,eval e X.env)::starEach es X.env:=by rfl)(kH:(backTo pos (starEach es X.env)).any (·.1)=false:=by rfl):EE X G dl (.Call (.Name x p) (e::es) [] pos) d:=by
 obtain⟨f,fd,ps,F,hm,hk,hb⟩:=F.ex
 refine Kr (dvs:=[]) (vds:=[]) F nx (hr.mono wK) hm hk hb .nil (fun _=>.nil) ha (by rw[List.append_nil];exact hl) (by rw[List.append_nil];exact h) hg jK he kH
theorem cE {pl:Sem Bool}(he:EE X G dl ob (.obj C fs))(F:MF X.prog X.w X.K X.mg X.base CX k C m n R)(nx:AA CX)(hr:er k' X.A)(ha:EA X G dl (e::es) ds)(h:R (.obj C fs::ds) (.ret d))(wK:k≤k':=by decide)(hl:(Dt.obj C fs::ds).length=n:=by rfl)(qd:fs.lookup m=none:=by rfl)
   (kG:starEach (e::es) X.env=(false,eval e X.env)::starEach es X.env:=by rfl) (kH:(backTo pos (starEach es X.env)).any (·.1)=false:=by rfl)
   (ht:eval (.Call (.Attribute ob m apos) (e::es) [] pos) X.env=(do
     let ov ← eval ob X.env
     standAt apos.atName
     let (f,first) ← holding [ov] (getMethod ov m pl)
     callWith pos f first (backTo pos (starEach (e::es) X.env)) (backToKw pos (keywordEach [] X.env))):=by rfl):EE X G dl (.Call (.Attribute ob m apos) (e::es) [] pos) d:=by
 obtain⟨f,fd,ps,Fo,hm,hb⟩:=F.ex
 refine CC (dvs:=[]) (vds:=[]) (pl:=pl) he F.cl hm Fo nx (hr.mono wK) hb .nil (fun _=>.nil) ha (by rw[List.append_nil];exact hl) (by rw[List.append_nil];exact h) qd kG kH ht
theorem d9 {pl:Sem Bool}(he:EE X G dl ob (.obj C fs))(F:MF X.prog X.w X.K X.mg X.base CX k C m n R)(nx:AA CX)(hr:er k' X.A)(h:R [.obj C fs] (.ret d))(wK:k≤k':=by decide)(hl:[Dt.obj C fs].length=n:=by rfl)(qd:fs.lookup m=none:=by rfl)
   (ht:eval (.Call (.Attribute ob m apos) [] [] pos) X.env=(do
     let ov ← eval ob X.env
     standAt apos.atName
     let (f,first) ← holding [ov] (getMethod ov m pl)
     callWith pos f first (backTo pos (starEach [] X.env)) (backToKw pos (keywordEach [] X.env))):=by rfl):EE X G dl (.Call (.Attribute ob m apos) [] [] pos) d:=by
 obtain⟨f,fd,ps,Fo,hm,hb⟩:=F.ex
 refine zg (dvs:=[]) (vds:=[]) (pl:=pl) he F.cl hm Fo nx (hr.mono wK) hb .nil (fun _=>.nil) hl h qd ht
end
end Sg
namespace Sg
open PySem PySem.Spec PyProof.Rows L2
end Sg
namespace Sg
open PySem PySem.Spec PyProof.Rows L2
section
variable {P:Program}{w:World}{K:PySem.W.Frag}{mg:Str→Option Value}{base:Heap}{N:List Str}{qual:Str}{scope:Scope}{f:Addr}{cd:Value}{A:Around}{outer:List Env}{s0:Shared}{H0:Hp}{E:XK}{CX:mG}
end
def bmV:List Value:=[.type "ValueError",.type "Exception",.type "BaseException",.type "object"]
structure ExC (K:PySem.W.Frag)(C:Addr):Prop where
 ex:PySem.W.excIn K C bmV "ValueError.__new__"=true
section
variable {X:Cx}{G:Gr}{E:XK}{dl:List Slot}{e:Expr}{es:List Expr}{d:Dt}{ds:List Dt}{np bR pos:Pos}{x:Str}{C:Addr}
end
end Sg
namespace Sg
open PySem PySem.Spec PyProof.Rows L2
def uN:Value→Shared→Prop:=fun _ _=>False
theorem Kt {P:Program}{w:World}{A:Around}{R:Result→Shared→Prop}{s:Shared}{elt tg iter:Expr}{sc:Scope}{pos:Pos}{it acc:Value}{env:Env}(J:Nat→Shared→Prop)
   (turn:∀ n s,J n s→wpAny (model P w) A (pyNext it) (fun r s1=>match r with
     | none=>R (.ok .next) s1
     | some v=>wpAny (model P w) A (letOwnedTupleGo tg it v) (fun _ s2=>wpAny (model P w) A (assign tg env v) (fun _ s3=>wpAny (model P w) A (eval elt env) (fun x s4=>
         wpAny (model P w) A (call (.builtin "list.append") [acc,x]) (fun _ s5=>∃ m,m < n∧J m s5) uN s4) uN s3) uN s2) uN s1) uN s)
   (n:Nat) (h:J n s):codeAny (model P w) A (.compLoop (.ListComp elt [⟨tg,iter,[],0⟩] sc pos) 0 it acc env) R s:=by
 have off:∀ {B:Value→Shared→Prop} (x:Value) (s':Shared),uN x s'→B x s':=fun _ _ z=>z.elim
 refine codeAny_loop rfl J (fun n s hJ=>?_) n h
 show wpAny _ A ((compTurn (.ListComp elt [⟨tg,iter,[],0⟩] sc pos) 0 it acc env).onRaise (fun x=>(do noteFrame x env;theTreesLotGoes x))) _ _ s
 refine wpAny_noted ?_
 rw[compTurn_list1]
 refine wpAny_bind (wpAny_standAt (wpAny_bind (wpAny_mono (turn n s hJ) (fun r s1 h1=>?_) off)))
 cases r with
 | none=>exact wpAny_pure h1
 | some v=>
   refine wpAny_bind (wpAny_mono h1 (fun _ s2 h2=>wpAny_bind (wpAny_mono h2 (fun _ s3 h3=>wpAny_bind (wpAny_bind ?_)) off)) off)
   exact wpAny_mono h3 (fun x s4 h4=>wpAny_bind (wpAny_mono h4 (fun _ s5 h5=>wpAny_pure (wpAny_pure ⟨rfl,h5⟩)) off)) off
def wL (cells:List (Str×Addr)):List (Str×NameKind)→List (Str×Addr)→List (Str×Addr)
 | [],cs=>cs
 | (n,k)::r,cs=>if k == .free then wL cells r ((n,(cells.lookup n).getD 0)::cs) else wL cells r cs
def iK (sc:Scope)(env:Env):List (Str×Addr):=wL env.cells sc.names []
theorem wM {env:Env}:∀ (l:List (Str×NameKind)) (cs:List (Str×Addr)),(∀ y∈l,y.2=.free→∃ c,env.cells.lookup y.1=some c) →
   (forIn l cs fun(x:Str×NameKind) r=>(if x.2 == .free then (do let c ← cellOf env x.1;pure (ForInStep.yield ((x.1,c)::r))) else pure (ForInStep.yield r):Sem _))=pure (wL env.cells l cs)
 | [],cs,_=>rfl
 | (n,k)::l,cs,h=>by
   have hr:∀ y∈l,y.2=.free→∃ c,env.cells.lookup y.1=some c:=fun y hy=>h y (List.mem_cons_of_mem _ hy)
   rw[List.forIn_cons,wL]
   by_cases hk:(k == NameKind.free)=true
   . obtain⟨c,hc⟩:=h (n,k) List.mem_cons_self (by simpa using hk)
     have hc:env.cells.lookup n=some c:=hc
     simp only[hk,if_true,cellOf,hc,pure_bind,Option.getD_some]
     exact wM l _ hr
   . simp only[hk,if_false,pure_bind]
     exact wM l _ hr
theorem wN {sc:Scope}{env:Env}(h:∀ y∈sc.names,y.2=.free→∃ c,env.cells.lookup y.1=some c):closureFor sc env=pure (iK sc env):=by
 unfold closureFor iK
 have:=wM (env:=env) sc.names [] h
 simp only[bind_pure]
 refine Eq.trans ?_ this
 congr 1
theorem nW {cells:List (Str×Addr)}{y:Str}{c:Addr}:∀ (l:List (Str×NameKind)) (cs:List (Str×Addr)),(wL cells l cs).lookup y=some c→((y,NameKind.free)∈l∧(cells.lookup y).getD 0=c)∨cs.lookup y=some c
 | [],cs,h=>.inr h
 | (n,k)::l,cs,h=>by
   rw[wL] at h
   by_cases hk:(k == NameKind.free)=true
   . rw[if_pos hk] at h
     have hk':k=.free:=by simpa using hk
     subst hk'
     rcases nW l _ h with⟨h1,h2⟩ | h1
     . exact .inl ⟨List.mem_cons_of_mem _ h1,h2⟩
     . rw[List.lookup_cons] at h1
       cases q:(y == n) with
       | true=>
         rw[q] at h1
         have e:y=n:=by simpa using q
         subst e
         exact .inl ⟨List.mem_cons_self,Option.some.inj h1⟩
       | false=>rw[q] at h1;exact .inr h1
   . rw[if_neg hk] at h
     rcases nW l _ h with⟨h1,h2⟩ | h1
     . exact .inl ⟨List.mem_cons_of_mem _ h1,h2⟩
     . exact .inr h1
theorem gy {cells:List (Str×Addr)}{y:Str}:∀ (l:List (Str×NameKind)) (cs:List (Str×Addr)),((y,NameKind.free)∈l∨∃ c,cs.lookup y=some c)→∃ c,(wL cells l cs).lookup y=some c
 | [],cs,h=>by
   rcases h with h | h
   . cases h
   . exact h
 | (n,k)::l,cs,h=>by
   rw[wL]
   by_cases hk:(k == NameKind.free)=true
   . rw[if_pos hk]
     refine gy l _ ?_
     rcases h with h | ⟨c,h⟩
     . rcases List.mem_cons.mp h with h | h
       . cases h;exact .inr ⟨_,by rw[List.lookup_cons,show(y == y)=true by simp]⟩
       . exact .inl h
     . refine .inr ?_
       rw[List.lookup_cons]
       cases q:(y == n) with
       | true=>exact⟨_,rfl⟩
       | false=>exact⟨c,h⟩
   . rw[if_neg hk]
     refine gy l _ ?_
     rcases h with h | h
     . rcases List.mem_cons.mp h with h | h
       . cases h;exact absurd rfl hk
       . exact .inl h
     . exact .inr h
theorem eV {env:Env}{y:Str}{k:NameKind}:∀ {names:List (Str×NameKind)},(names.map fun(n,k)=>if (k == NameKind.free && env.scope.kind == .function && env.kindOf n == some .cell) then (n,NameKind.cell) else (n,k)).lookup y=some k→∃ k',(y,k')∈names∧(k=k'∨k'=.free)
 | [],h=>by simp at h
 | (n,kk)::r,h=>by
   rw[List.map_cons,List.lookup_cons] at h
   by_cases hc:(kk == NameKind.free && env.scope.kind == .function && env.kindOf n == some .cell)=true
   . simp only[hc,if_true] at h
     cases q:(y == n) with
     | true=>
       have e:y=n:=by simpa using q
       subst e
       have:kk=.free:=by
         have:=hc;simp at this;exact this.1.1
       exact⟨kk,List.mem_cons_self,.inr this⟩
     | false=>
       rw[q] at h
       obtain⟨k',h1,h2⟩:=eV h
       exact⟨k',List.mem_cons_of_mem _ h1,h2⟩
   . simp only[hc,Bool.false_eq_true,if_false] at h
     cases q:(y == n) with
     | true=>
       have e:y=n:=by simpa using q
       subst e
       rw[q] at h
       exact⟨kk,List.mem_cons_self,.inl (Option.some.inj h).symm⟩
     | false=>
       rw[q] at h
       obtain⟨k',h1,h2⟩:=eV h
       exact⟨k',List.mem_cons_of_mem _ h1,h2⟩
theorem jT {env:Env}{y:Str}:∀ {names:List (Str×NameKind)},names.lookup y=some .free→(names.map fun(n,k)=>if (k == NameKind.free && env.scope.kind == .function && env.kindOf n == some .cell) then (n,NameKind.cell) else (n,k)).lookup y=some .cell ∨
   (names.map fun(n,k)=>if (k == NameKind.free && env.scope.kind == .function && env.kindOf n == some .cell) then (n,NameKind.cell) else (n,k)).lookup y=some .free
 | [],h=>by simp at h
 | (n,kk)::r,h=>by
   rw[List.map_cons,List.lookup_cons]
   rw[List.lookup_cons] at h
   cases q:(y == n) with
   | true=>
     rw[q] at h
     have:kk=.free:=Option.some.inj h
     subst this
     by_cases hc:(NameKind.free == NameKind.free && env.scope.kind == .function && env.kindOf n == some .cell)=true
     . left;simp only[hc,if_true];simp[q]
     . right;simp only[hc,Bool.false_eq_true,if_false];simp[q]
   | false=>
     rw[q] at h
     have ih:=jT (env:=env) h
     by_cases hc:(kk == NameKind.free && env.scope.kind == .function && env.kindOf n == some .cell)=true
     . simp only[hc,if_true,q];exact ih
     . simp only[hc,Bool.false_eq_true,if_false,q];exact ih
structure fj (X:Cx)(N:List Str)(ix:List Nat)(x:Str)(sc:Scope):Prop where
 nd:N.Nodup
 nm:N=x::ix.map (fun j=>X.N.getD j "")
 kind:sc.kind=.function
 sC:∀ y∈sc.names,y.2≠.cell
 names:∀ y∈sc.names,y.2=.local→sc.names.lookup y.1=some .local
 hx:sc.names.lookup x=some .local
 fr:∀ y∈sc.names,y.2=.free→X.env.kindOf y.1=some .cell∨X.env.kindOf y.1=some .free
 Ub:∀ j∈ix,∃ y,X.N[j]?=some y∧sc.names.lookup y=some .free
def bQ (X:Cx)(N:List Str)(sc:Scope)(C:Addr)(fp:List Addr)(s:Shared)(H:Hp):Cx:=
 { X with N:=N,s₀:=s,H₀:=H,env:=compEnvC sc (iK sc X.env) C X.env,outer:=X.stack,stack:=X.stack,ex:=fp,fn:=fun _=>false,pn:=[],xe:=uN}
def frees (ix:List Nat)(st:L2.St):L2.St:=ix.map fun j=>(st[j]?).join
section
variable {X:Cx}{N:List Str}{ix:List Nat}{x:Str}{sc:Scope}{pins:List (Addr×Obj)}{st:L2.St}{H H':Hp}{s s':Shared}{C D:Addr}{fp:List Addr}{h1:Heap}
theorem Gb (B:fj X N ix x sc)(ok:X.Ok):closureFor sc X.env=pure (iK sc X.env):=wN fun y hy hk=>ok.has y.1 (B.fr y hy hk)
theorem sD (B:fj X N ix x sc)(ok:X.Ok){y:Str}{c:Addr}(h:(iK sc X.env).lookup y=some c):X.env.cells.lookup y=some c∧(y,NameKind.free)∈sc.names:=by
 rcases nW _ _ h with⟨h1,h2⟩ | h1
 . obtain⟨c',h3⟩:=ok.has y (B.fr _ h1 rfl)
   rw[h3] at h2
   cases h2
   exact⟨h3,h1⟩
 . cases h1
theorem wO (B:fj X N ix x sc)(I:L2.Inv X pins st H s)(hC:s.heap.objs.size≤C)(hf:∀ b∈fp,ir X pins H b)(dS:∀ b∈fp,b < s.heap.objs.size):(bQ X N sc C fp s H).Ok where
 mod:=I.ok.mod
 kind:=B.kind
 glob:=I.ok.glob
 blt:=I.ok.blt
 above:=hC
 inj:=fun y z c h1 h2=>I.ok.inj y z c (sD B I.ok h1).1 (sD B I.ok h2).1
 has:=fun y hy=>by
   have hy:(relabel sc X.env).names.lookup y=some .cell∨(relabel sc X.env).names.lookup y=some .free:=hy
   have:(y,NameKind.free)∈sc.names:=by
     rcases hy with hy | hy
     . obtain⟨k',h1,h2⟩:=eV hy
       rcases h2 with h2 | h2
       . subst h2;exact absurd rfl (B.sC _ h1)
       . subst h2;exact h1
     . obtain⟨k',h1,h2⟩:=eV hy
       rcases h2 with h2 | h2 <;> subst h2 <;> exact h1
   exact gy _ _ (.inl this)
 Ss:=fun y c h=>by cases h
 hd:=I.ok.hd
 frames:=I.ok.frames
 S5:=.inl rfl
 JX:=fun b hb=>⟨Nat.ne_of_lt (Nat.lt_of_lt_of_le (dS b hb) hC),fun y c h=>(hf b hb).2.2.2.2.1 y c (sD B I.ok h).1⟩
 bs:=I.bs
 Cd:=Nat.le_trans I.ok.Cd I.sz
 yC:=fun b o e hb=>by
   rcases (hf b hb).2.2.2.1 with z | z
   . exact I.ok.yC b o e z
   . exact absurd (Nat.lt_of_lt_of_le (Heap.lt_size e) (Nat.le_trans I.ok.Cd z)) (Nat.lt_irrefl _)
 yD:=fun b hb z=>by
   rcases List.mem_cons.mp (I.rZ b z) with z | z
   . exact(hf b hb).2.1 z
   . exact(hf b hb).2.2.1 z
 oZ:=I.stack
 M6:=I.rg
theorem Ea (B:fj X N ix x sc)(I:L2.Inv X pins st H s)(hf:∀ b∈fp,ir X pins H b)(dS:∀ b∈fp,b < s.heap.objs.size)(hC:C=s.heap.objs.size+1)(k:∀ b o,s.heap.get? b=some o→h1.get? b=some o)(hn:h1.Ns C fun _=>none)(hD:h1.get? s.heap.objs.size=some { cls:=.type "list",data:=.seq ([]:List Value).toArray 0}){t':Nat}:L2.Inv (bQ X N sc C fp s H) [] (none::frees ix st) (upd H s.heap.objs.size (.lst [])) { s with heap:=h1,toks:=t'}:=by
 have Nl:s.heap.objs.size≤C:=by rw[hC];exact Nat.le_succ _
 have fr:∀ a,s.heap.objs.size≤a→H a=none:=fun a ha=>I.bU.fresh ha
 have ok:=wO B I Nl hf dS
 have Ax:∀ y c,(iK sc X.env).lookup y=some c→H c=none∧c < s.heap.objs.size∧∃ v,s.heap.IsCell c v:=fun y c h=>by
   have h:=(sD B I.ok h).1
   obtain⟨v,q⟩:=I.cell y c h
   exact⟨I.mE y c h,q.lt,v,q⟩
 refine⟨ok,rfl,I.bare,Un.laid k (Nat.le_refl _) (fr _ (Nat.le_refl _)),⟨_,hn,fun i y v e1 e2 e3=>?_⟩,fun y c h=>?_,?_,fun y c h=>?_,fun p hp=>absurd (show p∈([]:List (Addr×Obj)) from hp) (by simp),?_,?_⟩
 . have e1:N[i]?=some y:=e1
   cases i with
   | zero=>cases e2
   | succ i=>
     rw[B.nm,List.getElem?_cons_succ,List.getElem?_map] at e1
     rw[List.getElem?_cons_succ] at e2
     unfold frees at e2
     rw[List.getElem?_map] at e2
     cases q:ix[i]? with
     | none=>rw[q] at e1;cases e1
     | some j=>
       rw[q] at e1 e2
       obtain⟨y',JJ,Gd⟩:=B.Ub j (List.mem_of_getElem? q)
       have Ku:=PySem.mem_of_lookup Gd
       have ey:y=y':=by
         have e1:X.N.getD j ""=y:=Option.some.inj e1
         rw[List.getD_eq_getElem?_getD,JJ] at e1
         exact e1.symm
       subst ey
       have e2:(st[j]?).join=some v:=Option.some.inj e2
       have Uc:st[j]?=some (some v):=by
         cases q2:st[j]? with
         | none=>rw[q2] at e2;cases e2
         | some z=>rw[q2] at e2;rw[show z=some v from e2]
       have kd:=B.fr _ Ku rfl
       have Ud:rY X.env.scope y:=by
         rcases kd with z | z
         . exact .inr (.inl z)
         . exact .inr (.inr z)
       obtain⟨m,_,hl⟩:=I.loc
       obtain⟨u,r,l⟩:=hl j y v JJ Uc Ud
       refine⟨u,r,.inr ?_⟩
       rcases l with⟨z,_⟩ | ⟨_,c,hc,ic⟩
       . rcases kd with z' | z' <;> rw[z] at z' <;> cases z'
       . obtain⟨c',Ay⟩:=gy (cells:=X.env.cells) sc.names [] (.inl Ku)
         have:=(sD B I.ok Ay).1
         rw[hc] at this;cases this
         obtain⟨oc,Cf,hd⟩:=ic
         refine⟨?_,c,Ay,oc,k _ _ Cf,hd⟩
         rcases e3 with e3 | e3 | e3
         . have e3:(relabel sc X.env).names.lookup y=some .local:=e3
           rcases jT (env:=X.env) Gd with z | z
           . exact absurd (e3.symm.trans z) (by decide)
           . exact absurd (e3.symm.trans z) (by decide)
         . exact .inl e3
         . exact .inr e3
 . obtain⟨_,_,v,oc,Cf,hd⟩:=Ax y c h
   exact⟨v,oc,k _ _ Cf,hd⟩
 . show upd H s.heap.objs.size (.lst []) C=none
   rw[ah (by rw[hC];exact Nat.succ_ne_self _)]
   exact fr _ Nl
 . show upd H s.heap.objs.size (.lst []) c=none
   obtain⟨q1,q2,_⟩:=Ax y c h
   rw[ah (Nat.ne_of_lt q2)]
   exact q1
 . exact I.bU.laid k (Nat.le_refl _) ⟨Nat.zero_le _,[],0,.nil,hD⟩
 . show(none::frees ix st).length=N.length
   rw[B.nm]
   unfold frees
   simp
def Pg (te:TE)(fs:L2.St)(J:It)(D:Addr)(Q:List V→Hp→Prop)(H:Hp):Prop:=
 ∃ W:Nat→Nat→List V→Hp→Prop,(∃ m,W 0 m [] (upd H D (.lst [])))∧∀ i m ys H1,W i m ys H1 →
   (J.stop i H1∧Q ys H1)∨(J.go i H1∧ys.length < sizeLine∧∀ v H2,J.JG i H1 v H2→te (some v::fs) H2 fun y H3=>H3 D=some (.lst ys)∧∃ m',m' < m∧W (i+1) m' (ys ++ [y]) (upd H3 D (.lst (ys ++ [y]))))
theorem CF {elt iter:Expr}{px pos:Pos}{te:TE}{J:It}{it:Addr}{tn:Nat→Heap→Prop}{Q:Addr→List V→Hp→Prop}{RR:Value→Addr→Result→Shared→Prop}{E:Value→Shared→Prop}(hc:X.calm=true)(B:fj X N ix x sc)(gL:∀ C fp s H,PE (bQ X N sc C fp s H) elt te)(I:L2.Inv X pins st H s)(T:Turn X.prog X.w X.K (.Name x px) J fp it tn)(h0:tn 0 s.heap)(hf:∀ b∈fp,ir X pins H b)(hq:∀ D,H D=none→Pg te (frees ix st) J D (Q D) H)(Ue:∀ D C ys H' s',L2.Inv X pins st H' s'→(∃ m,s'.heap.Ns C m)→ir X pins H' C→Q D ys H'→RR (.ref D) C (.ok .next) s'):wpAny (model X.prog X.w) X.A (newList []) (fun acc s3=>wpAny (model X.prog X.w) X.A (newFunctionEnv sc X.env.globals (iK sc X.env) [] X.env.qual none .none (some X.env)) (fun zi s4=>codeAny (model X.prog X.w) X.A (.compStart (.ListComp elt [⟨.Name x px,iter,[],0⟩] sc pos) 0 (.ref it) acc { zi with scope:=relabel sc X.env}) (RR acc zi.locals) s4) E s3) E s:=by
 have dS:∀ b∈fp,b < s.heap.objs.size:=fun b hb=>by
   obtain⟨o,e,_⟩:=T.obj _ _ h0 b hb
   exact Heap.lt_size e
 refine wpAny_newObj_type (wpAny_newFunctionEnv B.sC (fun y hy=>absurd hy (by simp)) (fun h1 Fc Eb=>?_) B.kind)
 dsimp only at Fc Eb ⊢
 generalize hG:s.heap.push { cls:=.type "list",dict:=none,data:=.seq ([]:List Value).toArray}=g at Fc Eb ⊢
 have hC:g.objs.size=s.heap.objs.size+1:=by rw[← hG,Heap.size_push]
 have hDC:s.heap.objs.size≠g.objs.size:=by rw[hC];exact Nat.ne_of_lt (Nat.lt_succ_self _)
 have old:∀ b o,s.heap.get? b=some o→h1.get? b=some o:=fun b o e=>
   Eb.extBut b o (by rw[hC];exact Nat.ne_of_lt (Nat.lt_succ_of_lt (Heap.lt_size e))) (Heap.get?_push_of_some _ (hG ▸ Heap.get?_push_of_some _ e))
 have Ge:h1.get? s.heap.objs.size=some { cls:=.type "list",data:=.seq ([]:List Value).toArray 0}:=Eb.extBut _ _ hDC (Heap.get?_push_of_some _ (hG ▸ Heap.get?_push_size _ rfl))
 have hD:H s.heap.objs.size=none:=I.bU.fresh (Nat.le_refl _)
 obtain⟨W,⟨m0,w0⟩,turn⟩:=hq _ hD
 have I0:=Ea (t':=s.toks+([]:List (Str×Value)).length) B I hf dS hC old (by simpa using Fc) Ge
 have Nm:tn 0 h1:=T.keep _ _ _ h0 fun b _ o e=>old b o e
 have k7:s.heap.objs.size≤g.objs.size:=by rw[hC];exact Nat.le_succ _
 have mY:∀ {H':Hp},(∀ b∈fp,H' b=none)→∀ b∈fp,ir (bQ X N sc g.objs.size fp s H) [] H' b:=fun {H'} hn b hb=>
   ⟨hn b hb,((wO B I k7 hf dS).JX b hb).1,(wO B I k7 hf dS).yD b hb,.inl hb,((wO B I k7 hf dS).JX b hb).2,fun p hp=>absurd (show p∈([]:List (Addr×Obj)) from hp) (by simp)⟩
 have hN:(bQ X N sc g.objs.size fp s H).N[0]?=some x:=by
   show N[0]?=some x
   rw[B.nm];rfl
 have Ec:(bQ X N sc g.objs.size fp s H).env.scope.names.lookup x=some .local:=lookup_relabel_local B.hx
 have loop:∀ s3:Shared,s3={ s with heap:=h1,toks:=s.toks+([]:List (Str×Value)).length} →
     codeAny (model X.prog X.w) X.A (.compLoop (.ListComp elt [⟨.Name x px,iter,[],0⟩] sc pos) 0 (.ref it) (.ref s.heap.objs.size) (compEnvC sc (iK sc X.env) g.objs.size X.env)) (RR (.ref s.heap.objs.size) g.objs.size) s3:=by
   rintro s3 rfl
   refine Kt (fun n s'=>∃ i ys σ H',L2.Inv (bQ X N sc g.objs.size fp s H) [] (σ::frees ix st) H' s'∧tn i s'.heap∧(∀ b∈fp,H' b=none)∧W i n ys H') ?_ m0
     ⟨0,[],none,_,I0,Nm,fun b hb=>?_,w0⟩
   . rintro n s5 ⟨i,ys,σ,H5,I5,Fb,JH,w5⟩
     rcases turn i n ys H5 w5 with⟨stop,qn⟩ | ⟨go,hz,step⟩
     . refine cM (T.done (bQ X N sc g.objs.size fp s H) rfl rfl rfl hc i [] s5 _ H5 uN I5 (mY JH) Fb stop) fun r s6 ⟨hr,I6⟩=>?_
       subst hr
       refine Ue _ _ ys H5 s6 ?_ ?_ (I.uH k7 I6.free) qn
       . exact I.FC I6.os I6.base I6.bU I6.bare fun b hb=>⟨(hf b hb).2.2.2.1,(hf b hb).2.1,(hf b hb).2.2.2.2.1,(hf b hb).2.2.2.2.2⟩
       . obtain⟨m,hm,_⟩:=I6.loc
         exact⟨m,hm⟩
     . refine cM (T.item (bQ X N sc g.objs.size fp s H) rfl rfl rfl hc i [] s5 _ H5 uN I5 (mY JH) Fb go) fun r s6 ⟨u,hr,h6⟩=>?_
       subst hr
       refine cM h6 fun _ s7 ⟨v,H7,I7,r7,y7,Gf,Ug⟩=>?_
       have Uh:=I7.pinned (mY Ug) (T.obj _ _ Gf)
       refine cM (cD (X:=bQ X N sc g.objs.size fp s H) (pos:=px) B.nd hN (.inl Ec) (.inr Ec) _ s7 _ H7 v u (fun σ' H'=>σ'=some v::frees ix st∧H'=H7) Uh r7 ⟨rfl,rfl⟩) fun _ s8 h8=>?_
       obtain⟨σ8,H8,I8,rfl,rfl⟩:=h8
       refine cM (gL g.objs.size fp s H _ s8 _ H8 _ I8 (step v H8 y7)) fun z s9 ⟨y,H9,I9,r9,Ui,m',hm,w9⟩=>?_
       refine cM (lO _ s9 _ H9 (.ref s.heap.objs.size) [y] (.ref s.heap.objs.size) [z] (fun _ H'=>H'=upd H9 s.heap.objs.size (.lst (ys ++ [y]))) I9 rfl (.cons r9 .nil) ⟨_,ys,y,rfl,rfl,Ui,hz,rfl⟩) fun _ s10 Uj=>?_
       obtain⟨_,H10,Gg,_,rfl⟩:=Uj
       refine⟨m',hm,i+1,ys ++ [y],some v,_,Gg.gq (pins:=[]),T.keep _ _ _ Gf fun b hb o e=>(Gg.pin (b,o) (List.mem_append_right _ (List.mem_append_right _ (eP hb e)))).1,fun b hb=>?_,w9⟩
       obtain⟨o,e,d⟩:=T.obj _ _ Gf b hb
       exact(Gg.pin (b,o) (List.mem_append_right _ (List.mem_append_right _ (eP hb e)))).2.1
   . rw[ah (Nat.ne_of_lt (dS b hb))]
     exact(hf b hb).1
 exact codeAny_compStart_list (loop _ rfl) (T.self _ 0 _ _ _ Nm (loop _ rfl))
end
end Sg
namespace Sg
open PySem PySem.Spec PyProof.Rows L2
def tDO (K:PySem.W.Frag)(G:Gr)(dl:List Slot)(o:Own):TE:=fun st H Q=>∃ Hf,d7 K G st Hf H dl∧∀ p aT H',bX Hf H aT H'→H p=none→aT p=none→fg K aT H' p o→Q (.ref p) H'
abbrev EO (X:Cx)(G:Gr)(dl:List Slot)(e:Expr)(o:Own):Prop:=PE X e (tDO X.K G dl o)
def Uk:Own→Dt
 | .lst ds=>.lst ds
 | .eB k=>.eB k
 | .obj C fs=>.obj C fs
 | .zd _ C fs=>.obj C fs
 | .pq C fs gs nm n=>.uK C fs gs nm n
 | .wG _ C fs gs nm n=>.uK C fs gs nm n
 | .jo k=>.jo k
section
variable {K:PySem.W.Frag}{G:Gr}{st:L2.St}{Hf H aT H':Hp}{dl:List Slot}{p:Addr}{w:Own}{u:HO}
theorem Gh (g:bX Hf H aT H')(n:H p=none)(n':aT p=none)(e:H' p=some u):bX Hf H (upd aT p u) H':=
 ⟨g.big,g.b8.trans (cv n'),fun b o h=>by
   by_cases hb:b=p
   . subst hb;rw[aq] at h;cases h;exact e
   . rw[ah hb] at h;exact g.sub _ _ h,fun a o h=>by
   by_cases hb:a=p
   . subst hb;exact .inr (.inl n)
   . rw[ah hb] at h;exact g.new a o h⟩
theorem CG (r:fg K Hf H p w)(n:Hf p=none):∃ u,H p=some u∧Rep K (upd Hf p u) (.ref p) (Uk w):=by
 cases w with
 | lst ds=>obtain⟨vs,h,r⟩:=r;exact⟨_,h,.lst aq (r.mono (cv n))⟩
 | eB ds=>obtain⟨vs,h,r⟩:=r;exact⟨_,h,.eB aq (r.mono (cv n))⟩
 | obj C ds=>obtain⟨dx,fs,h,r⟩:=r;exact⟨_,h,.obj (.of aq) (r.mono (cv n))⟩
 | zd x C ds=>obtain⟨_,dx,fs,h,r⟩:=r;exact⟨_,h,.obj (.of aq) (r.mono (cv n))⟩
 | pq C ds gs nm k=>obtain⟨dx,fs,b,ls,q,h,r⟩:=r;exact⟨_,h,.uK q (.of aq) (r.mono (cv n))⟩
 | wG x C ds gs nm k=>obtain⟨_,dx,fs,b,ls,q,h,r⟩:=r;exact⟨_,h,.uK q (.of aq) (r.mono (cv n))⟩
 | jo ks=>exact⟨_,r,.jo aq⟩
theorem d7.Ph (S:d7 K G st Hf H dl)(g:bX Hf H aT H'){i:Nat}(n:H p=none)(n':aT p=none)(r:fg K aT H' p w):d7 K G (st.set i (some (.ref p))) aT H' (dl.set i (.own w)):=by
 have ln:=S.len
 have S':=S.grow g
 have pn:∀ (j:Nat) (o':Own) (a:Addr),dl[j]?=some (Slot.own o')→st[j]?=some (some (V.ref a))→a≠p:=fun j o' a h1 h2=>by
   obtain⟨b,q1,_,_,q4⟩:=S.own j o' h1
   rw[h2] at q1;cases q1
   obtain⟨u,hu⟩:=q4.some
   exact aB hu n
 refine⟨S'.gr,by simp[S.len],fun j x h=>?_,fun j o' h=>?_,fun j k o1 o2 a h1 h2 h3 h4=>?_⟩
 . by_cases e:i=j
   . subst e
     by_cases hl:i < dl.length
     . rw[List.getElem?_set_self hl] at h;cases h
     . rw[List.getElem?_eq_none (by simp;omega)] at h;cases h
   . rw[List.getElem?_set_ne e] at h ⊢;exact S'.val j x h
 . by_cases e:i=j
   . subst e
     by_cases hl:i < dl.length
     . rw[List.getElem?_set_self hl] at h;cases h
       exact⟨p,List.getElem?_set_self (by omega),n',S.gr.big.free n,r⟩
     . rw[List.getElem?_eq_none (by simp;omega)] at h;cases h
   . rw[List.getElem?_set_ne e] at h ⊢
     exact S'.own j o' h
 . by_cases ej:i=j
   . by_cases ek:i=k
     . omega
     . subst ej
       rw[List.getElem?_set_ne ek] at h2 h4
       by_cases hl:i < st.length
       . rw[List.getElem?_set_self hl] at h3;cases h3
         exact absurd rfl (pn k o2 _ h2 h4)
       . rw[List.getElem?_eq_none (by simp;omega)] at h3;cases h3
   . rw[List.getElem?_set_ne ej] at h1 h3
     by_cases ek:i=k
     . subst ek
       by_cases hl:i < st.length
       . rw[List.getElem?_set_self hl] at h4;cases h4
         exact absurd rfl (pn j o1 _ h1 h3)
       . rw[List.getElem?_eq_none (by simp;omega)] at h4;cases h4
     . rw[List.getElem?_set_ne ek] at h2 h4
       exact S.D5 j k o1 o2 a h1 h2 h3 h4
theorem d7.b8 (S:d7 K G st Hf H dl){i:Nat}(hd:dl[i]?=some (.own w)):∃ aT,aL Hf aT∧d7 K G st aT H (dl.set i (.val (Uk w))):=by
 have ln:=S.len
 obtain⟨p,h1,h2,h3,h4⟩:=S.own i w hd
 obtain⟨u,hu,rp⟩:=CG h4 h2
 have hl:i < dl.length:=(List.getElem?_eq_some_iff.mp hd).1
 have sm:aL Hf (upd Hf p u):=cv h2
 refine⟨upd Hf p u,sm,⟨S.gr.big,S.gr.b8.trans sm,fun b o h=>?_,fun a o h=>?_⟩,by simp[S.len],fun j x h=>?_,fun j o' h=>?_,fun j k o1 o2 a q1 q2 q3 q4=>?_⟩
 . by_cases hb:b=p
   . subst hb;rw[aq] at h;cases h;exact hu
   . rw[ah hb] at h;exact S.gr.sub _ _ h
 . by_cases hb:a=p
   . subst hb;exact .inr (.inl h3)
   . rw[ah hb] at h;exact S.gr.new a o h
 . by_cases e:i=j
   . subst e
     rw[List.getElem?_set_self hl] at h;cases h
     exact⟨_,h1,rp⟩
   . rw[List.getElem?_set_ne e] at h
     obtain⟨v,z1,z2⟩:=S.val j x h
     exact⟨v,z1,z2.mono sm⟩
 . by_cases e:i=j
   . subst e;rw[List.getElem?_set_self hl] at h;cases h
   . rw[List.getElem?_set_ne e] at h
     obtain⟨a,z1,z2,z3,z4⟩:=S.own j o' h
     have ne:a≠p:=fun q=>by subst q;exact e (S.D5 i j _ _ _ hd h h1 z1)
     exact⟨a,z1,by rw[ah ne];exact z2,z3,z4.grow rfl sm⟩
 . have tr:∀ (j:Nat) o',(dl.set i (.val (Uk w)))[j]?=some (.own o')→dl[j]?=some (.own o'):=fun j o' h=>by
     by_cases e:i=j
     . subst e;rw[List.getElem?_set_self hl] at h;cases h
     . rw[List.getElem?_set_ne e] at h;exact h
   exact S.D5 j k _ _ a (tr _ _ q1) (tr _ _ q2) q3 q4
end
section
variable {X:Cx}{G:Gr}{E:XK}{dl dl1 dl2:List Slot}{a b c e:Expr}{es:List Expr}{i j:Int}{d d1 d2:Dt}{ds:List Dt}{pos p p':Pos}{o o':Out}{x y f:Str}{u v:Bool}{sts D7:List Stmt}{s:Stmt}{C:Addr}{w:Own}{fs:List (Str×Dt)}
theorem Kv (h:EO X G dl e w):EE X G dl e (Uk w):=fh h fun st H Q ⟨Hf,S,k⟩=>⟨Hf,S,fun p aT H' g n n' r=>by
 obtain⟨u,hu,rp⟩:=CG r n'
 exact k _ _ H' (Gh g n n' hu) rp⟩
theorem g7 (h:EO X G dl e (.lst ds)):EE X G dl e (.lst ds):=Kv h
theorem Ul (h:EO X G dl e (.obj C fs)):EE X G dl e (.obj C fs):=Kv h
theorem Gi {w':Own}(h:EO X G dl e w)(q:w=w'):EO X G dl e w':=by subst q;exact h
theorem ib (n:Nat){x:Str}{pos':Pos}(hN:X.N.Nodup)(he:EO X G dl e w)(hi:X.N[n]?=some x:=by rfl)(hx:Loc X.env.scope x:=by first | exact Or.inl rfl | exact Or.inr rfl)(hs:swapsWith e (some (.Name x pos')) pos.line X.env=pure false:=by rfl)(hf:X.fn x=true∨X.env.scope.names.lookup x=some .local:=by first | exact .inl rfl | exact .inr rfl | assumption):ES X G E dl (.Assign [.Name x pos'] e pos) (.nx (dl.set n (.own w))):=
 qt (AL hN hi hx he hs hf) fun D st H ⟨Hf,S,k⟩=>⟨Hf,S,fun p aA H1 g1 n1 n2 r1=>k _ aA H1 g1.b8 (S.Ph g1 n1 n2 r1)⟩
theorem iR (h:EO X G dl e w):ES X G E dl (.Return (some e) pos) (.ro w):=qt (AJ h) fun D st H ⟨Hf,S,k⟩=>⟨Hf,S,fun p aA H1 g1 n1 n2 r1=>k p aA H1 (S.gr.trans g1) (S.gr.big.free n1) n2 r1⟩
theorem Kw (n:Nat)(hd:dl[n]?=some (.own w):=by rfl)(hN:X.N[n]?=some x:=by rfl)(hv:rY X.env.scope x:=by first | exact Or.inl rfl | exact Or.inr (Or.inl rfl) | exact Or.inr (Or.inr rfl))(hb:(x == ("__debug__":Str))=false:=by decide)(jJ:(x == ("__classdict__":Str))=false:=by decide):ES X G E dl (.Return (some (.Name x p)) pos) (.ro w):=
 qt (AJ (fP hN hv hb jJ)) fun D st H ⟨Hf,S,k⟩=>by
   obtain⟨q,h1,h2,h3,h4⟩:=S.own n w hd
   exact⟨_,h1,k q Hf H S.gr h3 h2 h4⟩
theorem sE (i:Nat)(h:jQ X G E (dl.set i (.val (Uk w))) sts o)(hd:dl[i]?=some (.own w):=by rfl):jQ X G E dl sts o:=ze h fun D st H ⟨Hf,S,k⟩=>by
 obtain⟨aT,sm,S'⟩:=S.b8 hd
 exact⟨aT,S',k.mono sm⟩
def tOv (K:PySem.W.Frag)(G:Gr)(dl:List Slot)(n:Nat)(w:Own):TE:=fun st H Q=>∃ Hf a,d7 K G st Hf H dl∧st[n]?=some (some (.ref a))∧Hf a=none∧fg K Hf H a w∧Q (.ref a) H
theorem sF (n:Nat)(hd:dl[n]?=some (.own w))(hN:X.N[n]?=some x)(hv:rY X.env.scope x)(hb:(x == ("__debug__":Str))=false)(jJ:(x == ("__classdict__":Str))=false):PE X (.Name x p) (tOv X.K G dl n w):=
 fh (fP hN hv hb jJ) fun st H Q ⟨Hf,a,S,h1,_,_,q⟩=>⟨_,h1,q⟩
theorem pC (n:Nat)(hb:EE X G dl b (.int i))(h:jO ds i=some d)(hd:dl[n]?=some (.own (.lst ds)):=by rfl)(hN:X.N[n]?=some x:=by rfl)(hv:rY X.env.scope x:=by first | exact Or.inl rfl | exact Or.inr (Or.inl rfl) | exact Or.inr (Or.inr rfl))(jK:(x == ("__debug__":Str))=false:=by decide)(jJ:(x == ("__classdict__":Str))=false:=by decide)(hs:ia b:=by intro _ _;rfl):EE X G dl (.Subscript (.Name x p) b pos) d:=
 fh (si wq (sF (p:=p) n hd hN hv jK jJ) hb hs) fun st H Q ⟨Hf,S,k⟩=>by
   obtain⟨q,h1,h2,h3,h4⟩:=S.own n _ hd
   refine⟨Hf,q,S,h1,h2,h4,Hf,S,fun z aA H1 g1 r1=>?_⟩
   cases r1
   obtain⟨vs,hq,rp⟩:=h4
   obtain⟨v,hv1,hv2⟩:=rp.jO h
   exact⟨q,vs,i,v,rfl,rfl,.of (g1.big _ _ hq),hv1,k v aA H1 g1 (hv2.mono g1.b8)⟩
theorem jq (n:Nat){m:Nat}{ps pn:Pos}(he:EE X G dl e d)(hb:EE X G dl b (.int i))(h:AY ds.length i=some m)(hd:dl[n]?=some (.own (.lst ds)):=by rfl)(hN:X.N[n]?=some x:=by rfl)
   (hv:rY X.env.scope x:=by first | exact Or.inl rfl | exact Or.inr (Or.inl rfl) | exact Or.inr (Or.inr rfl)) (jK:(x == ("__debug__":Str))=false:=by decide) (jJ:(x == ("__classdict__":Str))=false:=by decide)
   (ha:∀ v,assign (.Subscript (.Name x pn) b ps) X.env v=(do
     let ov ← holding [v] (eval (.Name x pn) X.env)
     let iv ← holding [v,ov] (eval b X.env)
     standAt ps
     holding [v,ov,iv] (setItem ov iv v)
     release [v,ov,iv] []):=by intro _;rfl)
   (hs:swapsWithSole [.Subscript (.Name x pn) b ps] e pos.line X.env=pure false:=by rfl) (hw:swappedStores [.Subscript (.Name x pn) b ps] e X.env=pure none:=by rfl)
   (h1:(assignEach [.Subscript (.Name x pn) b ps] X.env).map (·.2)=[assign (.Subscript (.Name x pn) b ps) X.env]:=by rfl) :
   ES X G E dl (.Assign [.Subscript (.Name x pn) b ps] e pos) (.nx (dl.set n (.own (.lst (ds.set m d))))):=
 qt (we he (Oy (sF (p:=pn) n hd hN hv jK jJ) hb set_list ha) hs hw h1) fun D st H ⟨Hf,S,k⟩=>⟨Hf,S,fun v aA H1 g1 r1=>by
   have S1:=S.grow g1
   obtain⟨q,z1,z2,z3,z4⟩:=S1.own n _ hd
   refine⟨aA,q,S1,z1,z2,z4,aA,S1,fun iv cU H2 g2 r2=>?_⟩
   cases r2
   have S2:=S1.grow g2
   obtain⟨q',y1,y2,y3,vs,hq,rp⟩:=S2.own n _ hd
   rw[z1] at y1;cases y1
   refine⟨q,vs,i,m,rfl,rfl,hq,by rw[rp.length];exact h,?_⟩
   exact k st cU _ (g1.b8.trans g2.b8) (S2.D6 hd z1 ⟨_,aq,rp.set (r1.mono g2.b8) m⟩)⟩
end
end Sg
namespace Sg
open PySem PySem.Spec PyProof.Rows L2
section
variable {X:Cx}{G:Gr}{E:XK}{dl dl1 dl2:List Slot}{a b c e:Expr}{es:List Expr}{i j:Int}{d d1 d2:Dt}{ds ds':List Dt}{pos p p' apos bR:Pos}{o o':Out}{x y f:Str}{u v:Bool}{sts D7:List Stmt}{s:Stmt}{C:Addr}{w:Own}
theorem jU (h:EA X G dl es ds)(hl:ds.length≤sizeLine:=by decide):EO X G dl (.List es pos) (.lst ds):=
 fh (sh h) fun st H Q ⟨Hf,S,k⟩=>⟨Hf,S,fun vs aA H1 g1 r1=>⟨by rw[r1.length];exact hl,fun p hp=>k p aA _ (g1.trans (.eC g1.sub hp)) (g1.big.free hp) (g1.sub.free hp) ⟨vs,aq,r1⟩⟩⟩
theorem Nn {op:Operator}{r:R2}(ho:kT X (binaryOp op) r)(ha:EE X G dl a d1)(hb:EE X G dl b d2)(h:∀ v z Hf H Q,aL Hf H→Rep X.K Hf v d1→Rep X.K Hf z d2→(∀ p vs,H p=none→bY X.K Hf vs ds→Q (.ref p) (upd H p (.lst vs)))→r v z H Q):EO X G dl (.BinOp a op b pos) (.lst ds):=
 fh (Na ho ha hb) fun st H Q ⟨Hf,S,k⟩=>⟨Hf,S,fun v aA H1 g1 r1=>⟨aA,S.grow g1,fun z cU H2 g2 r2=>h v z cU H2 Q g2.sub (r1.mono g2.b8) r2 fun p vs hp rv=>
   k p cU _ ((g1.trans g2).trans (.eC g2.sub hp)) ((g1.trans g2).big.free hp) (g2.sub.free hp) ⟨vs,aq,rv⟩⟩⟩
theorem Pj (ha:EE X G dl a (.lst ds))(hb:EE X G dl b (.lst ds'))(hl:ds.length+ds'.length≤sizeLine):EO X G dl (.BinOp a .Add b pos) (.lst (ds ++ ds')):=
 Nn OU ha hb fun v z Hf H Q s r1 r2 k=>by
   cases r1 with
   | lst h1 q1=>cases r2 with
     | lst h2 q2=>exact⟨_,_,_,_,rfl,rfl,s _ _ h1,s _ _ h2,by rw[q1.length,q2.length];exact hl,fun p hp=>k p _ hp (q1.append q2)⟩
theorem zj {K:PySem.W.Frag}{H:Hp}{vs:List V}{ds:List Dt}(r:bY K H vs ds):∀ n:Nat,bY K H (List.replicate n vs).flatten (List.replicate n ds).flatten
 | 0=>.nil
 | n+1=>by
   rw[List.replicate_succ,List.replicate_succ,List.flatten_cons,List.flatten_cons]
   exact r.append (zj r n)
theorem Gj (ha:EE X G dl a (.lst ds))(hb:EE X G dl b (.int i))(h1:-(2 ^ 63)≤i)(h2:i < 2 ^ 63)(hl:ds.length * i.toNat≤sizeLine):EO X G dl (.BinOp a .Mult b pos) (.lst (List.replicate i.toNat ds).flatten):=
 Nn OV ha hb fun v z Hf H Q s r1 r2 k=>by
   cases r1 with
   | lst q1 r1=>cases r2;exact⟨_,i,_,rfl,rfl,s _ _ q1,h1,h2,by rw[r1.length];exact hl,fun p hp=>k p _ hp (zj r1 _)⟩
theorem Kx (hm:X.mg "list"=none)(ha:EE X G dl a (.lst ds))(hg:Gl X "list":=by rfl)(he:starEach [a] X.env=[(false,eval a X.env)]:=by rfl):EO X G dl (.Call (.Name "list" p) [a] [] pos) (.lst ds):=
 fh (lN wz hg hm boot_list (ae ha ao he) (he:=he)) fun st H Q ⟨Hf,S,k⟩=>⟨Hf,S,fun vs aA H1 g1 r1=>by
   cases r1 with
   | cons r t=>cases t;cases r with
     | @lst q vs _ z r=>exact⟨q,vs,rfl,.inl (.of (g1.sub _ _ z)),fun l hl=>k l aA _ (g1.trans (.eC g1.sub hl)) (g1.big.free hl) (g1.sub.free hl) ⟨vs,aq,r⟩⟩⟩
theorem Ed:bootBuiltins "max"=some (.builtin "max"):=by decide +kernel
theorem Ee:bootBuiltins "min"=some (.builtin "min"):=by decide +kernel
theorem wQ (hm:X.mg "max"=none)(hc:X.calm=true)(ha:EA X G dl [a,b] [.int i,.int j])(hg:Gl X "max":=by rfl)(he:starEach [a,b] X.env=(false,eval a X.env)::starEach [b] X.env:=by rfl)(kH:(backTo pos (starEach [b] X.env)).any (·.1)=false:=by rfl) :
   EE X G dl (.Call (.Name "max" p) [a,b] [] pos) (.int (if j > i then j else i)):=
 fh (eQ (DN hc) hg hm Ed ha (by decide) (by decide) he kH) fun st H Q ⟨Hf,S,k⟩=>⟨Hf,S,fun vs aA H1 g1 r1=>by
   cases r1 with
   | cons r1 t1=>cases t1 with
     | cons r2 t2=>cases t2;cases r1;cases r2;exact⟨i,j,rfl,k _ aA H1 g1 (.int _)⟩⟩
theorem Gk (hm:X.mg "min"=none)(hc:X.calm=true)(ha:EA X G dl [a,b] [.int i,.int j])(hg:Gl X "min":=by rfl)(he:starEach [a,b] X.env=(false,eval a X.env)::starEach [b] X.env:=by rfl)(kH:(backTo pos (starEach [b] X.env)).any (·.1)=false:=by rfl) :
   EE X G dl (.Call (.Name "min" p) [a,b] [] pos) (.int (if j < i then j else i)):=
 fh (eQ (DO hc) hg hm Ee ha (by decide) (by decide) he kH) fun st H Q ⟨Hf,S,k⟩=>⟨Hf,S,fun vs aA H1 g1 r1=>by
   cases r1 with
   | cons r1 t1=>cases t1 with
     | cons r2 t2=>cases t2;cases r1;cases r2;exact⟨i,j,rfl,k _ aA H1 g1 (.int _)⟩⟩
theorem pD (n:Nat){pn:Pos}(he:EE X G dl e d)(hl:ds.length < sizeLine)(hd:dl[n]?=some (.own (.lst ds)):=by rfl)(hN:X.N[n]?=some x:=by rfl)(hv:rY X.env.scope x:=by first | exact Or.inl rfl | exact Or.inr (Or.inl rfl) | exact Or.inr (Or.inr rfl))
   (jK:(x == ("__debug__":Str))=false:=by decide) (jJ:(x == ("__classdict__":Str))=false:=by decide)
   (gv:attributeBase (.Name x pn) "append" X.env (eval (.Name x pn) X.env)=eval (.Name x pn) X.env:=by rfl)
   (sk:((backTo bR (starEach [e] X.env)).all (fun x=>!x.1) && (backToKw bR (keywordEach [] X.env)).all (fun x=>x.1.isSome) && decide ([e].length+([]:List Keyword).length+(if ([]:List Keyword).isEmpty then 0 else 1) < 30))=true:=by rfl)
   (gw:(apos.endLine == bR.line)=true:=by rfl) (kG:starEach [e] X.env=(false,eval e X.env)::starEach [] X.env:=by rfl) (hs:swapsWith (.Call (.Attribute (.Name x pn) "append" apos) [e] [] bR) none pos.line X.env=pure false:=by rfl) :
   ES X G E dl (.Expr (.Call (.Attribute (.Name x pn) "append" apos) [e] [] bR) pos) (.nx (dl.set n (.own (.lst (ds ++ [d]))))):=
 qt (iM (sj PySem.F.plainAttrs_list PySem.F.slot_list_append PySem.F.type_list_append lO (sF (p:=pn) n hd hN hv jK jJ) (ae he ao kG) gv sk gw kG rfl) hs) fun D st H ⟨Hf,S,k⟩=>by
   obtain⟨q,z1,z2,z3,vs,hq,rp⟩:=S.own n _ hd
   refine⟨Hf,q,S,z1,z2,⟨vs,hq,rp⟩,.inl ⟨rfl,vs,.of hq⟩,Hf,S,fun us aA H1 g1 r1=>?_⟩
   cases r1 with
   | cons r1 t1=>
     cases t1
     refine⟨q,vs,_,rfl,rfl,g1.big _ _ hq,by rw[rp.length];exact hl,?_⟩
     exact k st aA _ g1.b8 ((S.grow g1).D6 hd z1 ⟨_,aq,(rp.mono g1.b8).append (.cons r1 .nil)⟩)
theorem lR {K:PySem.W.Frag}{H:Hp}:∀ {vs:List V} {xs:List Str},bY K H vs (xs.map Dt.str)→vs=xs.map V.str
 | _,[],.nil=>rfl
 | _,x::xs,.cons r t=>by cases r;rw[lR t];rfl
end
def zk:Option Slot→Slot
 | some (.val d)=>.val d
 | _=>.bE
theorem vH {o:Option Slot}{w:Own}(h:zk o=.own w):False:=by
 unfold zk at h
 split at h <;> cases h
theorem vI {o:Option Slot}{d:Dt}(h:zk o=.val d):o=some (.val d):=by
 unfold zk at h
 split at h
 . cases h;rfl
 . cases h
def fN (dl:List Slot)(ix:List Nat):List Slot:=ix.map fun j=>zk dl[j]?
section
variable {K:PySem.W.Frag}{G G':Gr}{st:L2.St}{Hf H aA H1:Hp}{dl:List Slot}{ix:List Nat}
theorem Ky (S:d7 K G st Hf H dl)(s1:aL Hf aA)(sb:aL aA H1){v:V}{d:Dt}(r:Rep K aA v d):d7 K ⟨aA,H1⟩ (some v::frees ix st) aA H1 (.val d::fN dl ix):=by
 have no:∀ (i:Nat) o,(Slot.val d::fN dl ix)[i]?≠some (.own o):=fun i o h=>by
   cases i with
   | zero=>cases h
   | succ i=>
     rw[List.getElem?_cons_succ] at h
     unfold fN at h
     rw[List.getElem?_map] at h
     cases q:ix[i]? with
     | none=>rw[q] at h;cases h
     | some j=>
       rw[q] at h
       exact vH (Option.some.inj h)
 refine⟨.refl sb,by simp[frees,fN],fun i x h=>?_,fun i o h=>absurd h (no i o),fun i j o o' a h=>absurd h (no i o)⟩
 cases i with
 | zero=>cases h;exact⟨v,rfl,r⟩
 | succ i=>
   rw[List.getElem?_cons_succ] at h ⊢
   unfold fN at h
   unfold frees
   rw[List.getElem?_map] at h ⊢
   cases q:ix[i]? with
   | none=>rw[q] at h;cases h
   | some j=>
     rw[q] at h
     have hd:=vI (Option.some.inj h)
     obtain⟨v',z1,z2⟩:=S.val j x hd
     exact⟨v',by rw[Option.map_some,z1];rfl,z2.mono s1⟩
end
section
variable {X:Cx}{G:Gr}{E:XK}{dl:List Slot}{a b c elt iter:Expr}{i j:Int}{d:Dt}{ys:List Dt}{zs:Nat→Dt}{pos p px py pc uO:Pos}{o:Out}{x y:Str}{N:List Str}{ix:List Nat}{sc:Scope}{n:Nat}
def Gm (X:Cx)(N:List Str)(sc:Scope)(dl:List Slot)(ix:List Nat)(elt:Expr)(n:Nat)(zs:Nat→Dt)(ys:List Dt):Prop:=
 ∀ k,k < n→∀ C fp s H G',EE (bQ X N sc C fp s H) G' (.val (zs k)::fN dl ix) elt (ys.getD k .dQ)
def Pk (K:PySem.W.Frag)(dl:List Slot)(ix:List Nat)(n:Nat)(zs:Nat→Dt)(ys:List Dt):TE:=fun st H Q=>∃ k G',k < n∧tD K G' (.val (zs k)::fN dl ix) (ys.getD k .dQ) st H Q
theorem Gn (h:Gm X N sc dl ix elt n zs ys):∀ C fp s H,PE (bQ X N sc C fp s H) elt (Pk X.K dl ix n zs ys):=fun C fp s H pins s' st H' Q I ⟨k,G',hk,q⟩=>h k hk C fp s H G' pins s' st H' Q I q
theorem Gp {st:L2.St}{Hf H:Hp}{J:It}{Q:VK}(S:d7 X.K G st Hf H dl)(SE:ys.length=n)(hn:n≤sizeLine)(go:∀ aA H1,bX Hf H aA H1→∀ i,(i < n→J.go i H1∧∀ v H2,J.JG i H1 v H2→H2=H1∧Rep X.K aA v (zs i))∧(i=n→J.stop i H1))(k:∀ p aT H',bX Hf H aT H'→H p=none→aT p=none→fg X.K aT H' p (.lst ys)→Q (.ref p) H'):∀ D,H D=none→Pg (Pk X.K dl ix n zs ys) (frees ix st) J D (fun _ H'=>Q (.ref D) H') H:=by
 intro D hD
 refine⟨fun i m vs H1=>m=n - i∧i≤n∧∃ aA,bX Hf H aA H1∧aA D=none∧H1 D=some (.lst vs)∧bY X.K aA vs (ys.take i),⟨n,rfl,Nat.zero_le _,Hf,.eC S.sub hD,S.sub.free hD,aq,.nil⟩,?_⟩
 rintro i m vs H1 ⟨rfl,hi,aA,g1,Um,SF,rp⟩
 have hlen:=rp.length
 rw[List.length_take] at hlen
 by_cases dS:i < n
 . obtain⟨Uo,hy⟩:=(go aA H1 g1 i).1 dS
   refine .inr ⟨Uo,by omega,fun v H2 y=>?_⟩
   obtain⟨e,rv⟩:=hy v H2 y
   subst e
   refine⟨i,⟨aA,H2⟩,dS,aA,Ky S g1.b8 g1.sub rv,fun z cU H3 g2 r2=>?_⟩
   have hD3:H3 D=some (.lst vs):=g2.big _ _ SF
   have hD4:cU D=none:=by
     cases q:cU D with
     | none=>rfl
     | some u=>
       obtain⟨o,z⟩:=g2.wF SF (fun z=>z) q
       rw[Um] at z;cases z
   have g:=g1.trans g2
   refine⟨hD3,n - (i+1),by omega,rfl,dS,cU,⟨fun a o h=>?_,g.b8,fun a o h=>?_,g.new⟩,hD4,aq,?_⟩
   . rw[ah (aB h hD)];exact g.big _ _ h
   . rw[ah (aB h hD4)];exact g2.sub _ _ h
   . have:ys.take (i+1)=ys.take i ++ [ys.getD i .dQ]:=by
       rw[List.take_add_one,List.getD_eq_getElem?_getD,List.getElem?_eq_getElem (by omega)];rfl
     rw[this]
     exact(rp.mono g2.b8).append (.cons r2 .nil)
 . have e:i=n:=by omega
   subst e
   refine .inl ⟨(go aA H1 g1 i).2 rfl,k D aA H1 g1 hD Um ⟨vs,SF,?_⟩⟩
   rw[List.take_of_length_le (by omega)] at rp
   exact rp
def tLc (wi:TI)(ix:List Nat)(te:TE):TE:=fun st H Q=>wi st H fun J H1=>∀ D,H1 D=none→Pg te (frees ix st) J D (fun _ H'=>Q (.ref D) H') H1
theorem Up {wi:TI}{te:TE}(hc:X.calm=true)(B:fj X N ix x sc)(hi:PI X (.Name x px) iter wi)(gL:∀ C fp s H,PE (bQ X N sc C fp s H) elt te)(hs:∀ z,foldedSetIterable iter X.env z=pure z):PE X (.ListComp elt [⟨.Name x px,iter,[],0⟩] sc pos) (tLc wi ix te):=by
 intro pins s st H Q I h
 rw[eval_ListComp]
 refine wpAny_comprehension_free (use:=none) rfl hs (Gb B I.ok) B.kind B.names (cM (hi pins s st H _ I h) fun v s1 h1=>cM h1 fun OA s2 h2=>?_)
 obtain⟨it,fp,tn,J,H2,e,I2,T,E9,f2,hq⟩:=h2
 subst e
 refine CF (RR:=fun acc C=>compPost (model X.prog X.w) X.A X.xe none (EP X pins st Q) acc C) hc B gL I2 T E9 f2 hq ?_
 intro D C ws H' s' I' ⟨m,hn⟩ l6 q
 exact⟨m,hn,fun h' Kz=>⟨.ref D,H',I'.turned (t':=s'.toks) (it:=C) (fun b o hb e=>(Kz.2 b hb).trans e) l6.1 l6.2.1 l6.2.2.2.1 l6.2.2.2.2.1 l6.2.2.2.2.2,rfl,q⟩⟩
theorem Uq {wi:TI}{te:TE}{nN:Nat}(hc:X.calm=true)(B:fj X N ix x sc)(hi:PI X (.Name x px) iter wi)(gL:∀ C fp s H,PE (bQ X N sc C fp s H) elt te)(hs:∀ z,foldedSetIterable iter X.env z=pure z)(Pl:swapsWith (.ListComp elt [⟨.Name x px,iter,[],0⟩] sc pos) (some (.Name y py)) uO.line X.env=pure true)(hN:X.N.Nodup)(hy:X.N[nN]?=some y)(hl:Loc X.env.scope y)(hf:X.fn y=true∨X.env.scope.names.lookup y=some .local):PS X (.Assign [.Name y py] (.ListComp elt [⟨.Name x px,iter,[],0⟩] sc pos) uO) (fun D st H=>tLc wi ix te st H fun v H'=>D.nx (st.set nN (some v)) H'):=by
 intro pins s st H D0 I h
 rw[exec_Assign_Name_used _ _ _ _ Pl]
 refine wpAny_bind (wpAny_standAt (wpAny_bind ?_))
 show wpAny _ X.A (do let _ ← comprehension (.ListComp elt [⟨.Name x px,iter,[],0⟩] sc pos) sc X.env _ (newList []) false (eval iter X.env) (some (assign (.Name y py) X.env))) _ _ s
 refine wpAny_bind (wpAny_mono (wpAny_comprehension_free (use:=some (assign (.Name y py) X.env)) (Q:=fun _ s'=>SP X pins D0 .next s') rfl hs (Gb B I.ok) B.kind B.names (cM (hi pins s st H _ I h) fun v s1 h1=>cM h1 fun OA s2 h2=>?_)) (fun _ s' hq=>wpAny_pure (wpAny_pure hq)) fun _ _ z=>z)
 obtain⟨it,fp,tn,J,H2,e,I2,T,E9,f2,hq⟩:=h2
 subst e
 refine CF (RR:=fun acc C=>compPost (model X.prog X.w) X.A X.xe (some (assign (.Name y py) X.env)) (fun _ s'=>SP X pins D0 .next s') acc C) hc B gL I2 T E9 f2 hq ?_
 intro D C ws H' s' I' ⟨m,hn⟩ l6 q
 refine wpAny_assign_Name (o3 I' hN hy hl (v:=.ref D) rfl (fun OM I'' ⟨ad,Eb,ha⟩=>?_) hf)
 have ne:C≠ad:=by
   rcases ha with z | z
   . rw[z];exact l6.2.1
   . exact Ne.symm (l6.2.2.2.2.1 _ _ z)
 exact⟨m,hn.sameBut Eb ne,fun h' Kz=>⟨_,H',I''.turned (t':=OM.toks) (it:=C) (fun b o hb e=>(Kz.2 b hb).trans e) l6.1 l6.2.1 l6.2.2.2.1 l6.2.2.2.2.1 l6.2.2.2.2.2,q⟩⟩
def Gq (X:Cx)(G:Gr)(dl:List Slot)(n:Nat)(zs:Nat→Dt)(wi:TI):Prop:=∀ st H (R:It→Hp→Prop),(∃ Hf,d7 X.K G st Hf H dl∧∀ J Gs H0,bX Hf H Gs H0 →
 (∀ aA H1,bX Gs H0 aA H1→∀ i,(i < n→J.go i H1∧∀ v H2,J.JG i H1 v H2→H2=H1∧Rep X.K aA v (zs i))∧(i=n→J.stop i H1))→R J H0)→wi st H R
theorem sG (hn:-(2 ^ 62)≤j∧j < 2 ^ 62):Gq X G dl j.toNat (fun k=>.int k) (M9 (T6 X.K G dl [.int j])):=fun st H R ⟨Hf,S,k⟩=>⟨Hf,S,fun vs aA H1 g1 r1=>by
 cases r1 with
 | cons r t=>
   cases t;cases r
   refine⟨j,rfl,hn.1,hn.2,k _ aA H1 g1 fun cU H2 g2 i=>⟨fun hi=>⟨hi,fun v H3 hy=>?_⟩,fun hi=>by rw[hi];exact Nat.le_refl _⟩⟩
   obtain⟨e1,e2⟩:=hy
   subst e2
   rw[Int.zero_add]
   exact⟨e1,.int _⟩⟩
theorem zl {wi:TI}(hs:Gq X G dl n zs wi)(SE:ys.length=n)(hn:n≤sizeLine):∀ st H Q,tDO X.K G dl (.lst ys) st H Q→tLc wi ix (Pk X.K dl ix n zs ys) st H Q:=fun st H Q ⟨Hf,S,k⟩=>
 hs st H _ ⟨Hf,S,fun J Gs H0 g0 src=>Gp (S.grow g0) SE hn src fun p aT H' g n1 n2 r=>k p aT H' (g0.trans g) (g0.big.free n1) n2 r⟩
theorem Ur {wi:TI}(hc:X.calm=true)(B:fj X N ix x sc)(hi:PI X (.Name x px) iter wi)(sH:Gq X G dl n zs wi)(gL:Gm X N sc dl ix elt n zs ys)(SE:ys.length=n)(hn:n≤sizeLine)(hs:∀ z,foldedSetIterable iter X.env z=pure z:=by intro _;rfl):EO X G dl (.ListComp elt [⟨.Name x px,iter,[],0⟩] sc pos) (.lst ys):=fh (Up hc B hi (Gn gL) hs) (zl sH SE hn)
theorem Np (nN:Nat){wi:TI}(hc:X.calm=true)(hN:X.N.Nodup)(B:fj X N ix x sc)(hi:PI X (.Name x px) iter wi)(sH:Gq X G dl n zs wi)(gL:Gm X N sc dl ix elt n zs ys)(SE:ys.length=n)(hn:n≤sizeLine)(hs:∀ z,foldedSetIterable iter X.env z=pure z:=by intro _;rfl)(Pl:swapsWith (.ListComp elt [⟨.Name x px,iter,[],0⟩] sc pos) (some (.Name y py)) uO.line X.env=pure true:=by rfl)(hy:X.N[nN]?=some y:=by rfl)(hl:Loc X.env.scope y:=by first | exact Or.inl rfl | exact Or.inr rfl)(hf:X.fn y=true∨X.env.scope.names.lookup y=some .local:=by first | exact .inl rfl | exact .inr rfl | assumption):ES X G E dl (.Assign [.Name y py] (.ListComp elt [⟨.Name x px,iter,[],0⟩] sc pos) uO) (.nx (dl.set nN (.own (.lst ys)))):=
 qt (Uq hc B hi (Gn gL) hs Pl hN hy hl hf) fun D st H ⟨Hf,S,k⟩=>zl sH SE hn st H _ ⟨Hf,S,fun p aT H' g n1 n2 r=>k _ aT H' g.b8 (S.Ph g n1 n2 r)⟩
end
end Sg
namespace Sg
open PySem PySem.Spec PyProof.Rows L2
theorem Bb {α:Type}{us:List α}{d:α}(h:(us ++ [d]).length=2):∃ a,us=[a]:=by
 match us,h with
 | [a],_=>exact⟨a,rfl⟩
 | [],h=>simp at h
 | _::_::r,h=>simp at h
theorem wR {α:Type}{us:List α}(h:(us ++ []).length=2):∃ a b,us=[a,b]:=by
 rw[List.append_nil] at h
 match us,h with
 | [a,b],_=>exact⟨a,b,rfl⟩
structure sI (K:PySem.W.Frag)(x qual:Str)(st:Stmt)(f:Addr)(fd:FuncData):Prop where
 ex:∃ (oc:Value) (od:Option Addr) (dV kV doc pm:Value) (an:Option Addr) (cS ct:Value) (AX:Array (Option Value)),
   fd=PySem.W.fnOf x qual (ak st) (ai st) (af st) dV kV doc pm an cS ct∧K.lookup f=some ⟨oc,od,.func fd,AX⟩∧PySem.W.codeIn K cS qual=true
theorem iS {K:PySem.W.Frag}{x qual:Str}{st:Stmt}{f:Addr}{oc:Value}{od an:Option Addr}{AX:Array (Option Value)}{dV kV doc pm cS ct:Value}(l:K.lookup f=some ⟨oc,od,.func (PySem.W.fnOf x qual (ak st) (ai st) (af st) dV kV doc pm an cS ct),AX⟩)(c:PySem.W.codeIn K cS qual=true):sI K x qual st f (PySem.W.fnOf x qual (ak st) (ai st) (af st) dV kV doc pm an cS ct):=⟨⟨oc,od,dV,kV,doc,pm,an,cS,ct,AX,rfl,l,c⟩⟩
section
variable {P:Program}{w:World}{K:PySem.W.Frag}{mg:Str→Option Value}{base:Heap}{CX:mG}{x qual:Str}{st:Stmt}{f:Addr}{fd:FuncData}{N ps:List Str}{k n:Nat}
theorem fnG {R:List Dt→Res→Prop}(F:sI K x qual st f fd)(S:ax N ps (af st))(hn:ps.length=n)(nI:∀ (cS:Value) (A:Around) (outer:List Env) (s:Shared) (H:Hp) (E:XK) (G:Gr) (ds:List Dt) (r:Res),er k (A.deeper (envOfC qual (af st) s.heap.objs.size f cS))→ds.length=n→R ds r→∃ o,Comes o r∧jQ (yP CX P w K mg base N qual (af st) f cS A outer s H E) G E (slots N ds) (ai st) o):gu P w K mg base CX (k+1) f fd ps (CB K n R):=by
 obtain⟨oc,od,dV,kV,doc,pm,an,cS,ct,AX,rfl,lk,jJ⟩:=F.ex
 refine FQ lk jJ S (fun vs H Q E ⟨Hf,ds,r,s,rp,hl,_⟩=>by rw[rp.length,hl,hn]) fun A outer s H vs Q E hr ⟨Hf,ds,r,sm,rp,hl,hR,hk⟩=>?_
 obtain⟨o,hc,hb⟩:=nI cS A outer s H E ⟨Hf,H⟩ ds r hr hl hR
 exact⟨_,hb,Hf,vG sm rp,hc.ends hk⟩
def ab2 (K:PySem.W.Frag)(C:Addr)(Hf H:Hp)(x:Addr)(Q:VK)(E:XK):Res→Prop
 | .own w=>((∃ fs,w=.obj C fs)∨∃ fs gs nm n,w=.pq C fs gs nm n)∧∀ aT H',bX Hf H aT H'→aT x=none→fg K aT H' x w→Q .dQ H'
 | .exc c fs=>∀ od aT H',bX Hf H aT H'→ExcAt K aT od fs→E c od H'
 | .ret _=>False
def spI (K:PySem.W.Frag)(C:Addr)(n:Nat)(R:List Dt→Res→Prop):Sp:=fun vs H Q E=>∃ Hf H1 x dx args ds r,vs=.ref x::args∧H=upd H1 x (.ins C dx [])∧H1 x=none∧aL Hf H1∧bY K Hf args ds∧ds.length+1=n∧R ds r∧ab2 K C Hf H1 x Q E r
inductive wU (C x:Addr):Out→Res→Prop
 | nx {dl:List Slot} {fs:List (Str×Dt)} (h:dl[0]?=some (.own (.zd x C fs))):wU C x (.nx dl) (.own (.obj C fs))
 | ex (c:Value) (fs:List (Str×Dt)):wU C x (.ex c fs) (.exc c fs)
 | nxG {dl:List Slot} {fs:List (Str×Dt)} {gs:List (Nat→List (Key×FD))} {nm:List Str} {n:Nat} (h:dl[0]?=some (.own (.wG x C fs gs nm n))):wU C x (.nx dl) (.own (.pq C fs gs nm n))
def pE (N:List Str)(x C:Addr)(ds:List Dt):List Slot:=.own (.zd x C [])::(ds.map Slot.val ++ List.replicate (N.length - (ds.length+1)) .bE)
theorem Bc {Hf H:Hp}{vs:List V}{ds:List Dt}{x dx C:Addr}(s:aL Hf H)(n:H x=none)(r:bY K Hf vs ds):d7 K ⟨Hf,H⟩ (start N (.ref x::vs)) Hf (upd H x (.ins C dx [])) (pE N x C ds):=by
 have hl:=r.length
 have es:start N (V.ref x::vs)=some (.ref x)::(vs.map some ++ List.replicate (N.length - (vs.length+1)) none):=by
   unfold L2.start
   simp
 have v9:∀ (i:Nat) o,(pE N x C ds)[i+1]?≠some (.own o):=fun i o h=>by
   unfold pE at h
   rw[List.getElem?_cons_succ] at h
   by_cases hi:i < ds.length
   . rw[List.getElem?_append_left (by simpa using hi),List.getElem?_map] at h
     cases e:ds[i]? with
     | none=>rw[e] at h;cases h
     | some a=>rw[e] at h;cases h
   . rw[List.getElem?_append_right (by simpa using hi),List.getElem?_replicate] at h
     split at h <;> cases h
 rw[es]
 refine⟨.eC s n,?_,fun i d h=>?_,fun i o h=>?_,fun i j o o' a h h' _ _=>?_⟩
 . unfold pE
   simp[hl]
 . cases i with
   | zero=>cases h
   | succ i=>
     unfold pE at h
     rw[List.getElem?_cons_succ] at h ⊢
     by_cases hi:i < ds.length
     . rw[List.getElem?_append_left (by simpa using hi),List.getElem?_map] at h
       cases e:ds[i]? with
       | none=>rw[e] at h;cases h
       | some a=>
         rw[e] at h;cases h
         obtain⟨v,h1,h2⟩:=r.get e
         refine⟨v,?_,h2⟩
         rw[List.getElem?_append_left (by simp;omega),List.getElem?_map,h1];rfl
     . rw[List.getElem?_append_right (by simpa using hi),List.getElem?_replicate] at h
       split at h <;> cases h
 . cases i with
   | zero=>
     cases h
     exact⟨x,rfl,s.free n,n,rfl,dx,[],aq,.nil⟩
   | succ i=>exact absurd h (v9 i o)
 . cases i with
   | zero=>cases j with
     | zero=>rfl
     | succ j=>exact absurd h' (v9 j _)
   | succ i=>exact absurd h (v9 i _)
theorem fnI {C:Addr}{R:List Dt→Res→Prop}(F:sI K x qual st f fd)(S:ax N ps (af st))(hn:ps.length=n)(nI:∀ (cS:Value) (A:Around) (outer:List Env) (s:Shared) (H:Hp) (E:XK) (G:Gr) (z:Addr) (ds:List Dt) (r:Res),er k (A.deeper (envOfC qual (af st) s.heap.objs.size f cS))→ds.length+1=n→R ds r→∃ o,wU C z o r∧jQ (yP CX P w K mg base N qual (af st) f cS A outer s H E) G E (pE N z C ds) (ai st) o):gu P w K mg base CX (k+1) f fd ps (spI K C n R):=by
 obtain⟨oc,od,dV,kV,doc,pm,an,cS,ct,AX,rfl,lk,jJ⟩:=F.ex
 refine FQ lk jJ S (fun vs H Q E ⟨Hf,H1,z,dx,args,ds,r,e,_,_,_,rp,hl,_⟩=>by rw[e,List.length_cons,rp.length,hl,hn]) fun A outer s H vs Q E hr ⟨Hf,H1,z,dx,args,ds,r,e1,e2,hz,sm,rp,hl,hR,hk⟩=>?_
 subst e1 e2
 obtain⟨o,hc,hb⟩:=nI cS A outer s _ E ⟨Hf,H1⟩ z ds r hr hl hR
 refine⟨_,hb,Hf,Bc sm hz rp,?_⟩
 cases hc with
 | nx h=>
   obtain⟨_,kk⟩:=hk
   intro gY aT H' s' S'
   obtain⟨a,_,q2,_,q4⟩:=S'.own 0 _ h
   obtain⟨rfl,dx',fs',q5,q6⟩:=q4
   exact kk aT H' S'.gr q2 ⟨dx',fs',q5,q6⟩
 | nxG h=>
   obtain⟨_,kk⟩:=hk
   intro gY aT H' s' S'
   obtain⟨a,_,q2,_,q4⟩:=S'.own 0 _ h
   obtain⟨rfl,q5⟩:=q4
   exact kk aT H' S'.gr q2 q5
 | ex c fs=>exact hk
end
def putD (f:Str)(v:Dt):List (Str×Dt)→List (Str×Dt)
 | []=>[(f,v)]
 | (g,x)::r=>if g=f then (g,v)::r else (g,x)::putD f v r
theorem bS.put {K:PySem.W.Frag}{H:Hp}{f:Str}{v:V}{d:Dt}(q:Rep K H v d):∀ {vs:List (Str×V)} {ds:List (Str×Dt)},bS K H vs ds→bS K H (eF f v vs) (putD f d ds)
 | _,_,.nil=>.cons q .nil
 | (k,x)::vs,(_,y)::ds,.cons h r=>by
   unfold eF putD
   by_cases e:k=f
   . rw[if_pos e,if_pos e];exact .cons q r
   . rw[if_neg e,if_neg e];exact .cons h (bS.put q r)
section
variable {X:Cx}{G:Gr}{E:XK}{dl dl1:List Slot}{e c:Expr}{es:List Expr}{d:Dt}{ds:List Dt}{pos p apos:Pos}{x m:Str}{C z:Addr}{fs:List (Str×Dt)}{CX:mG}{k k' n:Nat}{R:List Dt→Res→Prop}{ob:Expr}{wo:Own}{dvs:List Dt}{body:List Stmt}
theorem gM {fn:Str}{pn:Pos}(he:EE X G dl e d)(cl:nH X.K C)(na:cu X.K C fn)(hd:dl[0]?=some (.own (.zd z C fs)):=by rfl)(hl:Nat.ble fs.length 999=true:=by rfl)(hN:X.N[0]?=some x:=by rfl)(hv:rY X.env.scope x:=by first | exact Or.inl rfl | exact Or.inr (Or.inl rfl) | exact Or.inr (Or.inr rfl))(jK:(x == ("__debug__":Str))=false:=by decide)(jJ:(x == ("__classdict__":Str))=false:=by decide)(hs:swapsWith e (some (.Attribute (.Name x pn) fn apos)) pos.line X.env=pure false:=by rfl):ES X G E dl (.Assign [.Attribute (.Name x pn) fn apos] e pos) (.nx (dl.set 0 (.own (.zd z C (putD fn d fs))))):=
 qt (se (sF (p:=pn) 0 hd hN hv jK jJ) he hs) fun D st H ⟨Hf,S,k⟩=>⟨Hf,S,fun v aA H1 g1 r1=>by
   have S1:=S.grow g1
   obtain⟨a,q1,q2,q3,q4⟩:=S1.own 0 _ hd
   obtain⟨e1,dx,fv,q5,q6⟩:=id q4
   refine⟨aA,a,S1,q1,q2,q4,a,C,dx,fv,rfl,q5,cl,na,by rw[q6.length];exact Nat.lt_succ_of_le (Nat.le_of_ble_eq_true hl),?_⟩
   exact k st aA _ g1.b8 (S1.D6 hd q1 ⟨e1,dx,_,aq,q6.put r1⟩)⟩
structure SG (P:Program)(w:World)(K:PySem.W.Frag)(mg:Str→Option Value)(base:Heap)(CX:mG)(k:Nat)(x:Str)(C:Addr)(n:Nat)(R:List Dt→Res→Prop):Prop where
 ex:∃ f fd ps,gu P w K mg base CX k f fd ps (spI K C n R)∧L2.Mk K C f∧mg x=some (.ref C)∧Binds K fd ps []
theorem rB (F:SG X.prog X.w X.K X.mg X.base CX k x C n R)(nx:AA CX)(hr:er k' X.A)(ha:EA X G dl (e::es) ds)(h:R ds (.own (.obj C fs)))(wK:k+1≤k':=by decide)(hl:ds.length+1=n:=by rfl)(hg:Gl X x:=by rfl)(jK:(x == ("__debug__":Str))=false:=by decide)(he:starEach (e::es) X.env=(false,eval e X.env)::starEach es X.env:=by rfl)(kH:(backTo pos (starEach es X.env)).any (·.1)=false:=by rfl):EO X G dl (.Call (.Name x p) (e::es) [] pos) (.obj C fs):=by
 obtain⟨f,fd,ps,Fo,M,hm,hb⟩:=F.ex
 refine fh (Cm (E:=E0) M Fo (hr.mono wK) hg hm hb .nil nx.passes ha jK he kH) fun st H Q ⟨Hf,S,kk⟩=>⟨Hf,S,fun vs aA H1 g1 r1 y dx hy Us ne=>?_⟩
 have TU:(upd H1 dx (.own y)) y=none:=by rw[ah (Ne.symm ne)];exact hy
 have g2:bX aA H1 aA (upd H1 dx (.own y)):=.eC g1.sub Us
 refine⟨aA,upd H1 dx (.own y),y,dx,vs ++ [],ds,.own (.obj C fs),rfl,rfl,TU,g2.sub,by rw[List.append_nil];exact r1,hl,h,.inl ⟨fs,rfl⟩,fun aT H' g n1 r=>⟨rfl,?_⟩⟩
 exact kk y aT H' ((g1.trans g2).trans g) (g1.big.free hy) n1 r
theorem zm {gs:List (Nat→List (Key×FD))}{nm:List Str}{j:Nat}(F:SG X.prog X.w X.K X.mg X.base CX k x C n R)(nx:AA CX)(hr:er k' X.A)(ha:EA X G dl (e::es) ds)(h:R ds (.own (.pq C fs gs nm j)))(wK:k+1≤k':=by decide)(hl:ds.length+1=n:=by rfl)(hg:Gl X x:=by rfl)(jK:(x == ("__debug__":Str))=false:=by decide)(he:starEach (e::es) X.env=(false,eval e X.env)::starEach es X.env:=by rfl)(kH:(backTo pos (starEach es X.env)).any (·.1)=false:=by rfl):EO X G dl (.Call (.Name x p) (e::es) [] pos) (.pq C fs gs nm j):=by
 obtain⟨f,fd,ps,Fo,M,hm,hb⟩:=F.ex
 refine fh (Cm (E:=E0) M Fo (hr.mono wK) hg hm hb .nil nx.passes ha jK he kH) fun st H Q ⟨Hf,S,kk⟩=>⟨Hf,S,fun vs aA H1 g1 r1 y dx hy Us ne=>?_⟩
 have TU:(upd H1 dx (.own y)) y=none:=by rw[ah (Ne.symm ne)];exact hy
 have g2:bX aA H1 aA (upd H1 dx (.own y)):=.eC g1.sub Us
 refine⟨aA,upd H1 dx (.own y),y,dx,vs ++ [],ds,.own (.pq C fs gs nm j),rfl,rfl,TU,g2.sub,by rw[List.append_nil];exact r1,hl,h,.inr ⟨fs,gs,nm,j,rfl⟩,fun aT H' g n1 r=>⟨rfl,?_⟩⟩
 exact kk y aT H' ((g1.trans g2).trans g) (g1.big.free hy) n1 r
theorem vJ (F:GF X.prog X.w X.K X.mg X.base CX k x n R)(nx:AA CX)(hr:er k' X.A)(ha:EA X G dl (e::es) ds)(h:R ds (.own wo))(wK:k≤k':=by decide)(hl:ds.length=n:=by rfl)(hg:Gl X x:=by rfl)(jK:(x == ("__debug__":Str))=false:=by decide)(he:starEach (e::es) X.env=(false,eval e X.env)::starEach es X.env:=by rfl)(kH:(backTo pos (starEach es X.env)).any (·.1)=false:=by rfl):EO X G dl (.Call (.Name x p) (e::es) [] pos) wo:=by
 obtain⟨f,fd,ps,F,hm,hk,hb⟩:=F.ex
 exact fh (Cj (E:=E0) F (hr.mono wK) hg hm hk hb .nil nx.passes ha jK he kH) fun st H Q ⟨Hf,S,k⟩=>⟨Hf,S,fun vs aA H1 g1 r1=>⟨aA,ds,.own wo,g1.sub,by rw[List.append_nil];exact r1,hl,h,fun p cU H2 g2 n1 n2 r2=>k p cU H2 (g1.trans g2) (g1.big.free n1) n2 r2⟩⟩
structure Fe (P:Program)(w:World)(K:PySem.W.Frag)(mg:Str→Option Value)(base:Heap)(CX:mG)(k:Nat)(C:Addr)(m:Str)(n:Nat)(dvs:List Dt)(R:List Dt→Res→Prop):Prop where
 cl:nH K C
 ex:∃ f fd ps D8 vds,gu P w K mg base CX k f fd ps (CB K n R)∧Meth K C m f∧Binds K fd ps D8∧Vals vds D8∧∀ H,bY K H vds dvs
theorem Pm {P:Program}{w:World}{K:PySem.W.Frag}{mg:Str→Option Value}{base:Heap}(F:MF P w K mg base CX k C m n R):Fe P w K mg base CX k C m n [] R:=by
 obtain⟨f,fd,ps,Fo,hm,hb⟩:=F.ex
 exact⟨F.cl,f,fd,ps,[],[],Fo,hm,hb,.nil,fun _=>.nil⟩
theorem sJ {pl:Sem Bool}(he:EE X G dl ob (.obj C fs))(F:Fe X.prog X.w X.K X.mg X.base CX k C m n dvs R)(nx:AA CX)(hr:er k' X.A)(ha:EA X G dl (e::es) ds)(h:R (.obj C fs::(ds ++ dvs)) (.own wo))(wK:k≤k':=by decide)(hl:(Dt.obj C fs::(ds ++ dvs)).length=n:=by rfl)(qd:fs.lookup m=none:=by rfl)
   (kG:starEach (e::es) X.env=(false,eval e X.env)::starEach es X.env:=by rfl) (kH:(backTo pos (starEach es X.env)).any (·.1)=false:=by rfl)
   (ht:eval (.Call (.Attribute ob m apos) (e::es) [] pos) X.env=(do
     let ov ← eval ob X.env
     standAt apos.atName
     let (f,first) ← holding [ov] (getMethod ov m pl)
     callWith pos f first (backTo pos (starEach (e::es) X.env)) (backToKw pos (keywordEach [] X.env))):=by rfl):EO X G dl (.Call (.Attribute ob m apos) (e::es) [] pos) wo:=by
 obtain⟨f,fd,ps,D8,vds,Fo,hm,hb,hd,A8⟩:=F.ex
 exact fh (Ck (pl:=pl) (E:=E0) he F.cl hm Fo (hr.mono wK) hb hd nx.passes ha kG kH ht) fun st H Q ⟨Hf,S,k⟩=>⟨Hf,S,fun v aA H1 g1 r1=>by
   cases r1 with
   | @obj a _ dx fv _ q r=>
     exact⟨a,dx,fv,rfl,eY g1.sub q,r.none_of qd,aA,S.grow g1,fun vs cU H2 g2 r2=>⟨cU,_,.own wo,g2.sub,.cons (.obj (eY g2.b8 q) (r.mono g2.b8)) (r2.append (A8 _)),hl,h,fun p fM H3 g3 n1 n2 r3=>k p fM H3 ((g1.trans g2).trans g3) ((g1.trans g2).big.free n1) n2 r3⟩⟩⟩
theorem Gu {pl:Sem Bool}(he:EE X G dl ob (.obj C fs))(F:Fe X.prog X.w X.K X.mg X.base CX k C m n dvs R)(nx:AA CX)(hr:er k' X.A)(h:R (.obj C fs::dvs) (.own wo))(wK:k≤k':=by decide)(hl:(Dt.obj C fs::dvs).length=n:=by rfl)(qd:fs.lookup m=none:=by rfl)
   (ht:eval (.Call (.Attribute ob m apos) [] [] pos) X.env=(do
     let ov ← eval ob X.env
     standAt apos.atName
     let (f,first) ← holding [ov] (getMethod ov m pl)
     callWith pos f first (backTo pos (starEach [] X.env)) (backToKw pos (keywordEach [] X.env))):=by rfl):EO X G dl (.Call (.Attribute ob m apos) [] [] pos) wo:=by
 obtain⟨f,fd,ps,D8,vds,Fo,hm,hb,hd,A8⟩:=F.ex
 exact fh (yO (pl:=pl) (E:=E0) he F.cl hm Fo (hr.mono wK) hb hd nx.passes ht) fun st H Q ⟨Hf,S,k⟩=>⟨Hf,S,fun v aA H1 g1 r1=>by
   cases r1 with
   | @obj a _ dx fv _ q r=>
     exact⟨a,dx,fv,rfl,eY g1.sub q,r.none_of qd,aA,_,.own wo,g1.sub,.cons (.obj q r) (A8 _),hl,h,fun p fM H3 g3 n1 n2 r3=>k p fM H3 (g1.trans g3) (g1.big.free n1) n2 r3⟩⟩
theorem Gv {pl:Sem Bool}(he:EE X G dl ob (.obj C fs))(F:Fe X.prog X.w X.K X.mg X.base CX k C m n dvs R)(nx:AA CX)(hr:er k' X.A)(ha:EA X G dl (e::es) ds)(h:R (.obj C fs::(ds ++ dvs)) (.ret d))(wK:k≤k':=by decide)(hl:(Dt.obj C fs::(ds ++ dvs)).length=n:=by rfl)(qd:fs.lookup m=none:=by rfl)
   (kG:starEach (e::es) X.env=(false,eval e X.env)::starEach es X.env:=by rfl) (kH:(backTo pos (starEach es X.env)).any (·.1)=false:=by rfl)
   (ht:eval (.Call (.Attribute ob m apos) (e::es) [] pos) X.env=(do
     let ov ← eval ob X.env
     standAt apos.atName
     let (f,first) ← holding [ov] (getMethod ov m pl)
     callWith pos f first (backTo pos (starEach (e::es) X.env)) (backToKw pos (keywordEach [] X.env))):=by rfl):EE X G dl (.Call (.Attribute ob m apos) (e::es) [] pos) d:=by
 obtain⟨f,fd,ps,D8,vds,Fo,hm,hb,hd,A8⟩:=F.ex
 exact CC (pl:=pl) he F.cl hm Fo nx (hr.mono wK) hb hd A8 ha hl h qd kG kH ht
theorem CH {pl:Sem Bool}(he:EE X G dl ob (.obj C fs))(F:Fe X.prog X.w X.K X.mg X.base CX k C m n dvs R)(nx:AA CX)(hr:er k' X.A)(h:R (.obj C fs::dvs) (.ret d))(wK:k≤k':=by decide)(hl:(Dt.obj C fs::dvs).length=n:=by rfl)(qd:fs.lookup m=none:=by rfl)
   (ht:eval (.Call (.Attribute ob m apos) [] [] pos) X.env=(do
     let ov ← eval ob X.env
     standAt apos.atName
     let (f,first) ← holding [ov] (getMethod ov m pl)
     callWith pos f first (backTo pos (starEach [] X.env)) (backToKw pos (keywordEach [] X.env))):=by rfl):EE X G dl (.Call (.Attribute ob m apos) [] [] pos) d:=by
 obtain⟨f,fd,ps,D8,vds,Fo,hm,hb,hd,A8⟩:=F.ex
 exact zg (pl:=pl) he F.cl hm Fo nx (hr.mono wK) hb hd A8 hl h qd ht
def Ut (X:Cx)(G:Gr)(c:Expr):TT:=fun st H Q=>∃ dl b,EB X G dl c b∧T7 X.K G dl b st H Q
theorem KA:PT X c (Ut X G c):=fun pins s st H Q I ⟨dl,b,h,q⟩=>h pins s st H Q I q
theorem Gw (S:Nat→List Slot)(n:Nat)(hp:PassesOwn (model X.prog X.w) X.A X.env X.xe)(h0:Le (S 0) dl)(hc:∀ k,k < n→EB X G (S k) c true)(hn:EB X G (S n) c false)(hb:∀ k,k < n→Goes X G E body (S k) (S (k+1))):ES X G E dl (.While c body [] pos) (.nx (S n)):=by
 refine qt (yJ hp (KA (G:=G)) (nT (G:=G) (E:=E))) fun D st H ⟨Hf,S0,k⟩=>?_
 refine⟨fun m st H=>∃ i,m=n - i∧i≤n∧∃ aA,aL Hf aA∧d7 X.K G st aA H (S i),⟨n,0,rfl,Nat.zero_le _,Hf,aL.refl _,S0.weak h0⟩,?_⟩
 rintro m st1 H1 ⟨i,rfl,hi,aA,s1,S1⟩
 by_cases dS:i < n
 . refine⟨S i,true,hc i dS,aA,S1,fun cU H2 g2=>wD ⟨fun gY H'=>∃ fM,aL Hf fM∧d7 X.K G gY fM H' (S (i+1)),fun gY H' h'=>⟨n - (i+1),by omega,i+1,rfl,dS,h'⟩,?_⟩⟩
   exact lQ (hb i dS) (S1.grow g2) (fun st3 fM H3 s3 S3=>⟨fM,(s1.trans g2.b8).trans s3,S3⟩) (fun st3 fM H3 s3 S3=>⟨fM,(s1.trans g2.b8).trans s3,S3⟩)
 . have e:i=n:=by omega
   subst e
   exact⟨S i,false,hn,aA,S1,fun cU H2 g2=>wC (k _ cU H2 (s1.trans g2.b8) (S1.grow g2))⟩
end
def sL (sc zo:Scope)(XN N:List Str)(ix:List Nat)(x:Str):Bool:=
 decide N.Nodup && (decide (N=x::ix.map (fun j=>XN.getD j "")) && (decide (sc.kind=.function) && (sc.names.all (fun y=>decide (y.2≠.cell)) && (sc.names.all (fun y=>decide (y.2=.local→sc.names.lookup y.1=some .local)) && (decide (sc.names.lookup x=some .local) &&
   (sc.names.all (fun y=>decide (y.2=.free→zo.names.lookup y.1=some .cell∨zo.names.lookup y.1=some .free)) && ix.all (fun j=>decide (sc.names.lookup (XN.getD j "")=some .free) && decide (j < XN.length))))))))
theorem Bd {X:Cx}{sc zo:Scope}{XN N:List Str}{ix:List Nat}{x:Str}(h:sL sc zo XN N ix x=true)(e1:X.env.scope=zo:=by rfl)(e2:X.N=XN:=by rfl):fj X N ix x sc:=by
 subst e1 e2
 unfold sL at h
 simp only[Bool.and_eq_true,List.all_eq_true,decide_eq_true_eq] at h
 obtain⟨h1,h2,h3,h4,h5,h6,h7,h8⟩:=h
 refine⟨h1,h2,h3,h4,h5,h6,h7,fun j hj=>?_⟩
 obtain⟨q1,q2⟩:=h8 j hj
 refine⟨X.N.getD j "",?_,q1⟩
 rw[List.getD_eq_getElem?_getD,List.getElem?_eq_getElem q2];rfl
def eLc:Expr→Scope
 | .ListComp _ _ sc _=>sc
 | .Call _ (.ListComp _ _ sc _::_) _ _=>sc
 | _=>{ kind:=.function,names:=[],isGenerator:=false,isCoroutine:=false}
def Uu:Stmt→Scope
 | .Assign _ e _=>eLc e
 | .Return (some e) _=>eLc e
 | _=>{ kind:=.function,names:=[],isGenerator:=false,isCoroutine:=false}
theorem sM (k:Str):∀ xs:List Str,TN (.str k) (xs.map V.str)=decide (k∈xs)
 | []=>by simp[TN]
 | x::xs=>by
   have ih:=sM k xs
   unfold TN at ih ⊢
   rw[List.map_cons,List.any_cons,ih]
   by_cases e:x=k
   . subst e;simp[JI]
   . have:¬ (k=x):=fun z=>e z.symm
     simp[JI,e,this]
theorem vK (xs:List Str):(xs.map V.str).all nJ=true:=by
 induction xs with
 | nil=>rfl
 | cons x xs ih=>rw[List.map_cons,List.all_cons,ih];rfl
section
variable {X:Cx}{G:Gr}{dl:List Slot}{a b:Expr}{pos:Pos}{k:Str}{xs:List Str}
theorem Nq {neg:Bool}:A5 X.K (rIn X.K neg) (.str k) (.tup (xs.map .str)) (.bl (if neg then !decide (k∈xs) else decide (k∈xs))):=fun v w Hf H Q s r1 r2 kk=>by
 cases r1
 cases r2 with
 | @tup q vs _ hq rp=>
   have ev:=lR rp
   subst ev
   refine⟨q,_,rfl,.inr (eU s hq),rfl,vK xs,?_⟩
   rw[sM]
   exact kk _ Hf H (.refl s) (.bl _)
theorem Be (ha:EE X G dl a (.str k))(hb:EE X G dl b (.tup (xs.map .str)))(hm:behindInMarks .In b=false:=by rfl):EB X G dl (.Compare a [.In] [b] pos) (decide (k∈xs)):=jR vC (Nq (neg:=false)) hm ha hb
theorem CI (ha:EE X G dl a (.str k))(hb:EE X G dl b (.tup (xs.map .str)))(hm:behindInMarks .NotIn b=false:=by rfl):EB X G dl (.Compare a [.NotIn] [b] pos) (!decide (k∈xs)):=jR nL (Nq (neg:=true)) hm ha hb
end
end Sg
namespace Sg
open PySem PySem.Spec PyProof.Rows L2
theorem zp {P:Program}{w:World}{A:Around}{R:Result→Shared→Prop}{s:Shared}{elt tg iter:Expr}{ifs:List Expr}{sc:Scope}{pos:Pos}{it acc:Value}{env:Env}(J:Nat→Shared→Prop)
   (turn:∀ n s,J n s→wpAny (model P w) A (pyNext it) (fun r s1=>match r with
     | none=>R (.ok .next) s1
     | some v=>wpAny (model P w) A (letOwnedTupleGo tg it v) (fun _ s2=>wpAny (model P w) A (assign tg env v) (fun _ s3=>
         wpAny (model P w) A (forIn ifs true fun c r=>if r=true then do let ok ← isTrue c env (eval c env);pure (ForInStep.yield ok) else pure (ForInStep.yield r)) (fun ok s3'=>
         if ok=true then wpAny (model P w) A (eval elt env) (fun x s4=>wpAny (model P w) A (call (.builtin "list.append") [acc,x]) (fun _ s5=>∃ m,m < n∧J m s5) uN s4) uN s3'
         else ∃ m,m < n∧J m s3') uN s3) uN s2) uN s1) uN s)
   (n:Nat) (h:J n s):codeAny (model P w) A (.compLoop (.ListComp elt [⟨tg,iter,ifs,0⟩] sc pos) 0 it acc env) R s:=by
 have off:∀ {B:Value→Shared→Prop} (x:Value) (s':Shared),uN x s'→B x s':=fun _ _ z=>z.elim
 refine codeAny_loop rfl J (fun n s hJ=>?_) n h
 show wpAny _ A ((compTurn (.ListComp elt [⟨tg,iter,ifs,0⟩] sc pos) 0 it acc env).onRaise (fun x=>(do noteFrame x env;theTreesLotGoes x))) _ _ s
 refine wpAny_noted ?_
 rw[compTurn_list]
 refine wpAny_bind (wpAny_standAt (wpAny_bind (wpAny_mono (turn n s hJ) (fun r s1 h1=>?_) off)))
 cases r with
 | none=>exact wpAny_pure h1
 | some v=>
   refine wpAny_bind (wpAny_mono h1 (fun _ s2 h2=>wpAny_bind (wpAny_mono h2 (fun _ s3 h3=>wpAny_bind (wpAny_mono h3 (fun ok s3' h3'=>?_) off)) off)) off)
   cases ok with
   | false=>exact wpAny_pure ⟨rfl,h3'⟩
   | true=>exact wpAny_bind (wpAny_bind (wpAny_mono h3' (fun x s4 h4=>wpAny_bind (wpAny_mono h4 (fun _ s5 h5=>wpAny_pure (wpAny_pure ⟨rfl,h5⟩)) off)) off))
structure qu (X:Cx)(N tn:List Str)(ix:List Nat)(sc:Scope):Prop where
 nd:N.Nodup
 nm:N=tn ++ ix.map (fun j=>X.N.getD j "")
 kind:sc.kind=.function
 sC:∀ y∈sc.names,y.2≠.cell
 names:∀ y∈sc.names,y.2=.local→sc.names.lookup y.1=some .local
 hx:∀ x∈tn,sc.names.lookup x=some .local
 fr:∀ y∈sc.names,y.2=.free→X.env.kindOf y.1=some .cell∨X.env.kindOf y.1=some .free
 Ub:∀ j∈ix,∃ y,X.N[j]?=some y∧sc.names.lookup y=some .free
section
variable {X:Cx}{N tn:List Str}{ix:List Nat}{sc:Scope}{pins:List (Addr×Obj)}{st:L2.St}{H H':Hp}{s s':Shared}{C D:Addr}{fp:List Addr}{h1:Heap}
theorem CJ (B:qu X N tn ix sc)(ok:X.Ok):closureFor sc X.env=pure (iK sc X.env):=wN fun y hy hk=>ok.has y.1 (B.fr y hy hk)
theorem nX (B:qu X N tn ix sc)(ok:X.Ok){y:Str}{c:Addr}(h:(iK sc X.env).lookup y=some c):X.env.cells.lookup y=some c∧(y,NameKind.free)∈sc.names:=by
 rcases nW _ _ h with⟨h1,h2⟩ | h1
 . obtain⟨c',h3⟩:=ok.has y (B.fr _ h1 rfl)
   rw[h3] at h2
   cases h2
   exact⟨h3,h1⟩
 . cases h1
theorem rC (B:qu X N tn ix sc)(I:L2.Inv X pins st H s)(hC:s.heap.objs.size≤C)(hf:∀ b∈fp,ir X pins H b)(dS:∀ b∈fp,b < s.heap.objs.size):(bQ X N sc C fp s H).Ok where
 mod:=I.ok.mod
 kind:=B.kind
 glob:=I.ok.glob
 blt:=I.ok.blt
 above:=hC
 inj:=fun y z c h1 h2=>I.ok.inj y z c (nX B I.ok h1).1 (nX B I.ok h2).1
 has:=fun y hy=>by
   have hy:(relabel sc X.env).names.lookup y=some .cell∨(relabel sc X.env).names.lookup y=some .free:=hy
   have:(y,NameKind.free)∈sc.names:=by
     rcases hy with hy | hy
     . obtain⟨k',h1,h2⟩:=eV hy
       rcases h2 with h2 | h2
       . subst h2;exact absurd rfl (B.sC _ h1)
       . subst h2;exact h1
     . obtain⟨k',h1,h2⟩:=eV hy
       rcases h2 with h2 | h2 <;> subst h2 <;> exact h1
   exact gy _ _ (.inl this)
 Ss:=fun y c h=>by cases h
 hd:=I.ok.hd
 frames:=I.ok.frames
 S5:=.inl rfl
 JX:=fun b hb=>⟨Nat.ne_of_lt (Nat.lt_of_lt_of_le (dS b hb) hC),fun y c h=>(hf b hb).2.2.2.2.1 y c (nX B I.ok h).1⟩
 bs:=I.bs
 Cd:=Nat.le_trans I.ok.Cd I.sz
 yC:=fun b o e hb=>by
   rcases (hf b hb).2.2.2.1 with z | z
   . exact I.ok.yC b o e z
   . exact absurd (Nat.lt_of_lt_of_le (Heap.lt_size e) (Nat.le_trans I.ok.Cd z)) (Nat.lt_irrefl _)
 yD:=fun b hb z=>by
   rcases List.mem_cons.mp (I.rZ b z) with z | z
   . exact(hf b hb).2.1 z
   . exact(hf b hb).2.2.1 z
 oZ:=I.stack
 M6:=I.rg
theorem Bf (B:qu X N tn ix sc)(I:L2.Inv X pins st H s)(hf:∀ b∈fp,ir X pins H b)(dS:∀ b∈fp,b < s.heap.objs.size)(hC:C=s.heap.objs.size+1)(k:∀ b o,s.heap.get? b=some o→h1.get? b=some o)(hn:h1.Ns C fun _=>none)(hD:h1.get? s.heap.objs.size=some { cls:=.type "list",data:=.seq ([]:List Value).toArray 0}){t':Nat}:L2.Inv (bQ X N sc C fp s H) [] (List.replicate tn.length none ++ frees ix st) (upd H s.heap.objs.size (.lst [])) { s with heap:=h1,toks:=t'}:=by
 have Nl:s.heap.objs.size≤C:=by rw[hC];exact Nat.le_succ _
 have fr:∀ a,s.heap.objs.size≤a→H a=none:=fun a ha=>I.bU.fresh ha
 have ok:=rC B I Nl hf dS
 have Ax:∀ y c,(iK sc X.env).lookup y=some c→H c=none∧c < s.heap.objs.size∧∃ v,s.heap.IsCell c v:=fun y c h=>by
   have h:=(nX B I.ok h).1
   obtain⟨v,q⟩:=I.cell y c h
   exact⟨I.mE y c h,q.lt,v,q⟩
 refine⟨ok,rfl,I.bare,Un.laid k (Nat.le_refl _) (fr _ (Nat.le_refl _)),⟨_,hn,fun i y v e1 e2 e3=>?_⟩,fun y c h=>?_,?_,fun y c h=>?_,fun p hp=>absurd (show p∈([]:List (Addr×Obj)) from hp) (by simp),?_,?_⟩
 . have e1:N[i]?=some y:=e1
   by_cases hi:i < tn.length
   . rw[List.getElem?_append_left (by simpa using hi),List.getElem?_replicate,if_pos hi] at e2
     cases e2
   . have hi:tn.length≤i:=Nat.le_of_not_lt hi
     rw[B.nm,List.getElem?_append_right hi,List.getElem?_map] at e1
     rw[List.getElem?_append_right (by simpa using hi),List.length_replicate] at e2
     unfold frees at e2
     rw[List.getElem?_map] at e2
     cases q:ix[i - tn.length]? with
     | none=>rw[q] at e1;cases e1
     | some j=>
       rw[q] at e1 e2
       obtain⟨y',JJ,Gd⟩:=B.Ub j (List.mem_of_getElem? q)
       have Ku:=PySem.mem_of_lookup Gd
       have ey:y=y':=by
         have e1:X.N.getD j ""=y:=Option.some.inj e1
         rw[List.getD_eq_getElem?_getD,JJ] at e1
         exact e1.symm
       subst ey
       have e2:(st[j]?).join=some v:=Option.some.inj e2
       have Uc:st[j]?=some (some v):=by
         cases q2:st[j]? with
         | none=>rw[q2] at e2;cases e2
         | some z=>rw[q2] at e2;rw[show z=some v from e2]
       have kd:=B.fr _ Ku rfl
       have Ud:rY X.env.scope y:=by
         rcases kd with z | z
         . exact .inr (.inl z)
         . exact .inr (.inr z)
       obtain⟨m,_,hl⟩:=I.loc
       obtain⟨u,r,l⟩:=hl j y v JJ Uc Ud
       refine⟨u,r,.inr ?_⟩
       rcases l with⟨z,_⟩ | ⟨_,c,hc,ic⟩
       . rcases kd with z' | z' <;> rw[z] at z' <;> cases z'
       . obtain⟨c',Ay⟩:=gy (cells:=X.env.cells) sc.names [] (.inl Ku)
         have:=(nX B I.ok Ay).1
         rw[hc] at this;cases this
         obtain⟨oc,Cf,hd⟩:=ic
         refine⟨?_,c,Ay,oc,k _ _ Cf,hd⟩
         rcases e3 with e3 | e3 | e3
         . have e3:(relabel sc X.env).names.lookup y=some .local:=e3
           rcases jT (env:=X.env) Gd with z | z
           . exact absurd (e3.symm.trans z) (by decide)
           . exact absurd (e3.symm.trans z) (by decide)
         . exact .inl e3
         . exact .inr e3
 . obtain⟨_,_,v,oc,Cf,hd⟩:=Ax y c h
   exact⟨v,oc,k _ _ Cf,hd⟩
 . show upd H s.heap.objs.size (.lst []) C=none
   rw[ah (by rw[hC];exact Nat.succ_ne_self _)]
   exact fr _ Nl
 . show upd H s.heap.objs.size (.lst []) c=none
   obtain⟨q1,q2,_⟩:=Ax y c h
   rw[ah (Nat.ne_of_lt q2)]
   exact q1
 . exact I.bU.laid k (Nat.le_refl _) ⟨Nat.zero_le _,[],0,.nil,hD⟩
 . show(List.replicate tn.length none ++ frees ix st).length=N.length
   rw[B.nm]
   unfold frees
   simp
def Nr (X:Cx)(ifs:List Expr)(tt:TT):Prop:=∀ (pins:List (Addr×Obj)) (s:Shared) (st:L2.St) (H:Hp) (Q:Bool→Hp→Prop),L2.Inv X pins st H s→tt st H Q →
 wpAny (model X.prog X.w) X.A (forIn ifs true fun c r=>if r=true then do let ok ← isTrue c X.env (eval c X.env);pure (ForInStep.yield ok) else pure (ForInStep.yield r)) (fun b s'=>∃ H',L2.Inv X pins st H' s'∧Q b H') X.xe s
theorem CK {c:Expr}{tt:TT}(h:PT X c tt):Nr X [c] tt:=fun pins s st H Q I q=>wpAny_tests_one (cM (h pins s st H _ I q) fun b s' z=>z)
def CL (nt:Nat)(g:TG)(tt:TT)(te:TE)(fs:L2.St)(J:It)(D:Addr)(Q:List V→Hp→Prop)(H:Hp):Prop:=
 ∃ W:Nat→Nat→List V→Hp→Prop,(∃ m,W 0 m [] (upd H D (.lst [])))∧∀ i m ys H1,W i m ys H1 →
   (J.stop i H1∧Q ys H1)∨(J.go i H1∧ys.length < sizeLine∧∀ σ:L2.St,σ.length=nt→∀ v H2,J.JG i H1 v H2→g v (σ ++ fs) H2 fun σ2 H3=>∃ σ':L2.St,σ2=σ' ++ fs∧σ'.length=nt ∧
     tt σ2 H3 fun b H4=>if b=true then te σ2 H4 fun y H5=>H5 D=some (.lst ys)∧∃ m',m' < m∧W (i+1) m' (ys ++ [y]) (upd H5 D (.lst (ys ++ [y]))) else ∃ m',m' < m∧W (i+1) m' ys H4)
theorem zq {elt iter tg:Expr}{ifs:List Expr}{pos:Pos}{g:TG}{tt:TT}{te:TE}{J:It}{it:Addr}{tj:Nat→Heap→Prop}{Q:Addr→List V→Hp→Prop}{RR:Value→Addr→Result→Shared→Prop}{E:Value→Shared→Prop}(hc:X.calm=true)(B:qu X N tn ix sc)(hg:∀ C fp s H,PG (bQ X N sc C fp s H) tg g)(ht:∀ C fp s H,Nr (bQ X N sc C fp s H) ifs tt)(gL:∀ C fp s H,PE (bQ X N sc C fp s H) elt te)(I:L2.Inv X pins st H s)(T:Turn X.prog X.w X.K tg J fp it tj)(h0:tj 0 s.heap)(hf:∀ b∈fp,ir X pins H b)(hq:∀ D,H D=none→CL tn.length g tt te (frees ix st) J D (Q D) H)(Ue:∀ D C ys H' s',L2.Inv X pins st H' s'→(∃ m,s'.heap.Ns C m)→ir X pins H' C→Q D ys H'→RR (.ref D) C (.ok .next) s'):wpAny (model X.prog X.w) X.A (newList []) (fun acc s3=>wpAny (model X.prog X.w) X.A (newFunctionEnv sc X.env.globals (iK sc X.env) [] X.env.qual none .none (some X.env)) (fun zi s4=>codeAny (model X.prog X.w) X.A (.compStart (.ListComp elt [⟨tg,iter,ifs,0⟩] sc pos) 0 (.ref it) acc { zi with scope:=relabel sc X.env}) (RR acc zi.locals) s4) E s3) E s:=by
 have dS:∀ b∈fp,b < s.heap.objs.size:=fun b hb=>by
   obtain⟨o,e,_⟩:=T.obj _ _ h0 b hb
   exact Heap.lt_size e
 refine wpAny_newObj_type (wpAny_newFunctionEnv B.sC (fun y hy=>absurd hy (by simp)) (fun h1 Fc Eb=>?_) B.kind)
 dsimp only at Fc Eb ⊢
 generalize hG:s.heap.push { cls:=.type "list",dict:=none,data:=.seq ([]:List Value).toArray}=g' at Fc Eb ⊢
 have hC:g'.objs.size=s.heap.objs.size+1:=by rw[← hG,Heap.size_push]
 have hDC:s.heap.objs.size≠g'.objs.size:=by rw[hC];exact Nat.ne_of_lt (Nat.lt_succ_self _)
 have old:∀ b o,s.heap.get? b=some o→h1.get? b=some o:=fun b o e=>
   Eb.extBut b o (by rw[hC];exact Nat.ne_of_lt (Nat.lt_succ_of_lt (Heap.lt_size e))) (Heap.get?_push_of_some _ (hG ▸ Heap.get?_push_of_some _ e))
 have Ge:h1.get? s.heap.objs.size=some { cls:=.type "list",data:=.seq ([]:List Value).toArray 0}:=Eb.extBut _ _ hDC (Heap.get?_push_of_some _ (hG ▸ Heap.get?_push_size _ rfl))
 have hD:H s.heap.objs.size=none:=I.bU.fresh (Nat.le_refl _)
 obtain⟨W,⟨m0,w0⟩,turn⟩:=hq _ hD
 have I0:=Bf (t':=s.toks+([]:List (Str×Value)).length) B I hf dS hC old (by simpa using Fc) Ge
 have Nm:tj 0 h1:=T.keep _ _ _ h0 fun b _ o e=>old b o e
 have k7:s.heap.objs.size≤g'.objs.size:=by rw[hC];exact Nat.le_succ _
 have mY:∀ {H':Hp},(∀ b∈fp,H' b=none)→∀ b∈fp,ir (bQ X N sc g'.objs.size fp s H) [] H' b:=fun {H'} hn b hb=>
   ⟨hn b hb,((rC B I k7 hf dS).JX b hb).1,(rC B I k7 hf dS).yD b hb,.inl hb,((rC B I k7 hf dS).JX b hb).2,fun p hp=>absurd (show p∈([]:List (Addr×Obj)) from hp) (by simp)⟩
 have loop:∀ s3:Shared,s3={ s with heap:=h1,toks:=s.toks+([]:List (Str×Value)).length} →
     codeAny (model X.prog X.w) X.A (.compLoop (.ListComp elt [⟨tg,iter,ifs,0⟩] sc pos) 0 (.ref it) (.ref s.heap.objs.size) (compEnvC sc (iK sc X.env) g'.objs.size X.env)) (RR (.ref s.heap.objs.size) g'.objs.size) s3:=by
   rintro s3 rfl
   refine zp (fun n s'=>∃ i ys σ H',σ.length=tn.length∧L2.Inv (bQ X N sc g'.objs.size fp s H) [] (σ ++ frees ix st) H' s'∧tj i s'.heap∧(∀ b∈fp,H' b=none)∧W i n ys H') ?_ m0
     ⟨0,[],List.replicate tn.length none,_,by simp,I0,Nm,fun b hb=>?_,w0⟩
   . rintro n s5 ⟨i,ys,σ,H5,hσ,I5,Fb,JH,w5⟩
     rcases turn i n ys H5 w5 with⟨stop,qn⟩ | ⟨go,hz,step⟩
     . refine cM (T.done (bQ X N sc g'.objs.size fp s H) rfl rfl rfl hc i [] s5 _ H5 uN I5 (mY JH) Fb stop) fun r s6 ⟨hr,I6⟩=>?_
       subst hr
       refine Ue _ _ ys H5 s6 ?_ ?_ (I.uH k7 I6.free) qn
       . exact I.FC I6.os I6.base I6.bU I6.bare fun b hb=>⟨(hf b hb).2.2.2.1,(hf b hb).2.1,(hf b hb).2.2.2.2.1,(hf b hb).2.2.2.2.2⟩
       . obtain⟨m,hm,_⟩:=I6.loc
         exact⟨m,hm⟩
     . refine cM (T.item (bQ X N sc g'.objs.size fp s H) rfl rfl rfl hc i [] s5 _ H5 uN I5 (mY JH) Fb go) fun r s6 ⟨u,hr,h6⟩=>?_
       subst hr
       refine cM h6 fun _ s7 ⟨v,H7,I7,r7,y7,Gf,Ug⟩=>?_
       have Uh:=I7.pinned (mY Ug) (T.obj _ _ Gf)
       refine cM (hg g'.objs.size fp s H _ s7 _ H7 v u _ Uh r7 (step σ hσ v H7 y7)) fun _ s8 h8=>?_
       obtain⟨σ8,H8,I8,σ',e8,Uv,h8⟩:=h8
       subst e8
       have pinned:∀ {σ9:L2.St} {H9:Hp} {s9:Shared},L2.Inv (bQ X N sc g'.objs.size fp s H) ([] ++ o6 fp s7.heap) σ9 H9 s9→tj (i+1) s9.heap∧∀ b∈fp,H9 b=none:=fun {σ9 H9 s9} I9=>by
         refine⟨T.keep _ _ _ Gf fun b hb o e=>(I9.pin (b,o) (List.mem_append_right _ (List.mem_append_right _ (eP hb e)))).1,fun b hb=>?_⟩
         obtain⟨o,e,d⟩:=T.obj _ _ Gf b hb
         exact(I9.pin (b,o) (List.mem_append_right _ (List.mem_append_right _ (eP hb e)))).2.1
       refine cM (ht g'.objs.size fp s H _ s8 _ H8 _ I8 h8) fun ok s8' KC=>?_
       obtain⟨H8',KD,KC⟩:=KC
       cases ok with
       | false=>
         obtain⟨m',hm,w8⟩:=KC
         exact⟨m',hm,i+1,ys,σ',_,Uv,KD.gq (pins:=[]),(pinned KD).1,(pinned KD).2,w8⟩
       | true=>
         refine cM (gL g'.objs.size fp s H _ s8' _ H8' _ KD KC) fun z s9 ⟨y,H9,I9,r9,Ui,m',hm,w9⟩=>?_
         refine cM (lO _ s9 _ H9 (.ref s.heap.objs.size) [y] (.ref s.heap.objs.size) [z] (fun _ H'=>H'=upd H9 s.heap.objs.size (.lst (ys ++ [y]))) I9 rfl (.cons r9 .nil) ⟨_,ys,y,rfl,rfl,Ui,hz,rfl⟩) fun _ s10 Uj=>?_
         obtain⟨_,H10,Gg,_,rfl⟩:=Uj
         exact⟨m',hm,i+1,ys ++ [y],σ',_,Uv,Gg.gq (pins:=[]),(pinned Gg).1,(pinned Gg).2,w9⟩
   . rw[ah (Nat.ne_of_lt (dS b hb))]
     exact(hf b hb).1
 exact codeAny_compStart_list (loop _ rfl) (T.self _ 0 _ _ _ Nm (loop _ rfl))
end
section
variable {K:PySem.W.Frag}{G G':Gr}{st:L2.St}{Hf H aA H1:Hp}{dl:List Slot}{ix:List Nat}
structure Uw (K:PySem.W.Frag)(Hf:Hp)(σ:L2.St)(sl:List Slot):Prop where
 len:σ.length=sl.length
 val:∀ (i:Nat) d,sl[i]?=some (.val d)→∃ v,σ[i]?=some (some v)∧Rep K Hf v d
 no:∀ (i:Nat) o,sl[i]?≠some (.own o)
theorem Uw.mono {σ:L2.St}{sl:List Slot}(h:Uw K Hf σ sl)(s:aL Hf aA):Uw K aA σ sl:=⟨h.len,fun i d e=>let ⟨v,h1,h2⟩:=h.val i d e;⟨v,h1,h2.mono s⟩,h.no⟩
theorem zr {σ:L2.St}{sl:List Slot}(S:d7 K G st Hf H dl)(s1:aL Hf aA)(sb:aL aA H1)(r:Uw K aA σ sl):d7 K ⟨aA,H1⟩ (σ ++ frees ix st) aA H1 (sl ++ fN dl ix):=by
 have no:∀ (i:Nat) o,(sl ++ fN dl ix)[i]?≠some (.own o):=fun i o h=>by
   by_cases hi:i < sl.length
   . rw[List.getElem?_append_left hi] at h
     exact r.no i o h
   . rw[List.getElem?_append_right (Nat.le_of_not_lt hi)] at h
     unfold fN at h
     rw[List.getElem?_map] at h
     cases q:ix[i - sl.length]? with
     | none=>rw[q] at h;cases h
     | some j=>
       rw[q] at h
       exact vH (Option.some.inj h)
 refine⟨.refl sb,by simp[frees,fN,r.len],fun i x h=>?_,fun i o h=>absurd h (no i o),fun i j o o' a h=>absurd h (no i o)⟩
 by_cases hi:i < sl.length
 . rw[List.getElem?_append_left hi] at h
   rw[List.getElem?_append_left (by rw[r.len];exact hi)]
   exact r.val i x h
 . have hi:=Nat.le_of_not_lt hi
   rw[List.getElem?_append_right hi] at h
   rw[List.getElem?_append_right (by rw[r.len];exact hi),r.len]
   unfold fN at h
   unfold frees
   rw[List.getElem?_map] at h ⊢
   cases q:ix[i - sl.length]? with
   | none=>rw[q] at h;cases h
   | some j=>
     rw[q] at h
     have hd:=vI (Option.some.inj h)
     obtain⟨v',z1,z2⟩:=S.val j x hd
     exact⟨v',by rw[Option.map_some,z1];rfl,z2.mono s1⟩
def Pn (K:PySem.W.Frag)(nt:Nat)(g:TG)(z:Dt)(sl:List Slot):Prop:=∀ (σ fs:L2.St) (Hf H:Hp) (v:V) (Q:L2.St→Hp→Prop),σ.length=nt→aL Hf H→Rep K Hf v z →
 (∀ σ':L2.St,σ'.length=nt→Uw K Hf σ' sl→Q (σ' ++ fs) H)→g v (σ ++ fs) H Q
theorem eK {z:Dt}:Pn K 1 (mF 0) z [.val z]:=fun σ fs Hf H v Q hl s r k=>by
 cases σ with
 | nil=>cases hl
 | cons a σ=>
   have:σ=[]:=List.eq_nil_of_length_eq_zero (by simpa using hl)
   subst this
   refine k [some v] rfl ⟨rfl,fun i d h=>?_,fun i o h=>?_⟩
   . cases i with
     | zero=>cases h;exact⟨v,rfl,r⟩
     | succ i=>cases h
   . cases i with
     | zero=>cases h
     | succ i=>cases h
abbrev Nt (K:PySem.W.Frag):TG:=Ox K 2 (yI (mF 0) (yI (mF 1) Ow))
theorem KG {a b:Dt}:Pn K 2 (Nt K) (.tup [a,b]) [.val a,.val b]:=fun σ fs Hf H v Q hl s r k=>by
 cases σ with
 | nil=>cases hl
 | cons x σ=>cases σ with
   | nil=>cases hl
   | cons y σ=>
     have:σ=[]:=List.eq_nil_of_length_eq_zero (by simpa using hl)
     subst this
     cases r with
     | @tup q vs _ hq rp=>
       cases rp with
       | cons r1 t1=>cases t1 with
         | cons r2 t2=>
           cases t2
           refine⟨q,_,rfl,eU s hq,rfl,_,_,rfl,_,_,rfl,rfl,k [some _,some _] rfl ⟨rfl,fun i d h=>?_,fun i o h=>?_⟩⟩
           . cases i with
             | zero=>cases h;exact⟨_,rfl,r1⟩
             | succ i=>cases i with
               | zero=>cases h;exact⟨_,rfl,r2⟩
               | succ i=>cases h
           . cases i with
             | zero=>cases h
             | succ i=>cases i with
               | zero=>cases h
               | succ i=>cases h
end
section
variable {X:Cx}{G:Gr}{E:XK}{dl:List Slot}{a b c elt iter tg:Expr}{ifs:List Expr}{i j:Int}{d:Dt}{pos p px py pc uO:Pos}{o:Out}{x y:Str}{N tn:List Str}{ix:List Nat}{sc:Scope}{n:Nat}
def qv (X:Cx)(G:Gr)(dl:List Slot)(zs:List Dt)(wi:TI):Prop:=∀ st H (R:It→Hp→Prop),(∃ Hf,d7 X.K G st Hf H dl∧∀ J Gs H0,bX Hf H Gs H0 →
 (∀ aA H1,aL Gs aA→aL aA H1→∀ i,(∀ z,zs[i]?=some z→J.go i H1∧∀ v H2,J.JG i H1 v H2→∃ cU,bX aA H1 cU H2∧Rep X.K cU v z)∧(i=zs.length→J.stop i H1))→R J H0)→wi st H R
theorem jr {xs:List Dt}:qv X G dl xs (FF X.K (tD X.K G dl (.lst xs))):=fun st H R ⟨Hf,S,k⟩=>⟨Hf,S,fun v aA H1 g1 r1=>by
 cases r1 with
 | @lst q vs _ hq rp=>
   have hl:=rp.length
   refine⟨q,rfl,⟨vs,.of (g1.sub _ _ hq)⟩,k _ aA H1 g1 fun cU H2 s1 s2 i=>⟨fun z hz=>?_,fun hi=>⟨vs,.of (s2 _ _ (s1 _ _ hq)),by omega⟩⟩⟩
   obtain⟨u,z1,z2⟩:=rp.get hz
   have hs:jM X.K H2 q vs:=.of (s2 _ _ (s1 _ _ hq))
   refine⟨⟨vs,u,hs,z1⟩,fun v H3 hy=>?_⟩
   obtain⟨e1,e2⟩:=hy
   have e2:=e2 vs hs
   rw[z1] at e2;cases e2
   subst e1
   exact⟨cU,.refl s2,z2.mono s1⟩⟩
variable {α:Type}{as:List α}{z f:α→Dt}{sl:α→List Slot}{keep:α→Bool}{g:TG}{wi:TI}
def KH (K:PySem.W.Frag)(dl:List Slot)(ix:List Nat)(as:List α)(sl:α→List Slot)(keep:α→Bool):TT:=fun st H Q=>∃ a G',a∈as∧T7 K G' (sl a ++ fN dl ix) (keep a) st H Q
def KI (K:PySem.W.Frag)(dl:List Slot)(ix:List Nat)(as:List α)(sl:α→List Slot)(keep:α→Bool)(f:α→Dt):TE:=fun st H Q=>∃ a G',a∈as∧keep a=true∧tD K G' (sl a ++ fN dl ix) (f a) st H Q
inductive zt (X:Cx)(N:List Str)(sc:Scope)(dl:List Slot)(ix:List Nat)(as:List α)(sl:α→List Slot)(keep:α→Bool):List Expr→Prop
 | nil:(∀ a∈as,keep a=true)→zt X N sc dl ix as sl keep []
 | one {c:Expr}:(∀ a∈as,∀ C fp s H G',EB (bQ X N sc C fp s H) G' (sl a ++ fN dl ix) c (keep a))→zt X N sc dl ix as sl keep [c]
theorem Gx (h:zt X N sc dl ix as sl keep ifs):∀ C fp s H,Nr (bQ X N sc C fp s H) ifs (KH X.K dl ix as sl keep):=fun C fp s H=>by
 cases h with
 | nil h=>exact fun pins s' st H' Q I ⟨a,G',ha,Hf,S,k⟩=>wpAny_tests_nil ⟨H',I,by have:=k Hf H' (.refl S.sub);rw[h a ha] at this;exact this⟩
 | one h=>exact CK fun pins s' st H' Q I ⟨a,G',ha,q⟩=>h a ha C fp s H G' pins s' st H' Q I q
def Po (X:Cx)(N:List Str)(sc:Scope)(dl:List Slot)(ix:List Nat)(as:List α)(sl:α→List Slot)(keep:α→Bool)(f:α→Dt)(elt:Expr):Prop:=∀ a∈as,keep a=true→∀ C fp s H G',EE (bQ X N sc C fp s H) G' (sl a ++ fN dl ix) elt (f a)
theorem Gy (h:Po X N sc dl ix as sl keep f elt):∀ C fp s H,PE (bQ X N sc C fp s H) elt (KI X.K dl ix as sl keep f):=fun C fp s H pins s' st H' Q I ⟨a,G',ha,hk,q⟩=>h a ha hk C fp s H G' pins s' st H' Q I q
theorem Ef {nt:Nat}{st:L2.St}{Hf H:Hp}{J:It}{Q:VK}(S:d7 X.K G st Hf H dl)(hn:as.length≤sizeLine)(Gz:∀ a∈as,Pn X.K nt g (z a) (sl a))(go:∀ aA H1,bX Hf H aA H1→∀ i,(∀ y,(as.map z)[i]?=some y→J.go i H1∧∀ v H2,J.JG i H1 v H2→∃ cU,bX aA H1 cU H2∧Rep X.K cU v y)∧(i=(as.map z).length→J.stop i H1))(k:∀ p aT H',bX Hf H aT H'→H p=none→aT p=none→fg X.K aT H' p (.lst ((as.filter keep).map f))→Q (.ref p) H'):∀ D,H D=none→CL nt g (KH X.K dl ix as sl keep) (KI X.K dl ix as sl keep f) (frees ix st) J D (fun _ H'=>Q (.ref D) H') H:=by
 intro D hD
 refine⟨fun i m vs H1=>m=as.length - i∧i≤as.length∧∃ aA,bX Hf H aA H1∧aA D=none∧H1 D=some (.lst vs)∧bY X.K aA vs (((as.take i).filter keep).map f),⟨as.length,rfl,Nat.zero_le _,Hf,.eC S.sub hD,S.sub.free hD,aq,.nil⟩,?_⟩
 rintro i m vs H1 ⟨rfl,hi,aA,g1,Um,SF,rp⟩
 have hlen:=rp.length
 rw[List.length_map] at hlen
 have hfl:((as.take i).filter keep).length≤i:=Nat.le_trans (List.length_filter_le _ _) (by rw[List.length_take];omega)
 have Bg:∀ {Hfa Ha Hfb Hb:Hp},bX Hfa Ha Hfb Hb→Hfa D=none→Ha D=some (.lst vs)→Hfb D=none∧Hb D=some (.lst vs):=fun {Hfa Ha Hfb Hb} gg e1 e2=>by
   refine⟨?_,gg.big _ _ e2⟩
   cases q:Hfb D with
   | none=>rfl
   | some u=>
     obtain⟨o,z⟩:=gg.wF e2 (fun z=>z) q
     rw[e1] at z;cases z
 by_cases dS:i < as.length
 . have Pp:as[i]∈as:=List.getElem_mem dS
   have et:as.take (i+1)=as.take i ++ [as[i]]:=by rw[List.take_add_one,List.getElem?_eq_getElem dS];rfl
   obtain⟨Uo,hy⟩:=(go aA H1 g1 i).1 (z as[i]) (by rw[List.getElem?_map,List.getElem?_eq_getElem dS];rfl)
   refine .inr ⟨Uo,by omega,fun σ hσ v H2 y=>?_⟩
   obtain⟨cU,g2,rv⟩:=hy v H2 y
   obtain⟨d2,d2'⟩:=Bg g2 Um SF
   refine Gz as[i] Pp σ _ cU H2 v _ hσ g2.sub rv fun σ' hl' tv=>⟨σ',rfl,hl',as[i],⟨cU,H2⟩,Pp,cU,zr S (g1.b8.trans g2.b8) g2.sub tv,fun fM H3 g3=>?_⟩
   obtain⟨d3,d3'⟩:=Bg g3 d2 d2'
   cases hk:keep as[i] with
   | false=>
     refine⟨as.length - (i+1),by omega,rfl,dS,fM,(g1.trans g2).trans g3,d3,d3',?_⟩
     rw[et,List.filter_append,List.filter_cons_of_neg (by simp[hk]),List.filter_nil,List.append_nil]
     exact rp.mono (g2.b8.trans g3.b8)
   | true=>
     refine⟨as[i],⟨fM,H3⟩,Pp,hk,fM,zr S ((g1.b8.trans g2.b8).trans g3.b8) g3.sub (tv.mono g3.b8),fun y Ff H4 g4 r4=>?_⟩
     obtain⟨d4,d4'⟩:=Bg g4 d3 d3'
     have gg:=((g1.trans g2).trans g3).trans g4
     refine⟨d4',as.length - (i+1),by omega,rfl,dS,Ff,⟨fun a o h=>?_,gg.b8,fun a o h=>?_,gg.new⟩,d4,aq,?_⟩
     . rw[ah (aB h hD)];exact gg.big _ _ h
     . rw[ah (aB h d4)];exact g4.sub _ _ h
     . rw[et,List.filter_append,List.filter_cons_of_pos (by simpa using hk),List.filter_nil,List.map_append]
       exact(rp.mono ((g2.b8.trans g3.b8).trans g4.b8)).append (.cons r4 .nil)
 . have e:i=as.length:=by omega
   subst e
   refine .inl ⟨(go aA H1 g1 _).2 (by simp),k D aA H1 g1 hD Um ⟨vs,SF,?_⟩⟩
   rw[List.take_length] at rp
   exact rp
def KJ (wi:TI)(nt:Nat)(ix:List Nat)(g:TG)(tt:TT)(te:TE):TE:=fun st H Q=>wi st H fun J H1=>∀ D,H1 D=none→CL nt g tt te (frees ix st) J D (fun _ H'=>Q (.ref D) H') H1
theorem Pq {tt:TT}{te:TE}(hc:X.calm=true)(B:qu X N tn ix sc)(hi:PI X tg iter wi)(hg:∀ C fp s H,PG (bQ X N sc C fp s H) tg g)(ht:∀ C fp s H,Nr (bQ X N sc C fp s H) ifs tt)(gL:∀ C fp s H,PE (bQ X N sc C fp s H) elt te)(hs:∀ z,foldedSetIterable iter X.env z=pure z):PE X (.ListComp elt [⟨tg,iter,ifs,0⟩] sc pos) (KJ wi tn.length ix g tt te):=by
 intro pins s st H Q I h
 rw[eval_ListComp]
 refine wpAny_comprehension_free (use:=none) rfl hs (CJ B I.ok) B.kind B.names (cM (hi pins s st H _ I h) fun v s1 h1=>cM h1 fun OA s2 h2=>?_)
 obtain⟨it,fp,tj,J,H2,e,I2,T,E9,f2,hq⟩:=h2
 subst e
 refine zq (RR:=fun acc C=>compPost (model X.prog X.w) X.A X.xe none (EP X pins st Q) acc C) hc B hg ht gL I2 T E9 f2 hq ?_
 intro D C ws H' s' I' ⟨m,hn⟩ l6 q
 exact⟨m,hn,fun h' Kz=>⟨.ref D,H',I'.turned (t':=s'.toks) (it:=C) (fun b o hb e=>(Kz.2 b hb).trans e) l6.1 l6.2.1 l6.2.2.2.1 l6.2.2.2.2.1 l6.2.2.2.2.2,rfl,q⟩⟩
theorem Pr {tt:TT}{te:TE}{nN:Nat}(hc:X.calm=true)(B:qu X N tn ix sc)(hi:PI X tg iter wi)(hg:∀ C fp s H,PG (bQ X N sc C fp s H) tg g)(ht:∀ C fp s H,Nr (bQ X N sc C fp s H) ifs tt)(gL:∀ C fp s H,PE (bQ X N sc C fp s H) elt te)(hs:∀ z,foldedSetIterable iter X.env z=pure z)(Pl:swapsWith (.ListComp elt [⟨tg,iter,ifs,0⟩] sc pos) (some (.Name y py)) uO.line X.env=pure true)(hN:X.N.Nodup)(hy:X.N[nN]?=some y)(hl:Loc X.env.scope y)(hf:X.fn y=true∨X.env.scope.names.lookup y=some .local):PS X (.Assign [.Name y py] (.ListComp elt [⟨tg,iter,ifs,0⟩] sc pos) uO) (fun D st H=>KJ wi tn.length ix g tt te st H fun v H'=>D.nx (st.set nN (some v)) H'):=by
 intro pins s st H D0 I h
 rw[exec_Assign_Name_used _ _ _ _ Pl]
 refine wpAny_bind (wpAny_standAt (wpAny_bind ?_))
 show wpAny _ X.A (do let _ ← comprehension (.ListComp elt [⟨tg,iter,ifs,0⟩] sc pos) sc X.env _ (newList []) false (eval iter X.env) (some (assign (.Name y py) X.env))) _ _ s
 refine wpAny_bind (wpAny_mono (wpAny_comprehension_free (use:=some (assign (.Name y py) X.env)) (Q:=fun _ s'=>SP X pins D0 .next s') rfl hs (CJ B I.ok) B.kind B.names (cM (hi pins s st H _ I h) fun v s1 h1=>cM h1 fun OA s2 h2=>?_)) (fun _ s' hq=>wpAny_pure (wpAny_pure hq)) fun _ _ z=>z)
 obtain⟨it,fp,tj,J,H2,e,I2,T,E9,f2,hq⟩:=h2
 subst e
 refine zq (RR:=fun acc C=>compPost (model X.prog X.w) X.A X.xe (some (assign (.Name y py) X.env)) (fun _ s'=>SP X pins D0 .next s') acc C) hc B hg ht gL I2 T E9 f2 hq ?_
 intro D C ws H' s' I' ⟨m,hn⟩ l6 q
 refine wpAny_assign_Name (o3 I' hN hy hl (v:=.ref D) rfl (fun OM I'' ⟨ad,Eb,ha⟩=>?_) hf)
 have ne:C≠ad:=by
   rcases ha with z | z
   . rw[z];exact l6.2.1
   . exact Ne.symm (l6.2.2.2.2.1 _ _ z)
 exact⟨m,hn.sameBut Eb ne,fun h' Kz=>⟨_,H',I''.turned (t':=OM.toks) (it:=C) (fun b o hb e=>(Kz.2 b hb).trans e) l6.1 l6.2.1 l6.2.2.2.1 l6.2.2.2.2.1 l6.2.2.2.2.2,q⟩⟩
theorem pF (hs:qv X G dl (as.map z) wi)(Gz:∀ a∈as,Pn X.K n g (z a) (sl a))(hn:as.length≤sizeLine):∀ st H Q,tDO X.K G dl (.lst ((as.filter keep).map f)) st H Q→KJ wi n ix g (KH X.K dl ix as sl keep) (KI X.K dl ix as sl keep f) st H Q:=fun st H Q ⟨Hf,S,k⟩=>
 hs st H _ ⟨Hf,S,fun J Gs H0 g0 src=>Ef (S.grow g0) hn Gz (fun aA H1 g1 i=>src aA H1 g1.b8 g1.sub i) fun p aT H' g n1 n2 r=>k p aT H' (g0.trans g) (g0.big.free n1) n2 r⟩
theorem gO (as:List α)(z f:α→Dt)(sl:α→List Slot)(keep:α→Bool)(hc:X.calm=true)(B:qu X N tn ix sc)(hi:PI X tg iter wi)(hg:∀ C fp s H,PG (bQ X N sc C fp s H) tg g)(sH:qv X G dl (as.map z) wi)(Gz:∀ a∈as,Pn X.K tn.length g (z a) (sl a))(GA:zt X N sc dl ix as sl keep ifs)(gL:Po X N sc dl ix as sl keep f elt)(hn:as.length≤sizeLine)(hs:∀ z,foldedSetIterable iter X.env z=pure z:=by intro _;rfl):EO X G dl (.ListComp elt [⟨tg,iter,ifs,0⟩] sc pos) (.lst ((as.filter keep).map f)):=fh (Pq hc B hi hg (Gx GA) (Gy gL) hs) (pF sH Gz hn)
theorem GB (nN:Nat)(as:List α)(z f:α→Dt)(sl:α→List Slot)(keep:α→Bool)(hc:X.calm=true)(hN:X.N.Nodup)(B:qu X N tn ix sc)(hi:PI X tg iter wi)(hg:∀ C fp s H,PG (bQ X N sc C fp s H) tg g)(sH:qv X G dl (as.map z) wi)(Gz:∀ a∈as,Pn X.K tn.length g (z a) (sl a))(GA:zt X N sc dl ix as sl keep ifs)(gL:Po X N sc dl ix as sl keep f elt)(hn:as.length≤sizeLine)(hs:∀ z,foldedSetIterable iter X.env z=pure z:=by intro _;rfl)(Pl:swapsWith (.ListComp elt [⟨tg,iter,ifs,0⟩] sc pos) (some (.Name y py)) uO.line X.env=pure true:=by rfl)(hy:X.N[nN]?=some y:=by rfl)(hl:Loc X.env.scope y:=by first | exact Or.inl rfl | exact Or.inr rfl)(hf:X.fn y=true∨X.env.scope.names.lookup y=some .local:=by first | exact .inl rfl | exact .inr rfl | assumption):ES X G E dl (.Assign [.Name y py] (.ListComp elt [⟨tg,iter,ifs,0⟩] sc pos) uO) (.nx (dl.set nN (.own (.lst ((as.filter keep).map f))))):=
 qt (Pr hc B hi hg (Gx GA) (Gy gL) hs Pl hN hy hl hf) fun D st H ⟨Hf,S,k⟩=>pF sH Gz hn st H _ ⟨Hf,S,fun p aT H' g n1 n2 r=>k _ aT H' g.b8 (S.Ph g n1 n2 r)⟩
def TgS (K:PySem.W.Frag)(g:TG)(z:Dt)(up:List Slot→List Slot):Prop:=∀ (G:Gr) (st:L2.St) (Hf H:Hp) (v:V) (dl:List Slot) (Q:L2.St→Hp→Prop),d7 K G st Hf H dl→Rep K Hf v z→(∀ gY,d7 K G gY Hf H (up dl)→Q gY H)→g v st H Q
theorem wV {K:PySem.W.Frag}{n:Nat}{z:Dt}:TgS K (mF n) z (fun dl=>dl.set n (.val z)):=fun G st Hf H v dl Q S r k=>k _ (S.set r)
theorem CM {K:PySem.W.Frag}{n m:Nat}{z1 z2:Dt}:TgS K (Ox K 2 (yI (mF n) (yI (mF m) Ow))) (.tup [z1,z2]) (fun dl=>(dl.set n (.val z1)).set m (.val z2)):=fun G st Hf H v dl Q S r k=>by
 cases r with
 | @tup q vs _ hq rp=>
   cases rp with
   | cons r1 t1=>cases t1 with
     | cons r2 t2=>
       cases t2
       exact⟨q,_,rfl,eU S.sub hq,rfl,_,_,rfl,_,_,rfl,rfl,k _ ((S.set r1).set r2)⟩
theorem nY {body:List Stmt}{m:Nat}(as:List α)(z:α→Dt)(up:α→List Slot→List Slot)(S:Nat→List Slot)(nU:X.calm=true)(hp:PassesOwn (model X.prog X.w) X.A X.env X.xe)(hI:PI X tg iter wi)(sH:qv X G dl (as.map z) wi)(hg:PG X tg g)(Gz:∀ a∈as,TgS X.K g (z a) (up a))(h0:Le (S 0) dl)(hmn:m≤as.length)(hb:∀ (k:Nat) (a:α),k < m→as[k]?=some a→Goes X G E body (up a (S k)) (S (k+1)))(he:mI X G E body S (fun k=>(as[k]?).elim (S k) fun a=>up a (S k)) as.length m o)(hs:∀ z,foldedSetIterable iter X.env z=pure z:=by intro _;rfl):ES X G E dl (.For tg iter body [] pos) o:=by
 refine qt (wg hp nU hI hg (nT (G:=G) (E:=E)) hs) fun D st H ⟨Hf,S0,k⟩=>sH st H _ ⟨Hf,S0,fun J Gs H0 g0 src=>?_⟩
 refine⟨fun i q st H=>q=as.length - i∧i≤m∧∃ aA,aL Gs aA∧d7 X.K G st aA H (S i),⟨as.length,rfl,Nat.zero_le _,Gs,aL.refl _,(S0.grow g0).weak h0⟩,?_⟩
 rintro i q st1 H1 ⟨rfl,him,aA,s1,S1⟩
 have sr:=src aA H1 s1 S1.sub i
 by_cases dS:i < as.length
 . have hz:as[i]?=some as[i]:=List.getElem?_eq_getElem dS
   obtain⟨Uo,hy⟩:=sr.1 (z as[i]) (by rw[List.getElem?_map,hz];rfl)
   refine .inr ⟨Uo,fun gY H'=>i < m∧∃ cU,aL Gs cU∧d7 X.K G gY cU H' (S (i+1)),fun gY H' ⟨h1,h2⟩=>⟨as.length - (i+1),by omega,rfl,by omega,h2⟩,fun x H' y=>?_⟩
   obtain⟨cU,g2,rv⟩:=hy x H' y
   refine Gz as[i] (List.getElem_mem dS) G st1 cU H' x (S i) _ (S1.grow g2) rv fun E9 S2=>?_
   by_cases Pt:i < m
   . exact lQ (hb i as[i] Pt hz) S2 (fun st fM H s3 S'=>⟨Pt,fM,(s1.trans g2.b8).trans s3,S'⟩) (fun st fM H s3 S'=>⟨Pt,fM,(s1.trans g2.b8).trans s3,S'⟩)
   . have e:i=m:=by omega
     subst e
     refine pB he dS ?_ (k.mono ((g0.b8.trans s1).trans g2.b8)) rfl rfl
     show d7 _ _ _ _ _ ((as[i]?).elim (S i) fun a=>up a (S i))
     rw[hz];exact S2
 . have e:i=as.length:=by omega
   subst e
   have e2:m=as.length:=by omega
   subst e2
   refine .inl ⟨sr.2 (by simp),?_⟩
   cases he with
   | all _=>exact k st1 aA H1 (g0.b8.trans s1) S1
   | rt h _=>omega
   | ro h _=>omega
   | bk h _=>omega
   | ex h _=>omega
theorem ee (B:qu X N tn ix sc)(h:tn=[x]):∀ C fp s H,PG (bQ X N sc C fp s H) (.Name x px) (mF 0):=fun C fp s H=>by
 have hN:(bQ X N sc C fp s H).N[0]?=some x:=by
   show N[0]?=some x
   rw[B.nm,h];rfl
 have Ec:(bQ X N sc C fp s H).env.scope.names.lookup x=some .local:=lookup_relabel_local (B.hx x (by rw[h];simp))
 exact cD (X:=bQ X N sc C fp s H) B.nd hN (.inl Ec) (.inr Ec)
theorem GC {k:Nat}(hc:X.calm=true)(B:qu X N tn ix sc)(h:tn=[x,y]):∀ C fp s H,PG (bQ X N sc C fp s H) (.Tuple [.Name x px,.Name y py] k p) (Nt X.K):=fun C fp s H=>by
 have h0:(bQ X N sc C fp s H).N[0]?=some x:=by
   show N[0]?=some x
   rw[B.nm,h];rfl
 have h1:(bQ X N sc C fp s H).N[1]?=some y:=by
   show N[1]?=some y
   rw[B.nm,h];rfl
 have Ec:(bQ X N sc C fp s H).env.scope.names.lookup x=some .local:=lookup_relabel_local (B.hx x (by rw[h];simp))
 have Gd:(bQ X N sc C fp s H).env.scope.names.lookup y=some .local:=lookup_relabel_local (B.hx y (by rw[h];simp))
 exact r6 (X:=bQ X N sc C fp s H) hc (dU (cD B.nd h0 (.inl Ec) (.inr Ec)) (dU (cD B.nd h1 (.inl Gd) (.inr Gd)) lL rfl) rfl) rfl rfl
end
def g8 (sc zo:Scope)(XN N tn:List Str)(ix:List Nat):Bool:=
 decide N.Nodup && (decide (N=tn ++ ix.map (fun j=>XN.getD j "")) && (decide (sc.kind=.function) && (sc.names.all (fun y=>decide (y.2≠.cell)) && (sc.names.all (fun y=>decide (y.2=.local→sc.names.lookup y.1=some .local)) && (tn.all (fun x=>decide (sc.names.lookup x=some .local)) &&
   (sc.names.all (fun y=>decide (y.2=.free→zo.names.lookup y.1=some .cell∨zo.names.lookup y.1=some .free)) && ix.all (fun j=>decide (sc.names.lookup (XN.getD j "")=some .free) && decide (j < XN.length))))))))
theorem d6 {X:Cx}{sc zo:Scope}{XN N tn:List Str}{ix:List Nat}(h:g8 sc zo XN N tn ix=true)(e1:X.env.scope=zo:=by rfl)(e2:X.N=XN:=by rfl):qu X N tn ix sc:=by
 subst e1 e2
 unfold g8 at h
 simp only[Bool.and_eq_true,List.all_eq_true,decide_eq_true_eq] at h
 obtain⟨h1,h2,h3,h4,h5,h6,h7,h8⟩:=h
 refine⟨h1,h2,h3,h4,h5,h6,h7,fun j hj=>?_⟩
 obtain⟨q1,q2⟩:=h8 j hj
 refine⟨X.N.getD j "",?_,q1⟩
 rw[List.getD_eq_getElem?_getD,List.getElem?_eq_getElem q2];rfl
end Sg
namespace Sg
open PySem PySem.Spec PyProof.Rows L2
section
variable {X:Cx}{G:Gr}{E:XK}{dl:List Slot}{a b e:Expr}{d d1 d2:Dt}{pos:Pos}{x y:Str}{w:Own}{u:Bool}{i:Int}
end
section
variable {X:Cx}{G:Gr}{E:XK}{dl:List Slot}{e:Expr}{d1 d2:Dt}{pos:Pos}
theorem CN (n1 n2:Nat){a b:Str}{pa pb tp:Pos}{cx:Nat}(hN:X.N.Nodup)(hc:X.calm=true)(he:EE X G dl e (.tup [d1,d2]))(Ux:X.N[n1]?=some a:=by rfl)(Uy:X.N[n2]?=some b:=by rfl)(Uz:Loc X.env.scope a:=by first | exact Or.inl rfl | exact Or.inr rfl)(O2:Loc X.env.scope b:=by first | exact Or.inl rfl | exact Or.inr rfl)(UA:X.fn a=true∨X.env.scope.names.lookup a=some .local:=by first | exact .inl rfl | exact .inr rfl)(UB:X.fn b=true∨X.env.scope.names.lookup b=some .local:=by first | exact .inl rfl | exact .inr rfl)(hn:(assignEach [.Name a pa,.Name b pb] X.env).length=2:=by rfl)(kG:(assignEach [.Name a pa,.Name b pb] X.env).findIdx? (·.1)=none:=by rfl)(q1:(assignEach [.Name a pa,.Name b pb] X.env).map (·.2)=assign (.Name a pa) X.env::(assignEach [.Name b pb] X.env).map (·.2):=by rfl)(q2:(assignEach [.Name b pb] X.env).map (·.2)=assign (.Name b pb) X.env::(assignEach [] X.env).map (·.2):=by rfl)(hs:swapsWithSole [.Tuple [.Name a pa,.Name b pb] cx tp] e pos.line X.env=pure false:=by rfl)(hw:swappedStores [.Tuple [.Name a pa,.Name b pb] cx tp] e X.env=pure none:=by rfl)(h1:(assignEach [.Tuple [.Name a pa,.Name b pb] cx tp] X.env).map (·.2)=[assign (.Tuple [.Name a pa,.Name b pb] cx tp) X.env]:=by rfl):ES X G E dl (.Assign [.Tuple [.Name a pa,.Name b pb] cx tp] e pos) (.nx ((dl.set n1 (.val d1)).set n2 (.val d2))):=
 qt (we he (r6 hc (dU (cD (pos:=pa) hN Ux Uz UA) (dU (cD (pos:=pb) hN Uy O2 UB) lL q2) q1) hn kG) hs hw h1) fun D st H ⟨Hf,S,k⟩=>⟨Hf,S,fun v aA H1 g1 r1=>by
   cases r1 with
   | @tup q vs _ hq rp=>
     cases rp with
     | cons r1 t1=>cases t1 with
       | cons r2 t2=>
         cases t2
         exact⟨q,_,rfl,eU g1.sub hq,rfl,_,_,rfl,_,_,rfl,rfl,k _ aA H1 g1.b8 (((S.grow g1).set r1).set r2)⟩⟩
end
end Sg
namespace Sg
open PySem PySem.Spec PyProof.Rows L2
section
variable {X:Cx}{pins:List (Addr×Obj)}{σ:List (Option V)}{H H':Hp}{s:Shared}{h':Heap}
theorem zu {ch:List Addr}{a:Addr}{o:HO}{t':Nat}(I:L2.Inv X pins σ H s)(yt:∀ b∈ch,ir X pins H b)(k:∀ b u,b ∉ ch→s.heap.get? b=some u→h'.get? b=some u)(hp:s.heap.objs.size≤a)(new:bc X.prog X.w (upd H a o) h' a o):L2.Inv X pins σ (upd H a o) { s with heap:=h',toks:=t'}:=by
 have hn:=I.bU.fresh hp
 have S9:∀ b u,H b=some u→b ∉ ch:=fun b u e z=>by rw[(yt b z).1] at e;cases e
 have nea:∀ b o,s.heap.get? b=some o→b≠a:=fun b o e=>Nat.ne_of_lt (Nat.lt_of_lt_of_le (Heap.lt_size e) hp)
 refine I.step (g':=s.gens) (d':=s.drawn) (ch:=ch) (fun b hb=>⟨(yt b hb).2.2.2.1,(yt b hb).2.1,(yt b hb).2.2.2.2.1,(yt b hb).2.2.2.2.2⟩) (fun b o _ _ hc e _=>k b o hc e) (fun b o _ _ hc e _=>⟨o.slots,k b o hc e⟩) (fun b o _ e n=>by rw[ah (nea b o e)];exact n)
   (fun b o hc e=>⟨o,k b o hc e⟩) (fun b xs e=>by rw[ah (aB e hn)];exact e) (fun b o u e=>by rw[ah (aB e hn)];exact e) (fun b ps e=>⟨#[],by rw[ah (aB e hn),e];simp⟩) (fun m hm=>?_) (fun b u e=>?_) I.bare
 . obtain⟨o,es,ep,ho,r⟩:=hm
   exact⟨o,es,ep,k _ o (fun z=>(yt _ z).2.1 rfl) ho,r⟩
 . by_cases hb:b=a
   . subst hb;rw[aq] at e;cases e;exact new
   . rw[ah hb] at e
     refine(I.bU b u e).v8 (fun c v hc q=>k c v ?_ q) (fun c q=>by rw[ah (aB q hn)];exact q) (fun c xs q=>by rw[ah (aB q hn)];exact q) (.of fun c u q=>by rw[ah (aB q hn)];exact q)
     rcases hc with z | z | z
     . rw[z];exact S9 b u e
     . exact S9 c _ z
     . exact fun z'=>by rw[(yt c z').1] at z;exact z
end
def Ite (K:PySem.W.Frag)(a:Addr):It:=
 ⟨fun i H=>∃ xs x,jM K H a xs∧xs[i]?=some x,fun i H v H'=>∃ p x,v=.ref p∧H p=none∧H'=upd H p (.tup [.int i,x])∧∀ xs,jM K H a xs→xs[i]?=some x,fun i H=>∃ xs,jM K H a xs∧xs.length≤i⟩
theorem Eg {P:Program}{w:World}{K:PySem.W.Frag}{elts:List Expr}{kt:Nat}{wj:Pos}(a e it:Addr)(SH:e≠it):Turn P w K (.Tuple elts kt wj) (Ite K a) [e,it] e (fun i h=>(∃ old,IsEnum h e it i old)∧h.IsListIter it a i) where
 mem:=by simp
 obj:=fun i h st b hb=>by
   obtain⟨⟨old,he⟩,o,e2,c,d⟩:=st
   rcases List.mem_cons.mp hb with rfl | hb
   . exact⟨_,he,fun v z=>by cases z⟩
   . have:b=it:=by simpa using hb
     subst this
     exact⟨o,e2,fun v z=>by rw[d] at z;cases z⟩
 keep:=fun i h h' st k=>by
   obtain⟨⟨old,he⟩,hit⟩:=st
   exact⟨⟨old,k e (by simp) _ he⟩,hit.at fun o x=>k it (by simp) o x⟩
 item:=by
   intro X hP hw hK hc i pins s σ H E I hf st hg
   subst hP hw hK
   obtain⟨xs,x,hq,hx⟩:=hg
   obtain⟨aI,rv,p,hz⟩:=I.list hq
   obtain⟨u,hu,ru⟩:=rv.get hx
   obtain⟨⟨old,he⟩,hit⟩:=st
   have UC:e < s.heap.objs.size:=Heap.lt_size he
   have hil:it < s.heap.objs.size:=by obtain⟨_,z,_⟩:=hit;exact Heap.lt_size z
   refine wpAny_pyNext_enum_item he hit p.isList (x:=u) (by simpa using hu) SH fun h1 ho Pu hT hsz hk=>?_
   refine⟨_,rfl,wpAny_letOwnedTupleGo_enum ho fun h2 Pd yM=>?_⟩
   have hT2:h2.get? s.heap.objs.size=some { cls:=.type "tuple",data:=.seq #[.int i s.toks,u]}:=(yM.2 _ (Nat.ne_of_gt UC)).trans hT
   have k2:∀ b o,b ∉ [e,it]→s.heap.get? b=some o→h2.get? b=some o:=fun b o hb q=>(yM.2 b fun z=>hb (by simp[z])).trans (hk b o (fun z=>hb (by simp[z])) (fun z=>hb (by simp[z])) q)
   have hp:H s.heap.objs.size=none:=I.bU.fresh (Nat.le_refl _)
   have I2:L2.Inv X pins σ (upd H s.heap.objs.size (.tup [.int i,x])) { s with heap:=h2,toks:=s.toks+1}:=zu I hf k2 (Nat.le_refl _) ⟨Nat.le_of_ble_eq_true rfl,[.int i s.toks,u],.cons ⟨_,rfl⟩ (.cons ru .nil),_,hT2,rfl,_,rfl⟩
   refine⟨.ref s.heap.objs.size,_,I2,rfl,⟨_,x,rfl,hp,rfl,fun ys hy=>by rw[I.yH hy hq];exact hx⟩,⟨⟨u,by simpa using Pd⟩,Pu.at fun o z=>(yM.2 it (Ne.symm SH)).trans z⟩,fun b hb=>?_⟩
   have:b≠s.heap.objs.size:=by
     rcases List.mem_cons.mp hb with rfl | hb
     . exact Nat.ne_of_lt UC
     . have:b=it:=by simpa using hb
       subst this
       exact Nat.ne_of_lt hil
   rw[ah this]
   exact(hf b hb).1
 done:=by
   intro X hP hw hK hc i pins s σ H E I hf st hg
   subst hP hw hK
   obtain⟨xs,hq,hx⟩:=hg
   obtain⟨aI,rv,p,hz⟩:=I.list hq
   obtain⟨⟨old,he⟩,hit⟩:=st
   obtain⟨f0,f1,f2,f3,f4,f5⟩:=hf it (by simp)
   have hl:=rv.length
   exact wpAny_pyNext_enum_end (I.ok.hd hc) he hit p.isList (by simp;omega) fun h' eb=>⟨rfl,I.turned (t':=s.toks) (fun b o hb q=>eb b o hb q) f0 f1 f3 f4 f5⟩
 self:=fun _ i s Q E st h=>by
   obtain⟨⟨old,he⟩,_⟩:=st
   exact wpAny_pyIter_enum he h
theorem boot_enumerate:bootBuiltins "enumerate"=some (.type "enumerate"):=by decide +kernel
section
variable {X:Cx}{G:Gr}{dl:List Slot}{a:Expr}{xs:List Dt}{p pos:Pos}
def Nu (K:PySem.W.Frag)(ta:TA):TI:=fun σ H R=>ta σ H fun vs H1=>∃ a,vs=[.ref a]∧(∃ xs,jM K H1 a xs)∧R (Ite K a) H1
theorem KL {elts:List Expr}{kt:Nat}{wj:Pos}{ta:TA}(hg:Gl X "enumerate")(hm:X.mg "enumerate"=none)(ha:PA X [a] ta)(hs:starEach [a] X.env=[(false,eval a X.env)]:=by rfl):PI X (.Tuple elts kt wj) (.Call (.Name "enumerate" p) [a] [] pos) (Nu X.K ta):=by
 intro pins s σ H R I h
 refine Call_ (mX I hg hm boot_enumerate (PyProof.Rows.callWith_type1 (cM (ha pos pins s σ H _ I h) fun us s1 ⟨vs,H1,I1,r1,q1⟩=>?_) hs rfl))
 obtain⟨l,e,⟨xs,hq⟩,q⟩:=q1
 subst e
 cases r1 with
 | cons r rr=>
   cases rr
   cases r
   obtain⟨aI,rv,pl,hz⟩:=I1.list hq
   refine call_enumerate_list pl.isList fun h' he hit hsz k=>wpAny_pyIter_enum he ?_
   have I2:L2.Inv X pins σ H1 { s1 with heap:=h'}:=I1.kept (t':=s1.toks) k
   refine⟨s1.heap.objs.size+1,[s1.heap.objs.size+1,s1.heap.objs.size],_,_,H1,rfl,I2,Eg l _ s1.heap.objs.size (Nat.succ_ne_self _),⟨⟨_,he⟩,hit⟩,fun b hb=>?_,q⟩
   have O9:s1.heap.objs.size≤b:=by
     rcases List.mem_cons.mp hb with rfl | hb
     . exact Nat.le_succ _
     . have:b=s1.heap.objs.size:=by simpa using hb
       rw[this];exact Nat.le_refl _
   exact I1.uH O9 (I1.bU.fresh O9)
def qe (xs:List Dt):List Dt:=(List.range xs.length).map fun(k:Nat)=>.tup [.int k,xs.getD k .dQ]
theorem Eh:qv X G dl (qe xs) (Nu X.K (T6 X.K G dl [.lst xs])):=fun st H R ⟨Hf,S,k⟩=>⟨Hf,S,fun vs aA H1 g1 r1=>by
 cases r1 with
 | cons r t=>
   cases t
   cases r with
   | @lst q vs _ hq rp=>
     have hl:=rp.length
     refine⟨q,rfl,⟨vs,.of (g1.sub _ _ hq)⟩,k _ aA H1 g1 fun cU H2 s1 s2 i=>⟨fun z hz=>?_,fun hi=>⟨vs,.of (s2 _ _ (s1 _ _ hq)),by unfold qe at hi;rw[List.length_map,List.length_range] at hi;omega⟩⟩⟩
     have hi:i < xs.length:=by
       have:=(List.getElem?_eq_some_iff.mp hz).1
       unfold qe at this
       simpa using this
     unfold qe at hz
     rw[List.getElem?_map,List.getElem?_range hi] at hz
     cases hz
     have hx:xs[i]?=some (xs.getD i .dQ):=by rw[List.getD_eq_getElem?_getD,List.getElem?_eq_getElem hi];rfl
     obtain⟨u,z1,z2⟩:=rp.get hx
     have hs:jM X.K H2 q vs:=.of (s2 _ _ (s1 _ _ hq))
     refine⟨⟨vs,u,hs,z1⟩,fun v H3 hy=>?_⟩
     obtain⟨pt,x,rfl,hn,rfl,e2⟩:=hy
     have e2:=e2 vs hs
     rw[z1] at e2;cases e2
     have g3:bX cU H2 (upd cU pt (.tup [.int i,u])) (upd H2 pt (.tup [.int i,u])):=.alloc s2 hn
     exact⟨_,g3,.tup (.inl aq) (.cons (.int _) (.cons ((z2.mono s1).mono g3.b8) .nil))⟩⟩
end
end Sg
namespace Sg
open PySem PySem.Spec PyProof.Rows L2
section
variable {X:Cx}{pins:List (Addr×Obj)}{st:L2.St}{H H':Hp}{s s':Shared}{h2 B:Heap}{ea t:Addr}{C:Value}
end
end Sg
namespace Sg
open PySem PySem.Spec PyProof.Rows L2
section
variable {X:Cx}{pins r0:List (Addr×Obj)}{st:L2.St}{H H':Hp}{s s':Shared}{h2 B:Heap}{ea t:Addr}{C D:Addr}{xe:Value→Shared→Prop}{G:Gr}{Hf:Hp}
def noOwn:List Slot→Bool
 | []=>true
 | .own _::_=>false
 | _::r=>noOwn r
theorem bH:∀ {dl:List Slot},noOwn dl=true→∀ (j:Nat) o,dl[j]?≠some (.own o)
 | [],_,j,o,h=>by simp at h
 | .val d::r,q,0,o,h=>by simp at h
 | .bE::r,q,0,o,h=>by simp at h
 | .val d::r,q,j+1,o,h=>bH (dl:=r) q j o (by simpa using h)
 | .bE::r,q,j+1,o,h=>bH (dl:=r) q j o (by simpa using h)
end
section
variable {X:Cx}{G:Gr}{E:XK}{dl:List Slot}{e:Expr}{es:List Expr}{ds:List Dt}{pos p apos pos':Pos}{x m:Str}{C:Addr}{fs fe:List (Str×Dt)}{k k' n:Nat}{R:List Dt→Res→Prop}{ob:Expr}{c:Value}
end
end Sg
namespace Sg
open PySem PySem.Spec PyProof.Rows L2
section
variable {X:Cx}{G:Gr}{dl:List Slot}{a e b:Expr}{x y:Str}{i j:Int}{pos p1 p2:Pos}{lo hi:Option Expr}{l u:Option Int}
theorem Pw:SlR X (fun x lo hi H Q=>∃ z:Str,x=.str z∧z.length≤sizeLine∧Q (.str (Txt.slice z lo hi)) H):=by
 intro pins s σ H x v vl vu lo hi sl Q I rx hs pl pu h
 obtain⟨z,rfl,hz,q⟩:=h
 obtain⟨t,rfl⟩:=(show ∃ t,v=Value.str z t from rx)
 obtain⟨o,h1,h2,h3⟩:=hs
 refine⟨"str",_,F.slot_str_getitem.lookup,typeIs_str _ _ _,?_⟩
 cases pl with
 | none=>
   cases pu with
   | none=>exact wpAny_getItem_str_slice (l:=none) (u:=none) (st:=none) ⟨o,h1,h2,h3⟩ rfl (post_val_or_str ⟨Nat.le_trans (Txt.slice_le z _ _) hz,fun t' k=>⟨.str (Txt.slice z _ _),H,I.tok _,⟨t',rfl⟩,q⟩⟩)
   | int j uj=>exact wpAny_getItem_str_slice (l:=none) (u:=some (j,uj)) (st:=none) ⟨o,h1,h2,h3⟩ rfl (post_val_or_str ⟨Nat.le_trans (Txt.slice_le z _ _) hz,fun t' k=>⟨.str (Txt.slice z _ _),H,I.tok _,⟨t',rfl⟩,q⟩⟩)
 | int i ui=>
   cases pu with
   | none=>exact wpAny_getItem_str_slice (l:=some (i,ui)) (u:=none) (st:=none) ⟨o,h1,h2,h3⟩ rfl (post_val_or_str ⟨Nat.le_trans (Txt.slice_le z _ _) hz,fun t' k=>⟨.str (Txt.slice z _ _),H,I.tok _,⟨t',rfl⟩,q⟩⟩)
   | int j uj=>exact wpAny_getItem_str_slice (l:=some (i,ui)) (u:=some (j,uj)) (st:=none) ⟨o,h1,h2,h3⟩ rfl (post_val_or_str ⟨Nat.le_trans (Txt.slice_le z _ _) hz,fun t' k=>⟨.str (Txt.slice z _ _),H,I.tok _,⟨t',rfl⟩,q⟩⟩)
def aca (K:PySem.W.Frag)(G:Gr)(dl:List Slot)(o:Option Int):TO:=fun st H Q=>∃ Hf,d7 K G st Hf H dl∧∀ aT H',bX Hf H aT H'→Q o H'
abbrev EPt (X:Cx)(G:Gr)(dl:List Slot)(e:Option Expr)(o:Option Int):Prop:=PO X e (aca X.K G dl o)
theorem poI {e:Option Expr}{t t':TO}(h:PO X e t)(i:∀ st H Q,t' st H Q→t st H Q):PO X e t':=fun pins s st H Q I q=>h pins s st H Q I (i st H Q q)
theorem GD:EPt X G dl none none:=poI Cn fun st H Q ⟨Hf,S,k⟩=>k Hf H (.refl S.sub)
theorem CO (h:EE X G dl e (.int i)):EPt X G dl (some e) (some i):=poI (Cp h) fun st H Q ⟨Hf,S,k⟩=>⟨Hf,S,fun v aA H1 g1 r1=>by cases r1;exact⟨i,rfl,k aA H1 g1⟩⟩
theorem GG (he:EE X G dl e (.str x))(hl:EPt X G dl lo l)(hu:EPt X G dl hi u)(hx:x.length≤sizeLine):EE X G dl (.Subscript e (.Slice lo hi none p2) pos) (.str (Txt.slice x l u)):=
 fh (yS Pw he hl hu) fun st H Q ⟨Hf,S,k⟩=>⟨Hf,S,fun v aA H1 g1 r1=>⟨aA,S.grow g1,fun cU H2 g2=>⟨cU,(S.grow g1).grow g2,fun fM H3 g3=>by
   cases r1
   exact⟨x,rfl,hx,k _ fM H3 ((g1.trans g2).trans g3) (.str _)⟩⟩⟩⟩
end
end Sg
namespace Sg
open PySem PySem.Spec PyProof.Rows L2
def Itx (x:Str):It:=⟨fun i H=>∃ c,x.cps[i]?=some c,fun i H v H'=>H'=H∧∃ c,x.cps[i]?=some c∧v=.str ⟨#[c]⟩,fun i H=>x.cps[i]?=none⟩
theorem GH {P:Program}{w:World}{K:PySem.W.Frag}{tg:Expr}(x:Str)(t:Tok)(it:Addr):Turn P w K tg (Itx x) [it] it (fun i h=>h.IsStrIter it "str_ascii_iterator" x t i) where
 mem:=by simp
 obj:=fun i h st b hb=>by
   have e:b=it:=by simpa using hb
   subst e
   obtain⟨o,e,c,d⟩:=st
   exact⟨o,e,fun v z=>by rw[d] at z;cases z⟩
 keep:=fun i h h' st k=>let ⟨o,e,c,d⟩:=st;⟨o,k it (by simp) o e,c,d⟩
 item:=by
   intro X hP hw hK hc i pins s σ H E I hf st hg
   subst hP hw hK
   obtain⟨c,hx⟩:=hg
   obtain⟨f0,f1,f2,f3,f4,f5⟩:=hf it (by simp)
   refine wpAny_pyNext_ascii_item st hx fun h' gY sb=>?_
   have I1:L2.Inv X pins σ H { s with heap:=h',toks:=s.toks+1}:=I.turned (t':=s.toks+1) (fun b o hb e=>(sb.2 b hb).trans e) f0 f1 f3 f4 f5
   obtain⟨o,e,cc,d⟩:=id gY
   exact⟨_,rfl,Cg (s:={ s with heap:=h',toks:=s.toks+1}) e cc d (by decide) ⟨.str ⟨#[c]⟩,H,I1,⟨_,rfl⟩,⟨rfl,c,hx,rfl⟩,gY,fun b hb=>(hf b hb).1⟩⟩
 done:=by
   intro X hP hw hK hc i pins s σ H E I hf st hg
   subst hP hw hK
   obtain⟨f0,f1,f2,f3,f4,f5⟩:=hf it (by simp)
   exact wpAny_pyNext_ascii_end (I.ok.hd hc) st hg fun h' eb=>⟨rfl,I.turned (t':=s.toks) (fun b o hb e=>eb b o hb e) f0 f1 f3 f4 f5⟩
 self:=fun _ _ _ _ _ st h=>wpAny_pyIter_striter_ascii st h
def gQ (x:Str):Bool:=x.cps.all (· < 128)
def signs (x:Str):List Dt:=x.cps.toList.map fun c=>.str ⟨#[c]⟩
section
variable {X:Cx}{G:Gr}{dl:List Slot}{a b c e:Expr}{x y z:Str}{p pos:Pos}{i j k:Int}{u v:Bool}
def UD (ta:TE):TI:=fun σ H R=>ta σ H fun v H1=>∃ x,v=.str x∧gQ x=true∧R (Itx x) H1
theorem gR {tg:Expr}{ta:TE}(ha:PE X a ta):PI X tg a (UD ta):=by
 intro pins s σ H R I h
 refine cM (ha pins s σ H _ I h) fun v s1 ⟨w,H1,I1,r1,q1⟩=>?_
 obtain⟨x,e,hx,q⟩:=q1
 subst e
 obtain⟨t,rfl⟩:=(show ∃ t,v=Value.str x t from r1)
 refine wpAny_pyIter_ascii hx ?_
 refine⟨s1.heap.objs.size,[s1.heap.objs.size],_,_,H1,rfl,I1.kept (t':=s1.toks) fun b o e=>Heap.get?_push_of_some _ e,GH x t _,⟨_,Heap.get?_push_size _ rfl,rfl,rfl⟩,fun b hb=>?_,q⟩
 have e:b=s1.heap.objs.size:=by simpa using hb
 subst e
 exact I1.uH (Nat.le_refl _) (I1.bU.fresh (Nat.le_refl _))
theorem signs_get (x:Str)(i:Nat):(signs x)[i]?=(x.cps[i]?).map fun c=>.str ⟨#[c]⟩:=by
 unfold signs
 rw[List.getElem?_map,Array.getElem?_toList]
theorem lS (x:Str):(signs x).length=x.length:=by
 unfold signs
 rw[List.length_map,Array.length_toList];rfl
theorem eG (hx:gQ x=true):qv X G dl (signs x) (UD (tD X.K G dl (.str x))):=fun st H R ⟨Hf,S,k⟩=>⟨Hf,S,fun v aA H1 g1 r1=>by
 cases r1
 refine⟨x,rfl,hx,k _ aA H1 g1 fun cU H2 s1 s2 i=>⟨fun z hz=>?_,fun hi=>?_⟩⟩
 . rw[signs_get] at hz
   cases q:x.cps[i]? with
   | none=>rw[q] at hz;cases hz
   | some c=>
     rw[q] at hz
     cases hz
     refine⟨⟨c,q⟩,fun v H3 ⟨e1,c',e2,e3⟩=>?_⟩
     rw[q] at e2;cases e2
     subst e1 e3
     exact⟨cU,.refl s2,.str _⟩
 . show x.cps[i]?=none
   rw[hi,lS]
   exact Array.getElem?_size_le (Nat.le_refl _)⟩
theorem vL:kT X (compareOp .LtE) (fun x y H Q=>∃ i j,x=.str i∧y=.str j∧Q (.bl (!decide (j.cps.toList < i.cps.toList))) H):=by
 intro pins s σ H x y v u Q I rx ry h
 obtain⟨i,j,rfl,rfl,q⟩:=h
 obtain⟨t,rfl⟩:=rx
 obtain⟨t',rfl⟩:=ry
 exact P.le_str (cq I q rfl)
def Px (x y:Str):Bool:=!decide (y.cps.toList < x.cps.toList)
theorem GI {K:PySem.W.Frag}:A5 K (fun x y H Q=>∃ i j,x=.str i∧y=.str j∧Q (.bl (!decide (j.cps.toList < i.cps.toList))) H) (.str x) (.str y) (.bl (Px x y)):=fun v w Hf H Q s r1 r2 k=>by
 cases r1;cases r2;exact⟨x,y,rfl,rfl,k _ Hf H (.refl s) (.bl _)⟩
variable {d1 d2 d3:Dt}
theorem zv {op AN:CmpOp}{r r':R2}(ho:kT X (compareOp op) r)(AH:kT X (compareOp AN) r')(h1:A5 X.K r d1 d2 (.bl u))(h2:A5 X.K r' d2 d3 (.bl v))(ha:EE X G dl a d1)(hb:EE X G dl b d2)(hc:EE X G dl c d3)(hm:lastMarks [op,AN] [b,c]=false:=by with_unfolding_all rfl):EE X G dl (.Compare a [op,AN] [b,c] pos) (.bl (u && v)):=
 fh (FK ho AH ha hb hc hm) fun st H Q ⟨Hf,S,k⟩=>⟨Hf,S,fun x aA H1 g1 r1=>⟨aA,S.grow g1,fun y cU H2 g2 r2=>h1 x y cU H2 _ g2.sub (r1.mono g2.b8) r2 fun z fM H3 g3 r3=>by
   cases r3
   refine⟨u,rfl,?_⟩
   cases u with
   | false=>exact wC (k _ fM H3 ((g1.trans g2).trans g3) (.bl _))
   | true=>exact wD ⟨fM,((S.grow g1).grow g2).grow g3,fun w Ff H4 g4 r4=>h2 y w Ff H4 Q g4.sub (r2.mono (g3.b8.trans g4.b8)) r4 fun q rD H5 g5 r5=>k q rD H5 ((((g1.trans g2).trans g3).trans g4).trans g5) r5⟩⟩⟩
theorem GJ (ha:EE X G dl a (.str x))(hb:EE X G dl b (.str y))(hc:EE X G dl c (.str z))(hm:lastMarks [.LtE,.LtE] [b,c]=false:=by with_unfolding_all rfl):EE X G dl (.Compare a [.LtE,.LtE] [b,c] pos) (.bl (Px x y && Px y z)):=zv vL vL GI GI ha hb hc hm
theorem GK (ha:EE X G dl a (.int i))(hb:EE X G dl b (.int j))(hc:EE X G dl c (.int k))(hm:lastMarks [.LtE,.LtE] [b,c]=false:=by with_unfolding_all rfl):EE X G dl (.Compare a [.LtE,.LtE] [b,c] pos) (.bl (decide (i≤j) && decide (j≤k))):=
 zv yL yL (mH (g':=fun i j=>.bl (decide (i≤j))) fun _ _ _ _=>.bl _) (mH (g':=fun i j=>.bl (decide (i≤j))) fun _ _ _ _=>.bl _) ha hb hc hm
end
end Sg
namespace Sg
open PySem PySem.Spec PyProof.Rows L2
section
variable {X:Cx}{G:Gr}{dl:List Slot}{a b e:Expr}{pos p p2 apos bR:Pos}{k x:Str}{xs:List Str}{ds:List Dt}{bs:List Bool}{ns:List Int}{lo hi:Option Expr}{l u:Option Int}
theorem GL {neg:Bool}:A5 X.K (rIn X.K neg) (.str k) (.lst (xs.map .str)) (.bl (if neg then !decide (k∈xs) else decide (k∈xs))):=fun v w Hf H Q s r1 r2 kk=>by
 cases r1
 cases r2 with
 | @lst q vs _ hq rp=>
   have ev:=lR rp
   subst ev
   refine⟨q,_,rfl,.inl (.of (s _ _ hq)),rfl,vK xs,?_⟩
   rw[sM]
   exact kk _ Hf H (.refl s) (.bl _)
theorem Py (ha:EE X G dl a (.str k))(hb:EE X G dl b (.lst (xs.map .str)))(hm:behindInMarks .In b=false:=by rfl):EE X G dl (.Compare a [.In] [b] pos) (.bl (decide (k∈xs))):=A6 vC (GL (neg:=false)) hm ha hb
theorem KN (ha:EE X G dl a (.str k))(hb:EE X G dl b (.lst (xs.map .str)))(hm:behindInMarks .NotIn b=false:=by rfl):EE X G dl (.Compare a [.NotIn] [b] pos) (.bl (!decide (k∈xs))):=A6 nL (GL (neg:=true)) hm ha hb
theorem range_all (bs:List Bool):(List.range bs.length).all (fun i=>bs.getD i true)=bs.all id:=by
 induction bs with
 | nil=>rfl
 | cons b r ih=>
   rw[List.length_cons,List.range_succ_eq_map,List.all_cons,List.all_map,List.all_cons]
   show(b && (List.range r.length).all (fun i=>r.getD i true))=(b && r.all id)
   rw[ih]
theorem Ei (hc:X.calm=true):gZ X (.builtin "all") (fun xs H Q=>∃ (p:Addr) (bs:List Bool),xs=[.ref p]∧jM X.K H p (bs.map V.bl)∧Q (.bl (bs.all id)) H):=by
 intro pins s σ H xs us Q I r h
 obtain⟨p,bs,rfl,hq,q⟩:=h
 obtain⟨u,rfl,rx⟩:=vals1 r
 cases rx
 obtain⟨aI,rv,pl,hz⟩:=I.list hq
 have hlen:=rv.length
 rw[List.length_map] at hlen
 obtain⟨o,n,ho,_⟩:=id pl
 have hp:p < s.heap.objs.size:=Heap.lt_size ho
 refine call_all_walk (wpAny_pyIter_list pl.isList ?_)
 refine⟨s.heap.objs.size,_,_,_,_,_,fun i=>bs.getD i true,rfl,Walks.list (A:=X.A.in1) (I.ok.hd hc) s.heap.objs.size p (Nat.ne_of_lt hp) aI.toArray,⟨⟨_,Heap.get?_push_size _ rfl,rfl,rfl⟩,?_⟩,fun i v s' Q' E' hv hQ=>?_,fun h' tk hk=>?_⟩
 . exact pl.isList.at fun o e=>Heap.get?_push_of_some _ e
 . have hv:aI[i]?=some v:=by simpa using hv
   have hi:i < aI.length:=(List.getElem?_eq_some_iff.mp hv).1
   have UE:i < bs.length:=by omega
   obtain⟨u',h1,h2⟩:=rv.get (i:=i) (x:=V.bl bs[i]) (by rw[List.getElem?_map,List.getElem?_eq_getElem UE];rfl)
   rw[hv] at h1;cases h1
   cases h2
   have e:bs.getD i true=bs[i]:=by rw[List.getD_eq_getElem?_getD,List.getElem?_eq_getElem UE];rfl
   have hQ:Q' (bs.getD i true) s':=hQ
   rw[e] at hQ
   exact wpAny_truthy_bool hQ
 . have ea:(List.range aI.toArray.size).all (fun i=>bs.getD i true)=bs.all id:=by rw[List.size_toArray,← hlen];exact range_all bs
   rw[ea]
   refine⟨.bl _,H,I.kept (t':=tk) fun b o e=>hk b o (fun hm=>?_) (Heap.get?_push_of_some _ e),rfl,q⟩
   have:b=s.heap.objs.size:=by simpa using hm
   subst this
   exact Nat.lt_irrefl _ (Heap.lt_size e)
theorem boot_all:bootBuiltins "all"=some (.builtin "all"):=by decide +kernel
theorem zw {K:PySem.W.Frag}{H:Hp}:∀ {bs:List Bool} {vs:List V},bY K H vs (bs.map Dt.bl)→vs=bs.map V.bl
 | [],_,.nil=>rfl
 | b::r,_,.cons h t=>by cases h;rw[zw t];rfl
theorem Pz (hm:X.mg "all"=none)(hc:X.calm=true)(ha:EE X G dl a (.lst (bs.map .bl)))(hg:Gl X "all":=by rfl)(he:starEach [a] X.env=[(false,eval a X.env)]:=by rfl):EE X G dl (.Call (.Name "all" p) [a] [] pos) (.bl (bs.all id)):=
 fh (eQ (Ei hc) hg hm boot_all (ae ha ao he) (by decide) (by decide) he rfl) fun st H Q ⟨Hf,S,k⟩=>⟨Hf,S,fun vs aA H1 g1 r1=>by
   cases r1 with
   | cons r t=>cases t;cases r with
     | @lst q vs _ z r=>
       have ev:=zw r
       subst ev
       exact⟨q,bs,rfl,.of (g1.sub _ _ z),k _ aA H1 g1 (.bl _)⟩⟩
theorem pG (ns:List Int):∀ k,k≤ns.length→preSum (fun i=>ns.getD i 0) k=(ns.take k).sum
 | 0,_=>by simp[preSum]
 | k+1,h=>by
   have hk:k < ns.length:=h
   rw[preSum,pG ns k (Nat.le_of_lt hk),List.take_add_one,List.getElem?_eq_getElem hk,List.sum_append,List.getD_eq_getElem?_getD,List.getElem?_eq_getElem hk]
   simp
theorem Ej (hc:X.calm=true):gZ X (.builtin "sum") (fun xs H Q=>∃ (p:Addr) (ns:List Int),xs=[.ref p]∧jM X.K H p (ns.map V.int)∧Q (.int ns.sum) H):=by
 intro pins s σ H xs us Q I r h
 obtain⟨p,ns,rfl,hq,q⟩:=h
 obtain⟨u,rfl,rx⟩:=vals1 r
 cases rx
 obtain⟨aI,rv,pl,hz⟩:=I.list hq
 have hlen:=rv.length
 rw[List.length_map] at hlen
 obtain⟨o,n,ho,_⟩:=id pl
 have hp:p < s.heap.objs.size:=Heap.lt_size ho
 refine call_sum_walkAnyS (wpAny_pyIter_list pl.isList ?_)
 refine⟨s.heap.objs.size,_,_,_,_,_,_,fun i=>ns.getD i 0,rfl,(Walks.list (A:=X.A.in1) (I.ok.hd hc) s.heap.objs.size p (Nat.ne_of_lt hp) aI.toArray).toS,⟨⟨_,Heap.get?_push_size _ rfl,rfl,rfl⟩,?_⟩,fun b hb=>?_,fun i v hv=>?_,fun s' t' hm=>?_⟩
 . exact pl.isList.at fun o e=>Heap.get?_push_of_some _ e
 . have hsz:(s.heap.push { cls:=.type "list_iterator",data:=.fields #[.ref p,.int 0 0]}).objs.size=s.heap.objs.size+1:=Heap.size_push ..
   show b < (s.heap.push { cls:=.type "list_iterator",data:=.fields #[.ref p,.int 0 0]}).objs.size
   rw[hsz]
   rcases List.mem_cons.mp hb with e | hb
   . rw[e];exact Nat.lt_succ_self _
   . have:b=p:=by simpa using hb
     rw[this];exact Nat.lt_succ_of_lt hp
 . have hv:aI[i]?=some v:=by simpa using hv
   have hi:i < aI.length:=(List.getElem?_eq_some_iff.mp hv).1
   have UE:i < ns.length:=by omega
   obtain⟨u',h1,h2⟩:=rv.get (i:=i) (x:=V.int ns[i]) (by rw[List.getElem?_map,List.getElem?_eq_getElem UE];rfl)
   rw[hv] at h1;cases h1
   obtain⟨t,rfl⟩:=h2
   refine⟨t,?_⟩
   show _=Value.int (ns.getD i 0) t
   rw[List.getD_eq_getElem?_getD,List.getElem?_eq_getElem UE];rfl
 . have ea:preSum (fun i=>ns.getD i 0) aI.toArray.size=ns.sum:=by
     rw[List.size_toArray,← hlen,pG ns _ (Nat.le_refl _),List.take_length]
   rw[ea]
   refine⟨.int _,H,?_,⟨t',rfl⟩,q⟩
   obtain⟨h',g',d',tk,os'⟩:=s'
   have e1:g'=s.gens:=hm.gens
   have e2:d'=s.drawn:=hm.drawn
   have e3:os'=s.os:=hm.os
   subst e1 e2 e3
   refine I.kept (t':=tk) fun b o e=>hm.heap b o (fun z=>?_) (Heap.get?_push_of_some _ e)
   have:b=s.heap.objs.size:=by simpa using z
   subst this
   exact Nat.lt_irrefl _ (Heap.lt_size e)
theorem boot_sum:bootBuiltins "sum"=some (.builtin "sum"):=by decide +kernel
theorem m6 {K:PySem.W.Frag}{H:Hp}:∀ {ns:List Int} {vs:List V},bY K H vs (ns.map Dt.int)→vs=ns.map V.int
 | [],_,.nil=>rfl
 | b::r,_,.cons h t=>by cases h;rw[m6 t];rfl
theorem GN (hm:X.mg "sum"=none)(hc:X.calm=true)(ha:EE X G dl a (.lst (ns.map .int)))(hg:Gl X "sum":=by rfl)(he:starEach [a] X.env=[(false,eval a X.env)]:=by rfl):EE X G dl (.Call (.Name "sum" p) [a] [] pos) (.int ns.sum):=
 fh (eQ (Ej hc) hg hm boot_sum (ae ha ao he) (by decide) (by decide) he rfl) fun st H Q ⟨Hf,S,k⟩=>⟨Hf,S,fun vs aA H1 g1 r1=>by
   cases r1 with
   | cons r t=>cases t;cases r with
     | @lst q vs _ z r=>
       have ev:=m6 r
       subst ev
       exact⟨q,ns,rfl,.of (g1.sub _ _ z),k _ aA H1 g1 (.int _)⟩⟩
theorem vM:∀ {xs:List Str} {us:List Value},Vals (xs.map V.str) us→∃ l:List (Str×Tok),us=strValues l∧l.map (·.1)=xs
 | [],_,.nil=>⟨[],rfl,rfl⟩
 | x::r,_,.cons h t=>by
   obtain⟨tk,rfl⟩:=h
   obtain⟨l,rfl,e⟩:=vM t
   exact⟨(x,tk)::l,rfl,by rw[List.map_cons,e]⟩
theorem KO:Sz X "str.join" (fun x xs H Q=>∃ (z:Str) (p:Addr) (ys:List Str),x=.str z∧xs=[.ref p]∧jM X.K H p (ys.map V.str)∧JoinOk z ys=true∧Q (.str (Txt.join z ys)) H):=by
 intro pins s σ H x xs v us Q I rx rv ⟨z,p,ys,e1,e2,hq,bU,q⟩
 subst e1 e2
 obtain⟨t,rfl⟩:=(show ∃ t,v=Value.str z t from rx)
 obtain⟨u,rfl,ru⟩:=vals1 rv
 cases ru
 obtain⟨aI,r,pl,hz⟩:=I.list hq
 obtain⟨l,rfl,el⟩:=vM r
 exact SC.join pl.isList el bU fun t' k=>⟨.str (Txt.join z ys),H,I.tok _,⟨t',rfl⟩,q⟩
theorem KP (ha:EE X G dl a (.str x))(he:EE X G dl e (.lst (xs.map .str)))(bU:JoinOk x xs=true)(gv:attributeBase a "join" X.env (eval a X.env)=eval a X.env:=by rfl)
   (sk:((backTo bR (starEach [e] X.env)).all (fun x=>!x.1) && (backToKw bR (keywordEach [] X.env)).all (fun x=>x.1.isSome) && decide ([e].length+([]:List Keyword).length+(if ([]:List Keyword).isEmpty then 0 else 1) < 30))=true:=by rfl)
   (gw:(apos.endLine == bR.line)=true:=by rfl) (kG:starEach [e] X.env=(false,eval e X.env)::starEach [] X.env:=by rfl):EE X G dl (.Call (.Attribute a "join" apos) [e] [] bR) (.str (Txt.join x xs)):=
 fh (sj PySem.F.plainAttrs_str PySem.F.slot_str_join PySem.F.type_str_join KO ha (ae he ao kG) gv sk gw kG rfl) fun st H Q ⟨Hf,S,k⟩=>⟨Hf,S,fun v aA H1 g1 r1=>by
   cases r1
   refine⟨rfl,aA,S.grow g1,fun us cU H2 g2 r2=>?_⟩
   cases r2 with
   | cons r2 t2=>cases t2;cases r2 with
     | @lst q vs _ hq rp=>
       have ev:=lR rp
       subst ev
       exact⟨x,q,xs,rfl,rfl,.of (g2.sub _ _ hq),bU,k _ cU H2 (g1.trans g2) (.str _)⟩⟩
end
end Sg
namespace Sg
open PySem PySem.Spec PyProof.Rows L2
def jt (kds:List (Key×Dt))(k:Key):Option Dt:=(kds.find? fun kv=>decide (kv.1=k)).map (·.2)
theorem nZ {p:Key×Dt}{r:List (Key×Dt)}{k:Key}(e:p.1=k):jt (p::r) k=some p.2:=by simp[jt,List.find?_cons,e]
theorem k8 {p:Key×Dt}{r:List (Key×Dt)}{k:Key}(e:¬ p.1=k):jt (p::r) k=jt r k:=by simp[jt,List.find?_cons,e]
theorem dv.val {K:PySem.W.Frag}{H:Hp}{k:Key}:∀ {kvs:List (Key×V)} {kds:List (Key×Dt)} {d:Dt},dv K H kvs kds→jt kds k=some d→∃ v,k4 kvs k=some v∧Rep K H v d
 | _,_,_,.nil,e=>by cases e
 | (k1,v1)::r,(_,d1)::s,d,.cons h t,e=>by
   by_cases q:k1=k
   . rw[nZ (p:=(k1,d1)) q] at e;cases e
     exact⟨v1,k6 (p:=(k1,v1)) q,h⟩
   . rw[k8 (p:=(k1,d1)) q] at e
     obtain⟨v,z1,z2⟩:=dv.val t e
     exact⟨v,by rw[jl (p:=(k1,v1)) q];exact z1,z2⟩
theorem dv.zx {K:PySem.W.Frag}{H:Hp}{k:Key}:∀ {kvs:List (Key×V)} {kds:List (Key×Dt)},dv K H kvs kds→(k4 kvs k).isSome=(jt kds k).isSome
 | _,_,.nil=>rfl
 | (k1,v1)::r,(_,d1)::s,.cons h t=>by
   by_cases q:k1=k
   . rw[k6 (p:=(k1,v1)) q,nZ (p:=(k1,d1)) q];rfl
   . rw[jl (p:=(k1,v1)) q,k8 (p:=(k1,d1)) q]
     exact dv.zx t
theorem dv.snoc {K:PySem.W.Frag}{H:Hp}{k:Key}{v:V}{d:Dt}(q:Rep K H v d):∀ {kvs:List (Key×V)} {kds:List (Key×Dt)},dv K H kvs kds→dv K H (kvs ++ [(k,v)]) (kds ++ [(k,d)])
 | _,_,.nil=>.cons q .nil
 | _,_,.cons h t=>.cons h (dv.snoc q t)
theorem CP {kvs:List (Key×V)}{k:Key}{v:V}(h:(k4 kvs k).isSome=false):putK kvs k v=kvs ++ [(k,v)]:=by
 unfold putK
 rw[nO,h]
 exact if_neg (by simp)
section
variable {X:Cx}{G:Gr}{E:XK}{dl:List Slot}{a b e i o:Expr}{d:Dt}{pos p:Pos}{k x:Str}{kds:List (Key×Dt)}
theorem KQ (hu:X.A.units+1 < cLine)(ho:EE X G dl o (.eB kds))(hi:EE X G dl i (.str k))(h:jt kds (.inr k)=some d)(hs:Ki i):EE X G dl (.Subscript o i pos) d:=
 fh (Cu hu ho hi hs) fun st H Q ⟨Hf,S,kk⟩=>⟨Hf,S,fun v aA H1 g1 r1=>⟨aA,S.grow g1,fun w cU H2 g2 r2=>by
   cases r2
   cases r1 with
   | @eB q kvs _ hq rp=>
     obtain⟨y,z1,z2⟩:=rp.val h
     have e:=qp.k (H:=H2) (k:=.inr k) (g2.big _ _ (g1.sub _ _ hq))
     rw[z1] at e
     exact⟨q,y,rfl,e,kk y cU H2 (g1.trans g2) (z2.mono g2.b8)⟩⟩⟩
theorem acb {neg:Bool}:∀ st H Q,tD X.K G dl (.bl (if neg then !(jt kds (.inr k)).isSome else (jt kds (.inr k)).isSome)) st H Q→(if neg then Ct (tD X.K G dl (.str k)) (tD X.K G dl (.eB kds)) else abR (tD X.K G dl (.str k)) (tD X.K G dl (.eB kds))) st H Q:=fun st H Q ⟨Hf,S,kk⟩=>by
 cases neg with
 | false=>exact⟨Hf,S,fun v aA H1 g1 r1=>⟨aA,S.grow g1,fun w cU H2 g2 r2=>by
     cases r1
     cases r2 with
     | @eB q kvs _ hq rp=>exact⟨q,_,rfl,qp.k (k:=.inr k) (g2.sub _ _ hq),by rw[rp.zx];exact kk _ cU H2 (g1.trans g2) (.bl _)⟩⟩⟩
 | true=>exact⟨Hf,S,fun v aA H1 g1 r1=>⟨aA,S.grow g1,fun w cU H2 g2 r2=>by
     cases r1
     cases r2 with
     | @eB q kvs _ hq rp=>exact⟨q,_,rfl,qp.k (k:=.inr k) (g2.sub _ _ hq),by rw[rp.zx];exact kk _ cU H2 (g1.trans g2) (.bl _)⟩⟩⟩
theorem CQ (hu:X.A.units+1 < cLine)(hi:EE X G dl i (.str k))(ho:EE X G dl o (.eB kds))(hm:behindInMarks .NotIn o=false:=by rfl):EB X G dl (.Compare i [.NotIn] [o] pos) (!(jt kds (.inr k)).isSome):=
 T8 (Ol (DZ hu hi ho) hm) fun st H Q ⟨Hf,S,kk⟩=>acb (neg:=true) st H _ ⟨Hf,S,fun v aT H' g r=>by cases r;exact⟨_,rfl,kk aT H' g⟩⟩
theorem zy:bootBuiltins "tuple"=some (.type "tuple"):=by decide +kernel
theorem KR {ds:List Dt}(hm:X.mg "tuple"=none)(ha:EE X G dl a (.tup ds))(hg:Gl X "tuple":=by rfl)(he:starEach [a] X.env=[(false,eval a X.env)]:=by rfl):EE X G dl (.Call (.Name "tuple" p) [a] [] pos) (.tup ds):=
 fh (lN yU hg hm zy (ae ha ao he) (he:=he)) fun st H Q ⟨Hf,S,k⟩=>⟨Hf,S,fun vs aA H1 g1 r1=>by
   cases r1 with
   | cons r t=>cases t;cases r with
     | @tup q vs _ z r=>exact⟨q,vs,rfl,eU g1.sub z,k _ aA H1 g1 (.tup z r)⟩⟩
theorem CS:EO X G dl (.Dict [] [] pos) (.eB []):=fh yZ fun st H Q ⟨Hf,S,k⟩=>fun p hp=>k p Hf _ (.eC S.sub hp) hp (S.sub.free hp) ⟨[],aq,.nil⟩
def sN (kds:List (Key×Dt))(k:Key)(v:Dt):List (Key×Dt):=
 if (jt kds k).isSome=true then kds.map (fun kv=>if kv.1=k then (kv.1,v) else kv) else kds ++ [(k,v)]
theorem dv.map_put {K:PySem.W.Frag}{H:Hp}{k:Key}{v:V}{d:Dt}(q:Rep K H v d):∀ {kvs:List (Key×V)} {kds:List (Key×Dt)},dv K H kvs kds →
   dv K H (kvs.map fun kv=>if kv.1=k then (kv.1,v) else kv) (kds.map fun kv=>if kv.1=k then (kv.1,d) else kv)
 | _,_,.nil=>.nil
 | (k1,v1)::r,(_,d1)::s,.cons h t=>by
   rw[List.map_cons,List.map_cons]
   by_cases e:k1=k
   . rw[if_pos e,if_pos e];exact .cons q (dv.map_put q t)
   . rw[if_neg e,if_neg e];exact .cons h (dv.map_put q t)
theorem dv.put {K:PySem.W.Frag}{H:Hp}{k:Key}{v:V}{d:Dt}{kvs:List (Key×V)}{kds:List (Key×Dt)}(q:Rep K H v d)(r:dv K H kvs kds):dv K H (putK kvs k v) (sN kds k d):=by
 unfold putK sN
 rw[nO,r.zx]
 by_cases h:(jt kds k).isSome=true
 . rw[if_pos h,if_pos h];exact dv.map_put q r
 . rw[if_neg h,if_neg h];exact dv.snoc q r
theorem CT (n:Nat){ps pn:Pos}(hu:X.A.units+1 < cLine)(he:EE X G dl e d)(hb:EE X G dl b (.str k))(hl:kds.length < sizeLine)(hd:dl[n]?=some (.own (.eB kds)):=by rfl)(hN:X.N[n]?=some x:=by rfl)(hv:rY X.env.scope x:=by first | exact Or.inl rfl | exact Or.inr (Or.inl rfl) | exact Or.inr (Or.inr rfl))(jK:(x == ("__debug__":Str))=false:=by decide)(jJ:(x == ("__classdict__":Str))=false:=by decide)(hs:swapsWith e (some (.Subscript (.Name x pn) b ps)) pos.line X.env=pure false:=by rfl):ES X G E dl (.Assign [.Subscript (.Name x pn) b ps] e pos) (.nx (dl.set n (.own (.eB (sN kds (.inr k) d))))):=
 qt (Cv hu (sF (p:=pn) n hd hN hv jK jJ) hb he hs) fun D st H ⟨Hf,S,kk⟩=>⟨Hf,S,fun v aA H1 g1 r1=>by
   have S1:=S.grow g1
   obtain⟨q,z1,z2,z3,z4⟩:=S1.own n _ hd
   refine⟨aA,q,S1,z1,z2,z4,aA,S1,fun iv cU H2 g2 r2=>?_⟩
   cases r2
   have S2:=S1.grow g2
   obtain⟨q',y1,y2,y3,kvs,y4,y5⟩:=S2.own n _ hd
   rw[z1] at y1;cases y1
   have hll:kvs.length < sizeLine:=by rw[y5.length];exact hl
   exact⟨q,_,rfl,DW.k (k:=.inr k) y4 hll,kk st cU _ (g1.b8.trans g2.b8) (S2.D6 hd z1 ⟨_,aq,y5.put (r1.mono g2.b8)⟩)⟩⟩
def mJ (rows:List (Str×List Dt)):List (Key×Dt):=rows.map fun r=>(.inr r.1,.tup (.str r.1::r.2))
def sO (r:Str×List Dt):Dt:=.tup (.str r.1::r.2)
theorem pH {k:Key}:∀ {kds:List (Key×Dt)},(∀ kv∈kds,kv.1≠k)→jt kds k=none
 | [],_=>rfl
 | kv::r,h=>by
   rw[k8 (h kv (List.mem_cons_self ..))]
   exact pH fun z hz=>h z (List.mem_cons_of_mem _ hz)
theorem GO {rows:List (Str×List Dt)}(nd:(rows.map (·.1)).Nodup){j:Nat}(hj:j < rows.length):jt (mJ (rows.take j)) (.inr rows[j].1)=none:=by
 refine pH fun kv hkv=>?_
 obtain⟨r,hr,rfl⟩:=List.mem_map.mp hkv
 intro z
 have z:r.1=rows[j].1:=Sum.inr.inj z
 obtain⟨i,hi,e⟩:=List.mem_iff_getElem.mp hr
 have hi':i < j:=by
   rw[List.length_take] at hi;omega
 rw[List.getElem_take] at e
 have hij:i < rows.length:=by omega
 have h:=List.pairwise_iff_getElem.mp nd i j (by rw[List.length_map];exact hij) (by rw[List.length_map];exact hj) hi'
 rw[List.getElem_map,List.getElem_map] at h
 exact h (by rw[e];exact z)
theorem Bh (rows:List (Str×List Dt)){j:Nat}(hj:j < rows.length):mJ (rows.take (j+1))=mJ (rows.take j) ++ [(.inr rows[j].1,sO rows[j])]:=by
 unfold mJ
 rw[List.take_add_one,List.getElem?_eq_getElem hj,List.map_append];rfl
theorem bX.iu {Hf H aT H':Hp}{a:Addr}{u:HO}(g:bX Hf H aT H')(n:Hf a=none)(h:H a=some u)(nk:¬ Kept u:=by exact fun z=>z):aT a=none:=by
 cases q:aT a with
 | none=>rfl
 | some o=>
   obtain⟨o',z⟩:=g.wF h nk q
   rw[n] at z;cases z
theorem lU {K:PySem.W.Frag}{st:L2.St}{Hf H:Hp}{dlu:List Slot}{p:Addr}{o:HO}(S:d7 K G st Hf H dlu)(qd:noOwn dlu=true)(fp:Hf p=none)(gp:G.H p=none):d7 K G st Hf (upd H p o) dlu:=
 ⟨⟨fun b u e=>by rw[ah (aB e gp)];exact S.gr.big _ _ e,S.gr.b8,fun b u e=>by rw[ah (aB e fp)];exact S.sub _ _ e,S.gr.new⟩,S.len,S.val,fun j o h=>absurd h (bH qd j o),fun j _ o _ _ h=>absurd h (bH qd j o)⟩
theorem GP (nR nN:Nat){C z:Addr}{fs:List (Str×Dt)}{rows:List (Str×List Dt)}{f self rw_ rn:Str}{px pr pa pn p1 p3 p4 p5 p6 pi:Pos}{ie ve:Expr}{dlu:List Slot}(hu:X.A.units+1 < cLine)(hN:X.N.Nodup)(nU:X.calm=true)(hp:PassesOwn (model X.prog X.w) X.A X.env X.xe)(cl:nH X.K C)(na:cu X.K C f)(hd:dl[0]?=some (.own (.zd z C fs)))(edl:dl.set 0 .bE=dlu)(qd:noOwn dlu=true)(hr:dlu[nR]?=some (.val (.lst (rows.map sO))))(hn0:nN≠0)(hnR:nN≠nR)(hun:dlu[nN]?=some .bE)(nd:(rows.map (·.1)).Nodup)(hlen:rows.length < sizeLine)(hi:∀ r:Str×List Dt,EE X G (dlu.set nN (.val (sO r))) ie (.str r.1))(hv:∀ r:Str×List Dt,EE X G (dlu.set nN (.val (sO r))) ve (sO r))(hl:Nat.ble fs.length 999=true:=by rfl)(SI:X.N[0]?=some self:=by rfl)(hNr:X.N[nR]?=some rn:=by rfl)(hNn:X.N[nN]?=some rw_:=by rfl)(hvs:rY X.env.scope self:=by first | exact Or.inl rfl | exact Or.inr (Or.inl rfl) | exact Or.inr (Or.inr rfl))(hvr:rY X.env.scope rn:=by first | exact Or.inl rfl | exact Or.inr (Or.inl rfl) | exact Or.inr (Or.inr rfl))(jK:(self == ("__debug__":Str))=false:=by decide)(jJ:(self == ("__classdict__":Str))=false:=by decide)(acg:(rn == ("__debug__":Str))=false:=by decide)(ach:(rn == ("__classdict__":Str))=false:=by decide)(hx:Loc X.env.scope rw_:=by first | exact Or.inl rfl | exact Or.inr rfl)(hf:X.fn rw_=true∨X.env.scope.names.lookup rw_=some .local:=by first | exact .inl rfl | exact .inr rfl | assumption)(Fd:swapsWith (.Dict [] [] p1) (some (.Attribute (.Name self pn) f pa)) pos.line X.env=pure false:=by rfl)(yM:swapsWith ve (some (.Subscript (.Attribute (.Name self p3) f p4) ie p5)) p6.line X.env=pure false:=by rfl)(hb:attributeBase (.Name self p3) f X.env (eval (.Name self p3) X.env)=eval (.Name self p3) X.env:=by rfl)(hfs:∀ z,foldedSetIterable (.Name rn pr) X.env z=pure z:=by intro _;rfl):jQ X G E dl [.Assign [.Attribute (.Name self pn) f pa] (.Dict [] [] p1) pos,.For (.Name rw_ px) (.Name rn pr) [.Assign [.Subscript (.Attribute (.Name self p3) f p4) ie p5] ve p6] [] pi] (.nx (dlu.set 0 (.own (.zd z C (putD f (.eB (mJ rows)) fs))))):=by
 have Nv:∀ {p:Pos},PE X (.Name self p) fun st H Q=>∃ v,st[0]?=some (some v)∧Q v H:=fun {p}=>fP SI hvs jK jJ
 have nI:=jN (Cv (pos:=p6) (pos':=p5) hu (sd (pos:=p4) (Nv (p:=p3)) hb) (fun pins s st H Q I (q:∃ r,tD X.K G (dlu.set nN (.val (sO r))) (.str r.1) st H Q)=>let ⟨r,q⟩:=q;hi r pins s st H Q I q) (fun pins s st H Q I (q:∃ r,tD X.K G (dlu.set nN (.val (sO r))) (sO r) st H Q)=>let ⟨r,q⟩:=q;hv r pins s st H Q I q) yM)
 refine ze (kU (se (pos:=pos) (pos':=pa) (Nv (p:=pn)) yZ Fd) (jN (wg hp nU (iN (fP (pos:=pr) hNr hvr acg ach)) (cD hN hNn hx hf) nI hfs))) fun D st H ⟨Hf,S,k⟩=>?_
 obtain⟨a,sa,fa,ga,ea,dx,fv,ha,rf⟩:=S.own 0 _ hd
 intro p zA
 have hpa:a≠p:=aB ha zA
 have fp:Hf p=none:=S.sub.free zA
 have gp:G.H p=none:=S.gr.big.free zA
 have PB:(upd H p (.dK [])) a=some (.ins C dx fv):=by rw[ah hpa];exact ha
 refine⟨.ref a,sa,a,C,dx,fv,rfl,PB,cl,na,by rw[rf.length];exact Nat.lt_succ_of_le (Nat.le_of_ble_eq_true hl),?_⟩
 have S0:d7 X.K G st Hf H dlu:=by
   subst edl
   refine⟨S.gr,by simp[S.len],fun j d h=>?_,fun j o h=>absurd h (bH qd j o),fun j _ o _ _ h=>absurd h (bH qd j o)⟩
   by_cases e:0=j
   . subst e
     by_cases SJ:0 < dl.length
     . rw[List.getElem?_set_self SJ] at h;cases h
     . exact absurd (List.getElem?_eq_some_iff.mp hd).1 SJ
   . rw[List.getElem?_set_ne e] at h;exact S.val j d h
 have Su:d7 X.K G st Hf (upd (upd H p (.dK [])) a (.ins C dx (eF f (.ref p) fv))) dlu:=lU (lU S0 qd fp gp) qd fa ga
 obtain⟨lv,Nw,Nf⟩:=Su.val nR _ hr
 cases Nf with
 | @lst la vs _ hq rp=>
   have hvl:vs.length=rows.length:=by rw[rp.length,List.length_map]
   refine⟨.ref la,Nw,la,rfl,⟨vs,.of (Su.sub _ _ hq)⟩,yK (xs:=vs) (fun j gY H'=>∃ aT kvs,d7 X.K G gY aT H' dlu∧aL Hf aT∧gY[0]?=some (some (.ref a))∧aT a=none∧aT p=none∧H' a=some (.ins C dx (eF f (.ref p) fv))∧H' p=some (.dK kvs)∧dv X.K aT kvs (mJ (rows.take j)))
     ⟨Hf,[],Su,aL.refl _,sa,fa,fp,aq,by rw[ah (Ne.symm hpa)];exact aq,by rw[List.take_zero];exact .nil⟩ ?_ ?_ ?_⟩
   . rintro j gY H' _ ⟨aT,kvs,S',sm,_⟩
     exact .of (S'.sub _ _ (sm _ _ hq))
   . rintro j v gY H' hv' ⟨aT,kvs,S',sm,s0,fa',fp',UG,hp',rk⟩
     obtain⟨dz,hz,rz⟩:=rp.get' hv'
     have hj:j < rows.length:=by
       have:=(List.getElem?_eq_some_iff.mp hv').1
       omega
     rw[List.getElem?_map,List.getElem?_eq_getElem hj] at hz
     cases hz
     have Sp:d7 X.K G (gY.set nN (some v)) aT H' (dlu.set nN (.val (sO rows[j]))):=S'.set (rz.mono sm)
     have s0':(gY.set nN (some v))[0]?=some (some (.ref a)):=by rw[List.getElem?_set_ne hn0];exact s0
     refine⟨rows[j],aT,Sp,fun w aA H1 g1 r1=>⟨.ref a,s0',a,C,dx,_,.ref p,rfl,.of (g1.big _ _ UG),cl,na,by rw[kX,if_pos rfl],rows[j],aA,Sp.grow g1,fun y cU H2 g2 r2=>?_⟩⟩
     cases r2
     have g:=g1.trans g2
     have uJ:H2 p=some (.dK kvs):=g.big _ _ hp'
     have Nx:H2 a=some (.ins C dx (eF f (.ref p) fv)):=g.big _ _ UG
     have fp2:cU p=none:=g.iu fp' hp'
     have fa2:cU a=none:=g.iu fa' UG
     have UH:=rk.mono g.b8
     have UI:kvs.length < sizeLine:=by
       rw[rk.length]
       unfold mJ
       rw[List.length_map,List.length_take];omega
     have DV:(k4 kvs (.inr rows[j].1)).isSome=false:=by rw[rk.zx,GO nd hj];rfl
     have Sw:d7 X.K G (gY.set nN (some v)) cU H2 dlu:=(Sp.grow g).weak ⟨by simp,fun i s e n=>by
       by_cases hi:nN=i
       . subst hi;rw[hun] at e;cases e;exact absurd rfl n
       . rw[List.getElem?_set_ne hi];exact e⟩
     refine⟨p,_,rfl,DW.k (k:=.inr rows[j].1) uJ UI,cU,_,lU Sw qd fp2 gp,sm.trans g.b8,s0',fa2,fp2,by rw[ah hpa];exact Nx,aq,?_⟩
     rw[CP DV,Bh rows hj]
     exact UH.snoc (r1.mono g2.b8)
   . rintro gY H' ⟨aT,kvs,S',sm,s0,fa',fp',UG,hp',rk⟩
     rw[hvl,List.take_length] at rk
     have UJ:aL aT (upd aT p (.dK kvs)):=cv fp'
     have l0:0 < dlu.length:=by
       rw[← S'.len]
       exact(List.getElem?_eq_some_iff.mp s0).1
     refine k gY (upd aT p (.dK kvs)) H' (sm.trans UJ) ⟨⟨S'.gr.big,S'.gr.b8.trans UJ,fun b u e=>?_,fun b u e=>?_⟩,by simp[S'.len],fun j d h=>?_,fun j o h=>?_,fun i j o o' q h1 h2 h3 h4=>?_⟩
     . by_cases hb:b=p
       . subst hb;rw[aq] at e;cases e;exact hp'
       . rw[ah hb] at e;exact S'.sub _ _ e
     . by_cases hb:b=p
       . subst hb;exact .inr (.inl gp)
       . rw[ah hb] at e;exact S'.gr.new b u e
     . by_cases e:0=j
       . subst e;rw[List.getElem?_set_self l0] at h;cases h
       . rw[List.getElem?_set_ne e] at h
         obtain⟨v,z1,z2⟩:=S'.val j d h
         exact⟨v,z1,z2.mono UJ⟩
     . by_cases e:0=j
       . subst e
         rw[List.getElem?_set_self l0] at h;cases h
         exact⟨a,s0,by rw[ah hpa];exact fa',ga,ea,dx,_,UG,(rf.mono (sm.trans UJ)).put (.eB aq (rk.mono UJ))⟩
       . rw[List.getElem?_set_ne e] at h;exact absurd h (bH qd j o)
     . have z:∀ (i:Nat) o,(dlu.set 0 (.own (.zd z C (putD f (.eB (mJ rows)) fs))))[i]?=some (.own o)→0=i:=fun i o h=>by
         by_cases e:0=i
         . exact e
         . rw[List.getElem?_set_ne e] at h;exact absurd h (bH qd i o)
       rw[← z i o h1,← z j o' h2]
end
end Sg
namespace Sg
open PySem PySem.Spec PyProof.Rows L2
theorem CU:∀ {xs:List V} {us:List Value},xs.length=us.length→(∀ (j:Nat) x u,xs[j]?=some x→us[j]?=some u→RelV x u)→Vals xs us
 | [],[],_,_=>.nil
 | [],_::_,h,_=>by cases h
 | _::_,[],h,_=>by cases h
 | x::xs,u::us,h,f=>.cons (f 0 x u rfl rfl) (CU (Nat.succ.inj h) fun j a b h1 h2=>f (j+1) a b (by simpa using h1) (by simpa using h2))
theorem GQ:∀ {kvs:List (Key×V)} {vs:List (Key×Value)},KV kvs vs→∀ {j:Nat} {q:Key×Value},vs[j]?=some q→∃ p,kvs[j]?=some p∧p.1=q.1∧RelV p.2 q.2
 | _,_,.nil,j,q,h=>by simp at h
 | _,_,.cons r t,0,q,h=>by simp at h;subst h;exact⟨_,rfl,r⟩
 | _,_,.cons r t,j+1,q,h=>by
   obtain⟨p,h1,h2⟩:=GQ t (j:=j) (q:=q) (by simpa using h)
   exact⟨p,by simpa using h1,h2⟩
theorem Bi:∀ {kvs:List (Key×V)} {vs:List (Key×Value)},KV kvs vs→kvs.length=vs.length
 | _,_,.nil=>rfl
 | _,_,.cons r t=>congrArg (·+1) (Bi t)
section
variable {X:Cx}{G:Gr}{dl:List Slot}{a o:Expr}{kds:List (Key×Dt)}{pos p apos bR:Pos}
theorem Bj (hc:X.calm=true):gZ X (.type "list") (fun xs H Q=>∃ (d:Addr) (kvs:List (Key×V)),xs=[.ref d]∧H d=some (.dK kvs)∧∀ l,H l=none→Q (.ref l) (upd H l (.lst (kvs.map fun kv=>kV kv.1)))):=by
 intro pins s σ H xs us Q I r h
 obtain⟨d,kvs,rfl,hq,q⟩:=h
 obtain⟨u,rfl,rx⟩:=vals1 r
 cases rx
 obtain⟨hz,lo,vs,kv,o,es,ep,ho,hr⟩:=I.bU d _ hq
 have hl:=Bi kv
 refine PySem.W.kdl_call (PySem.W.kdl_dict (knd:=du X.prog X.w) (kvs:=vs) (ep:=ep) lo) (I.ok.hd hc) ⟨o,es,ho,hr⟩ (by omega) fun h' tk UK c' kp e it=>?_
 refine⟨.ref s.heap.objs.size,_,I.laid (t':=tk) kp (Nat.le_refl _) (show bc X.prog X.w _ h' _ (.lst _) from⟨by rw[List.length_map];exact hz,UK.toList,c',CU ?_ fun j x u h1 h2=>?_,e⟩),rfl,q _ (I.bU.fresh (Nat.le_refl _))⟩
 . have e1:UK.toList.length=vs.length:=by rw[Array.length_toList];exact it.1
   rw[List.length_map,e1,hl]
 . rw[Array.getElem?_toList] at h2
   obtain⟨k,y,z1,z2⟩:=it.2 j u h2
   obtain⟨p,z3,z4,_⟩:=GQ kv z1
   rw[List.getElem?_map,z3] at h1
   cases h1
   have z4:p.1=k:=z4
   show RelV (kV p.1) u
   rw[z4]
   rcases dH z2 with⟨i,t,rfl,rfl⟩ | ⟨i,t,rfl,rfl⟩
   . exact⟨t,rfl⟩
   . exact⟨t,rfl⟩
def kD:Key→Dt
 | .inl i=>.int i
 | .inr x=>.str x
theorem pI {K:PySem.W.Frag}{H:Hp}:∀ {kvs:List (Key×V)} {kds:List (Key×Dt)},dv K H kvs kds→bY K H (kvs.map fun kv=>kV kv.1) (kds.map fun kd=>kD kd.1)
 | _,_,.nil=>.nil
 | (.inl i,_)::_,_,.cons _ t=>.cons (.int i) (pI t)
 | (.inr i,_)::_,_,.cons _ t=>.cons (.str i) (pI t)
theorem GR (hm:X.mg "list"=none)(hc:X.calm=true)(ha:EE X G dl a (.eB kds))(hg:Gl X "list":=by rfl)(he:starEach [a] X.env=[(false,eval a X.env)]:=by rfl):EO X G dl (.Call (.Name "list" p) [a] [] pos) (.lst (kds.map fun kd=>kD kd.1)):=
 fh (lN (Bj hc) hg hm boot_list (ae ha ao he) (he:=he)) fun st H Q ⟨Hf,S,k⟩=>⟨Hf,S,fun vs aA H1 g1 r1=>by
   cases r1 with
   | cons r t=>cases t;cases r with
     | @eB q kvs _ z r=>exact⟨q,kvs,rfl,g1.sub _ _ z,fun l hl=>k l aA _ (g1.trans (.eC g1.sub hl)) (g1.big.free hl) (g1.sub.free hl) ⟨_,aq,pI r⟩⟩⟩
end
end Sg
namespace Sg
open PySem PySem.Spec PyProof.Rows L2
section
variable {K:PySem.W.Frag}
end
section
variable {X:Cx}{N tn:List Str}{ix:List Nat}{sc:Scope}{x y z:Str}{px py pz p:Pos}
end
section
variable {X:Cx}{G:Gr}{E:XK}{dl:List Slot}{e a b:Expr}{d1 d2 d3:Dt}{pos p:Pos}{u:Bool}
end
end Sg
namespace Sg
open PySem PySem.Spec PyProof.Rows L2
section
variable {X:Cx}{pins r0:List (Addr×Obj)}{st:L2.St}{H H':Hp}{s s':Shared}{h2 B:Heap}{ea t:Addr}{C D:Addr}{xe:Value→Shared→Prop}{G:Gr}{Hf:Hp}
end
end Sg
namespace Sg
open PySem PySem.Spec PyProof.Rows L2
def UL (x:Str):It:=
 ⟨fun i H=>∃ c,x.cps[i]?=some c,fun i H v H'=>∃ p c,v=.ref p∧H p=none∧H'=upd H p (.tup [.int i,.str ⟨#[c]⟩])∧x.cps[i]?=some c,fun i H=>i=x.cps.size⟩
theorem Bk {P:Program}{w:World}{K:PySem.W.Frag}{elts:List Expr}{kt:Nat}{wj:Pos}(x:Str)(t:Tok)(e it:Addr)(SH:e≠it):Turn P w K (.Tuple elts kt wj) (UL x) [e,it] e (fun i h=>(∃ old,IsEnum h e it i old)∧h.IsStrIter it "str_ascii_iterator" x t i) where
 mem:=by simp
 obj:=fun i h st b hb=>by
   obtain⟨⟨old,he⟩,o,e2,c,d⟩:=st
   rcases List.mem_cons.mp hb with rfl | hb
   . exact⟨_,he,fun v z=>by cases z⟩
   . have:b=it:=by simpa using hb
     subst this
     exact⟨o,e2,fun v z=>by rw[d] at z;cases z⟩
 keep:=fun i h h' st k=>by
   obtain⟨⟨old,he⟩,o,e2,r⟩:=st
   exact⟨⟨old,k e (by simp) _ he⟩,o,k it (by simp) o e2,r⟩
 item:=by
   intro X hP hw hK hc i pins s σ H E I hf st hg
   subst hP hw hK
   obtain⟨c,hx⟩:=hg
   obtain⟨⟨old,he⟩,hit⟩:=st
   have UC:e < s.heap.objs.size:=Heap.lt_size he
   have hil:it < s.heap.objs.size:=by obtain⟨_,z,_⟩:=hit;exact Heap.lt_size z
   have dS:i < x.cps.size:=(Array.getElem?_eq_some_iff.mp hx).1
   refine wpAny_pyNext_enum_itemD (Draws.strAscii (A:=X.A.in1) (I.ok.hd hc) it x t) he hit dS SH (by simpa using SH) fun u h1 tk hP ho Pu hT hsz hk=>?_
   obtain⟨c',u',Ay,rfl⟩:=hP
   rw[hx] at Ay;cases Ay
   refine⟨_,rfl,wpAny_letOwnedTupleGo_enum ho fun h2 Pd yM=>?_⟩
   have hT2:h2.get? s.heap.objs.size=some { cls:=.type "tuple",data:=.seq #[.int i tk,.str ⟨#[c]⟩ u']}:=(yM.2 _ (Nat.ne_of_gt UC)).trans hT
   have k2:∀ b o,b ∉ [e,it]→s.heap.get? b=some o→h2.get? b=some o:=fun b o hb q=>(yM.2 b fun z=>hb (by simp[z])).trans (hk b o (fun z=>hb (by simp[z])) (fun z=>hb (by simp[z])) q)
   have hp:H s.heap.objs.size=none:=I.bU.fresh (Nat.le_refl _)
   have I2:L2.Inv X pins σ (upd H s.heap.objs.size (.tup [.int i,.str ⟨#[c]⟩])) { s with heap:=h2,toks:=tk+1}:=zu I hf k2 (Nat.le_refl _) ⟨Nat.le_of_ble_eq_true rfl,[.int i tk,.str ⟨#[c]⟩ u'],.cons ⟨_,rfl⟩ (.cons ⟨_,rfl⟩ .nil),_,hT2,rfl,_,rfl⟩
   refine⟨.ref s.heap.objs.size,_,I2,rfl,⟨_,c,rfl,hp,rfl,hx⟩,⟨⟨_,by simpa using Pd⟩,let ⟨o,z1,z2⟩:=Pu;⟨o,(yM.2 it (Ne.symm SH)).trans z1,z2⟩⟩,fun b hb=>?_⟩
   have:b≠s.heap.objs.size:=by
     rcases List.mem_cons.mp hb with rfl | hb
     . exact Nat.ne_of_lt UC
     . have:b=it:=by simpa using hb
       subst this
       exact Nat.ne_of_lt hil
   rw[ah this]
   exact(hf b hb).1
 done:=by
   intro X hP hw hK hc i pins s σ H E I hf st hg
   subst hP hw hK
   have hg:i=x.cps.size:=hg
   subst hg
   obtain⟨⟨old,he⟩,hit⟩:=st
   obtain⟨f0,f1,f2,f3,f4,f5⟩:=hf it (by simp)
   exact wpAny_pyNext_enum_endD (Draws.strAscii (A:=X.A.in1) (I.ok.hd hc) it x t) he hit fun h' eb=>⟨rfl,I.turned (t':=s.toks) (fun b o hb q=>eb b o hb q) f0 f1 f3 f4 f5⟩
 self:=fun _ i s Q E st h=>by
   obtain⟨⟨old,he⟩,_⟩:=st
   exact wpAny_pyIter_enum he h
section
variable {X:Cx}{G:Gr}{dl:List Slot}{a:Expr}{x:Str}{p pos:Pos}
def GS (ta:TA):TI:=fun σ H R=>ta σ H fun vs H1=>∃ x,vs=[.str x]∧gQ x=true∧R (UL x) H1
theorem GU {elts:List Expr}{kt:Nat}{wj:Pos}{ta:TA}(hg:Gl X "enumerate")(hm:X.mg "enumerate"=none)(ha:PA X [a] ta)(hs:starEach [a] X.env=[(false,eval a X.env)]:=by rfl):PI X (.Tuple elts kt wj) (.Call (.Name "enumerate" p) [a] [] pos) (GS ta):=by
 intro pins s σ H R I h
 refine Call_ (mX I hg hm boot_enumerate (PyProof.Rows.callWith_type1 (cM (ha pos pins s σ H _ I h) fun us s1 ⟨vs,H1,I1,r1,q1⟩=>?_) hs rfl))
 obtain⟨x,e,PD,q⟩:=q1
 subst e
 cases r1 with
 | cons r rr=>
   cases rr
   obtain⟨t,rfl⟩:=r
   refine call_enumerate_str fun h' he hit hsz k=>wpAny_pyIter_enum he ?_
   have TQ:strIterType x="str_ascii_iterator":=by unfold strIterType;rw[show x.cps.all (· < 128)=true from PD];rfl
   rw[TQ] at hit
   have I2:L2.Inv X pins σ H1 { s1 with heap:=h'}:=I1.kept (t':=s1.toks) k
   refine⟨s1.heap.objs.size+1,[s1.heap.objs.size+1,s1.heap.objs.size],_,_,H1,rfl,I2,Bk x t _ s1.heap.objs.size (Nat.succ_ne_self _),⟨⟨_,he⟩,hit⟩,fun b hb=>?_,q⟩
   have O9:s1.heap.objs.size≤b:=by
     rcases List.mem_cons.mp hb with rfl | hb
     . exact Nat.le_succ _
     . have:b=s1.heap.objs.size:=by simpa using hb
       rw[this];exact Nat.le_refl _
   exact I1.uH O9 (I1.bU.fresh O9)
theorem Bl (hx:gQ x=true):qv X G dl (qe (Sg.signs x)) (GS (T6 X.K G dl [.str x])):=fun st H R ⟨Hf,S,k⟩=>⟨Hf,S,fun vs aA H1 g1 r1=>by
 cases r1 with
 | cons r t=>
   cases t
   cases r
   refine⟨x,rfl,hx,k _ aA H1 g1 fun cU H2 s1 s2 i=>⟨fun z hz=>?_,fun hi=>?_⟩⟩
   . have hi:i < (Sg.signs x).length:=by
       have:=(List.getElem?_eq_some_iff.mp hz).1
       unfold qe at this
       simpa using this
     unfold qe at hz
     rw[List.getElem?_map,List.getElem?_range hi] at hz
     cases hz
     have Fg:(Sg.signs x)[i]?=some ((Sg.signs x).getD i .dQ):=by rw[List.getD_eq_getElem?_getD,List.getElem?_eq_getElem hi];rfl
     rw[signs_get] at Fg
     cases q:x.cps[i]? with
     | none=>rw[q] at Fg;cases Fg
     | some c=>
       rw[q] at Fg
       have Fg:Dt.str ⟨#[c]⟩=(Sg.signs x).getD i .dQ:=Option.some.inj Fg
       refine⟨⟨c,q⟩,fun v H3 ⟨p,c',e1,e2,e3,e4⟩=>?_⟩
       rw[q] at e4;cases e4
       subst e1 e3
       show ∃ fM,bX cU H2 fM _∧Rep X.K fM (V.ref p) (Dt.tup [Dt.int i,(Sg.signs x).getD i Dt.dQ])
       rw[← Fg]
       exact⟨upd cU p (.tup [.int i,.str ⟨#[c]⟩]),.alloc s2 e2,.tup (.of aq) (.cons (.int _) (.cons (.str _) .nil))⟩
   . show i=x.cps.size
     unfold qe at hi
     rw[List.length_map,List.length_range,lS] at hi
     exact hi⟩
end
theorem PF {us:List Value}{d:Value}(h:(us ++ [d]).length=3):∃ a b,us=[a,b]:=by
 rw[List.length_append] at h
 have h:us.length=2:=Nat.succ.inj h
 match us,h with
 | [a,b],_=>exact⟨a,b,rfl⟩
end Sg
namespace Sg
open PySem PySem.Spec PyProof.Rows L2
section
variable {X:Cx}{G:Gr}{dl:List Slot}{a b:Expr}{x:Str}{i:Int}{pos:Pos}
end
end Sg
namespace Sg
open PySem PySem.Spec PyProof.Rows L2
section
variable {X:Cx}{pins r0:List (Addr×Obj)}{st:L2.St}{H H':Hp}{s s':Shared}{h2 B:Heap}{ea t:Addr}{C D:Addr}{xe:Value→Shared→Prop}{G:Gr}{Hf:Hp}
end
end Sg
namespace Sg
open PySem PySem.Spec PyProof.Rows L2
open Sem (wp)
structure acm (z tI tO j1 j2:Addr)(f1 f2:List Addr):Prop where
 tz:tI≠z
 oz:tO≠z
 az:j1≠z
 bz:j2≠z
 to:tI≠tO
 ta:tI≠j1
 tb:tI≠j2
 oa:tO≠j1
 ob:tO≠j2
 ab:j1≠j2
 z1:z ∉ f1
 o1:tO ∉ f1
 b1:j2 ∉ f1
 z2:z ∉ f2
 o2:tO ∉ f2
 a2:j1 ∉ f2
section
variable {prog:Program}{w:World}{A:Around}{E:Value→Shared→Prop}{s:Shared}
variable {z tI tO j1 j2:Addr}{f1 f2:List Addr}{n1 n2 k:Nat}{P1 P2:Nat→Value→Prop}{S1 S2:Nat→Heap→Prop}{a b:Value}
end
inductive ZS where
 | txt (x:Str) (t:Tok)
 | lst (l:Addr)
def ZS.val:ZS→Value
 | .txt x t=>.str x t
 | .lst l=>.ref l
def ZS.obj:ZS→Obj
 | .txt x t=>{ cls:=.type (strIterType x),data:=.fields #[.str x t,.int 0 0]}
 | .lst l=>{ cls:=.type "list_iterator",data:=.fields #[.ref l,.int 0 0]}
def ZS.ok (h:Heap):ZS→Prop
 | .txt x _=>gQ x=true
 | .lst l=>∃ xs,h.IsList l xs
def ZS.at (it:Addr)(i:Nat)(h:Heap):ZS→Prop
 | .txt x t=>h.IsStrIter it "str_ascii_iterator" x t i
 | .lst l=>h.IsListIter it l i
def ZS.v:ZS→V
 | .txt x _=>.str x
 | .lst l=>.ref l
section
variable {X:Cx}{pins:List (Addr×Obj)}{σ:List (Option V)}{H:Hp}{s:Shared}{h':Heap}{i:Nat}{x:V}{it:Addr}
end
section
variable {X:Cx}{G:Gr}{dl:List Slot}{a b:Expr}{p pos:Pos}
inductive ZD:Dt→List Dt→Prop
 | lst (xs:List Dt):ZD (.lst xs) xs
 | str (x:Str):gQ x=true→ZD (.str x) (Sg.signs x)
end
end Sg
namespace Sg
open PySem PySem.Spec PyProof.Rows L2
section
variable {X:Cx}{G:Gr}{E:XK}{dl:List Slot}{a b e i o:Expr}{d:Dt}{pos p:Pos}{k x:Str}{kds:List (Key×Dt)}{sts:List Stmt}{ou:Out}
end
end Sg
namespace Sg
open PySem PySem.Spec PyProof.Rows L2
section
variable {prog:Program}{w:World}{A:Around}{E:Value→Shared→Prop}{h:Heap}{g:Array GenState}{d:Drawn}{t:Nat}{os:OsState}
variable {nm q:Str}{C N:Addr}{bs bm bmB bmN:List Value}{aco:Bool}{sn:List Str}{sub:List Value}{ab:Bool}{col:Option Bool}{dd:Option Addr}{k0 k1 k2 k3 k5:Option Value}{B Bn newId nid PH inN:String}
end
end Sg
namespace Sg
open PySem PySem.Spec PyProof.Rows L2
def exO (C t:Addr)(od:Option Addr):Obj:={ cls:=.ref C,dict:=od,data:=.fields #[.ref t,.none,.none,.none,.bool false,.none]}
def ExB (h:Heap)(e C:Addr)(od:Option Addr):Prop:=∃ t:Addr,h.get? e=some (exO C t od)
section
variable {prog:Program}{w:World}{A:Around}{E:Value→Shared→Prop}{h:Heap}{g:Array GenState}{d:Drawn}{t:Nat}{os:OsState}
variable {nm q:Str}{C N:Addr}{bs bm bmB bmN:List Value}{aco:Bool}{sn:List Str}{sub:List Value}{ab:Bool}{col:Option Bool}{dd:Option Addr}{k0 k1 k2 k3 k5:Option Value}{B Bn newId nid PH inN:String}
structure StX (K:PySem.W.Frag)(C:Addr)(f:Str):Prop where
 sa:PySem.W.findIn K (.ref C) "__setattr__"=some (some (.builtin "object.__setattr__"))
 na:PySem.W.findIn K (.ref C) f=some none
 ob:PySem.W.mroIn K C (.type "object")=some true
 mr:∃ G,(PySem.W.clsIn K C).map (·.mro)=some [.ref C,.ref G,.type "ValueError",.type "Exception",.type "BaseException",.type "object"]
 hd:(PySem.W.clsIn K C).map (·.hasDict)=some true
end
section
variable {prog:Program}{w:World}{A:Around}{E:Value→Shared→Prop}{K:PySem.W.Frag}{C e t0:Addr}{f:Str}{v:Value}{s:Shared}
open Builtin Builtin.ObjectAttr
end
def PJ (K:PySem.W.Frag)(C:Addr)(bmB:List Value)(nw:String)(fI:Addr):Bool:=match K.lookup C with
 | some ⟨.type "type",_,.cls cd,sl⟩=>(match cd.mro,sl.toList with
   | .ref D::tl,[_,_,_,_,some (.builtin n),_]=>D == C && (n == nw && (!cd.hasDel && (PySem.W.tailIn K bmB tl && (PySem.W.nsOkIn K cd.ns && (PySem.W.nsIn K cd.ns "__init__" == some (some (.ref fI)))))))
   | _,_=>false)
 | _=>false
structure XcI (K:PySem.W.Frag)(C fI:Addr):Prop where
 ex:PJ K C bmV "ValueError.__new__" fI=true
 fn:PySem.W.typeIn K (.ref fI)=some (.type "function")
 kp:PySem.W.keepIn K (.ref C)=true
structure XcB (K:PySem.W.Frag)(G:Addr):Prop where
 sp:PySem.W.specialIn K (.ref G) "__getattribute__"=some (some (.builtin "type.__getattribute__"))
 rd:PySem.W.readsIn K G (.type "type")=true
 fc:PySem.W.findCls K (.ref G) (.type "type") "__init__"=some (.val (.builtin "ValueError.__init__"))
abbrev xT (z C:Addr)(od:Option Addr):HO:=.ext fun h=>ExB h z C od
section
variable {X:Cx}{C fI G z:Addr}{a b e:Expr}{es:List Expr}{p p1 p3 pos apos bR:Pos}{gN x f:Str}{ta tv:TE}{t:TA}{pl:Sem Bool}
end
section
variable {prog:Program}{w:World}{A:Around}{E:Value→Shared→Prop}{K:PySem.W.Frag}{C e t0:Addr}{f:Str}{v:Value}{s:Shared}
end
section
variable {X:Cx}{pins:List (Addr×Obj)}{σ:List (Option V)}{H:Hp}{s:Shared}{h':Heap}{C z dx:Addr}{o:HO}
end
section
variable {X:Cx}{C fI G z:Addr}{a b e value o:Expr}{es:List Expr}{p p1 p3 pos apos bR pos':Pos}{gN x f:Str}{ta tv:TE}{t:TA}{pl:Sem Bool}
end
end Sg
namespace Sg
open PySem PySem.Spec PyProof.Rows L2
section
variable {X:Cx}{G:Gr}{dl:List Slot}{e:Expr}{y:Str}{i:Int}{pos p1 p2:Pos}
end
def spX (K:PySem.W.Frag)(C:Addr)(f:Str)(ok:Dt→Prop):Sp:=fun vs H Q E=>∃ Hf H1 z v d,vs=[.ref z,v]∧H=upd H1 z (xT z C none)∧H1 z=none∧aL Hf H1∧Rep K Hf v d∧ok d ∧
 ∀ cU H2 dx,bX Hf H cU H2→H2 dx=none→dx≠z→Q .dQ (upd (upd H2 dx (.xd [(f,v)])) z (xT z C (some dx)))
section
variable {X:Cx}{C fI Gc:Addr}{a tx:Expr}{p1 p2 p3 p4 pos pos' apos ag9 bR:Pos}{gN an sn f y:Str}{d:Dt}{pl:Sem Bool}
end
structure XF (P:Program)(w:World)(K:PySem.W.Frag)(mg:Str→Option Value)(base:Heap)(CX:mG)(k:Nat)(x:Str)(C:Addr)(f:Str)(ok:Dt→Prop):Prop where
 ex:∃ fI fd ps,gu P w K mg base CX k fI fd ps (spX K C f ok)∧XcI K C fI∧mg x=some (.ref C)∧Binds K fd ps []
section
variable {X:Cx}{G:Gr}{E:XK}{dl:List Slot}{C:Addr}{e:Expr}{p pos np bR:Pos}{x f:Str}{d:Dt}{ok:Dt→Prop}{CX:mG}{k k':Nat}{t:TA}
end
end Sg
namespace Sg
open PySem PySem.Spec PyProof.Rows L2
section
variable {P:Program}{w:World}{K:PySem.W.Frag}{mg:Str→Option Value}{base:Heap}{N:List Str}{qual:Str}{scope:Scope}{f:Addr}{cd:Value}{A:Around}{outer:List Env}{s0:Shared}{H0:Hp}{E:XK}{G:Gr}
end
section
variable {X:Cx}{G:Gr}{E:XK}{dl:List Slot}{C:Addr}{e:Expr}{p pos np bR:Pos}{x f:Str}{d:Dt}{ok:Dt→Prop}{CX:mG}{k k':Nat}{t:TA}
end
section
variable {X:Cx}{G:Gr}{E:XK}{dl:List Slot}{C:Addr}{e:Expr}{pos:Pos}{f:Str}{d:Dt}{fs:List (Str×Dt)}
end
section
variable {X:Cx}{pins r0:List (Addr×Obj)}{st:L2.St}{H H':Hp}{s s':Shared}{h2 B:Heap}{ea t:Addr}{C D:Addr}{xe:Value→Shared→Prop}{G:Gr}{Hf:Hp}
end
end Sg
namespace Sg
open PySem PySem.Spec PyProof.Rows L2
section
variable {P:Program}{w:World}{K:PySem.W.Frag}{mg:Str→Option Value}{base:Heap}{CX:mG}{x qual:Str}{st:Stmt}{f:Addr}{fd:FuncData}{N ps:List Str}{k n:Nat}{R:List Dt→Res→Prop}
end
section
variable {X:Cx}{G:Gr}{E:XK}{dl:List Slot}{a b e:Expr}{es:List Expr}{ds dvs:List Dt}{pos p apos pos':Pos}{x m y:Str}{C:Addr}{fs fe:List (Str×Dt)}{k k' n:Nat}{R:List Dt→Res→Prop}{ob:Expr}{c:Value}
end
section
variable {X:Cx}{dl:List Slot}{a b e c:Expr}{es:List Expr}{ds dvs:List Dt}{pos p apos py:Pos}{x m y:Str}{C Co:Addr}{fs fe:List (Str×Dt)}{k k' n:Nat}{R:List Dt→Res→Prop}{ob:Expr}
end
end Sg
namespace Sg
open PySem PySem.Spec PyProof.Rows L2
section
variable {X:Cx}{pins:List (Addr×Obj)}{σ:L2.St}{H:Hp}{s:Shared}{h':Heap}{z:Addr}{ph:Heap→Prop}
end
section
variable {X:Cx}{G:Gr}{E:XK}{dl:List Slot}{C:Addr}{e:Expr}{p pos apos bR:Pos}{x:Str}{d:Dt}{ds JK:List Dt}
theorem Ek (n:Nat){pn:Pos}(he:EE X G dl e (.lst JK))(hl:ds.length+JK.length≤sizeLine)(hd:dl[n]?=some (.own (.lst ds)):=by rfl)(hN:X.N[n]?=some x:=by rfl)(hv:rY X.env.scope x:=by first | exact Or.inl rfl | exact Or.inr (Or.inl rfl) | exact Or.inr (Or.inr rfl))
   (jK:(x == ("__debug__":Str))=false:=by decide) (jJ:(x == ("__classdict__":Str))=false:=by decide)
   (gv:attributeBase (.Name x pn) "extend" X.env (eval (.Name x pn) X.env)=eval (.Name x pn) X.env:=by rfl)
   (sk:((backTo bR (starEach [e] X.env)).all (fun x=>!x.1) && (backToKw bR (keywordEach [] X.env)).all (fun x=>x.1.isSome) && decide ([e].length+([]:List Keyword).length+(if ([]:List Keyword).isEmpty then 0 else 1) < 30))=true:=by rfl)
   (gw:(apos.endLine == bR.line)=true:=by rfl) (kG:starEach [e] X.env=(false,eval e X.env)::starEach [] X.env:=by rfl) (hs:swapsWith (.Call (.Attribute (.Name x pn) "extend" apos) [e] [] bR) none pos.line X.env=pure false:=by rfl) :
   ES X G E dl (.Expr (.Call (.Attribute (.Name x pn) "extend" apos) [e] [] bR) pos) (.nx (dl.set n (.own (.lst (ds ++ JK))))):=
 qt (iM (sj PySem.F.plainAttrs_list PySem.F.slot_list_extend PySem.F.type_list_extend DU (sF (p:=pn) n hd hN hv jK jJ) (ae he ao kG) gv sk gw kG rfl) hs) fun D st H ⟨Hf,S,k⟩=>by
   obtain⟨q,z1,z2,z3,vs,hq,rp⟩:=S.own n _ hd
   refine⟨Hf,q,S,z1,z2,⟨vs,hq,rp⟩,.inl ⟨rfl,vs,.of hq⟩,Hf,S,fun us aA H1 g1 r1=>?_⟩
   cases r1 with
   | cons r1 t1=>
     cases t1
     cases r1 with
     | @lst b zs _ hb rz=>
       refine⟨q,b,vs,zs,rfl,rfl,g1.big _ _ hq,g1.sub _ _ hb,by rw[rp.length,rz.length];exact hl,?_⟩
       exact k st aA _ g1.b8 ((S.grow g1).D6 hd z1 ⟨_,aq,(rp.mono g1.b8).append rz⟩)
end
end Sg
namespace Sg
open PySem PySem.Spec PyProof.Rows L2
section
variable {X:Cx}{G:Gr}{dl:List Slot}{a:Expr}{ta:TA}{j:Int}{pos p p2 acp:Pos}
end
end Sg
namespace Sg
open PySem PySem.Spec PyProof.Rows L2
section
variable {X:Cx}{G:Gr}{E:XK}{dl:List Slot}{a b c e o:Expr}{ta:TA}{i j:Int}{pos p p2 acp:Pos}{tg:Expr}{d:Dt}{kds:List (Key×Dt)}{x:Str}
end
end Sg
namespace Sg
open PySem PySem.Spec PyProof.Rows L2
section
variable {K:PySem.W.Frag}{G:Gr}{st:L2.St}{Hf H aT H':Hp}{dl:List Slot}{p:Addr}{w:Own}{u:HO}
end
section
variable {X:Cx}{G:Gr}{E:XK}{dl:List Slot}{e:Expr}{w:Own}{ds:List Dt}
end
end Sg
namespace Sg
open PySem PySem.Spec PyProof.Rows L2
mutual
def noL:Dt→Bool
 | .lst _=>false
 | .lP _=>false
 | .tup ds=>UM ds
 | .eB kds=>UN kds
 | .obj _ fs=>UO fs
 | .pk _=>false
 | .xo _=>false
 | .Cy _ _=>false
 | .eu _=>false
 | .memo _ _ _ _=>false
 | .eA _ _ _ _=>false
 | .uG _ _ _=>false
 | .uK _ _ _ _ _=>false
 | .jo _=>false
 | _=>true
def UM:List Dt→Bool
 | []=>true
 | d::r=>noL d && UM r
def UN:List (Key×Dt)→Bool
 | []=>true
 | (_,d)::r=>noL d && UN r
def UO:List (Str×Dt)→Bool
 | []=>true
 | (_,d)::r=>noL d && UO r
end
section
variable {X:Cx}{G:Gr}{E:XK}{dl:List Slot}{e c a:Expr}{ds xs:List Dt}{C:Addr}{fs:List (Str×Dt)}{x y:Str}{pos p' px pn apos bR:Pos}{sts:List Stmt}
end
end Sg
namespace Sg
open PySem PySem.Spec PyProof.Rows L2
section
variable {X:Cx}{dl:List Slot}{a b e c:Expr}{es:List Expr}{ds:List Dt}{pos p:Pos}{x:Str}{C Co:Addr}{fe:List (Str×Dt)}{k k' n:Nat}{R:List Dt→Res→Prop}
end
section
variable {X:Cx}{G:Gr}{dl:List Slot}{a b:Expr}{z:Int}{zs:List Int}{pos:Pos}
end
end Sg
namespace Sg
open PySem PySem.Spec PyProof.Rows L2
section
variable {X:Cx}{G:Gr}{dl:List Slot}{e:Expr}{lo hi:Option Expr}{l u:Option Int}{ds:List Dt}{p2 pos:Pos}
end
section
variable {X:Cx}{G:Gr}{E:XK}{dl:List Slot}{a e:Expr}{d:Dt}{ds:List Dt}{x:Str}{apos bR pos:Pos}
end
end Sg
namespace Sg
open PySem PySem.Spec PyProof.Rows L2
structure UP (k:Nat)(A:Around):Prop where
 dp:A.depth+3 * k+5 < recursionLimit
 un:A.units+16 * k+200 < cLine
structure UQ (P:Program)(w:World)(K:PySem.W.Frag)(mg:Str→Option Value)(base:Heap)(CX:mG)(k:Nat)(f:Addr)(fd:FuncData)(ps:List Str)(sp:Sp):Prop where
 len:∀ vs H Q E,sp vs H Q E→vs.length=ps.length
 run:∀ (A:Around) (outer:List Env) (s:Shared) (H:Hp) (args:Args) (us:List Value) (vs:List V) (Q:VK) (E:XK),UP k A→yN P w K mg base A outer s H→BindsTo s fd args (ps.zip us)→Vals vs us→sp vs H Q E →
   codeAny (model P w) A (.call (.ref f) args) (CR CX outer P w H s Q E) s
structure GFH (P:Program)(w:World)(K:PySem.W.Frag)(mg:Str→Option Value)(base:Heap)(CX:mG)(k:Nat)(x:Str)(n:Nat)(R:List Dt→Res→Prop):Prop where
 ex:∃ f fd ps,UQ P w K mg base CX k f fd ps (CB K n R)∧mg x=some (.ref f)∧PySem.W.keepIn K (.ref f)=true∧Binds K fd ps []
section
variable {X:Cx}{G:Gr}{E:XK}{dl:List Slot}{e:Expr}{es:List Expr}{ds:List Dt}{d:Dt}{pos p:Pos}{x:Str}{k k' n:Nat}{R:List Dt→Res→Prop}{CX:mG}{f:Addr}{fd:FuncData}{ps:List Str}{sp:Sp}{t:TA}
end
section
variable {X:Cx}{G:Gr}{dl:List Slot}{a b:Expr}{C:Addr}{Cs:List Addr}{r:Bool}{pos p:Pos}
end
end Sg
namespace Sg
open PySem PySem.Spec PyProof.Rows L2
section
variable {X:Cx}{G:Gr}{E:XK}{dl:List Slot}{a e:Expr}{d:Dt}{ds:List Dt}{x:Str}{apos bR pos:Pos}{k:Nat}
variable {dvs:List Dt}{C:Addr}{fs fe:List (Str×Dt)}{k' nn:Nat}{R:List Dt→Res→Prop}{ob:Expr}{c:Value}{m:Str}
end
end Sg
namespace Sg
open PySem PySem.Spec PyProof.Rows L2
section
variable {X:Cx}{pins r0:List (Addr×Obj)}{st:L2.St}{H H':Hp}{s s':Shared}{h2 B:Heap}{ea t:Addr}{C D:Addr}{xe:Value→Shared→Prop}{G:Gr}{Hf:Hp}
end
section
variable {X:Cx}{dl:List Slot}{a b e c:Expr}{es:List Expr}{ds dvs:List Dt}{pos p apos py:Pos}{x m y:Str}{C Co:Addr}{fs fe:List (Str×Dt)}{k k' n:Nat}{R:List Dt→Res→Prop}{ob:Expr}
end
section
variable {X:Cx}{G:Gr}{E:XK}{dl:List Slot}{elt tg iter:Expr}{ifs:List Expr}{sc:Scope}{N tn:List Str}{ix:List Nat}{pos:Pos}{c:Value}{fe:List (Str×Dt)}{wi:TI}
end
end Sg
namespace Sg
open PySem PySem.Spec PyProof.Rows L2
theorem sP:typeLookup (.type "list") "keys"=pure none:=am_miss_of_fast (by decide +kernel)
theorem El {prog:Program}{w:World}{A:Around}{E:Value→Shared→Prop}{s:Shared}{a:Addr}{o:Obj}{xs:Array Value}{k:Nat}{Q:Option Value→Shared→Prop}(hx:s.heap.get? a=some o)(hc:o.cls=.type "list")(UR:o.data=.seq xs k)(hd:o.dict=none)(hA:A.handled=none)(h:∀ h' tk,(∀ b u,s.heap.get? b=some u→h'.get? b=some u)→Q none { s with heap:=h',toks:=tk}):wpAny (model prog w) A (getAttr? (.ref a) "keys") Q E s:=by
 obtain⟨c,dct,dat,sl⟩:=o
 simp only at hc UR hd
 subst hc UR hd
 obtain⟨hp,g,d,tk,os⟩:=s
 have hT:∀ tk',(⟨hp,g,d,tk',os⟩:Shared).TypeIs (.ref a) "list":=fun _=>⟨_,hx,rfl⟩
 have f1:=sub_AttributeError
 have f3:=F.slot_list_getattribute.lookup
 have f4:=F.slot_list_getattribute.bind (.ref a)
 have f5:=am_list_getattr_none
 unfold getAttr? getAttrBy? getAttrBy
 repeat (any_goals (first | assumption | exact hT _ | ((with_reducible show wpAny _ _ (call (Value.builtin "list.__getattribute__") _ _) _ _ _);refine call_meets F.slot_list_getattribute (hT _) am_entry_list_getattribute (F.args_list_getattribute_2 _ _) (meets_getattribute_miss_list a xs k sl "keys" _ sP (by decide +kernel)) ⟨hx,hA,fun h' tk' e Fg=>?_⟩) | wp_step))
 obtain⟨t',u',he⟩:=Fg.there
 show wpAny _ _ (getattributeRaised _ _ _ _ _ _ _) _ _ _
 unfold getattributeRaised
 repeat (any_goals (first | assumption | wp_step))
 exact h _ _ Fg.keeps
theorem f6:plainId "dict.update.loop"=true:=by decide +kernel
theorem mK:entryFor table "dict.update.loop"=some Builtin.«dict.update.loop»:=entryFor_of_fast (by kernel_rfl)
inductive Fh (K:PySem.W.Frag)(H:Hp):List V→List (Key×V)→Prop
 | nil:Fh K H [] []
 | cons {t:Addr} {k:Key} {v:V} {xs:List V} {kvs:List (Key×V)}:Az K H t [kV k,v]→Fh K H xs kvs→Fh K H (.ref t::xs) ((k,v)::kvs)
theorem Fh.length {K:PySem.W.Frag}{H:Hp}:∀ {xs:List V} {kvs:List (Key×V)},Fh K H xs kvs→xs.length=kvs.length
 | _,_,.nil=>rfl
 | _,_,.cons _ r=>congrArg (·+1) (Fh.length r)
theorem Fh.get {K:PySem.W.Frag}{H:Hp}:∀ {xs:List V} {kvs:List (Key×V)} {i:Nat} {kv:Key×V},Fh K H xs kvs→kvs[i]?=some kv→∃ t,xs[i]?=some (.ref t)∧Az K H t [kV kv.1,kv.2]
 | _,_,_,_,.nil,e=>by simp at e
 | _,_,0,_,.cons h _,e=>by simp at e;subst e;exact⟨_,rfl,h⟩
 | _,_,i+1,_,.cons _ r,e=>by
   obtain⟨t,h1,h2⟩:=Fh.get (i:=i) r (by simpa using e)
   exact⟨t,by simpa using h1,h2⟩
theorem zB {kvs:List (Key×V)}{k:Key}(h:k ∉ kvs.map (·.1)):(k4 kvs k).isSome=false:=by
 induction kvs with
 | nil=>rfl
 | cons p r ih=>
   have h1:¬ p.1=k:=fun e=>h (by simp[e])
   rw[jl h1]
   exact ih fun z=>h (by simp at z ⊢;exact .inr z)
section
variable {X:Cx}{pins:List (Addr×Obj)}{σ:L2.St}{H:Hp}{A:Around}{R:Result→Shared→Prop}{L d it:Addr}{xs:List V}{kvs:List (Key×V)}
theorem GV (hA:A.handled=none)(hL:jM X.K H L xs)(hp:Fh X.K H xs kvs)(nd:(kvs.map (·.1)).Nodup)(hd:H d=none)(hf:ir X pins H it)(hdi:d≠it)(hz:kvs.length≤sizeLine)(hR:∀ s',L2.Inv X pins σ (upd H d (.dK kvs)) s'→R (.ok (.ret .none)) s'):∀ (k i:Nat) (s:Shared) (tk:Tok),kvs.length - i=k→i≤kvs.length→L2.Inv X pins σ (upd H d (.dK (kvs.take i))) s→s.heap.IsListIter it L i→codeAny (model X.prog X.w) A (.builtin "dict.update.loop" ⟨[.ref d,.ref it,.int i tk,.none],[]⟩) R s:=by
 have hlen:=hp.length
 have sm:∀ o,aL H (upd H d o):=fun o=>cv hd
 obtain⟨f0,f1,f2,f3,f4,f5⟩:=hf
 intro k
 induction k with
 | zero=>
   intro i s tk hk hi I st
   have PK:i=kvs.length:=by omega
   subst PK
   obtain⟨aI,rv,p,hz'⟩:=I.list ((sm _).seq hL)
   have hl:=rv.length
   refine codeAny_builtin mK ?_
   rw[Around.under_plainId f6 _]
   show wpAny _ A.in1 (pyNext (.ref it) >>= _) _ _ s
   refine wpAny_bind (wpAny_pyNext_list_end (show A.in1.handled=none from hA) st p.isList (by simp;omega) fun h' eb=>?_)
   have I1:L2.Inv X pins σ (upd H d (.dK (kvs.take kvs.length))) { s with heap:=h'}:=I.turned (t':=s.toks) (fun b o hb e=>eb b o hb e) (by rw[ah (Ne.symm hdi)];exact f0) f1 f3 f4 f5
   rw[List.take_length] at I1
   show wpAny _ A.in1 (Builtin.Dict.addKeywords d [] >>= _) _ _ _
   exact wpAny_bind (wpAny_pure (wpAny_pure (hR _ I1)))
 | succ k ih=>
   intro i s tk hk hi I st
   have dS:i < kvs.length:=by omega
   obtain⟨t,ht1,ht2⟩:=hp.get (List.getElem?_eq_getElem dS)
   obtain⟨aI,rv,p,hz'⟩:=I.list ((sm _).seq hL)
   obtain⟨u,hu,ru⟩:=rv.get ht1
   cases (show u=Value.ref t from ru)
   refine codeAny_builtin mK ?_
   rw[Around.under_plainId f6 _]
   show wpAny _ A.in1 (pyNext (.ref it) >>= _) _ _ s
   refine wpAny_bind (wpAny_pyNext_list_item st p.isList (x:=.ref t) (by simpa using hu) fun h' gY sb=>?_)
   have I1:L2.Inv X pins σ (upd H d (.dK (kvs.take i))) { s with heap:=h'}:=I.turned (t':=s.toks) (fun b o hb e=>(sb.2 b hb).trans e) (by rw[ah (Ne.symm hdi)];exact f0) f1 f3 f4 f5
   obtain⟨pit,rp,pt,hzt⟩:=I1.tuple (eU (sm _) ht2)
   cases rp with
   | cons rk rp=>cases rp with
     | cons rv' rp=>
       cases rp
       rename_i ku vu
       obtain⟨ot,eo,hcl,nn,hdt⟩:=pt
       refine wpAny_bind (wpAny_holding (wpAny_bind (wpAny_tryCatch ?_)))
       unfold Builtin.Dict.pairItems
       refine wpAny_bind (wpAny_typeOf (T:="tuple") ⟨_,eo,hcl⟩ ?_)
       simp only[show((Value.type "tuple" == Value.type "list") || (Value.type "tuple" == Value.type "tuple"))=true by decide,if_true]
       refine wpAny_bind (wpAny_seqItems eo hdt (wpAny_pure ?_))
       show wpAny _ A.in1 (holding [ku,vu] (dictSet d ku vu)) _ _ _
       refine wpAny_holding ?_
       have ed:(upd H d (HO.dK (kvs.take i))) d=some (.dK (kvs.take i)):=aq
       obtain⟨z,hdm,vs,rel,dd⟩:=Nh I1.bU ed
       have hzv:vs.length≤sizeLine:=by rw[← rel.length];exact z
       have US:putK (kvs.take i) kvs[i].1 kvs[i].2=kvs.take (i+1):=by
         rw[CP (zB ?_),List.take_succ,List.getElem?_eq_getElem dS];rfl
         rw[List.map_take]
         intro hm
         obtain⟨j,hj,e⟩:=List.mem_iff_getElem.mp hm
         rw[List.length_take,List.length_map] at hj
         rw[List.getElem_take,List.getElem_map] at e
         have:=List.pairwise_iff_getElem.mp nd j i (by rw[List.length_map];omega) (by rw[List.length_map];omega) (by omega)
         rw[List.getElem_map,List.getElem_map] at this
         exact this e
       refine wpAny_dictSet_pairs (hsz:=hzv) (yW rk) dd fun h2 OX hs=>?_
       have he:∃ q,h2.get? d=some q:=let ⟨q,_,_,hq,_⟩:=OX;⟨q,hq⟩
       have I2:L2.Inv X pins σ (upd (upd H d (.dK (kvs.take i))) d (.dK (putK (kvs.take i) kvs[i].1 kvs[i].2))) { s with heap:=h2,toks:=s.toks+1}:=jP (s:={ s with heap:=h'}) (t':=s.toks+1) I1 (by rw[ed];exact True.intro) hs he (FX (by rw[US,List.length_take];omega) hdm (rel.put _ rv') OX)
       rw[q9,US] at I2
       exact wpAny_pure ⟨plainId_quiet f6 _,ih (i+1) _ _ (by omega) (by omega) I2 (gY.at fun o e=>(hs.2 it (Ne.symm hdi)).trans e)⟩
theorem wW (hc:X.calm=true):gZ X (.type "dict") (fun xs H Q=>∃ L ys kvs,xs=[.ref L]∧H L=some (.lst ys)∧Fh X.K H ys kvs∧(kvs.map (·.1)).Nodup∧kvs.length≤sizeLine∧∀ l,H l=none→Q (.ref l) (upd H l (.dK kvs))):=by
 intro pins s σ H xs us Q I r h
 obtain⟨L,ys,kvs,rfl,hL,hp,nd,hz,q⟩:=h
 obtain⟨u,rfl,rx⟩:=vals1 r
 cases rx
 refine callType_codes (Q₁:=fun obj s₁=>obj=.ref s.heap.objs.size∧s₁={ s with heap:=s.heap.push { cls:=.type "dict",data:=.dict #[]}}) F.kt_called_dict (F.kt_typeCall_dict_1 _) F.entry_dict_init (kt_code_dict_new _ ⟨rfl,rfl⟩) ?_
 rintro obj s₁ ⟨rfl,rfl⟩
 have DV:(s.heap.push { cls:=.type "dict",data:=.dict #[]}).DictOf (du X.prog X.w) s.heap.objs.size []:=Heap.DictOf.new s.heap
 have hn:=I.bU.fresh (Nat.le_refl _)
 have I1:L2.Inv X pins σ (upd H s.heap.objs.size (.dK [])) { s with heap:=s.heap.push { cls:=.type "dict",data:=.dict #[]}}:=I.laid (a:=s.heap.objs.size) (o:=.dK []) (t':=s.toks) (fun _ _ q=>Heap.get?_push_of_some _ q) (Nat.le_refl _) (yY s.heap I.big)
 refine⟨DV.typeIs,F.args_dict_init_2 _ _,?_⟩
 unfold Builtin.«dict.__init__»
 refine wpAny_bind ?_
 unfold Builtin.Dict.selfAndRest
 refine wpAny_bind (wpAny_notOrdered_dict DV.typeIs ?_)
 show wpAny _ _ (pure (s.heap.objs.size,[Value.ref L])) _ _ _
 refine wpAny_pure ?_
 show wpAny _ _ (Builtin.Dict.updateFrom "dict.__init__" s.heap.objs.size (.ref L) [] .none) _ _ _
 unfold Builtin.Dict.updateFrom
 have hdL:s.heap.objs.size≠L:=fun e=>by rw[← e,hn] at hL;cases hL
 have hL1:(upd H s.heap.objs.size (HO.dK [])) L=some (.lst ys):=by rw[ah (Ne.symm hdL)];exact hL
 obtain⟨hz',aI,n,rv,eL⟩:=(show bc X.prog X.w _ _ L (.lst ys) from I1.bU L _ hL1)
 have hA:X.A.handled=none:=I.ok.hd hc
 refine wpAny_bind (wpAny_typeOf (T:="list") ⟨_,eL,rfl⟩ ?_)
 rw[if_pos (by decide)]
 refine wpAny_bind (El eL rfl rfl rfl (by exact hA) fun h1 UT kp1=>?_)
 rw[if_pos (by rfl)]
 have I2:L2.Inv X pins σ (upd H s.heap.objs.size (.dK [])) { s with heap:=h1,toks:=UT}:=I1.kept (t':=UT) kp1
 have eL2:h1.get? L=some { cls:=.type "list",data:=.seq aI.toArray n}:=kp1 _ _ eL
 refine wpAny_bind (wpAny_rule (wpAny_bind (wpAny_pyIter_list (s:={ s with heap:=h1,toks:=UT}) (items:=aI.toArray) ⟨_,eL2,rfl,n,rfl⟩ ?_)))
 have I3:L2.Inv X pins σ (upd H s.heap.objs.size (.dK [])) { s with heap:=h1.push { cls:=.type "list_iterator",data:=.fields #[.ref L,.int 0 0]},toks:=UT}:=I2.kept (t':=UT) fun b o e=>Heap.get?_push_of_some _ e
 have hsz:s.heap.objs.size < h1.objs.size:=I2.bU.lt aq
 have hlo:s.heap.objs.size≤h1.objs.size:=Nat.le_of_lt hsz
 have acu:H h1.objs.size=none:=by
   have:=I2.bU.fresh (Nat.le_refl h1.objs.size)
   rw[ah (Nat.ne_of_gt hsz)] at this
   exact this
 refine wpAny_pure ⟨plainId_quiet f6 _,GV (kvs:=kvs) (by exact hA) (.of hL) hp nd hn (I2.uH (b:=h1.objs.size) (Nat.le_refl _) acu) (Nat.ne_of_lt hsz) hz (fun s' I'=>⟨rfl,.ref _,_,I',rfl,q _ hn⟩) kvs.length 0 _ _ (by omega) (by omega) I3 ⟨_,Heap.get?_push_size _ rfl,rfl,rfl⟩⟩
end
section
variable {X:Cx}{G:Gr}{E:XK}{dl:List Slot}{a e:Expr}{pos p:Pos}{kds:List (Key×Dt)}
def JL (kd:Key×Dt):Dt:=.tup [kD kd.1,kd.2]
theorem GW {K:PySem.W.Frag}{Hf H:Hp}(sm:aL Hf H):∀ {ys:List V} {kds:List (Key×Dt)},bY K Hf ys (kds.map JL)→∃ kvs,Fh K H ys kvs∧dv K Hf kvs kds
 | _,[],.nil=>⟨[],.nil,.nil⟩
 | _,(k,d)::kds,.cons r t=>by
   obtain⟨kvs,h1,h2⟩:=GW sm t
   cases r with
   | @tup a vs _ hs rp=>
     cases rp with
     | @cons v1 _ _ _ r1 r2=>cases r2 with
       | @cons v2 _ _ _ r2 r3=>
         cases r3
         have e1:v1=kV k:=by
           cases k with
           | inl i=>cases r1;rfl
           | inr x=>cases r1;rfl
         subst e1
         exact⟨(k,v2)::kvs,.cons (eU sm hs) h1,.cons r2 h2⟩
theorem dv.keys {K:PySem.W.Frag}{H:Hp}:∀ {v:List (Key×V)} {d:List (Key×Dt)},dv K H v d→v.map (·.1)=d.map (·.1)
 | _,_,.nil=>rfl
 | _,_,.cons _ r=>by rw[List.map_cons,List.map_cons,dv.keys r]
theorem ju (hm:X.mg "dict"=none)(hc:X.calm=true)(ha:EE X G dl a (.lst (kds.map JL)))(nd:(kds.map (·.1)).Nodup)(hz:kds.length≤sizeLine)(hg:Gl X "dict":=by rfl)(he:starEach [a] X.env=[(false,eval a X.env)]:=by rfl):EO X G dl (.Call (.Name "dict" p) [a] [] pos) (.eB kds):=
 fh (lN (wW hc) hg hm boot_dict (ae ha ao he) (he:=he)) fun st H Q ⟨Hf,S,k⟩=>⟨Hf,S,fun vs aA H1 g1 r1=>by
   cases r1 with
   | cons r t=>cases t;cases r with
     | @lst q vs _ z r=>
       obtain⟨kvs,h1,h2⟩:=GW g1.sub r
       exact⟨q,vs,kvs,rfl,g1.sub _ _ z,h1,by rw[h2.keys];exact nd,by rw[h2.length];exact hz,fun l hl=>k l aA _ (g1.trans (.eC g1.sub hl)) (g1.big.free hl) (g1.sub.free hl) ⟨kvs,aq,h2⟩⟩⟩
theorem Em:Sz X "str.count" (fun x vs H Q=>∃ z y:Str,x=.str z∧vs=[.str y]∧Q (.int (Txt.count z y)) H):=by
 intro pins s σ H x vs v us Q I rx rv ⟨z,y,e1,e2,q⟩
 subst e1 e2
 obtain⟨t,rfl⟩:=(show ∃ t,v=Value.str z t from rx)
 obtain⟨u,rfl,ru⟩:=vals1 rv
 obtain⟨t',rfl⟩:=(show ∃ t,u=Value.str y t from ru)
 exact PySem.SC.count ⟨.int (Txt.count z y),H,I.tok _,⟨_,rfl⟩,q⟩
end
end Sg
namespace Sg
open PySem PySem.Spec PyProof.Rows L2
section
variable {prog:Program}{w:World}{A:Around}{E:Value→Shared→Prop}{s:Shared}
inductive GX:List (Key×Value)→List (Key×Value)→Prop
 | nil:GX [] []
 | cons {k:Key} {i:Int} {t u:Tok} {xs ys:List (Key×Value)}:GX xs ys→GX ((k,.int i t)::xs) ((k,.int i u)::ys)
end
end Sg
namespace Sg
open PySem PySem.Spec PyProof.Rows L2
theorem sQ {H:Hp}{q:Addr}{o:HO}(h:H q=some o):upd H q o=H:=by
 funext b
 by_cases e:b=q
 . subst e;rw[aq,h]
 . rw[ah e]
section
variable {K:PySem.W.Frag}{G:Gr}{st:L2.St}{Hf H:Hp}{dl:List Slot}{n:Nat}{kds:List (Key×Dt)}
end
section
variable {X:Cx}{G:Gr}{E:XK}{dl:List Slot}{e c a b:Expr}{x y:Str}{pos p' px pn apos bR:Pos}{sts:List Stmt}{kds:List (Key×Dt)}
def dI (kds:List (Key×Int)):List (Key×Dt):=kds.map fun kd=>(kd.1,Dt.int kd.2)
theorem KS {K:PySem.W.Frag}{H:Hp}:∀ {kds:List (Key×Int)} {kvs:List (Key×V)},dv K H kvs (dI kds)→kvs=kds.map fun kd=>(kd.1,V.int kd.2)
 | [],_,.nil=>rfl
 | (k,i)::kds,_,.cons r t=>by
   cases r
   rw[KS (kds:=kds) t];rfl
theorem En {z w:Str}(ha:EE X G dl a (.str z))(hb:EE X G dl b (.str w))(gv:attributeBase a "count" X.env (eval a X.env)=eval a X.env:=by rfl)
   (sk:((backTo bR (starEach [b] X.env)).all (fun x=>!x.1) && (backToKw bR (keywordEach [] X.env)).all (fun x=>x.1.isSome) && decide ([b].length+([]:List Keyword).length+(if ([]:List Keyword).isEmpty then 0 else 1) < 30))=true:=by rfl)
   (gw:(apos.endLine == bR.line)=true:=by rfl) (kG:starEach [b] X.env=(false,eval b X.env)::starEach [] X.env:=by rfl):EE X G dl (.Call (.Attribute a "count" apos) [b] [] bR) (.int (Txt.count z w)):=
 fh (sj PySem.F.plainAttrs_str PySem.F.slot_str_count PySem.F.type_str_count Em ha (ae hb ao kG) gv sk gw kG rfl) fun st H Q ⟨Hf,S,k⟩=>⟨Hf,S,fun v aA H1 g1 r1=>by
   cases r1
   exact⟨rfl,aA,S.grow g1,fun vs cU H2 g2 r2=>by
     cases r2 with
     | cons r t=>cases t;cases r;exact⟨z,w,rfl,rfl,k _ cU H2 (g1.trans g2) (.int _)⟩⟩⟩
end
end Sg
namespace Sg
open PySem PySem.Spec PyProof.Rows L2
structure wX (X:Cx)(N:List Str)(xt:Str)(ix:List Nat)(sc:Scope):Prop where
 nd:N.Nodup
 nm:N=xt::ix.map (fun j=>X.N.getD j "")
 kind:sc.kind=.function
 one:sc.names.filter (fun y=>y.2 == .cell)=[(xt,.cell)]
 names:∀ y∈sc.names,y.2=.local→sc.names.lookup y.1=some .local
 hx:sc.names.lookup xt=some .cell
 Oh:∀ y∈sc.names,y.2=.free→y.1≠xt
 fr:∀ y∈sc.names,y.2=.free→X.env.kindOf y.1=some .cell∨X.env.kindOf y.1=some .free
 Ub:∀ j∈ix,∃ y,X.N[j]?=some y∧sc.names.lookup y=some .free
def iL (X:Cx)(N:List Str)(sc:Scope)(xt:Str)(c C:Addr)(fp:List Addr)(s:Shared)(H:Hp):Cx:=
 { X with N:=N,s₀:=s,H₀:=H,env:=compEnvC sc ((xt,c)::iK sc X.env) C X.env,outer:=X.stack,stack:=X.stack,ex:=fp,fn:=fun y=>y == xt,pn:=[],xe:=uN}
theorem CV:∀ {names:List (Str×NameKind)} {acc:List (Str×Addr)} {n:Nat} {h:Heap},names.filter (fun y=>y.2 == .cell)=[]→cellsFrom n names acc=acc∧pushCells h names=h
 | [],_,_,_,_=>⟨rfl,rfl⟩
 | (y,k)::r,acc,n,h,e=>by
   by_cases hk:(k == NameKind.cell)=true
   . rw[List.filter_cons_of_pos (by exact hk)] at e;cases e
   . rw[List.filter_cons_of_neg (by exact hk)] at e
     unfold cellsFrom pushCells
     rw[if_neg hk,if_neg hk]
     exact CV e
theorem zC {x:Str}:∀ {names:List (Str×NameKind)} {acc:List (Str×Addr)} {n:Nat} {h:Heap},names.filter (fun y=>y.2 == .cell)=[(x,.cell)]→cellsFrom n names acc=(x,n)::acc∧pushCells h names=h.push { cls:=.type "cell",data:=.cell none}
 | [],_,_,_,e=>by cases e
 | (y,k)::r,acc,n,h,e=>by
   by_cases hk:(k == NameKind.cell)=true
   . rw[List.filter_cons_of_pos (by exact hk)] at e
     injection e with e1 e2
     cases e1
     unfold cellsFrom pushCells
     rw[if_pos hk,if_pos hk]
     exact CV e2
   . rw[List.filter_cons_of_neg (by exact hk)] at e
     unfold cellsFrom pushCells
     rw[if_neg hk,if_neg hk]
     exact zC e
theorem KU {M:Model}{A:Around}{E:Value→Shared→Prop}{s:Shared}{sc:Scope}{globals:Addr}{cl:List (Str×Addr)}{qual:Str}{around:Env}{x:Str}{Q:Env→Shared→Prop}(h1:sc.names.filter (fun y=>y.2 == .cell)=[(x,.cell)])(hQ:Q { scope:=sc,locals:=s.heap.objs.size,globals:=globals,cells:=(x,s.heap.objs.size+1)::cl,qual:=qual,func:=none,code:=around.code,frame:=around.frame,builtins:=around.builtins} { s with heap:=(s.heap.push { cls:=.type "dict",data:=.dict #[]}).push { cls:=.type "cell",data:=.cell none}}):wpAny M A (newFunctionEnv sc globals cl [] qual none .none (some around)) Q E s:=by
 simp only[newFunctionEnv,Option.isSome_some,if_true]
 refine wpAny_bind (wpAny_alloc ?_)
 refine wpAny_bind (wpAny_layCells _ (fun name kind cells=>by cases hkc:kind == NameKind.cell <;> simp[hkc]) _ _ _ _ ?_)
 obtain⟨e1,e2⟩:=zC (acc:=cl) (n:=(s.heap.push { cls:=.type "dict",data:=.dict #[]}).objs.size) (h:=s.heap.push { cls:=.type "dict",data:=.dict #[]}) h1
 show wpAny M A (forIn [] PUnit.unit _ >>= _) Q E _
 rw[List.forIn_nil]
 refine wpAny_bind (wpAny_pure (wpAny_pure ?_))
 dsimp only
 rw[e1,e2,Heap.size_push]
 exact hQ
section
variable {X:Cx}{N:List Str}{xt:Str}{ix:List Nat}{sc:Scope}{pins:List (Addr×Obj)}{st:L2.St}{H H':Hp}{s s':Shared}{c C D:Addr}{fp:List Addr}{h1:Heap}
theorem KW (B:wX X N xt ix sc)(ok:X.Ok):closureFor sc X.env=pure (iK sc X.env):=wN fun y hy hk=>ok.has y.1 (B.fr y hy hk)
theorem lV (B:wX X N xt ix sc)(ok:X.Ok){y:Str}{c:Addr}(h:(iK sc X.env).lookup y=some c):X.env.cells.lookup y=some c∧(y,NameKind.free)∈sc.names:=by
 rcases nW _ _ h with⟨h1,h2⟩ | h1
 . obtain⟨c',h3⟩:=ok.has y (B.fr _ h1 rfl)
   rw[h3] at h2
   cases h2
   exact⟨h3,h1⟩
 . cases h1
theorem fR {y xt:Str}{c d:Addr}{cl:List (Str×Addr)}(h:((xt,c)::cl).lookup y=some d):(y=xt∧d=c)∨(y≠xt∧cl.lookup y=some d):=by
 rw[List.lookup_cons] at h
 cases q:(y == xt) with
 | true=>rw[q] at h;exact .inl ⟨by simpa using q,(Option.some.inj h).symm⟩
 | false=>rw[q] at h;exact .inr ⟨by simpa using q,h⟩
theorem rE (B:wX X N xt ix sc)(I:L2.Inv X pins st H s)(hC:s.heap.objs.size≤C)(hc:s.heap.objs.size≤c)(hf:∀ b∈fp,ir X pins H b)(dS:∀ b∈fp,b < s.heap.objs.size):(iL X N sc xt c C fp s H).Ok where
 mod:=I.ok.mod
 kind:=B.kind
 glob:=I.ok.glob
 blt:=I.ok.blt
 above:=hC
 inj:=fun y z d h1 h2=>by
   have old:∀ {y:Str},(iK sc X.env).lookup y=some c→False:=fun {y} h=>by
     obtain⟨v,q⟩:=I.cell y c (lV B I.ok h).1
     exact absurd (Nat.lt_of_lt_of_le q.lt hc) (Nat.lt_irrefl _)
   rcases fR h1 with⟨e1,e2⟩ | ⟨e1,e2⟩ <;> rcases fR h2 with⟨e3,e4⟩ | ⟨e3,e4⟩
   . rw[e1,e3]
   . rw[e2] at e4;exact(old e4).elim
   . rw[e4] at e2;exact(old e2).elim
   . exact I.ok.inj y z d (lV B I.ok e2).1 (lV B I.ok e4).1
 has:=fun y hy=>by
   have hy:(relabel sc X.env).names.lookup y=some .cell∨(relabel sc X.env).names.lookup y=some .free:=hy
   show ∃ d,((xt,c)::iK sc X.env).lookup y=some d
   by_cases e:y=xt
   . subst e;exact⟨c,by simp[List.lookup_cons]⟩
   . have nc:(y,NameKind.cell) ∉ sc.names:=fun hm=>by
       have:(y,NameKind.cell)∈sc.names.filter (fun y=>y.2 == .cell):=List.mem_filter.mpr ⟨hm,rfl⟩
       rw[B.one] at this
       have:=List.mem_singleton.mp this
       exact e (congrArg Prod.fst this)
     have:(y,NameKind.free)∈sc.names:=by
       rcases hy with hy | hy
       . obtain⟨k',h1,h2⟩:=eV hy
         rcases h2 with h2 | h2
         . subst h2;exact absurd h1 nc
         . subst h2;exact h1
       . obtain⟨k',h1,h2⟩:=eV hy
         rcases h2 with h2 | h2 <;> subst h2 <;> exact h1
     obtain⟨d,hd⟩:=gy (cells:=X.env.cells) sc.names [] (.inl this)
     refine⟨d,?_⟩
     rw[List.lookup_cons,show(y == xt)=false by simpa using e]
     exact hd
 Ss:=fun y d h1 h2=>by
   rcases fR h2 with⟨_,e⟩ | ⟨e,_⟩
   . rw[e];exact hc
   . exact absurd (by have h1:(y == xt)=true:=h1;simpa using h1) e
 hd:=I.ok.hd
 frames:=I.ok.frames
 S5:=.inl rfl
 JX:=fun b hb=>⟨Nat.ne_of_lt (Nat.lt_of_lt_of_le (dS b hb) hC),fun y d h=>by
   rcases fR h with⟨_,e⟩ | ⟨_,e⟩
   . rw[e];exact Nat.ne_of_gt (Nat.lt_of_lt_of_le (dS b hb) hc)
   . exact(hf b hb).2.2.2.2.1 y d (lV B I.ok e).1⟩
 bs:=I.bs
 Cd:=Nat.le_trans I.ok.Cd I.sz
 yC:=fun b o e hb=>by
   rcases (hf b hb).2.2.2.1 with z | z
   . exact I.ok.yC b o e z
   . exact absurd (Nat.lt_of_lt_of_le (Heap.lt_size e) (Nat.le_trans I.ok.Cd z)) (Nat.lt_irrefl _)
 yD:=fun b hb z=>by
   rcases List.mem_cons.mp (I.rZ b z) with z | z
   . exact(hf b hb).2.1 z
   . exact(hf b hb).2.2.1 z
 oZ:=I.stack
 M6:=I.rg
theorem Bm (B:wX X N xt ix sc)(I:L2.Inv X pins st H s)(hf:∀ b∈fp,ir X pins H b)(dS:∀ b∈fp,b < s.heap.objs.size)(hC:C=s.heap.objs.size+1)(Ta:c=s.heap.objs.size+2)(k:∀ b o,s.heap.get? b=some o→h1.get? b=some o)(hn:h1.Ns C fun _=>none)(hce:h1.IsCell c none)(hD:h1.get? s.heap.objs.size=some { cls:=.type "list",data:=.seq ([]:List Value).toArray 0}){t':Nat}:L2.Inv (iL X N sc xt c C fp s H) [] (List.replicate 1 none ++ frees ix st) (upd H s.heap.objs.size (.lst [])) { s with heap:=h1,toks:=t'}:=by
 have Nl:s.heap.objs.size≤C:=by rw[hC];exact Nat.le_succ _
 have Ay:s.heap.objs.size≤c:=by rw[Ta];exact Nat.le_add_right _ _
 have fr:∀ a,s.heap.objs.size≤a→H a=none:=fun a ha=>I.bU.fresh ha
 have ok:=rE (c:=c) B I Nl Ay hf dS
 have Ax:∀ y c,(iK sc X.env).lookup y=some c→H c=none∧c < s.heap.objs.size∧∃ v,s.heap.IsCell c v:=fun y c h=>by
   have h:=(lV B I.ok h).1
   obtain⟨v,q⟩:=I.cell y c h
   exact⟨I.mE y c h,q.lt,v,q⟩
 refine⟨ok,rfl,I.bare,Un.laid k (Nat.le_refl _) (fr _ (Nat.le_refl _)),⟨_,hn,fun i y v e1 e2 e3=>?_⟩,fun y d h=>?_,?_,fun y d h=>?_,fun p hp=>absurd (show p∈([]:List (Addr×Obj)) from hp) (by simp),?_,?_⟩
 . have e1:N[i]?=some y:=e1
   cases i with
   | zero=>cases e2
   | succ i=>
     rw[B.nm,List.getElem?_cons_succ,List.getElem?_map] at e1
     have e2:(frees ix st)[i]?=some (some v):=e2
     unfold frees at e2
     rw[List.getElem?_map] at e2
     cases q:ix[i]? with
     | none=>rw[q] at e1;cases e1
     | some j=>
       rw[q] at e1 e2
       obtain⟨y',JJ,Gd⟩:=B.Ub j (List.mem_of_getElem? q)
       have Ku:=PySem.mem_of_lookup Gd
       have ey:y=y':=by
         have e1:X.N.getD j ""=y:=Option.some.inj e1
         rw[List.getD_eq_getElem?_getD,JJ] at e1
         exact e1.symm
       subst ey
       have e2:(st[j]?).join=some v:=Option.some.inj e2
       have Uc:st[j]?=some (some v):=by
         cases q2:st[j]? with
         | none=>rw[q2] at e2;cases e2
         | some z=>rw[q2] at e2;rw[show z=some v from e2]
       have kd:=B.fr _ Ku rfl
       have nx:y≠xt:=B.Oh _ Ku rfl
       have Ud:rY X.env.scope y:=by
         rcases kd with z | z
         . exact .inr (.inl z)
         . exact .inr (.inr z)
       obtain⟨m,_,hl⟩:=I.loc
       obtain⟨u,r,l⟩:=hl j y v JJ Uc Ud
       refine⟨u,r,.inr ?_⟩
       rcases l with⟨z,_⟩ | ⟨_,d,hd,ic⟩
       . rcases kd with z' | z' <;> rw[z] at z' <;> cases z'
       . obtain⟨d',Sv⟩:=gy (cells:=X.env.cells) sc.names [] (.inl Ku)
         have:=(lV B I.ok Sv).1
         rw[hd] at this;cases this
         obtain⟨oc,Cf,A8⟩:=ic
         refine⟨?_,d,?_,oc,k _ _ Cf,A8⟩
         . rcases e3 with e3 | e3 | e3
           . have e3:(relabel sc X.env).names.lookup y=some .local:=e3
             rcases jT (env:=X.env) Gd with z | z
             . exact absurd (e3.symm.trans z) (by decide)
             . exact absurd (e3.symm.trans z) (by decide)
           . exact .inl e3
           . exact .inr e3
         . show((xt,c)::iK sc X.env).lookup y=some d
           rw[List.lookup_cons,show(y == xt)=false by simpa using nx]
           exact Sv
 . rcases fR h with⟨_,e⟩ | ⟨_,e⟩
   . rw[e];exact⟨none,hce⟩
   . obtain⟨_,_,v,oc,Cf,hd⟩:=Ax y d e
     exact⟨v,oc,k _ _ Cf,hd⟩
 . show upd H s.heap.objs.size (.lst []) C=none
   rw[ah (by rw[hC];exact Nat.succ_ne_self _)]
   exact fr _ Nl
 . show upd H s.heap.objs.size (.lst []) d=none
   rcases fR h with⟨_,e⟩ | ⟨_,e⟩
   . rw[e,ah (by rw[Ta];exact Nat.ne_of_gt (Nat.lt_add_of_pos_right (by decide)))]
     exact fr _ Ay
   . obtain⟨q1,q2,_⟩:=Ax y d e
     rw[ah (Nat.ne_of_lt q2)]
     exact q1
 . exact I.bU.laid k (Nat.le_refl _) ⟨Nat.zero_le _,[],0,.nil,hD⟩
 . show(List.replicate 1 none ++ frees ix st).length=N.length
   rw[B.nm]
   unfold frees
   simp
theorem GY {elt iter tg:Expr}{ifs:List Expr}{pos:Pos}{g:TG}{tt:TT}{te:TE}{J:It}{it:Addr}{tj:Nat→Heap→Prop}{Q:Addr→List V→Hp→Prop}{RR:Value→Addr→Result→Shared→Prop}{E:Value→Shared→Prop}(hc:X.calm=true)(B:wX X N xt ix sc)(hg:∀ c C fp s H,PG (iL X N sc xt c C fp s H) tg g)(ht:∀ c C fp s H,Nr (iL X N sc xt c C fp s H) ifs tt)(gL:∀ c C fp s H,PE (iL X N sc xt c C fp s H) elt te)(I:L2.Inv X pins st H s)(T:Turn X.prog X.w X.K tg J fp it tj)(h0:tj 0 s.heap)(hf:∀ b∈fp,ir X pins H b)(hq:∀ D,H D=none→CL 1 g tt te (frees ix st) J D (Q D) H)(Ue:∀ D C ys H' s',L2.Inv X pins st H' s'→(∃ m,s'.heap.Ns C m)→ir X pins H' C→Q D ys H'→RR (.ref D) C (.ok .next) s'):wpAny (model X.prog X.w) X.A (newList []) (fun acc s3=>wpAny (model X.prog X.w) X.A (newFunctionEnv sc X.env.globals (iK sc X.env) [] X.env.qual none .none (some X.env)) (fun zi s4=>codeAny (model X.prog X.w) X.A (.compStart (.ListComp elt [⟨tg,iter,ifs,0⟩] sc pos) 0 (.ref it) acc { zi with scope:=relabel sc X.env}) (RR acc zi.locals) s4) E s3) E s:=by
 have dS:∀ b∈fp,b < s.heap.objs.size:=fun b hb=>by
   obtain⟨o,e,_⟩:=T.obj _ _ h0 b hb
   exact Heap.lt_size e
 refine wpAny_newObj_type (KU B.one ?_)
 dsimp only
 generalize hG:s.heap.push { cls:=.type "list",dict:=none,data:=.seq ([]:List Value).toArray}=g'
 generalize hH1:(g'.push { cls:=.type "dict",data:=.dict #[]}).push { cls:=.type "cell",data:=.cell none}=h1
 have hC:g'.objs.size=s.heap.objs.size+1:=by rw[← hG,Heap.size_push]
 have hDC:s.heap.objs.size≠g'.objs.size:=by rw[hC];exact Nat.ne_of_lt (Nat.lt_succ_self _)
 have old:∀ b o,s.heap.get? b=some o→h1.get? b=some o:=fun b o e=>by
   rw[← hH1,← hG]
   exact Heap.get?_push_of_some _ (Heap.get?_push_of_some _ (Heap.get?_push_of_some _ e))
 have Ge:h1.get? s.heap.objs.size=some { cls:=.type "list",data:=.seq ([]:List Value).toArray 0}:=by
   rw[← hH1,← hG]
   exact Heap.get?_push_of_some _ (Heap.get?_push_of_some _ (Heap.get?_push_size _ rfl))
 have Fc:h1.Ns g'.objs.size fun _=>none:=by
   rw[← hH1]
   exact(Heap.Ns.new g' (.type "dict")).keeps fun b o e=>Heap.get?_push_of_some _ e
 have hce:h1.IsCell (g'.objs.size+1) none:=by
   rw[← hH1]
   have e:g'.objs.size+1=(g'.push { cls:=.type "dict",data:=.dict #[]}).objs.size:=by rw[Heap.size_push]
   rw[e]
   exact⟨_,Heap.get?_push_size _ rfl,rfl⟩
 have hD:H s.heap.objs.size=none:=I.bU.fresh (Nat.le_refl _)
 obtain⟨W,⟨m0,w0⟩,turn⟩:=hq _ hD
 have I0:=Bm (t':=s.toks) B I hf dS hC (show g'.objs.size+1=s.heap.objs.size+2 by rw[hC]) old Fc hce Ge
 have Nm:tj 0 h1:=T.keep _ _ _ h0 fun b _ o e=>old b o e
 have k7:s.heap.objs.size≤g'.objs.size:=by rw[hC];exact Nat.le_succ _
 have mY:∀ {H':Hp},(∀ b∈fp,H' b=none)→∀ b∈fp,ir (iL X N sc xt (g'.objs.size+1) g'.objs.size fp s H) [] H' b:=fun {H'} hn b hb=>
   ⟨hn b hb,((rE B I k7 (Nat.le_trans k7 (Nat.le_succ _)) hf dS).JX b hb).1,(rE B I k7 (Nat.le_trans k7 (Nat.le_succ _)) hf dS).yD b hb,.inl hb,((rE B I k7 (Nat.le_trans k7 (Nat.le_succ _)) hf dS).JX b hb).2,fun p hp=>absurd (show p∈([]:List (Addr×Obj)) from hp) (by simp)⟩
 have loop:∀ s3:Shared,s3={ s with heap:=h1} →
     codeAny (model X.prog X.w) X.A (.compLoop (.ListComp elt [⟨tg,iter,ifs,0⟩] sc pos) 0 (.ref it) (.ref s.heap.objs.size) (compEnvC sc ((xt,g'.objs.size+1)::iK sc X.env) g'.objs.size X.env)) (RR (.ref s.heap.objs.size) g'.objs.size) s3:=by
   rintro s3 rfl
   refine zp (fun n s'=>∃ i ys σ H',σ.length=1∧L2.Inv (iL X N sc xt (g'.objs.size+1) g'.objs.size fp s H) [] (σ ++ frees ix st) H' s'∧tj i s'.heap∧(∀ b∈fp,H' b=none)∧W i n ys H') ?_ m0
     ⟨0,[],List.replicate 1 none,_,by simp,I0,Nm,fun b hb=>?_,w0⟩
   . rintro n s5 ⟨i,ys,σ,H5,hσ,I5,Fb,JH,w5⟩
     rcases turn i n ys H5 w5 with⟨stop,qn⟩ | ⟨go,hz,step⟩
     . refine cM (T.done (iL X N sc xt (g'.objs.size+1) g'.objs.size fp s H) rfl rfl rfl hc i [] s5 _ H5 uN I5 (mY JH) Fb stop) fun r s6 ⟨hr,I6⟩=>?_
       subst hr
       refine Ue _ _ ys H5 s6 ?_ ?_ (I.uH k7 I6.free) qn
       . exact I.FC I6.os I6.base I6.bU I6.bare fun b hb=>⟨(hf b hb).2.2.2.1,(hf b hb).2.1,(hf b hb).2.2.2.2.1,(hf b hb).2.2.2.2.2⟩
       . obtain⟨m,hm,_⟩:=I6.loc
         exact⟨m,hm⟩
     . refine cM (T.item (iL X N sc xt (g'.objs.size+1) g'.objs.size fp s H) rfl rfl rfl hc i [] s5 _ H5 uN I5 (mY JH) Fb go) fun r s6 ⟨u,hr,h6⟩=>?_
       subst hr
       refine cM h6 fun _ s7 ⟨v,H7,I7,r7,y7,Gf,Ug⟩=>?_
       have Uh:=I7.pinned (mY Ug) (T.obj _ _ Gf)
       refine cM (hg (g'.objs.size+1) g'.objs.size fp s H _ s7 _ H7 v u _ Uh r7 (step σ hσ v H7 y7)) fun _ s8 h8=>?_
       obtain⟨σ8,H8,I8,σ',e8,Uv,h8⟩:=h8
       subst e8
       have pinned:∀ {σ9:L2.St} {H9:Hp} {s9:Shared},L2.Inv (iL X N sc xt (g'.objs.size+1) g'.objs.size fp s H) ([] ++ o6 fp s7.heap) σ9 H9 s9→tj (i+1) s9.heap∧∀ b∈fp,H9 b=none:=fun {σ9 H9 s9} I9=>by
         refine⟨T.keep _ _ _ Gf fun b hb o e=>(I9.pin (b,o) (List.mem_append_right _ (List.mem_append_right _ (eP hb e)))).1,fun b hb=>?_⟩
         obtain⟨o,e,d⟩:=T.obj _ _ Gf b hb
         exact(I9.pin (b,o) (List.mem_append_right _ (List.mem_append_right _ (eP hb e)))).2.1
       refine cM (ht (g'.objs.size+1) g'.objs.size fp s H _ s8 _ H8 _ I8 h8) fun ok s8' KC=>?_
       obtain⟨H8',KD,KC⟩:=KC
       cases ok with
       | false=>
         obtain⟨m',hm,w8⟩:=KC
         exact⟨m',hm,i+1,ys,σ',_,Uv,KD.gq (pins:=[]),(pinned KD).1,(pinned KD).2,w8⟩
       | true=>
         refine cM (gL (g'.objs.size+1) g'.objs.size fp s H _ s8' _ H8' _ KD KC) fun z s9 ⟨y,H9,I9,r9,Ui,m',hm,w9⟩=>?_
         refine cM (lO _ s9 _ H9 (.ref s.heap.objs.size) [y] (.ref s.heap.objs.size) [z] (fun _ H'=>H'=upd H9 s.heap.objs.size (.lst (ys ++ [y]))) I9 rfl (.cons r9 .nil) ⟨_,ys,y,rfl,rfl,Ui,hz,rfl⟩) fun _ s10 Uj=>?_
         obtain⟨_,H10,Gg,_,rfl⟩:=Uj
         exact⟨m',hm,i+1,ys ++ [y],σ',_,Uv,Gg.gq (pins:=[]),(pinned Gg).1,(pinned Gg).2,w9⟩
   . rw[ah (Nat.ne_of_lt (dS b hb))]
     exact(hf b hb).1
 exact codeAny_compStart_list (loop _ rfl) (T.self _ 0 _ _ _ Nm (loop _ rfl))
theorem sR {env:Env}{y:Str}:∀ {names:List (Str×NameKind)},names.lookup y=some .cell→(names.map fun(n,k)=>if (k == NameKind.free && env.scope.kind == .function && env.kindOf n == some .cell) then (n,NameKind.cell) else (n,k)).lookup y=some .cell
 | [],h=>by simp at h
 | (n,kk)::r,h=>by
   rw[List.map_cons,List.lookup_cons]
   rw[List.lookup_cons] at h
   cases q:(y == n) with
   | true=>
     rw[q] at h
     have:kk=.cell:=Option.some.inj h
     subst this
     simp[q]
   | false=>
     rw[q] at h
     have ih:=sR (env:=env) h
     by_cases hc:(kk == NameKind.free && env.scope.kind == .function && env.kindOf n == some .cell)=true
     . simp only[hc,if_true,q];exact ih
     . simp only[hc,Bool.false_eq_true,if_false,q];exact ih
end
section
variable {X:Cx}{G:Gr}{E:XK}{dl:List Slot}{a b elt iter tg:Expr}{ifs:List Expr}{i j:Int}{d:Dt}{pos p px py pc uO:Pos}{o:Out}{xt y:Str}{N:List Str}{ix:List Nat}{sc:Scope}{n:Nat}
variable {α:Type}{as:List α}{z f:α→Dt}{sl:α→List Slot}{keep:α→Bool}{g:TG}{wi:TI}
inductive wY (X:Cx)(N:List Str)(xt:Str)(sc:Scope)(dl:List Slot)(ix:List Nat)(as:List α)(sl:α→List Slot)(keep:α→Bool):List Expr→Prop
 | nil:(∀ a∈as,keep a=true)→wY X N xt sc dl ix as sl keep []
 | one {ce:Expr}:(∀ a∈as,∀ c C fp s H G',EB (iL X N sc xt c C fp s H) G' (sl a ++ fN dl ix) ce (keep a))→wY X N xt sc dl ix as sl keep [ce]
theorem KY (h:wY X N xt sc dl ix as sl keep ifs):∀ c C fp s H,Nr (iL X N sc xt c C fp s H) ifs (KH X.K dl ix as sl keep):=fun c C fp s H=>by
 cases h with
 | nil h=>exact fun pins s' st H' Q I ⟨a,G',ha,Hf,S,k⟩=>wpAny_tests_nil ⟨H',I,by have:=k Hf H' (.refl S.sub);rw[h a ha] at this;exact this⟩
 | one h=>exact CK fun pins s' st H' Q I ⟨a,G',ha,q⟩=>h a ha c C fp s H G' pins s' st H' Q I q
def UU (X:Cx)(N:List Str)(xt:Str)(sc:Scope)(dl:List Slot)(ix:List Nat)(as:List α)(sl:α→List Slot)(keep:α→Bool)(f:α→Dt)(elt:Expr):Prop:=∀ a∈as,keep a=true→∀ c C fp s H G',EE (iL X N sc xt c C fp s H) G' (sl a ++ fN dl ix) elt (f a)
theorem PL (h:UU X N xt sc dl ix as sl keep f elt):∀ c C fp s H,PE (iL X N sc xt c C fp s H) elt (KI X.K dl ix as sl keep f):=fun c C fp s H pins s' st H' Q I ⟨a,G',ha,hk,q⟩=>h a ha hk c C fp s H G' pins s' st H' Q I q
theorem PM {tt:TT}{te:TE}(hc:X.calm=true)(B:wX X N xt ix sc)(hi:PI X tg iter wi)(hg:∀ c C fp s H,PG (iL X N sc xt c C fp s H) tg g)(ht:∀ c C fp s H,Nr (iL X N sc xt c C fp s H) ifs tt)(gL:∀ c C fp s H,PE (iL X N sc xt c C fp s H) elt te)(hs:∀ z,foldedSetIterable iter X.env z=pure z):PE X (.ListComp elt [⟨tg,iter,ifs,0⟩] sc pos) (KJ wi 1 ix g tt te):=by
 intro pins s st H Q I h
 rw[eval_ListComp]
 refine wpAny_comprehension_free (use:=none) rfl hs (KW B I.ok) B.kind B.names (cM (hi pins s st H _ I h) fun v s1 h1=>cM h1 fun OA s2 h2=>?_)
 obtain⟨it,fp,tj,J,H2,e,I2,T,E9,f2,hq⟩:=h2
 subst e
 refine GY (RR:=fun acc C=>compPost (model X.prog X.w) X.A X.xe none (EP X pins st Q) acc C) hc B hg ht gL I2 T E9 f2 hq ?_
 intro D C ws H' s' I' ⟨m,hn⟩ l6 q
 exact⟨m,hn,fun h' Kz=>⟨.ref D,H',I'.turned (t':=s'.toks) (it:=C) (fun b o hb e=>(Kz.2 b hb).trans e) l6.1 l6.2.1 l6.2.2.2.1 l6.2.2.2.2.1 l6.2.2.2.2.2,rfl,q⟩⟩
theorem PN (as:List α)(z f:α→Dt)(sl:α→List Slot)(keep:α→Bool)(hc:X.calm=true)(B:wX X N xt ix sc)(hi:PI X tg iter wi)(hg:∀ c C fp s H,PG (iL X N sc xt c C fp s H) tg g)(sH:qv X G dl (as.map z) wi)(Gz:∀ a∈as,Pn X.K 1 g (z a) (sl a))(GA:wY X N xt sc dl ix as sl keep ifs)(gL:UU X N xt sc dl ix as sl keep f elt)(hn:as.length≤sizeLine)(hs:∀ z,foldedSetIterable iter X.env z=pure z:=by intro _;rfl):EO X G dl (.ListComp elt [⟨tg,iter,ifs,0⟩] sc pos) (.lst ((as.filter keep).map f)):=fh (PM hc B hi hg (KY GA) (PL gL) hs) (pF sH Gz hn)
theorem GZ {px:Pos}(B:wX X N xt ix sc):∀ c C fp s H,PG (iL X N sc xt c C fp s H) (.Name xt px) (mF 0):=fun c C fp s H=>by
 have hN:(iL X N sc xt c C fp s H).N[0]?=some xt:=by
   show N[0]?=some xt
   rw[B.nm];rfl
 have Ec:(iL X N sc xt c C fp s H).env.scope.names.lookup xt=some .cell:=sR B.hx
 exact cD (X:=iL X N sc xt c C fp s H) B.nd hN (.inr Ec) (.inl (by show(xt == xt)=true;simp))
end
def G1 (sc zo:Scope)(XN N:List Str)(xt:Str)(ix:List Nat):Bool:=
 decide N.Nodup && (decide (N=xt::ix.map (fun j=>XN.getD j "")) && (decide (sc.kind=.function) && (decide (sc.names.filter (fun y=>y.2 == .cell)=[(xt,.cell)]) && (sc.names.all (fun y=>decide (y.2=.local→sc.names.lookup y.1=some .local)) && (decide (sc.names.lookup xt=some .cell) && (sc.names.all (fun y=>decide (y.2=.free→y.1≠xt)) &&
   (sc.names.all (fun y=>decide (y.2=.free→zo.names.lookup y.1=some .cell∨zo.names.lookup y.1=some .free)) && ix.all (fun j=>decide (sc.names.lookup (XN.getD j "")=some .free) && decide (j < XN.length)))))))))
theorem Ny {X:Cx}{sc zo:Scope}{XN N:List Str}{xt:Str}{ix:List Nat}(h:G1 sc zo XN N xt ix=true)(e1:X.env.scope=zo:=by rfl)(e2:X.N=XN:=by rfl):wX X N xt ix sc:=by
 subst e1 e2
 unfold G1 at h
 simp only[Bool.and_eq_true,List.all_eq_true,decide_eq_true_eq] at h
 obtain⟨h1,h2,h3,h4,h5,h6,h6',h7,h8⟩:=h
 refine⟨h1,h2,h3,h4,h5,h6,h6',h7,fun j hj=>?_⟩
 obtain⟨q1,q2⟩:=h8 j hj
 refine⟨X.N.getD j "",?_,q1⟩
 rw[List.getD_eq_getElem?_getD,List.getElem?_eq_getElem q2];rfl
end Sg
namespace Sg
open PySem PySem.Spec PyProof.Rows L2
def mk:HO→Bool
 | .memo _=>true
 | .cm _ _=>true
 | _=>false
theorem Rd.ex {H:Hp}{a C dx:Addr}{fs:List (Str×V)}(h:Rd H a (.ins C dx fs)):∃ o,H a=some o∧mk o=false∧(∀ x,o≠.dK x)∧∀ H':Hp,H' a=some o→Rd H' a (.ins C dx fs):=by
 rcases h with h | ⟨o,h⟩ | ⟨tg,o,kvs,h,z⟩ | ⟨o,h⟩
 . exact⟨_,h,rfl,(fun _ z=>nomatch z),fun H' e=>.inl e⟩
 . exact⟨_,h,rfl,(fun _ z=>nomatch z),fun H' e=>.inr (.inl ⟨o,e⟩)⟩
 . cases z
 . exact⟨_,h,rfl,(fun _ z=>nomatch z),fun H' e=>.inr (.inr (.inr ⟨o,e⟩))⟩
theorem cP.mkd {H:Hp}{a:Addr}{ls:gK}(h:cP H a ls):∃ o,H a=some o∧mk o=true:=by
 rcases h with h | ⟨ns,h⟩
 . exact⟨_,h,rfl⟩
 . exact⟨_,h,rfl⟩
theorem cP.inj {H:Hp}{a:Addr}{ls ls':gK}(h:cP H a ls)(h':cP H a ls'):ls=ls':=by
 rcases h with h | ⟨ns,h⟩ <;> rcases h' with h' | ⟨ns',h'⟩ <;> rw[h] at h' <;> cases h' <;> rfl
section
variable {K:PySem.W.Frag}{Hf H:Hp}{a:Addr}{ls:gK}{u:HO}
theorem KZ (hm:cP Hf a ls){b:Addr}{o:HO}(h:Hf b=some o)(n:mk o=false):b≠a:=fun e=>by
 obtain⟨o',h1,h2⟩:=hm.mkd
 rw[e,h1] at h;cases h
 rw[h2] at n;cases n
theorem bT (hm:cP Hf a ls){b:Addr}{o:HO}(h:Hf b=some o)(n:mk o=false):(upd Hf a u) b=some o:=by rw[ah (KZ hm h n)];exact h
theorem n6 (hm:cP Hf a ls)(hu:mk u=true):Kp Hf (upd Hf a u):=⟨fun b o e kq=>bT hm e (by cases o <;> first | rfl | exact(show False from kq).elim),fun b e=>by
 by_cases q:b=a
 . rw[q,aq]
   cases u <;> first | trivial | cases hu
 . rw[ah q];exact e,fun b x e=>bT hm e rfl⟩
def jv (ls:gK)(u:HO):Prop:=u=.memo ls∨∃ ns,u=.cm ls ns
theorem jv.mk {ls:gK}{u:HO}(h:jv ls u):mk u=true:=by rcases h with rfl | ⟨ns,rfl⟩ <;> rfl
theorem Eo (hm:cP Hf a ls)(hu:jv ls u){b:Addr}{ls':gK}(h:cP Hf b ls'):cP (upd Hf a u) b ls':=by
 by_cases e:b=a
 . subst e
   rw[h.inj hm]
   rcases hu with rfl | ⟨ns,rfl⟩
   . exact .inl aq
   . exact .inr ⟨ns,aq⟩
 . rcases h with h | ⟨ns,h⟩
   . exact .inl (by rw[ah e];exact h)
   . exact .inr ⟨ns,by rw[ah e];exact h⟩
theorem jV (hm:cP Hf a ls)(hu:jv ls u){p:Addr}{f:Nat→List (Key×FD)}{n:Nat}(h:Known Hf p f n):Known (upd Hf a u) p f n:=fun i hi=>let ⟨q,o,kvs,h1,h2⟩:=h i hi;⟨q,o,kvs,bT hm h1 rfl,h2.kp (n6 hm hu.mk)⟩
theorem PQ (hm:cP Hf a ls){b:Addr}{vs:List V}(s:Az K Hf b vs):Az K (upd Hf a u) b vs:=by
 rcases s with s | s
 . exact .inl (bT hm s rfl)
 . exact .inr s
theorem G3 (hm:cP Hf a ls){b C dx:Addr}{fs:List (Str×V)}(s:Rd Hf b (.ins C dx fs)):Rd (upd Hf a u) b (.ins C dx fs):=by
 rcases s with s | ⟨o,s⟩ | ⟨_,_,_,_,s⟩ | ⟨o,s⟩
 . exact .inl (bT hm s rfl)
 . exact .inr (.inl ⟨o,bT hm s rfl⟩)
 . cases s
 . exact .inr (.inr (.inr ⟨o,bT hm s rfl⟩))
theorem PR (hm:cP Hf a ls){b:Addr}{vs:List V}(s:jM K Hf b vs):jM K (upd Hf a u) b vs:=by
 rcases s with(s | ⟨o,s⟩ | ⟨_,_,_,_,s⟩ | ⟨o,s⟩) | s
 . exact .inl (.inl (bT hm s rfl))
 . exact .inl (.inr (.inl ⟨o,bT hm s rfl⟩))
 . cases s
 . exact .inl (.inr (.inr (.inr ⟨o,bT hm s rfl⟩)))
 . exact .inr s
mutual
def pJ (a:Addr):Dt→Bool
 | .tup ds=>G4 a ds
 | .lst ds=>G4 a ds
 | .eB kds=>wZ a kds
 | .pk kds=>wZ a kds
 | .eu kds=>wZ a kds
 | .obj _ fs=>ig a fs
 | .Cy _ fs=>ig a fs
 | .memo b _ _ _=>decide (b≠a)
 | .uK _ _ _ _ _=>false
 | _=>true
def G4 (a:Addr):List Dt→Bool
 | []=>true
 | d::r=>pJ a d && G4 a r
def wZ (a:Addr):List (Key×Dt)→Bool
 | []=>true
 | (_,d)::r=>pJ a d && wZ a r
def ig (a:Addr):List (Str×Dt)→Bool
 | []=>true
 | (_,d)::r=>pJ a d && ig a r
end
mutual
theorem fE (hm:cP Hf a ls)(hu:jv ls u):∀ {v:V} {d:Dt},pJ a d=true→Rep K Hf v d→Rep K (upd Hf a u) v d
 | _,_,_,.dQ=>.dQ
 | _,_,_,.bl b=>.bl b
 | _,_,_,.int i=>.int i
 | _,_,_,.str x=>.str x
 | _,.tup ds,h,.tup s r=>.tup (PQ hm s) (pK hm hu (by rw[pJ] at h;exact h) r)
 | _,.lst ds,h,.lst s r=>.lst (bT hm s rfl) (pK hm hu (by rw[pJ] at h;exact h) r)
 | _,_,_,.lP s=>.lP (PR hm s)
 | _,.eB _,h,.eB s r=>.eB (bT hm s rfl) (lW hm hu (by rw[pJ] at h;exact h) r)
 | _,.obj _ _,h,.obj s r=>.obj (G3 hm s) (fS hm hu (by rw[pJ] at h;exact h) r)
 | _,_,_,.ty n=>.ty n
 | _,_,_,.cls C=>.cls C
 | _,_,_,.xo s r=>.xo (bT hm s rfl) r
 | _,.pk _,h,.pk s r=>.pk (bT hm s rfl) (lW hm hu (by rw[pJ] at h;exact h) r)
 | _,.Cy _ _,h,.Cy s q g r=>.Cy (bT hm s rfl) q (bT hm g rfl) (fS hm hu (by rw[pJ] at h;exact h) r)
 | _,.eu _,h,.eu s r=>.eu (bT hm s rfl) (lW hm hu (by rw[pJ] at h;exact h) r)
 | _,.memo b _ _ _,h,.memo h1 h2 h3 h4=>.memo h1 (by rw[pJ] at h;rw[ah (of_decide_eq_true h)];exact h2) (h3.imp id fun z=>bT hm z rfl) (jV hm hu h4)
 | _,_,_,.eA h1 h2 h3 h4=>.eA h1 (Eo hm hu h2) (h3.imp id fun z=>bT hm z rfl) (jV hm hu h4)
 | _,_,_,.uG h=>.uG fun j p f z=>jV hm hu (h j p f z)
 | _,.uK _ _ _ _ _,h,.uK _ _ _=>by rw[pJ] at h;cases h
 | _,_,_,.fD s=>.fD (s.st (n6 hm hu.mk).st)
 | _,_,_,.jo s=>.jo (bT hm s rfl)
theorem pK (hm:cP Hf a ls)(hu:jv ls u):∀ {v:List V} {d:List Dt},G4 a d=true→bY K Hf v d→bY K (upd Hf a u) v d
 | _,_,_,.nil=>.nil
 | _,d::ds,h,.cons r t=>by
   rw[G4,Bool.and_eq_true] at h
   exact .cons (fE hm hu h.1 r) (pK hm hu h.2 t)
theorem lW (hm:cP Hf a ls)(hu:jv ls u):∀ {v:List (Key×V)} {d:List (Key×Dt)},wZ a d=true→dv K Hf v d→dv K (upd Hf a u) v d
 | _,_,_,.nil=>.nil
 | _,(k,d)::ds,h,.cons r t=>by
   rw[wZ,Bool.and_eq_true] at h
   exact .cons (fE hm hu h.1 r) (lW hm hu h.2 t)
theorem fS (hm:cP Hf a ls)(hu:jv ls u):∀ {v:List (Str×V)} {d:List (Str×Dt)},ig a d=true→bS K Hf v d→bS K (upd Hf a u) v d
 | _,_,_,.nil=>.nil
 | _,(k,d)::ds,h,.cons r t=>by
   rw[ig,Bool.and_eq_true] at h
   exact .cons (fE hm hu h.1 r) (fS hm hu h.2 t)
end
def fT (Hf H:Hp):Hp:=fun b=>match H b with
 | some (.kd tg o kvs)=>some (.kd tg o kvs)
 | some (.kx o u)=>some (.kx o u)
 | some (.tup xs)=>some (.tup xs)
 | _=>Hf b
theorem w4 {b:Addr}{u:HO}(h:H b=some u)(k:Kept u):fT Hf H b=some u:=by
 unfold fT;rw[h]
 cases u <;> first | rfl | exact(show False from k).elim
theorem CW {b:Addr}{tg:Option (Addr×Nat)}{o:Obj}{kvs:List (Key×V)}(h:H b=some (.kd tg o kvs)):fT Hf H b=some (.kd tg o kvs):=by unfold fT;rw[h]
theorem lX (b:Addr):(∃ u,H b=some u∧Kept u∧fT Hf H b=some u)∨fT Hf H b=Hf b:=by
 unfold fT
 cases h:H b with
 | none=>exact .inr rfl
 | some u=>cases u <;> first | exact .inr rfl | exact .inl ⟨_,rfl,trivial,rfl⟩
theorem e6 (s:aL Hf H):aL Hf (fT Hf H):=fun b u e=>by
 rcases lX (Hf:=Hf) (H:=H) b with⟨u',h1,_,h3⟩ | h
 . rw[s _ _ e] at h1;cases h1;exact h3
 . rw[h];exact e
theorem k9 (s:aL Hf H):aL (fT Hf H) H:=fun b u e=>by
 rcases lX (Hf:=Hf) (H:=H) b with⟨u',h1,_,h3⟩ | h
 . rw[h3] at e;cases e;exact h1
 . rw[h] at e;exact s _ _ e
theorem lY (s:aL Hf H):bX Hf H (fT Hf H) H:=⟨aL.refl _,e6 s,k9 s,fun b u e=>by
 rcases lX (Hf:=Hf) (H:=H) b with⟨u',h1,h2,h3⟩ | h
 . rw[h3] at e;cases e;exact .inr (.inr h2)
 . rw[h] at e;exact .inl ⟨u,e⟩⟩
end
def fdD:FD→Dt
 | .int i=>.int i
 | .eB kds=>.eu (dI kds)
 | d=>.fD d
def kI (fd:List (Key×FD)):List (Key×Dt):=fd.map fun kd=>(kd.1,fdD kd.2)
theorem vN {K:PySem.W.Frag}{H:Hp}:∀ (kds:List (Key×Int)),dv K H (kds.map fun kd=>(kd.1,V.int kd.2)) (dI kds)
 | []=>.nil
 | (k,i)::r=>.cons (.int i) (vN r)
theorem G5 {K:PySem.W.Frag}{H:Hp}:∀ {v:V} {d:FD},Fz H v d→Rep K H v (fdD d)
 | _,_,.int i=>.int i
 | _,_,.eB e=>.eu e (vN _)
 | _,_,.lst e=>.fD (.lst e)
 | _,_,.tup e=>.fD (.tup e)
 | _,_,.obj e f=>.fD (.obj e f)
theorem rF {K:PySem.W.Frag}{H:Hp}:∀ {kvs:List (Key×V)} {fd:List (Key×FD)},oY H kvs fd→dv K H kvs (kI fd)
 | _,_,.nil=>.nil
 | _,_,.cons h t=>.cons (G5 h) (rF t)
theorem Nz {K:PySem.W.Frag}{H:Hp}:∀ {v:V} {d:FD},Rep K H v (fdD d)→Fz H v d
 | _,.int i,r=>by cases r;exact .int i
 | _,.lst ns,r=>by cases r with | fD h=>exact h
 | _,.tup K ns,r=>by cases r with | fD h=>exact h
 | _,.obj C fs,r=>by cases r with | fD h=>exact h
 | _,.eB kds,r=>by
   cases r with
   | @eu a tg ob kvs _ h r=>
     rw[KS r] at h
     exact .eB h
theorem m7 {K:PySem.W.Frag}{H:Hp}:∀ {kvs:List (Key×V)} {fd:List (Key×FD)},dv K H kvs (kI fd)→oY H kvs fd
 | _,[],.nil=>.nil
 | _,(k,d)::fd,.cons h t=>.cons (Nz h) (m7 t)
theorem PU {H H':Hp}(k:∀ b u,H b=some u→Kept u→H' b=some u){v:V}{d:FD}(h:Fz H v d):Fz H' v d:=h.st k
theorem e9 {H H':Hp}(k:∀ b u,H b=some u→Kept u→H' b=some u):∀ {kvs:List (Key×V)} {kds:List (Key×FD)},oY H kvs kds→oY H' kvs kds
 | _,_,.nil=>.nil
 | _,_,.cons h t=>.cons (PU k h) (e9 k t)
section
variable {X:Cx}{G:Gr}{E:XK}{dl:List Slot}{a b e i:Expr}{pos p:Pos}{ls:gK}{j n:Nat}{l:Addr}{f:Nat→List (Key×FD)}{ns:List Nat}
theorem K0:Sy X (fun x y H Q=>∃ (p:Addr) (k:Nat) (q:Addr) (o:Obj) (kvs:List (Key×V)),x=.ref p∧y=.int (k:Int)∧H q=some (.kd (some (p,k)) o kvs)∧k < 10000∧Q (.ref q) H):=by
 intro value slice pins s σ H x y v u Q I rx ry h hs
 obtain⟨p,k,q,o,kvs,rfl,rfl,hq,hk,kk⟩:=h
 cases rx
 obtain⟨t,rfl⟩:=ry
 obtain⟨_,_,hm⟩:=(show bc X.prog X.w H s.heap q (.kd (some (p,k)) o kvs) from I.bU q _ hq)
 obtain⟨_,aI,c,e1,e2⟩:=hm p k rfl
 have hn:=i7
 exact item_listR (items:=aI.toArray) ⟨_,e1,rfl,c,rfl⟩ (by omega) (by omega) (by rw[Int.toNat_natCast];simpa using e2) ⟨.ref q,H,I,rfl,kk⟩ hs
theorem Bo {k:Nat}(hb:EE X G dl b (.memo l ls j n))(hi:EE X G dl i (.int (k:Int)))(hf:(ls.map (·.2))[j]?=some f)(hk:k < n)(hn:n≤1000)(hs:ia i:=by intro _ _;rfl):EE X G dl (.Subscript b i pos) (.eu (kI (f k))):=
 fh (si K0 hb hi hs) fun st H Q ⟨Hf,S,kk⟩=>⟨Hf,S,fun v aA H1 g1 r1=>⟨aA,S.grow g1,fun w cU H2 g2 r2=>by
   cases r2
   cases r1 with
   | @memo _ p _ _ _ f' h1 h2 h3 h4=>
     have e:f'=f:=by
       rw[List.getElem?_map,h1] at hf
       exact Option.some.inj hf
     subst e
     obtain⟨q,o,kvs,q1,q2⟩:=h4 k hk
     exact⟨p,k,q,o,kvs,rfl,rfl,g2.big _ _ (g1.sub _ _ q1),by omega,kk _ cU H2 (g1.trans g2) (.eu (g2.b8 _ _ q1) (rF (q2.kp (.of g2.b8))))⟩⟩⟩
theorem G6:Sy X (fun x y H Q=>∃ (a:Addr) (ls:gK) (ns:List Nat) (j:Nat) (p:Addr) (f:Nat→List (Key×FD)) (N:Nat),x=.ref p∧y=.int (-1)∧H a=some (.cm ls ns)∧ls[j]?=some (p,f)∧ns[j]?=some N∧0 < N∧∀ q o kvs,H q=some (.kd (some (p,N - 1)) o kvs)→oY H kvs (f (N - 1))→Q (.ref q) H):=by
 intro value slice pins s σ H x y v u Q I rx ry h hs
 obtain⟨a,ls,ns,j,p,f,N,rfl,rfl,ha,hj,hN,h0,kk⟩:=h
 cases rx
 obtain⟨t,rfl⟩:=ry
 obtain⟨_,_,_,_,_,h5,h6⟩:=(show bc X.prog X.w H s.heap a (.cm ls ns) from I.bU a _ ha)
 obtain⟨aI,c,e1,e2,e3⟩:=h6 j p f N hj hN
 obtain⟨q,o,kvs,q1,q2,q3⟩:=e3 (N - 1) (by omega)
 have hn:=i7
 have hN':=h5 N (List.mem_of_getElem? hN)
 have hl:Heap.IsList s.heap p aI.toArray:=⟨_,e1,rfl,c,rfl⟩
 exact subscriptTail_builtinR (x:=.ref q) hl.typeIs slot_list_getitem.lookup
     (wpAny_getItem_list_neg (Q:=fun r s'=>r=.ref q∧EP X pins σ Q r s') hl (by omega) (by rw[List.size_toArray] <;> omega) (by omega) (by rw[List.size_toArray,e2,show((-1:Int)+(N:Nat)).toNat=N - 1 by omega];simpa using q1) ⟨rfl,.ref q,H,I,rfl,kk q o kvs q2 q3⟩) hs
theorem zD {N:Nat}(hx:G.Hf l=some (.cm ls ns))(hb:EE X G dl b (.eA l ls j n))(hi:EE X G dl i (.int (-1)))(hf:(ls.map (·.2))[j]?=some f)(hN:ns[j]?=some N)(h0:0 < N)(hs:ia i:=by intro _ _;rfl):EE X G dl (.Subscript b i pos) (.eu (kI (f (N - 1)))):=
 fh (si G6 hb hi hs) fun st H Q ⟨Hf,S,kk⟩=>⟨Hf,S,fun v aA H1 g1 r1=>⟨aA,S.grow g1,fun w cU H2 g2 r2=>by
   cases r2
   cases r1 with
   | @eA _ p _ _ _ f' h1 h2 h3 h4=>
     have e:f'=f:=by
       rw[List.getElem?_map,h1] at hf
       exact Option.some.inj hf
     subst e
     have g:=g1.trans g2
     refine⟨l,ls,ns,j,p,f',N,rfl,rfl,g.sub _ _ (g.b8 _ _ (S.gr.b8 _ _ hx)),h1,hN,h0,fun q o kvs q1 q2=>?_⟩
     have ga:=lY g2.sub
     exact kk _ _ H2 (g.trans ga) (.eu (CW q1) (rF (e9 (fun b u e kq=>w4 e kq) q2)))⟩⟩
theorem Ep:gZ X (.builtin "len") (fun xs H Q=>∃ (a:Addr) (ls:gK) (ns:List Nat) (j:Nat) (p:Addr) (f:Nat→List (Key×FD)) (N:Nat),xs=[.ref p]∧H a=some (.cm ls ns)∧ls[j]?=some (p,f)∧ns[j]?=some N∧Q (.int (N:Nat)) H):=by
 intro pins s σ H xs us Q I r h
 obtain⟨a,ls,ns,j,p,f,N,rfl,ha,hj,hN,q⟩:=h
 obtain⟨u,rfl,rx⟩:=vals1 r
 cases rx
 obtain⟨_,_,_,_,_,h5,h6⟩:=(show bc X.prog X.w H s.heap a (.cm ls ns) from I.bU a _ ha)
 obtain⟨aI,c,e1,e2,e3⟩:=h6 j p f N hj hN
 have hn:=i7
 have hN':=h5 N (List.mem_of_getElem? hN)
 have hl:Heap.IsList s.heap p aI.toArray:=⟨_,e1,rfl,c,rfl⟩
 exact Calls.call_len_list hl (by simp only[List.size_toArray] <;> omega) ⟨.int (N:Nat),H,I.tok _,⟨s.toks+1,by rw[List.size_toArray,e2]⟩,q⟩
theorem CY {N:Nat}(hm:X.mg "len"=none)(hx:G.Hf l=some (.cm ls ns))(hb:EE X G dl b (.eA l ls j n))(hN:ns[j]?=some N)(hg:Gl X "len":=by rfl)(he:starEach [b] X.env=[(false,eval b X.env)]:=by rfl):EE X G dl (.Call (.Name "len" p) [b] [] pos) (.int (N:Nat)):=
 fh (eQ Ep hg hm PySem.boot_len (ae hb ao he) (he:=he)) fun st H Q ⟨Hf,S,kk⟩=>⟨Hf,S,fun vs aA H1 g1 r1=>by
   cases r1 with
   | cons r t=>cases t;cases r with
     | @eA _ p _ _ _ f' h1 h2 h3 h4=>exact⟨l,ls,ns,j,p,f',N,rfl,g1.sub _ _ (g1.b8 _ _ (S.gr.b8 _ _ hx)),h1,hN,kk _ aA H1 g1 (.int _)⟩⟩
theorem iw {d:Dt}{k:Str}{kds:List (Key×Dt)}(hu:X.A.units+1 < cLine)(ho:EE X G dl b (.eu kds))(hi:EE X G dl i (.str k))(h:jt kds (.inr k)=some d)(hs:Ki i):EE X G dl (.Subscript b i pos) d:=
 fh (Cu hu ho hi hs) fun st H Q ⟨Hf,S,kk⟩=>⟨Hf,S,fun v aA H1 g1 r1=>⟨aA,S.grow g1,fun w cU H2 g2 r2=>by
   cases r2
   cases r1 with
   | @eu q tg ob kvs _ hq rp=>
     obtain⟨y,z1,z2⟩:=rp.val h
     have e:qp H2 q (kV (.inr k)) (k4 kvs (.inr k)):=.inl ⟨kvs,.inr k,.inr (.inr (.inl ⟨tg,ob,kvs,g2.big _ _ (g1.sub _ _ hq),rfl⟩)),rfl,rfl⟩
     rw[z1] at e
     exact⟨q,y,rfl,e,kk y cU H2 (g1.trans g2) (z2.mono g2.b8)⟩⟩⟩
theorem NA {kds:List (Key×Dt)}(h:EO X G dl e (.eB kds)):EE X G dl e (.eu kds):=by
 intro pins s st H Q I ⟨Hf,S,kk⟩
 refine cM (h pins s st H (fun v H'=>∃ p aT,v=.ref p∧bX Hf H aT H'∧H p=none∧aT p=none∧fg X.K aT H' p (.eB kds)) I ⟨Hf,S,fun p aT H' g n n' r=>⟨p,aT,rfl,g,n,n',r⟩⟩) fun u s1 ⟨v,H',I1,rv,q,aT,ev,g,n,n',kvs,hq,rp⟩=>?_
 subst ev
 obtain⟨hz,lo,vs,kv,ob,es,ep,ho,hr⟩:=(show bc X.prog X.w H' s1.heap q (.dK kvs) from I1.bU q _ hq)
 have I2:L2.Inv X pins st (upd H' q (.kd none ob kvs)) s1:=jP (h':=s1.heap) (t':=s1.toks) I1 (by rw[hq];trivial) ⟨rfl,fun _ _=>rfl⟩ ⟨ob,ho⟩ ⟨ho,⟨hz,lo,vs,kv,ob,es,ep,ho,hr⟩,fun p i z=>by cases z⟩
 have sm:aL aT (upd aT q (.kd none ob kvs)):=cv n'
 refine⟨.ref q,_,I2,rv,kk _ (upd aT q (.kd none ob kvs)) _ ⟨fun b o hb=>?_,g.b8.trans sm,dP g.sub,fun b o hb=>?_⟩ (.eu aq (rp.mono sm))⟩
 . rw[ah (aB hb n)];exact g.big _ _ hb
 . by_cases e:b=q
   . subst e;exact .inr (.inl n)
   . rw[ah e] at hb;exact g.new b o hb
theorem Bp:Sz X "dict.values" (fun x xs H Q=>∃ (d:Addr) (kvs:List (Key×V)),x=.ref d∧xs=[]∧Rd H d (.dK kvs)∧∀ l,H l=none→Q (.ref l) (upd H l (.ext fun h=>h.IsValuesView l d))):=by
 intro pins s σ H x xs v us Q I rx rv ⟨d,kvs,e1,e2,hq,q⟩
 subst e1 e2
 cases rx
 cases rv
 obtain⟨hz,lo,vs,kv,hD⟩:=qb I.bU hq
 refine call_meetsIn PySem.F.slot_dict_values hD.typeIs PySem.F.entry_dict_values (PySem.F.args_dict_values_1 _) (meets_dict_values (du X.prog X.w) d lo) ⟨⟨vs,hD⟩,?_⟩
 refine⟨.ref s.heap.objs.size,_,I.laid (a:=s.heap.objs.size) (t':=s.toks) (o:=.ext fun h=>h.IsValuesView s.heap.objs.size d) (fun b o e=>Heap.get?_push_of_some _ e) (Nat.le_refl _) ?_,rfl,q _ (I.bU.fresh (Nat.le_refl _))⟩
 exact⟨⟨_,Heap.get?_push_size _ rfl,rfl,rfl⟩,⟨_,Heap.get?_push_size _ rfl⟩,fun h1 h2 ⟨ox,z1,z2⟩ kk=>⟨ox,kk _ z1,z2⟩⟩
theorem G7:∀ {kds:List (Key×Int)} {vs:List (Key×Value)} {i:Nat} {k:Key} {v:Value},KV (kds.map fun kd=>(kd.1,V.int kd.2)) vs→vs[i]?=some (k,v)→∃ t,v=.int ((kds.map (·.2)).getD i 0) t
 | [],_,_,_,_,.nil,e=>by simp at e
 | (k0,z)::kds,_,0,_,_,.cons r _,e=>by
   simp at e
   subst e
   obtain⟨_,t,q⟩:=r
   exact⟨t,q⟩
 | (k0,z)::kds,_,i+1,_,_,.cons _ t,e=>by
   obtain⟨t',q⟩:=G7 (i:=i) t (by simpa using e)
   exact⟨t',by simpa using q⟩
theorem Er (hc:X.calm=true):gZ X (.builtin "sum") (fun xs H Q=>∃ (v d:Addr) (φ:Heap→Prop) (kds:List (Key×Int)),xs=[.ref v]∧H v=some (.ext φ)∧(∀ h,φ h→h.IsValuesView v d)∧Rd H d (.dK (kds.map fun kd=>(kd.1,V.int kd.2)))∧Q (.int (kds.map (·.2)).sum) H):=by
 intro pins s σ H xs us Q I r h
 obtain⟨v,d,φ,kds,rfl,hv,hφ,hq,q⟩:=h
 obtain⟨u,rfl,rx⟩:=vals1 r
 cases rx
 obtain⟨hz,lo,vs,kv,o,es,ep,ho,hr⟩:=qb I.bU hq
 have hvv:=hφ _ (I.bU v _ hv).1
 have hl:=Bi kv
 rw[List.length_map] at hl
 have hA:X.A.handled=none:=I.ok.hd hc
 refine call_sum_walkAnyS ?_
 have Ks:=PySem.W.kdl_values (prog:=X.prog) (w:=X.w) (knd:=du X.prog X.w) (r:=v) (d:=d) (kvs:=vs) (ep:=ep)
 have bU:s.heap.IsValuesView v d∧s.heap.DictAt (du X.prog X.w) d vs ep:=⟨hvv,o,es,ho,hr⟩
 obtain⟨oI,St,hit,W,st⟩:=Ks.iter X.A.in1 s hA bU
 refine hit _ _ ⟨s.heap.objs.size,_,_,_,vs.length,_,_,fun i=>(kds.map (·.2)).getD i 0,rfl,W.toS,st,fun b hb=>?_,fun i w ⟨k,hk⟩=>G7 kv hk,fun s' t' hm=>?_⟩
 . show b < (s.heap.push oI).objs.size
   rw[Heap.size_push]
   rcases List.mem_cons.mp hb with e | hb
   . rw[e];exact Nat.lt_succ_self _
   . rw[List.mem_singleton.mp hb];exact Nat.lt_succ_of_lt (Ks.there _ bU).2
 . have hk:∀ b o,s.heap.get? b=some o→s'.heap.get? b=some o:=fun b o e=>
     hm.heap b o (fun hI=>absurd (Heap.lt_size e) (by rw[List.mem_singleton.mp hI];exact Nat.lt_irrefl _)) (Heap.get?_push_of_some _ e)
   have es:preSum (fun i=>(kds.map (·.2)).getD i 0) vs.length=(kds.map (·.2)).sum:=by
     rw[pG _ _ (by rw[List.length_map];omega),List.take_of_length_le (by rw[List.length_map];omega)]
   rw[es,Moved.eq_with hm]
   exact⟨.int _,H,I.kept (t':=s'.toks) hk,⟨t',rfl⟩,q⟩
def intsOf (d:Dt)(kds:List (Key×Int)):Prop:=d=.eu (dI kds)∨d=.eB (dI kds)
theorem K1 {kds:List (Key×Int)}{d:Dt}{apos bR:Pos}(hm:X.mg "sum"=none)(hc:X.calm=true)(ha:EE X G dl a d)(hd:intsOf d kds)(hg:Gl X "sum":=by rfl)(gv:attributeBase a "values" X.env (eval a X.env)=eval a X.env:=by rfl)(gw:(apos.endLine == bR.line)=true:=by rfl)(he:starEach [.Call (.Attribute a "values" apos) [] [] bR] X.env=[(false,eval (.Call (.Attribute a "values" apos) [] [] bR) X.env)]:=by rfl):EE X G dl (.Call (.Name "sum" p) [.Call (.Attribute a "values" apos) [] [] bR] [] pos) (.int (kds.map (·.2)).sum):=
 fh (eQ (Er hc) hg hm boot_sum (iO (FV PySem.F.plainAttrs_dict PySem.F.slot_dict_values PySem.F.type_dict_values Bp ha gv gw) kY he) (he:=he)) fun st H Q ⟨Hf,S,k⟩=>⟨Hf,S,fun v aA H1 g1 r1=>by
   have key:∃ q,v=.ref q∧Rd H1 q (.dK (kds.map fun kd=>(kd.1,V.int kd.2)))∧tyV X.K "dict" v H1:=by
     rcases hd with rfl | rfl
     . cases r1 with
       | @eu q tg ob kvs _ hq rp=>
         rw[KS rp] at hq
         exact⟨q,rfl,.inr (.inr (.inl ⟨tg,ob,_,g1.sub _ _ hq,rfl⟩)),.inr (.inr (.inl ⟨rfl,.inr (.inr ⟨tg,ob,_,g1.sub _ _ hq⟩)⟩))⟩
     . cases r1 with
       | @eB q kvs _ hq rp=>
         rw[KS rp] at hq
         exact⟨q,rfl,.inl (g1.sub _ _ hq),.inr (.inr (.inl ⟨rfl,.inl ⟨_,g1.sub _ _ hq⟩⟩))⟩
   obtain⟨q,rfl,hq,ty⟩:=key
   refine⟨ty,q,_,rfl,rfl,hq,fun v hv=>⟨v,q,_,kds,rfl,aq,fun h x=>x,?_,k _ aA _ (g1.trans (.eC g1.sub hv)) (.int _)⟩⟩
   exact eY (cv hv) hq⟩
variable {pins:List (Addr×Obj)}{σ:L2.St}{H:Hp}{s:Shared}
theorem Inv.flip {u:HO}(I:L2.Inv X pins σ H s)(hm:cP H l ls)(hu:jv ls u)(new:bc X.prog X.w (upd H l u) s.heap l u):L2.Inv X pins σ (upd H l u) s:=by
 refine I.un (h':=s.heap) (t':=s.toks) ⟨fun b o e _ _ _=>e,fun b o e _ _ _=>⟨o.slots,e⟩,fun b o e n _=>?_,fun b o e _=>⟨o,e⟩,fun b xs e=>bT hm e rfl,fun b o u e=>bT hm e rfl,fun b ps e=>⟨#[],by rw[bT hm e rfl];simp⟩⟩ fun b o e=>?_
 . rw[ah (fun z=>by obtain⟨o',h1,_⟩:=hm.mkd;rw[z,h1] at n;cases n)];exact n
 . by_cases eb:b=l
   . subst eb;rw[aq] at e;cases e;exact new
   . rw[ah eb] at e
     exact(I.bU b o e).v8 (fun _ _ _ q=>q) (fun c q=>bT hm q rfl) (fun c xs q=>bT hm q rfl) (n6 hm hu.mk)
theorem Inv.exact(I:L2.Inv X pins σ H s)(hm:H l=some (.memo ls)):∃ n,0 < n∧n≤10000∧L2.Inv X pins σ (upd H l (.cm ls (List.replicate ls.length n))) s:=by
 obtain⟨ho,n,hn,q⟩:=(show bc X.prog X.w H s.heap l (.memo ls) from I.bU l _ hm)
 have hl:0 < ls.length:=by
   obtain⟨⟨f,hf⟩,_⟩:=q
   exact(List.getElem?_eq_some_iff.mp hf).1
 have h5:n≤10000:=q.2.2.2.2.1 n (by rw[List.mem_replicate];exact⟨by omega,rfl⟩)
 exact⟨n,hn,h5,Inv.flip I (.inl hm) (.inr ⟨_,rfl⟩) ⟨ho,q.kp (n6 (.inl hm) rfl) fun _ _ _ e=>e⟩⟩
theorem Inv.pack {n:Nat}(I:L2.Inv X pins σ H s)(hm:H l=some (.cm ls (List.replicate ls.length n)))(hn:0 < n):L2.Inv X pins σ (upd H l (.memo ls)) s:=by
 obtain⟨ho,q⟩:=(show bc X.prog X.w H s.heap l (.cm ls _) from I.bU l _ hm)
 exact Inv.flip I (.inr ⟨_,hm⟩) (.inl rfl) ⟨ho,n,hn,q.kp (n6 (.inr ⟨_,hm⟩) rfl) fun _ _ _ e=>e⟩
theorem m8:Sz X "list.append" (fun x vs H Q=>∃ (a:Addr) (ls:gK) (ns:List Nat) (j:Nat) (p:Addr) (f:Nat→List (Key×FD)) (N:Nat) (q:Addr) (kvs:List (Key×V)),x=.ref p∧vs=[.ref q]∧H a=some (.cm ls ns)∧ls[j]?=some (p,f)∧ns[j]?=some N∧N < 9000∧H q=some (.dK kvs)∧oY H kvs (f N)∧∀ o,Q .dQ (upd (upd H a (.cm ls (ns.set j (N+1)))) q (.kd (some (p,N)) o kvs))):=by
 intro pins s σ H x vs v us Q I rx rv ⟨a,ls,ns,j,p,f,N,q,kvs,e1,e2,ha,hj,hN,hN9,hq,hfz,kk⟩
 subst e1 e2
 cases (show v=Value.ref p from rx)
 obtain⟨u,rfl,ru⟩:=vals1 rv
 cases (show u=Value.ref q from ru)
 obtain⟨⟨oa,hoa⟩,⟨f0,h1⟩,h2,h3,h4,h5,h6⟩:=(show bc X.prog X.w H s.heap a (.cm ls ns) from I.bU a _ ha)
 obtain⟨aI,c,e,hlen,hit⟩:=h6 j p f N hj hN
 obtain⟨hz,lo,vs,kv,oq,es,ep,hoq,hr⟩:=(show bc X.prog X.w H s.heap q (.dK kvs) from I.bU q _ hq)
 have Fi:i6 (H p):=by
   rcases h3 j p f hj with z | z
   . rw[z,ha];trivial
   . rw[z];trivial
 have hpq:p≠q:=fun z=>by rw[z,hq] at Fi;exact Fi
 have haq:a≠q:=fun z=>by rw[z,hq] at ha;cases ha
 have hnm:=i7
 refine call_meets PySem.F.slot_list_append ⟨_,e,rfl⟩ PySem.F.entry_list_append (PySem.F.args_list_append_2 _ _) (PySem.list_append p aI.toArray c (.ref q) (by rw[List.size_toArray];exact Nat.le_trans (show aI.length≤10000 by omega) (by decide))) ⟨e,?_⟩
 have e':=PySem.IsL.update e (fun x=>x.push (Value.ref q))
 rw[show aI.toArray.push (Value.ref q)=(aI ++ [Value.ref q]).toArray by simp] at e'
 generalize hh':s.heap.update p (Obj.mapSeq fun x=>x.push (Value.ref q))=h' at e'
 have Bq:∀ b o,b≠p→s.heap.get? b=some o→h'.get? b=some o:=fun b o hb z=>by rw[← hh'];exact(Heap.get?_update_other s.heap _ (Ne.symm hb)).trans z
 let H':Hp:=upd (upd H a (.cm ls (ns.set j (N+1)))) q (.kd (some (p,N)) oq kvs)
 have qw:∀ b o,H b=some o→b≠a→b≠q→H' b=some o:=fun b o z n1 n2=>by show(upd (upd H a _) q _) b=_;rw[ah n2,ah n1];exact z
 have nk:∀ b o,H b=some o→mk o=false→b≠a:=fun b o z n z'=>by rw[z',ha] at z;cases z;cases n
 have nq:∀ b o,H b=some o→(∀ x,o≠.dK x)→b≠q:=fun b o z n z'=>by rw[z',hq] at z;exact n _ (Option.some.inj z).symm
 have kp:Kp H H':=⟨fun b o z kq=>qw b _ z (nk b _ z (by cases o <;> first | rfl | exact(show False from kq).elim)) (nq b _ z fun x y=>by subst y;exact kq),fun b z=>by
   by_cases ba:b=a
   . rw[ba];show i6 ((upd (upd H a _) q _) a);rw[ah haq,aq];trivial
   . have bq:b≠q:=fun z'=>by rw[z',hq] at z;exact z
     show i6 ((upd (upd H a _) q _) b);rw[ah bq,ah ba];exact z,fun b x z=>qw b _ z (nk b _ z rfl) (nq b _ z fun x y=>by cases y)⟩
 have hl:∀ p' i c',i6 (H p')→SW s.heap p' i c'→SW h' p' i c':=fun p' i c' _ ⟨its',n',z1,z2⟩=>by
   by_cases pp:p'=p
   . subst pp
     rw[e] at z1
     have z3:its'=aI:=by
       have:=congrArg (fun o:Option Obj=>o.map (·.data)) z1
       simp at this
       exact this.1.symm
     subst z3
     exact⟨_,_,e',by rw[List.getElem?_append_left (List.getElem?_eq_some_iff.mp z2).1];exact z2⟩
   . exact⟨its',n',Bq _ _ pp z1,z2⟩
 have Nw:SW h' p N q:=⟨_,_,e',by rw[List.getElem?_append_right (by omega),hlen,Nat.sub_self];rfl⟩
 have fz':oY H' kvs (f N):=hfz.kp kp
 have hqo:h'.get? q=some oq:=Bq _ _ (Ne.symm hpq) hoq
 have UW:∀ b,H b=none→H' b=none:=fun b n=>by
   have n1:b≠a:=fun z=>by rw[z,ha] at n;cases n
   have n2:b≠q:=fun z=>by rw[z,hq] at n;cases n
   show(upd (upd H a _) q _) b=none
   rw[ah n2,ah n1];exact n
 have nop:∀ b,H b=none→b≠p:=fun b n z=>by rw[← z,n] at Fi;exact Fi
 have ths:∀ b o,s.heap.get? b=some o→∃ o',h'.get? b=some o':=fun b o z=>by
   by_cases bp:b=p
   . rw[bp];exact⟨_,e'⟩
   . exact⟨o,Bq _ _ bp z⟩
 refine⟨.dQ,H',I.un (h':=h') (t':=s.toks) ⟨fun b o z n _ _=>Bq b o (nop b n) z,fun b o z n _ _=>⟨o.slots,Bq b o (nop b n) z⟩,fun b o _ n _=>UW b n,fun b o z _=>ths b o z,fun b xs z=>qw b _ z (nk b _ z rfl) (nq b _ z fun x y=>by cases y),
   fun b o u z=>qw b _ z (nk b _ z rfl) (nq b _ z fun x y=>by cases y),fun b ps z=>⟨#[],by rw[qw b _ z (nk b _ z rfl) (nq b _ z fun x y=>by cases y)];simp⟩⟩ fun b u z=>?_,rfl,kk oq⟩
 by_cases bq:b=q
 . subst bq
   have z:(upd (upd H a _) b _) b=some u:=z
   rw[aq] at z;cases z
   refine⟨hqo,⟨hz,lo,vs,kv,oq,es,ep,hqo,hr⟩,fun p' i ht=>?_⟩
   cases ht
   exact⟨kp.mem _ Fi,Nw⟩
 . by_cases ba:b=a
   . subst ba
     have z:(upd (upd H b _) q _) b=some u:=z
     rw[ah bq,aq] at z;cases z
     refine⟨ths _ _ hoa,⟨f0,h1⟩,by rw[List.length_set];exact h2,fun j' p' f' z=>(h3 j' p' f' z).imp id fun z=>kp.part _ _ z,h4,fun n hn=>?_,fun j' p' f' n z1 z2=>?_⟩
     . obtain⟨i,hi,ei⟩:=List.mem_iff_getElem.mp hn
       rw[List.getElem_set] at ei
       split at ei
       . omega
       . rw[← ei];exact h5 _ (List.getElem_mem _)
     . by_cases jj:j=j'
       . subst jj
         rw[hj] at z1;cases z1
         have hjl:j < ns.length:=(List.getElem?_eq_some_iff.mp hN).1
         rw[List.getElem?_set_self hjl] at z2;cases z2
         refine⟨_,_,e',by rw[List.length_append,hlen];rfl,fun i hi=>?_⟩
         by_cases hiN:i < N
         . obtain⟨q',o',kv',w1,w2,w3⟩:=hit i hiN
           exact⟨q',o',kv',by rw[List.getElem?_append_left (by omega)];exact w1,kp.kd _ _ _ _ w2,w3.kp kp⟩
         . have:i=N:=by omega
           subst this
           exact⟨q,oq,kvs,by rw[List.getElem?_append_right (by omega),hlen,Nat.sub_self];rfl,aq,fz'⟩
       . rw[List.getElem?_set_ne jj] at z2
         have pp:p'≠p:=fun z=>by
           subst z
           obtain⟨i1,e1⟩:=List.getElem?_eq_some_iff.mp hj
           obtain⟨i2,e2⟩:=List.getElem?_eq_some_iff.mp z1
           have pw:=List.pairwise_iff_getElem.mp h4
           rcases Nat.lt_or_gt_of_ne jj with lt | lt
           . have:=pw j j' (by rw[List.length_map];exact i1) (by rw[List.length_map];exact i2) lt
             rw[List.getElem_map,List.getElem_map,e1,e2] at this
             exact this rfl
           . have:=pw j' j (by rw[List.length_map];exact i2) (by rw[List.length_map];exact i1) lt
             rw[List.getElem_map,List.getElem_map,e1,e2] at this
             exact this rfl
         exact(h6 j' p' f' n z1 z2).kp kp fun u z=>Bq _ _ pp z
   . have z0:H b=some u:=by
       have z:(upd (upd H a _) q _) b=some u:=z
       rw[ah bq,ah ba] at z;exact z
     by_cases bp:b=p
     . subst bp
       rcases h3 j b f hj with z1 | z1
       . exact absurd z1 ba
       . rw[z1] at z0;cases z0
         exact⟨_,e'⟩
     . refine(I.bU b u z0).M5 (fun c' v' Ay z'=>Bq c' v' ?_ z') (fun c' z'=>qw c' _ z' (nk c' _ z' rfl) (nq c' _ z' fun x y=>by cases y)) (fun c' xs z'=>qw c' _ z' (nk c' _ z' rfl) (nq c' _ z' fun x y=>by cases y)) kp hl
       rcases Ay with rfl | z1 | z1
       . exact bp
       . exact fun z'=>by rw[z'] at z1;rw[z1] at Fi;exact Fi
       . intro z'
         rw[z'] at z1
         rcases h3 j p f hj with z2 | z2
         . rw[z2,ha] at z1;cases z1
         . rw[z2] at z1;cases z1;exact ba rfl
end
end Sg
namespace Sg
open PySem PySem.Spec PyProof.Rows L2
def l7 (fs:List (Str×Dt))(nm:List Str)(a:Addr)(ls:gK)(n:Nat):List (Str×Dt):=fs ++ (List.range nm.length).map fun j=>(nm.getD j "",.eA a ls j n)
section
variable {K:PySem.W.Frag}{Hf H:Hp}
theorem bS.split:∀ {SK JK:List (Str×Dt)} {fv:List (Str×V)},bS K H fv (SK ++ JK)→∃ f1 f2,fv=f1 ++ f2∧bS K H f1 SK∧bS K H f2 JK
 | [],_,fv,r=>⟨[],fv,rfl,.nil,r⟩
 | (k,d)::SK,JK,_,.cons h t=>by
   obtain⟨f1,f2,e,r1,r2⟩:=bS.split t
   exact⟨(k,_)::f1,f2,by rw[e];rfl,.cons h r1,r2⟩
theorem bS.join:∀ {SK JK:List (Str×Dt)} {f1 f2:List (Str×V)},bS K H f1 SK→bS K H f2 JK→bS K H (f1 ++ f2) (SK ++ JK)
 | _,_,_,_,.nil,r=>r
 | _,_,_,_,.cons h t,r=>.cons h (bS.join t r)
theorem lZ {nm:Nat→Str}{d d':Nat→Dt}{H':Hp}(h:∀ j v,Rep K H v (d j)→Rep K H' v (d' j)):∀ {js:List Nat} {fv:List (Str×V)},bS K H fv (js.map fun j=>(nm j,d j))→bS K H' fv (js.map fun j=>(nm j,d' j))
 | [],_,.nil=>.nil
 | j::js,_,.cons r t=>.cons (h j _ r) (lZ h t)
def rG (H:Hp)(ls:gK)(n:Nat):Prop:=∀ (j:Nat) (p:Addr) (f:Nat→List (Key×FD)),ls[j]?=some (p,f)→Known H p f n
variable {fs:List (Str×Dt)}{nm:List Str}{l:Addr}{ls:gK}{n m:Nat}{fv:List (Str×V)}{u:HO}
theorem sS (hn:0 < nm.length)(r:bS K Hf fv (qc fs nm l ls n)):Hf l=some (.memo ls):=by
 obtain⟨f1,f2,_,_,r2⟩:=bS.split r
 cases hk:nm.length with
 | zero=>omega
 | succ k=>
   rw[hk,List.range_succ_eq_map,List.map_cons] at r2
   cases r2 with
   | cons h t=>cases h with
     | memo _ h2 _ _=>exact h2
theorem UX (hs:ig l fs=true)(hm:Hf l=some (.memo ls))(hu:jv ls u)(r:bS K Hf fv (qc fs nm l ls n)):bS K (upd Hf l u) fv (l7 fs nm l ls n):=by
 obtain⟨f1,f2,e,r1,r2⟩:=bS.split r
 subst e
 refine bS.join (fS (.inl hm) hu hs r1) (lZ (fun j v q=>?_) r2)
 cases q with
 | memo h1 h2 h3 h4=>exact fE (.inl hm) hu rfl (.eA h1 (.inl h2) h3 h4)
theorem NB (hs:ig l fs=true)(hm:cP Hf l ls)(r:bS K Hf fv (l7 fs nm l ls n)):bS K (upd Hf l (.memo ls)) fv (qc fs nm l ls n):=by
 obtain⟨f1,f2,e,r1,r2⟩:=bS.split r
 subst e
 refine bS.join (fS hm (.inl rfl) hs r1) (lZ (fun j v q=>?_) r2)
 cases q with
 | eA h1 h2 h3 h4=>exact .memo h1 aq (h3.imp id fun z=>bT hm z rfl) (jV hm (.inl rfl) h4)
theorem zE (hk:rG Hf ls m)(r:bS K Hf fv (qc fs nm l ls n)):bS K Hf fv (qc fs nm l ls m):=by
 obtain⟨f1,f2,e,r1,r2⟩:=bS.split r
 subst e
 refine bS.join r1 (lZ (fun j v q=>?_) r2)
 cases q with
 | memo h1 h2 h3 h4=>exact .memo h1 h2 h3 (hk _ _ _ h1)
theorem K2 (hl:ls.length≤nm.length)(r:bS K Hf fv (qc fs nm l ls n)):rG Hf ls n:=fun j p f e=>by
 obtain⟨f1,f2,_,_,r2⟩:=bS.split r
 have hj:j < nm.length:=Nat.lt_of_lt_of_le (List.getElem?_eq_some_iff.mp e).1 hl
 have key:∀ {js:List Nat} {fv:List (Str×V)},bS K Hf fv (js.map fun j=>(nm.getD j "",Dt.memo l ls j n))→j∈js→Known Hf p f n:=by
   intro js
   induction js with
   | nil=>intro fv _ h;cases h
   | cons i js ih=>
     intro fv r h
     cases r with
     | cons q t=>
       rcases List.mem_cons.mp h with z | z
       . subst z
         cases q with
         | memo h1 h2 h3 h4=>rw[e] at h1;cases h1;exact h4
       . exact ih t z
 exact key r2 (List.mem_range.mpr hj)
theorem PV {A B cU H2:Hp}(hA:A l=some (.memo ls))(hB:B l=some (.memo ls))(g:bX (upd A l u) (upd B l u) cU H2):bX A B (upd cU l (.memo ls)) (upd H2 l (.memo ls)):=by
 refine⟨fun b o e=>?_,fun b o e=>?_,dP g.sub,fun b o e=>?_⟩
 . by_cases hb:b=l
   . subst hb;rw[hB] at e;cases e;exact aq
   . rw[ah hb];exact g.big _ _ (by rw[ah hb];exact e)
 . by_cases hb:b=l
   . subst hb;rw[hA] at e;cases e;exact aq
   . rw[ah hb];exact g.b8 _ _ (by rw[ah hb];exact e)
 . by_cases hb:b=l
   . subst hb;exact .inl ⟨_,hA⟩
   . rw[ah hb] at e
     rcases g.new b o e with⟨o',z⟩ | z | z
     . rw[ah hb] at z;exact .inl ⟨o',z⟩
     . rw[ah hb] at z;exact .inr (.inl z)
     . exact .inr (.inr z)
variable {G G0:Gr}{st:L2.St}{dl:List Slot}
theorem d7.rebase (S:d7 K G0 st Hf H dl)(no:noOwn dl=true)(g:bX G.Hf G.H G0.Hf G0.H):d7 K G st Hf H dl:=⟨g.trans S.gr,S.len,S.val,fun i o h=>absurd h (bH no i o),fun i j o o' a h=>absurd h (bH no i o)⟩
def n8 (a:Addr):List Slot→Bool
 | []=>true
 | .bE::r=>n8 a r
 | .val d::r=>pJ a d && n8 a r
 | .own _::_=>false
theorem jw {l:Addr}:∀ {tl:List Slot} {i:Nat} {d:Dt},n8 l tl=true→tl[i]?=some (.val d)→pJ l d=true
 | [],_,_,_,e=>by simp at e
 | .bE::r,0,_,_,e=>by simp at e
 | .bE::r,i+1,_,h,e=>jw (tl:=r) (i:=i) h (by simpa using e)
 | .val d::r,0,_,h,e=>by
   rw[n8,Bool.and_eq_true] at h
   simp at e
   subst e
   exact h.1
 | .val d::r,i+1,_,h,e=>by
   rw[n8,Bool.and_eq_true] at h
   exact jw (tl:=r) (i:=i) h.2 (by simpa using e)
theorem fk {l:Addr}:∀ {tl:List Slot},n8 l tl=true→noOwn tl=true
 | [],_=>rfl
 | .bE::r,h=>fk (tl:=r) h
 | .val d::r,h=>by
   rw[n8,Bool.and_eq_true] at h
   exact fk (tl:=r) h.2
variable {C:Addr}{tl:List Slot}
abbrev yu (C:Addr)(fs:List (Str×Dt))(nm:List Str)(l:Addr)(ls:gK)(n:Nat)(tl:List Slot):List Slot:=.val (.obj C (qc fs nm l ls n))::tl
abbrev slY (C:Addr)(fs:List (Str×Dt))(nm:List Str)(l:Addr)(ls:gK)(n:Nat)(tl:List Slot):List Slot:=.val (.obj C (l7 fs nm l ls n))::tl
theorem d7.UY {m:Nat}(S:d7 K G st Hf H (yu C fs nm l ls n tl))(kn:rG Hf ls m):d7 K G st Hf H (yu C fs nm l ls m tl):=by
 have own:∀ {i:Nat} {o:Own},(yu C fs nm l ls m tl)[i]?=some (.own o)→(yu C fs nm l ls n tl)[i]?=some (.own o):=fun {i o} h=>by
   cases i with
   | zero=>cases h
   | succ i=>exact h
 refine⟨S.gr,S.len,fun i d h=>?_,fun i o h=>S.own i o (own h),fun i j o o' a h1 h2=>S.D5 i j o o' a (own h1) (own h2)⟩
 cases i with
 | zero=>
   cases h
   obtain⟨v,hv,rv⟩:=S.val 0 _ rfl
   cases rv with
   | obj q r=>exact⟨_,hv,.obj q (zE kn r)⟩
 | succ i=>exact S.val (i+1) d h
def UZ (G0:Gr)(l:Addr)(u:HO):Gr:=⟨upd G0.Hf l u,upd G0.H l u⟩
theorem d7.toX (S:d7 K G st Hf H (yu C fs nm l ls n tl))(hs:ig l fs=true)(ht:n8 l tl=true)(hn:0 < nm.length)(hu:jv ls u):Hf l=some (.memo ls)∧d7 K (UZ ⟨fT Hf H,H⟩ l u) st (upd (fT Hf H) l u) (upd H l u) (slY C fs nm l ls n tl):=by
 obtain⟨v,hv,rv⟩:=S.val 0 _ rfl
 have sm:=e6 S.sub
 cases rv with
 | @obj a _ dx fv _ q r=>
   have hm:=sS hn r
   have hm':fT Hf H l=some (.memo ls):=sm _ _ hm
   refine⟨hm,⟨.refl (dP (k9 S.sub)),S.len,fun i d h=>?_,fun i o h=>?_,fun i j o o' a h=>?_⟩⟩
   . cases i with
     | zero=>
       cases h
       exact⟨_,hv,.obj (G3 (.inl hm') (eY sm q)) (UX hs hm' hu (r.mono sm))⟩
     | succ i=>
       have h:tl[i]?=some (.val d):=h
       obtain⟨w,w1,w2⟩:=S.val (i+1) d h
       exact⟨w,w1,fE (.inl hm') hu (jw ht h) (w2.mono sm)⟩
   . cases i with
     | zero=>cases h
     | succ i=>exact absurd h (bH (fk ht) i o)
   . cases i with
     | zero=>cases h
     | succ i=>exact absurd h (bH (fk ht) i o)
end
section
variable {X:Cx}{G:Gr}{E:XK}{dl:List Slot}{c e:Expr}{body:List Stmt}{pos p:Pos}{fs:List (Str×Dt)}{nm:List Str}{l C:Addr}{ls:gK}{n m age:Nat}{tl:List Slot}
def PX (X:Cx)(c:Expr):TT:=fun st H Q=>∃ G dl b,EB X G dl c b∧T7 X.K G dl b st H Q
theorem G8:PT X c (PX X c):=fun pins s st H Q I ⟨G,dl,b,h,q⟩=>h pins s st H Q I q
def PY (X:Cx)(E:XK)(body:List Stmt):TS:=fun D st H=>∃ G pre o,jQ X G E pre body o∧tO X.K G E pre o D st H
theorem Es {body:List Stmt}:AI X body (PY X E body):=fun pins s st H D J ⟨G,pre,o,h,q⟩=>h pins s st H D J q
def RM (K:PySem.W.Frag)(G0:Gr)(C:Addr)(fs:List (Str×Dt))(nm:List Str)(l:Addr)(ls:gK)(n:Nat)(tl:List Slot)(M:Nat):L2.St→Hp→Prop:=fun st H=>H l=some (.cm ls (List.replicate ls.length M))∧∃ Hf,d7 K G0 st Hf (upd H l (.memo ls)) (yu C fs nm l ls n tl)
theorem vO (hp:PassesOwn (model X.prog X.w) X.A X.env X.xe)(hs:ig l fs=true)(ht:n8 l tl=true)(hn:0 < nm.length)(i8:age < 9000)(hc:∀ (N:Nat) (G:Gr),G.Hf l=some (.cm ls (List.replicate ls.length N))→EB X G (slY C fs nm l ls n tl) c (decide (N≤age)))(hb:∀ N,0 < N→N≤age→∀ G0:Gr,G0.Hf l=some (.memo ls)→G0.H l=some (.memo ls)→jQ X (UZ G0 l (.cm ls (List.replicate ls.length N))) E (slY C fs nm l ls n tl) body (.raw (RM X.K G0 C fs nm l ls n tl (N+1)))):ES X G E (yu C fs nm l ls n tl) (.While c body [] pos) (.nx (yu C fs nm l ls (age+1) tl)):=by
 intro pins s st H D I ⟨Hf,S,k⟩
 have no:noOwn (yu C fs nm l ls n tl)=true:=show noOwn tl=true from fk ht
 have hm:Hf l=some (.memo ls):=(S.toX (u:=.memo ls) hs ht hn (.inl rfl)).1
 obtain⟨N0,h0,h1,IX⟩:=Inv.exact I (S.sub _ _ hm)
 let XX:Nat→HO:=fun N=>.cm ls (List.replicate ls.length N)
 have mu:∀ N,jv ls (XX N):=fun N=>.inr ⟨_,rfl⟩
 let W:Nat→L2.St→Hp→Prop:=fun m st H=>∃ N,m=age+1 - N∧0 < N∧H l=some (XX N)∧∃ aA,aL Hf aA∧d7 X.K G st aA (upd H l (.memo ls)) (yu C fs nm l ls n tl)
 refine cM (yJ (pos:=pos) hp (G8 (X:=X) (c:=c)) (Es (E:=E)) pins s st _ { D with nx:=fun gY H'=>∃ N,age < N∧H' l=some (XX N)∧∃ aA,aL Hf aA∧d7 X.K G gY aA (upd H' l (.memo ls)) (yu C fs nm l ls n tl)} IX ?_) fun f s7 q7=>?_
 . refine⟨W,⟨_,N0,rfl,h0,aq,Hf,aL.refl _,by rw[q9,sQ (S.sub _ _ hm)];exact S⟩,?_⟩
   rintro mm st1 H1 ⟨N,rfl,hN,Nw,aA,s1,S1⟩
   have eH:upd (upd H1 l (.memo ls)) l (XX N)=H1:=by rw[q9,sQ Nw]
   obtain⟨hm1,SX⟩:=S1.toX (u:=XX N) hs ht hn (mu N)
   rw[eH] at SX
   have hA:fT aA (upd H1 l (.memo ls)) l=some (.memo ls):=e6 S1.sub _ _ hm1
   refine⟨_,_,decide (N≤age),hc N (UZ ⟨fT aA (upd H1 l (.memo ls)),upd H1 l (.memo ls)⟩ l (XX N)) aq,_,SX,fun cU H2 g2=>?_⟩
   have g2':bX (upd (fT aA (upd H1 l (.memo ls))) l (XX N)) (upd (upd H1 l (.memo ls)) l (XX N)) cU H2:=by rw[eH];exact g2
   have gp:=PV (ls:=ls) hA aq g2'
   have gg:=(lY S1.sub).trans gp
   have S2:=S1.grow gg
   have Nf:H2 l=some (XX N):=g2.big _ _ Nw
   by_cases hle:N≤age
   . rw[decide_eq_true hle]
     have eH2:upd (upd H2 l (.memo ls)) l (XX N)=H2:=by rw[q9,sQ Nf]
     obtain⟨hm2,SX2⟩:=S2.toX (u:=XX N) hs ht hn (mu N)
     rw[eH2] at SX2
     have hA2:fT (upd cU l (.memo ls)) (upd H2 l (.memo ls)) l=some (.memo ls):=e6 S2.sub _ _ hm2
     refine wD ⟨fun gY H'=>H' l=some (XX (N+1))∧∃ aA,aL Hf aA∧d7 X.K G gY aA (upd H' l (.memo ls)) (yu C fs nm l ls n tl),fun gY H' ⟨z1,z2⟩=>⟨age+1 - (N+1),by omega,N+1,rfl,by omega,z1,z2⟩,?_⟩
     refine⟨_,_,_,hb N hN hle ⟨fT (upd cU l (.memo ls)) (upd H2 l (.memo ls)),upd H2 l (.memo ls)⟩ hA2 aq,_,SX2,fun gY H' ⟨z1,aT,z2⟩=>⟨z1,aT,?_,?_⟩⟩
     . exact((s1.trans gg.b8).trans (e6 S2.sub)).trans z2.gr.b8
     . exact z2.rebase no (S2.gr.trans (lY S2.sub))
   . rw[decide_eq_false hle]
     exact wC ⟨N,by omega,Nf,_,s1.trans gg.b8,S2⟩
 . cases f with
   | next=>
     obtain⟨σ7,H7,I7,N,hN,hl7,Hf7,s7',S7⟩:=q7
     have I8:=Inv.pack I7 hl7 (by omega)
     refine⟨σ7,_,I8,?_⟩
     obtain⟨_,_,hlen,_,_,_,h6⟩:=(show bc X.prog X.w H7 s7.heap l (XX N) from I7.bU l _ hl7)
     have kn:rG (fT Hf7 (upd H7 l (.memo ls))) ls (age+1):=fun j p f e i hi=>by
       have hj:j < ls.length:=(List.getElem?_eq_some_iff.mp e).1
       obtain⟨aI,cc,e1,e2,e3⟩:=h6 j p f N e (by rw[List.getElem?_replicate,if_pos hj])
       obtain⟨q,o,kvs,q1,q2,q3⟩:=e3 i (by omega)
       have key:∀ b u,H7 b=some u→Kept u→fT Hf7 (upd H7 l (.memo ls)) b=some u:=fun b u z kq=>w4 (by rw[ah (fun zz=>by rw[zz,hl7] at z;cases z;exact kq)];exact z) kq
       exact⟨q,o,kvs,key _ _ q2 trivial,e9 key q3⟩
     have S8:=S7.grow (lY S7.sub)
     exact k σ7 _ _ (s7'.trans (e6 S7.sub)) (S8.UY kn)
   | cont=>exact q7
   | brk=>exact q7
   | ret v=>exact q7
theorem n9 (he:EE X G (yu C fs nm l ls n tl) e (.uG l ls m))(hs:swapsWith e none pos.line X.env=pure false:=by rfl):ES X G E (yu C fs nm l ls n tl) (.Expr e pos) (.nx (yu C fs nm l ls m tl)):=
 qt (iM he hs) fun D st H ⟨Hf,S,k⟩=>⟨Hf,S,fun v aA H1 g1 r1=>by
   have S1:=S.grow g1
   cases r1 with
   | uG kn=>
     exact k st aA H1 g1.b8 (S1.UY kn)⟩
theorem l1 (hl:ls.length≤nm.length):Comes (.nx (yu C fs nm l ls n tl)) (.ret (.uG l ls n)):=.kn fun K G st Hf H S=>by
 obtain⟨v,hv,rv⟩:=S.val 0 _ rfl
 cases rv with
 | obj q r=>exact .uG (K2 hl r)
theorem zF (i:Nat){o:Out}{sts:List Stmt}{gs:List (Nat→List (Key×FD))}(h:∀ l ls,ls.map (·.2)=gs→jQ X G E (dl.set i (.val (.obj C (qc fs nm l ls n)))) sts o)(hd:dl[i]?=some (.val (.uK C fs gs nm n)):=by rfl):jQ X G E dl sts o:=by
 intro pins s st H D I ⟨Hf,S,k⟩
 obtain⟨v,hv,rv⟩:=S.val i _ hd
 cases rv with
 | @uK s' a _ dx fv _ _ _ _ ls' e q r=>
   refine h a ls' e pins s st H D I ⟨Hf,⟨S.gr,by simp[S.len],fun j d hj=>?_,fun j o' hj=>?_,fun j m o1 o2 c q1 q2 q3 q4=>?_⟩,k⟩
   . by_cases ej:i=j
     . subst ej
       have hl:i < dl.length:=(List.getElem?_eq_some_iff.mp hd).1
       rw[List.getElem?_set_self hl] at hj;cases hj
       exact⟨_,hv,.obj q r⟩
     . rw[List.getElem?_set_ne ej] at hj;exact S.val j d hj
   . have ej:i≠j:=fun z=>by
       subst z
       rw[List.getElem?_set_self (List.getElem?_eq_some_iff.mp hd).1] at hj;cases hj
     rw[List.getElem?_set_ne ej] at hj;exact S.own j o' hj
   . have ne:∀ {j:Nat} {o':Own},(dl.set i (.val (.obj C (qc fs nm a ls' n))))[j]?=some (.own o')→dl[j]?=some (.own o'):=fun {j o'} hj=>by
       have ej:i≠j:=fun z=>by
         subst z
         rw[List.getElem?_set_self (List.getElem?_eq_some_iff.mp hd).1] at hj;cases hj
       rw[List.getElem?_set_ne ej] at hj;exact hj
     exact S.D5 j m o1 o2 c (ne q1) (ne q2) q3 q4
end
end Sg
namespace Sg
open PySem PySem.Spec PyProof.Rows L2
theorem zG {l:Addr}:∀ (a b:List (Str×Dt)),ig l (a ++ b)=(ig l a && ig l b)
 | [],b=>by rw[List.nil_append,ig];rfl
 | (k,d)::a,b=>by rw[List.cons_append,ig,ig,zG a b,Bool.and_assoc]
theorem G9 (nm:Nat→Str)(l:Addr)(ls:gK)(n:Nat):∀ js:List Nat,ig l (js.map fun j=>(nm j,Dt.eA l ls j n))=true
 | []=>rfl
 | j::js=>by rw[List.map_cons,ig,G9 nm l ls n js];rfl
theorem vP {fs:List (Str×Dt)}{nm:List Str}{l:Addr}{ls:gK}{n:Nat}(h:ig l fs=true):ig l (l7 fs nm l ls n)=true:=by
 unfold l7
 rw[zG,h,G9];rfl
section
variable {X:Cx}{G0:Gr}{E:XK}{arg:Expr}{fs:List (Str×Dt)}{l C:Addr}{ls:gK}{n N:Nat}{tl:List Slot}{f g:Nat→List (Key×FD)}{n0 n1 x0 xg:Str}{p1 p2 p3 p4 p5 a1 a2 c1 c2 q1 q2:Pos}
theorem zH (ng:Nat)(hs:ig l fs=true)(ht:n8 l tl=true)(hu:tl[ng]?=some .bE)(l8:ls.map (·.2)=[f,g])(hN:N < 9000)(cl:nH X.K C)(PZ:cu X.K C n0)(na1:cu X.K C n1)(hA:G0.Hf l=some (.memo ls))(hB:G0.H l=some (.memo ls))
   (acB:∀ G2,EO X G2 (.val (.obj C (l7 fs [n0,n1] l ls n))::tl.set ng (.val (.eu (kI (f N))))) arg (.eB (kI (g N))))
   (SJ:(l7 fs [n0,n1] l ls n).lookup n0=some (.eA l ls 0 n):=by rfl) (Nw:(l7 fs [n0,n1] l ls n).lookup n1=some (.eA l ls 1 n):=by rfl)
   (SI:X.N[0]?=some x0:=by rfl) (hv0:rY X.env.scope x0:=by first | exact Or.inl rfl | exact Or.inr (Or.inl rfl) | exact Or.inr (Or.inr rfl)) (hd0:(x0 == ("__debug__":Str))=false:=by decide) (hc0:(x0 == ("__classdict__":Str))=false:=by decide)
   (hNg:X.N[ng+1]?=some xg:=by rfl) (hvg:rY X.env.scope xg:=by first | exact Or.inl rfl | exact Or.inr (Or.inl rfl) | exact Or.inr (Or.inr rfl)) (hdg:(xg == ("__debug__":Str))=false:=by decide) (hcg:(xg == ("__classdict__":Str))=false:=by decide)
   (hb1:attributeBase (.Name x0 p1) n0 X.env (eval (.Name x0 p1) X.env)=eval (.Name x0 p1) X.env:=by rfl) (hb2:attributeBase (.Name x0 p4) n1 X.env (eval (.Name x0 p4) X.env)=eval (.Name x0 p4) X.env:=by rfl)
   (Br:attributeBase (.Attribute (.Name x0 p1) n0 p2) "append" X.env (eval (.Attribute (.Name x0 p1) n0 p2) X.env)=eval (.Attribute (.Name x0 p1) n0 p2) X.env:=by rfl)
   (P0:attributeBase (.Attribute (.Name x0 p4) n1 p5) "append" X.env (eval (.Attribute (.Name x0 p4) n1 p5) X.env)=eval (.Attribute (.Name x0 p4) n1 p5) X.env:=by rfl)
   (Hc:((backTo c1 (starEach [.Name xg p3] X.env)).all (fun x=>!x.1) && (backToKw c1 (keywordEach [] X.env)).all (fun x=>x.1.isSome) && decide ([Expr.Name xg p3].length+([]:List Keyword).length+(if ([]:List Keyword).isEmpty then 0 else 1) < 30))=true:=by rfl)
   (U0:((backTo c2 (starEach [arg] X.env)).all (fun x=>!x.1) && (backToKw c2 (keywordEach [] X.env)).all (fun x=>x.1.isSome) && decide ([arg].length+([]:List Keyword).length+(if ([]:List Keyword).isEmpty then 0 else 1) < 30))=true:=by rfl)
   (Bs:(a1.endLine == c1.line)=true:=by rfl) (P4:(a2.endLine == c2.line)=true:=by rfl) (w6:starEach [.Name xg p3] X.env=(false,eval (.Name xg p3) X.env)::starEach [] X.env:=by rfl) (K3:starEach [arg] X.env=(false,eval arg X.env)::starEach [] X.env:=by rfl)
   (Fd:swapsWith (.Call (.Attribute (.Attribute (.Name x0 p1) n0 p2) "append" a1) [.Name xg p3] [] c1) none q1.line X.env=pure false:=by rfl) (yM:swapsWith (.Call (.Attribute (.Attribute (.Name x0 p4) n1 p5) "append" a2) [arg] [] c2) none q2.line X.env=pure false:=by rfl) :
   jQ X (UZ G0 l (.cm ls (List.replicate ls.length N))) E (.val (.obj C (l7 fs [n0,n1] l ls n))::tl.set ng (.own (.eB (kI (f N)))))
     [.Expr (.Call (.Attribute (.Attribute (.Name x0 p1) n0 p2) "append" a1) [.Name xg p3] [] c1) q1,.Expr (.Call (.Attribute (.Attribute (.Name x0 p4) n1 p5) "append" a2) [arg] [] c2) q2] (.raw (RM X.K G0 C fs [n0,n1] l ls n tl (N+1))):=by
 have U1:PE X arg (fun st H Q=>∃ G2,tDO X.K G2 (.val (.obj C (l7 fs [n0,n1] l ls n))::tl.set ng (.val (.eu (kI (f N))))) (.eB (kI (g N))) st H Q):=fun pins s st H Q I ⟨G2,q⟩=>acB G2 pins s st H Q I q
 refine ze (kU (iM (sj PySem.F.plainAttrs_list PySem.F.slot_list_append PySem.F.type_list_append m8 (sd (fP (pos:=p1) SI hv0 hd0 hc0) hb1) (iO (fP (pos:=p3) hNg hvg hdg hcg) kY w6) Br Hc Bs w6 rfl) Fd)
   (jN (iM (sj PySem.F.plainAttrs_list PySem.F.slot_list_append PySem.F.type_list_append m8 (sd (fP (pos:=p4) SI hv0 hd0 hc0) hb2) (iO U1 kY K3) P0 U0 P4 K3 rfl) yM))) fun D st H ⟨Hf,S,k⟩=>?_
 have e2:ls.length=2:=by have:=congrArg List.length l8;simpa using this
 have eR:∀ M:Nat,List.replicate ls.length M=[M,M]:=fun M=>by rw[e2];rfl
 rw[eR] at S
 have U2:ng < tl.length:=(List.getElem?_eq_some_iff.mp hu).1
 obtain⟨v0,hv,rv⟩:=S.val 0 _ rfl
 cases rv with
 | @obj sa _ dx fv _ P5 rf=>
   obtain⟨oa,Bt,hmk,_,back⟩:=Rd.ex P5
   have P6:Hf l=some (.cm ls [N,N]):=S.gr.b8 _ _ aq
   have NC:H l=some (.cm ls [N,N]):=S.sub _ _ P6
   have hm:cP Hf l ls:=.inr ⟨_,P6⟩
   obtain⟨y0,hy0,ry0⟩:=rf.lookup SJ
   obtain⟨y1,JJ,ry1⟩:=rf.lookup Nw
   obtain⟨qa,hq,U3,hqg,kvs,ND,rk⟩:=S.own (ng+1) (.eB (kI (f N))) (by show(tl.set ng _)[ng]?=_;rw[List.getElem?_set_self U2])
   cases ry0 with
   | @eA _ p _ _ _ f0 zA _ acJ _=>cases ry1 with
     | @eA _ pp _ _ _ f1 U4 _ ajW _=>
       have ef0:f0=f:=by
         have:=congrArg (fun z=>z[0]?) l8
         simp only[List.getElem?_map,zA] at this
         exact Option.some.inj this
       have ef1:f1=g:=by
         have:=congrArg (fun z=>z[1]?) l8
         simp only[List.getElem?_map,U4] at this
         exact Option.some.inj this
       subst ef0 ef1
       have fzH:oY H kvs (f0 N):=e9 (fun b u e _=>S.sub _ _ e) (m7 rk)
       have nql:qa≠l:=fun z=>by rw[z,NC] at ND;cases ND
       have U5:sa≠l:=fun z=>by rw[z,P6] at Bt;cases Bt;cases hmk
       have nsq:sa≠qa:=fun z=>by rw[z,U3] at Bt;cases Bt
       refine⟨_,hv,sa,C,dx,fv,_,rfl,back _ (S.sub _ _ Bt),cl,PZ,hy0,.inr (.inr (.inr (.inr ⟨rfl,l,ls,[N,N],0,f0,N,NC,zA,rfl⟩))),_,hq,l,ls,[N,N],0,p,f0,N,qa,kvs,rfl,rfl,NC,zA,rfl,hN,ND,fzH,fun oq=>?_⟩
       let H4:Hp:=upd (upd H l (.cm ls ([N,N].set 0 (N+1)))) qa (.kd (some (p,N)) oq kvs)
       let u4:HO:=.cm ls [N+1,N]
       have h4l:H4 l=some u4:=by show(upd (upd H l _) qa _) l=_;rw[ah (Ne.symm nql),aq];rfl
       have h4q:H4 qa=some (.kd (some (p,N)) oq kvs):=aq
       have h4b:∀ b o,H b=some o→b≠l→b≠qa→H4 b=some o:=fun b o e n1 n2=>by show(upd (upd H l _) qa _) b=_;rw[ah n2,ah n1];exact e
       have h4n:∀ b,H4 b=none→H b=none:=fun b e=>by
         have n1:b≠l:=fun z=>by rw[z,h4l] at e;cases e
         have n2:b≠qa:=fun z=>by rw[z,h4q] at e;cases e
         have e:(upd (upd H l _) qa _) b=none:=e
         rw[ah n2,ah n1] at e;exact e
       have hfq:∀ b o,Hf b=some o→b≠qa:=fun b o e z=>by rw[z,U3] at e;cases e
       have xa:aL (upd Hf l u4) H4:=fun b o e=>by
         by_cases bl:b=l
         . rw[bl,aq] at e;cases e;rw[bl];exact h4l
         . rw[ah bl] at e;exact h4b b o (S.sub _ _ e) bl (hfq b o e)
       let Ff:Hp:=fT (upd Hf l u4) H4
       have U6:aL (upd Hf l u4) Ff:=e6 xa
       have mu4:jv ls u4:=.inr ⟨_,rfl⟩
       have acM:∀ b u,H b=some u→Kept u→Ff b=some u:=fun b u e kq=>w4 (h4b b _ e (fun z=>by rw[z,NC] at e;cases e;exact kq) (fun z=>by rw[z,ND] at e;cases e;exact kq)) kq
       have S4:d7 X.K ⟨Ff,H4⟩ st Ff H4 (.val (.obj C (l7 fs [n0,n1] l ls n))::tl.set ng (.val (.eu (kI (f0 N))))):=by
         have no:∀ (i:Nat) o,(Slot.val (.obj C (l7 fs [n0,n1] l ls n))::tl.set ng (.val (.eu (kI (f0 N)))))[i]?≠some (.own o):=fun i o h=>by
           cases i with
           | zero=>cases h
           | succ i=>
             have h:(tl.set ng (.val (.eu (kI (f0 N)))))[i]?=some (.own o):=h
             by_cases e:ng=i
             . subst e;rw[List.getElem?_set_self U2] at h;cases h
             . rw[List.getElem?_set_ne e] at h;exact bH (fk ht) i o h
         refine⟨.refl (k9 xa),by have:=S.len;simpa using this,fun i d h=>?_,fun i o h=>absurd h (no i o),fun i j o o' a h=>absurd h (no i o)⟩
         cases i with
         | zero=>
           cases h
           exact⟨_,hv,.obj (back _ (U6 _ _ (bT hm Bt hmk))) ((fS hm mu4 (vP hs) rf).mono U6)⟩
         | succ i=>
           have h:(tl.set ng (.val (.eu (kI (f0 N)))))[i]?=some (.val d):=h
           by_cases e:ng=i
           . subst e
             rw[List.getElem?_set_self U2] at h;cases h
             exact⟨_,hq,.eu (CW h4q) (rF (e9 acM fzH))⟩
           . rw[List.getElem?_set_ne e] at h
             obtain⟨w,w1,w2⟩:=S.val (i+1) d (by show(tl.set ng _)[i]?=_;rw[List.getElem?_set_ne e];exact h)
             exact⟨w,w1,(fE hm mu4 (jw ht h) w2).mono U6⟩
       refine⟨_,hv,sa,C,dx,fv,_,rfl,back _ (h4b _ _ (S.sub _ _ Bt) U5 nsq),cl,na1,JJ,.inr (.inr (.inr (.inr ⟨rfl,l,ls,[N+1,N],1,f1,N,h4l,U4,rfl⟩))),⟨Ff,H4⟩,Ff,S4,fun ra rD H5 g5 n5 n5' ⟨P7,Ni,UH⟩=>?_⟩
       have h5l:H5 l=some u4:=g5.big _ _ h4l
       have nrl:ra≠l:=fun z=>by rw[z,h5l] at Ni;have Ni:=Option.some.inj Ni;have Ni:HO.cm ls [N+1,N]=.dK P7:=Ni;cases Ni
       refine⟨l,ls,[N+1,N],1,pp,f1,N,ra,P7,rfl,rfl,h5l,U4,rfl,hN,Ni,e9 (fun b u e _=>g5.sub _ _ e) (m7 UH),fun or=>?_⟩
       let H6:Hp:=upd (upd H5 l (.cm ls ([N+1,N].set 1 (N+1)))) ra (.kd (some (pp,N)) or P7)
       show D.nx st H6
       have h6l:H6 l=some (.cm ls [N+1,N+1]):=by show(upd (upd H5 l _) ra _) l=_;rw[ah (Ne.symm nrl),aq];rfl
       have U7:∀ b o,H5 b=some o→b≠l→b≠ra→(upd H6 l (.memo ls)) b=some o:=fun b o e n1 n2=>by
         rw[ah n1]
         show(upd (upd H5 l _) ra _) b=_
         rw[ah n2,ah n1];exact e
       have f5r:∀ b o,rD b=some o→b≠ra:=fun b o e z=>by rw[z,n5'] at e;cases e
       have Hd:aL (upd rD l (.memo ls)) (upd H6 l (.memo ls)):=fun b o e=>by
         by_cases bl:b=l
         . rw[bl,aq] at e ⊢;exact e
         . rw[ah bl] at e;exact U7 b o (g5.sub _ _ e) bl (f5r b o e)
       have He:=e6 Hd
       have f4:∀ b o,Hf b=some o→b≠l→rD b=some o:=fun b o e n1=>g5.b8 _ _ (U6 _ _ (by rw[ah n1];exact e))
       have g6:bX G0.Hf G0.H (fT (upd rD l (.memo ls)) (upd H6 l (.memo ls))) (upd H6 l (.memo ls)):=by
         refine⟨fun b o e=>?_,fun b o e=>?_,k9 Hd,fun b o e=>?_⟩
         . by_cases bl:b=l
           . rw[bl,hB] at e;cases e;rw[bl];exact aq
           . have h3:H b=some o:=S.gr.big _ _ (by show(upd G0.H l _) b=_;rw[ah bl];exact e)
             have nbq:b≠qa:=fun z=>by
               have:(upd G0.H l (.cm ls [N,N])) qa=none:=hqg
               rw[← z,ah bl,e] at this;cases this
             have h4:=h4b b o h3 bl nbq
             exact U7 b o (g5.big _ _ h4) bl (fun z=>by have n5:H4 ra=none:=n5;rw[z,n5] at h4;cases h4)
         . by_cases bl:b=l
           . rw[bl,hA] at e;cases e;rw[bl];exact He _ _ aq
           . have h3:Hf b=some o:=S.gr.b8 _ _ (by show(upd G0.Hf l _) b=_;rw[ah bl];exact e)
             exact He _ _ (by rw[ah bl];exact f4 b o h3 bl)
         . rcases lX (Hf:=upd rD l (.memo ls)) (H:=upd H6 l (.memo ls)) b with⟨u',z1,z2,z3⟩ | z
           . rw[z3] at e;cases e;exact .inr (.inr z2)
           . rw[z] at e
             by_cases bl:b=l
             . rw[bl];exact .inl ⟨_,hA⟩
             . rw[ah bl] at e
               rcases g5.new b o e with⟨o',w⟩ | w | w
               . have eo:o'=o:=by have:=g5.b8 _ _ w;rw[e] at this;exact(Option.some.inj this).symm
                 subst eo
                 rcases lX (Hf:=upd Hf l u4) (H:=H4) b with⟨u',z1,z2,z3⟩ | z'
                 . have w:fT (upd Hf l u4) H4 b=some o':=w
                   rw[z3] at w;cases w;exact .inr (.inr z2)
                 . have w:fT (upd Hf l u4) H4 b=some o':=w
                   rw[z',ah bl] at w
                   rcases S.gr.new b o' w with⟨O3,y⟩ | y | y
                   . have y:(upd G0.Hf l _) b=some O3:=y
                     rw[ah bl] at y;exact .inl ⟨O3,y⟩
                   . have y:(upd G0.H l _) b=none:=y
                     rw[ah bl] at y;exact .inr (.inl y)
                   . exact .inr (.inr y)
               . have y:(upd G0.H l (.cm ls [N,N])) b=none:=S.gr.big.free (h4n b w)
                 rw[ah bl] at y;exact .inr (.inl y)
               . exact .inr (.inr w)
       have g45:aL (upd Hf l u4) rD:=U6.trans g5.b8
       have hm5:cP rD l ls:=.inr ⟨_,g45 _ _ aq⟩
       have P8:∀ {v:V} {d:Dt},pJ l d=true→Rep X.K Hf v d→Rep X.K (fT (upd rD l (.memo ls)) (upd H6 l (.memo ls))) v d:=fun {v d} hn r=>(fE hm5 (.inl rfl) hn ((fE hm mu4 hn r).mono g45)).mono He
       refine k st H6 ⟨by rw[eR];exact h6l,_,⟨g6,by have:=S.len;simpa using this,fun i d h=>?_,fun i o h=>?_,fun i j o o' a h=>?_⟩⟩
       . cases i with
         | zero=>
           cases h
           refine⟨_,hv,.obj (back _ (He _ _ (by rw[ah U5];exact f4 _ _ Bt U5))) ?_⟩
           have r5:=(fS hm mu4 (vP hs) rf).mono g45
           exact(NB hs hm5 r5).mono He
         | succ i=>
           have h:tl[i]?=some (.val d):=h
           have e:ng≠i:=fun z=>by rw[← z,hu] at h;cases h
           obtain⟨w,w1,w2⟩:=S.val (i+1) d (by show(tl.set ng _)[i]?=_;rw[List.getElem?_set_ne e];exact h)
           exact⟨w,w1,P8 (jw ht h) w2⟩
       . cases i with
         | zero=>cases h
         | succ i=>exact absurd h (bH (fk ht) i o)
       . cases i with
         | zero=>cases h
         | succ i=>exact absurd h (bH (fk ht) i o)
end
end Sg
namespace Sg
open PySem PySem.Spec PyProof.Rows L2
def ldk:HO→Bool
 | .lst _=>true
 | .dK _=>true
 | _=>false
def conv (H:Hp)(p p2 q1 q2:Addr)(u1 u2 u3 u4:HO):Hp:=upd (upd (upd (upd H p u1) p2 u2) q1 u3) q2 u4
section
variable {X:Cx}{pins:List (Addr×Obj)}{σ:L2.St}{H:Hp}{s:Shared}{p p2 q1 q2:Addr}{ki yv:List (Key×V)}{f g:Nat→List (Key×FD)}
theorem Inv.P9 (I:L2.Inv X pins σ H s)(hp:H p=some (.lst [.ref q1]))(uJ:H p2=some (.lst [.ref q2]))(JM:H q1=some (.dK ki))(U8:H q2=some (.dK yv))(f1:oY H ki (f 0))(f2:oY H yv (g 0))(n1:p≠p2)(n2:q1≠q2):∃ o1 o2,L2.Inv X pins σ (conv H p p2 q1 q2 (.memo [(p,f),(p2,g)]) (.part p) (.kd (some (p,0)) o1 ki) (.kd (some (p2,0)) o2 yv)) s:=by
 obtain⟨z1,i1,c1,r1,e1⟩:=(show bc X.prog X.w H s.heap p (.lst [.ref q1]) from I.bU p _ hp)
 obtain⟨z2,i2,c2,r2,e2⟩:=(show bc X.prog X.w H s.heap p2 (.lst [.ref q2]) from I.bU p2 _ uJ)
 obtain⟨K4,lo1,vs1,kr1,o1,es1,ep1,U9,SM⟩:=(show bc X.prog X.w H s.heap q1 (.dK ki) from I.bU q1 _ JM)
 obtain⟨hz2,lo2,vs2,kr2,o2,es2,ep2,ho2,hr2⟩:=(show bc X.prog X.w H s.heap q2 (.dK yv) from I.bU q2 _ U8)
 obtain⟨u1,rfl,w1⟩:=vals1 r1
 obtain⟨u2,rfl,w2⟩:=vals1 r2
 cases (show u1=Value.ref q1 from w1)
 cases (show u2=Value.ref q2 from w2)
 refine⟨o1,o2,?_⟩
 have m1:p≠q1:=fun z=>by rw[z,JM] at hp;cases hp
 have m2:p≠q2:=fun z=>by rw[z,U8] at hp;cases hp
 have m3:p2≠q1:=fun z=>by rw[z,JM] at uJ;cases uJ
 have m4:p2≠q2:=fun z=>by rw[z,U8] at uJ;cases uJ
 generalize K5:conv H p p2 q1 q2 (.memo [(p,f),(p2,g)]) (.part p) (.kd (some (p,0)) o1 ki) (.kd (some (p2,0)) o2 yv)=H'
 have Va:H' p=some (.memo [(p,f),(p2,g)]):=by rw[← K5];unfold conv;rw[ah m2,ah m1,ah n1,aq]
 have Qa:H' p2=some (.part p):=by rw[← K5];unfold conv;rw[ah m4,ah m3,aq]
 have Hg:H' q1=some (.kd (some (p,0)) o1 ki):=by rw[← K5];unfold conv;rw[ah n2,aq]
 have Vb:H' q2=some (.kd (some (p2,0)) o2 yv):=by rw[← K5];unfold conv;rw[aq]
 have Bq:∀ b,b≠p→b≠p2→b≠q1→b≠q2→H' b=H b:=fun b a1 a2 a3 a4=>by rw[← K5];unfold conv;rw[ah a4,ah a3,ah a2,ah a1]
 have qw:∀ b o,H b=some o→ldk o=false→H' b=some o:=fun b o e n=>by
   rw[Bq b (fun z=>by rw[z,hp] at e;cases e;cases n) (fun z=>by rw[z,uJ] at e;cases e;cases n) (fun z=>by rw[z,JM] at e;cases e;cases n) (fun z=>by rw[z,U8] at e;cases e;cases n)]
   exact e
 have kp:Kp H H':=⟨fun b o e kq=>qw b _ e (by cases o <;> first | rfl | exact(show False from kq).elim),fun b e=>by
   cases q:H b with
   | none=>rw[q] at e;exact e.elim
   | some u=>
     rw[q] at e
     rw[qw b u q (by cases u <;> first | rfl | exact e.elim)]
     exact e,fun b x e=>qw b _ e rfl⟩
 refine I.un (h':=s.heap) (t':=s.toks) ⟨fun b o e _ _ _=>e,fun b o e _ _ _=>⟨o.slots,e⟩,fun b o e n _=>?_,fun b o e _=>⟨o,e⟩,fun b xs e=>qw b _ e rfl,fun b o u e=>qw b _ e rfl,fun b ps e=>⟨#[],by rw[qw b _ e rfl];simp⟩⟩ fun b u e=>?_
 . rw[Bq b (fun z=>by rw[z,hp] at n;cases n) (fun z=>by rw[z,uJ] at n;cases n) (fun z=>by rw[z,JM] at n;cases n) (fun z=>by rw[z,U8] at n;cases n)]
   exact n
 . by_cases b1:b=p
   . subst b1
     rw[Va] at e;cases e
     refine⟨⟨_,e1⟩,1,by decide,⟨f,rfl⟩,rfl,fun j a h hj=>?_,by simp[n1],fun n hn=>by rw[List.mem_replicate] at hn;omega,fun j a h n hj hn=>?_⟩
     . match j,hj with
       | 0,hj=>cases hj;exact .inl rfl
       | 1,hj=>cases hj;exact .inr Qa
     . match j,hj,hn with
       | 0,hj,hn=>
         cases hj;cases hn
         refine⟨_,_,e1,rfl,fun i hi=>?_⟩
         have:i=0:=by omega
         subst this
         exact⟨q1,o1,ki,rfl,Hg,f1.kp kp⟩
       | 1,hj,hn=>
         cases hj;cases hn
         refine⟨_,_,e2,rfl,fun i hi=>?_⟩
         have:i=0:=by omega
         subst this
         exact⟨q2,o2,yv,rfl,Vb,f2.kp kp⟩
   . by_cases b2:b=p2
     . subst b2;rw[Qa] at e;cases e;exact⟨_,e2⟩
     . by_cases b3:b=q1
       . subst b3;rw[Hg] at e;cases e
         refine⟨U9,⟨K4,lo1,vs1,kr1,o1,es1,ep1,U9,SM⟩,fun a i ht=>?_⟩
         cases ht
         exact⟨by rw[Va];trivial,_,_,e1,rfl⟩
       . by_cases b4:b=q2
         . subst b4;rw[Vb] at e;cases e
           refine⟨ho2,⟨hz2,lo2,vs2,kr2,o2,es2,ep2,ho2,hr2⟩,fun a i ht=>?_⟩
           cases ht
           exact⟨by rw[Qa];trivial,_,_,e2,rfl⟩
         . rw[Bq b b1 b2 b3 b4] at e
           exact(I.bU b u e).v8 (fun _ _ _ q=>q) (fun c q=>qw c _ q rfl) (fun c xs q=>qw c _ q rfl) kp
end
theorem CZ (n0:Str)(v:V):∀ fv:List (Str×V),(eF n0 v fv).length≤fv.length+1
 | []=>Nat.le_refl _
 | (k,w)::r=>by
   have ih:=CZ n0 v r
   unfold eF
   split
   . simp
   . simp only[List.length_cons];omega
section
variable {X:Cx}{G:Gr}{E:XK}{e1 e2:Expr}{fs:List (Str×Dt)}{z C:Addr}{tl:List Slot}{f g:Nat→List (Key×FD)}{n0 n1 x0:Str}{Qb pn2 Qc ap2 Qd lp2 q1 q2:Pos}
theorem xb (no:noOwn tl=true)(cl:nH X.K C)(PZ:cu X.K C n0)(na1:cu X.K C n1)(he1:EO X G (.own (.zd z C fs)::tl) e1 (.eB (kI (f 0))))(Pd:EO X G (.bE::tl) e2 (.eB (kI (g 0))))(Qe:∀ p ls,putD n1 (.memo p ls 1 1) (putD n0 (.memo p ls 0 1) fs)=qc fs [n0,n1] p ls 1:=by intro _ _;rfl)(hlen:Nat.ble fs.length 990=true:=by rfl)(hN:X.N[0]?=some x0:=by rfl)(hv:rY X.env.scope x0:=by first | exact Or.inl rfl | exact Or.inr (Or.inl rfl) | exact Or.inr (Or.inr rfl))(jK:(x0 == ("__debug__":Str))=false:=by decide)(jJ:(x0 == ("__classdict__":Str))=false:=by decide)(w6:starEach [e1] X.env=[(false,eval e1 X.env)]:=by rfl)(K3:starEach [e2] X.env=[(false,eval e2 X.env)]:=by rfl)(Fd:swapsWith (.List [e1] Qd) (some (.Attribute (.Name x0 Qb) n0 Qc)) q1.line X.env=pure false:=by rfl)(yM:swapsWith (.List [e2] lp2) (some (.Attribute (.Name x0 pn2) n1 ap2)) q2.line X.env=pure false:=by rfl):jQ X G E (.own (.zd z C fs)::tl) [.Assign [.Attribute (.Name x0 Qb) n0 Qc] (.List [e1] Qd) q1,.Assign [.Attribute (.Name x0 pn2) n1 ap2] (.List [e2] lp2) q2] (.nx (.own (.wG z C fs [f,g] [n0,n1] 1)::tl)):=by
 intro pins s st H D I ⟨Hf,S,k⟩
 have base:=kU (se (pos:=q1) (pos':=Qc) (fP (pos:=Qb) hN hv jK jJ) (sh (pos:=Qd) (iO he1 kY w6)) Fd) (jN (se (pos:=q2) (pos':=ap2) (fP (pos:=pn2) hN hv jK jJ) (sh (pos:=lp2) (iO Pd kY K3)) yM))
 let RQ:L2.St→Hp→Prop:=fun gY H'=>∃ p p2 a1 a2 ki yv,H' p=some (.lst [.ref a1])∧H' p2=some (.lst [.ref a2])∧H' a1=some (.dK ki)∧H' a2=some (.dK yv)∧oY H' ki (f 0)∧oY H' yv (g 0)∧p≠p2∧a1≠a2∧ ∀ o1 o2,D.nx gY (conv H' p p2 a1 a2 (.memo [(p,f),(p2,g)]) (.part p) (.kd (some (p,0)) o1 ki) (.kd (some (p2,0)) o2 yv))
 refine cM (base pins s st H { D with nx:=RQ} I ?_) fun fl s7 q7=>?_
 . obtain⟨za,hz,hzf,SN,ez,dx,fv,K6,rf⟩:=S.own 0 _ rfl
   subst ez
   refine⟨Hf,S,fun a1 aA H1 g1 Vc Qf ⟨ki,PB,rk1⟩=>⟨Nat.le_of_ble_eq_true rfl,fun p hp=>?_⟩⟩
   have K4:H1 za=some (.ins C dx fv):=g1.big _ _ K6
   have JN:za≠p:=aB K4 hp
   have Vd:a1≠p:=aB PB hp
   have NF:za≠a1:=fun w=>by rw[w,Vc] at K6;cases K6
   have hzp:(upd H1 p (.lst [.ref a1])) za=some (.ins C dx fv):=by rw[ah JN];exact K4
   refine⟨_,hz,za,C,dx,fv,rfl,hzp,cl,PZ,by rw[rf.length];exact Nat.lt_of_le_of_lt (Nat.le_of_ble_eq_true hlen) (by decide),?_⟩
   let H2:Hp:=upd (upd H1 p (.lst [.ref a1])) za (.ins C dx (eF n0 (.ref p) fv))
   have Et:aA za=none:=g1.iu hzf K6
   have gz1:bX aA H1 aA (upd H1 p (.lst [.ref a1])):=.eC g1.sub hp
   have S0:d7 X.K G st Hf H (.bE::tl):=S.weak ⟨rfl,fun i s' e n=>by
     cases i with
     | zero=>cases e;exact absurd rfl n
     | succ i=>exact e⟩
   have nou:noOwn (.bE::tl)=true:=no
   have S2:d7 X.K G st aA H2 (.bE::tl):=lU ((S0.grow g1).grow gz1) nou Et SN
   refine⟨aA,S2,fun a2 fM H3 g3 n3 n3' ⟨yv,Nx,UH⟩=>⟨Nat.le_of_ble_eq_true rfl,fun p2 uJ=>?_⟩⟩
   have n3h:H2 a2=none:=n3
   have h2z:H2 za=some (.ins C dx (eF n0 (.ref p) fv)):=aq
   have h2p:H2 p=some (.lst [.ref a1]):=by show(upd (upd H1 p _) za _) p=_;rw[ah (Ne.symm JN),aq]
   have h2a:H2 a1=some (.dK ki):=by show(upd (upd H1 p _) za _) a1=_;rw[ah (Ne.symm NF),ah Vd];exact PB
   have h3z:=g3.big _ _ h2z
   have h3p:=g3.big _ _ h2p
   have h3a:=g3.big _ _ h2a
   have K7:za≠p2:=aB h3z uJ
   have Qg:p≠p2:=aB h3p uJ
   have NG:a1≠p2:=aB h3a uJ
   have NH:a2≠p2:=aB Nx uJ
   have Qh:za≠a2:=fun w=>by rw[w,n3h] at h2z;cases h2z
   have ac4:p≠a2:=fun w=>by rw[w,n3h] at h2p;cases h2p
   have Ve:a1≠a2:=fun w=>by rw[w,n3h] at h2a;cases h2a
   have ac5:(upd H3 p2 (.lst [.ref a2])) za=some (.ins C dx (eF n0 (.ref p) fv)):=by rw[ah K7];exact h3z
   refine⟨_,hz,za,C,dx,_,rfl,ac5,cl,na1,?_,?_⟩
   . have:=CZ n0 (.ref p) fv
     have h9:=Nat.le_of_ble_eq_true hlen
     have:=rf.length
     omega
   let H4:Hp:=upd (upd H3 p2 (.lst [.ref a2])) za (.ins C dx (eF n1 (.ref p2) (eF n0 (.ref p) fv)))
   have h4p:H4 p=some (.lst [.ref a1]):=by show(upd (upd H3 p2 _) za _) p=_;rw[ah (Ne.symm JN),ah Qg];exact h3p
   have ac7:H4 p2=some (.lst [.ref a2]):=by show(upd (upd H3 p2 _) za _) p2=_;rw[ah (Ne.symm K7),aq]
   have Qi:H4 a1=some (.dK ki):=by show(upd (upd H3 p2 _) za _) a1=_;rw[ah (Ne.symm NF),ah NG];exact h3a
   have ac8:H4 a2=some (.dK yv):=by show(upd (upd H3 p2 _) za _) a2=_;rw[ah (Ne.symm Qh),ah NH];exact Nx
   have h4z:H4 za=some (.ins C dx (eF n1 (.ref p2) (eF n0 (.ref p) fv))):=aq
   have f3z:fM za=none:=g3.iu Et h2z
   have f3p:fM p=none:=g3.iu (g1.sub.free hp) h2p
   have adb:fM a1=none:=g3.iu Qf h2a
   have Vf:fM p2=none:=g3.sub.free uJ
   have xa:aL fM H4:=fun b o e=>by
     have b1:b≠za:=fun w=>by rw[w,f3z] at e;cases e
     have b2:b≠p2:=fun w=>by rw[w,Vf] at e;cases e
     show(upd (upd H3 p2 _) za _) b=_
     rw[ah b1,ah b2];exact g3.sub _ _ e
   have S4:d7 X.K G st fM H4 (.bE::tl):=lU ((S2.grow g3).grow (.eC g3.sub uJ)) nou f3z SN
   have gp:G.H p=none:=S.gr.big.free (g1.big.free hp)
   have Vg:G.H a1=none:=S.gr.big.free Vc
   have gp2:G.H p2=none:=S2.gr.big.free (g3.big.free uJ)
   have ga2:G.H a2=none:=S2.gr.big.free n3
   have Vh:oY fM ki (f 0):=m7 (rk1.mono g3.b8)
   have fz2:oY fM yv (g 0):=m7 UH
   refine⟨p,p2,a1,a2,ki,yv,h4p,ac7,Qi,ac8,e9 (fun b u e _=>xa _ _ e) Vh,e9 (fun b u e _=>xa _ _ e) fz2,Qg,Ve,fun o1 o2=>?_⟩
   let ls:gK:=[(p,f),(p2,g)]
   let u1:HO:=.memo ls
   let u3:HO:=.kd (some (p,0)) o1 ki
   let u4:HO:=.kd (some (p2,0)) o2 yv
   have m1:p≠a1:=Ne.symm Vd
   have cat:∀ (B:Hp),conv B p p2 a1 a2 u1 (.part p) u3 u4 p=some u1∧conv B p p2 a1 a2 u1 (.part p) u3 u4 p2=some (.part p)∧conv B p p2 a1 a2 u1 (.part p) u3 u4 a1=some u3∧conv B p p2 a1 a2 u1 (.part p) u3 u4 a2=some u4:=fun B=>by
     unfold conv
     refine⟨?_,?_,?_,?_⟩
     . rw[ah ac4,ah m1,ah Qg,aq]
     . rw[ah (Ne.symm NH),ah (Ne.symm NG),aq]
     . rw[ah Ve,aq]
     . rw[aq]
   have sT:∀ (B:Hp) b,b≠p→b≠p2→b≠a1→b≠a2→conv B p p2 a1 a2 u1 (.part p) u3 u4 b=B b:=fun B b c1 c2 c3 c4=>by unfold conv;rw[ah c4,ah c3,ah c2,ah c1]
   let rD:Hp:=conv fM p p2 a1 a2 u1 (.part p) u3 u4
   have Fj:aL fM rD:=fun b o e=>by
     show conv fM p p2 a1 a2 u1 (.part p) u3 u4 b=some o
     rw[sT fM b (fun w=>by rw[w,f3p] at e;cases e) (fun w=>by rw[w,Vf] at e;cases e) (fun w=>by rw[w,adb] at e;cases e) (fun w=>by rw[w,n3'] at e;cases e)]
     exact e
   have key:∀ (A B:Hp),aL A B→aL (conv A p p2 a1 a2 u1 (.part p) u3 u4) (conv B p p2 a1 a2 u1 (.part p) u3 u4):=fun A B sm=>dP (dP (dP (dP sm)))
   have Qj:aL rD (conv H4 p p2 a1 a2 u1 (.part p) u3 u4):=key _ _ xa
   have Hh:bS X.K rD (eF n1 (.ref p2) (eF n0 (.ref p) fv)) (qc fs [n0,n1] p ls 1):=by
     rw[← Qe p ls]
     refine((rf.mono ((g1.b8.trans g3.b8).trans Fj)).put (f:=n0) (d:=.memo p ls 0 1) ?_).put (f:=n1) (d:=.memo p ls 1 1) ?_
     . refine .memo (f:=f) rfl (cat fM).1 (.inl rfl) fun i hi=>?_
       have:i=0:=by omega
       subst this
       exact⟨a1,o1,ki,(cat fM).2.2.1,e9 (fun b u e _=>Fj _ _ e) Vh⟩
     . refine .memo (f:=g) rfl (cat fM).1 (.inr (cat fM).2.1) fun i hi=>?_
       have:i=0:=by omega
       subst this
       exact⟨a2,o2,yv,(cat fM).2.2.2,e9 (fun b u e _=>Fj _ _ e) fz2⟩
   have czH:conv H4 p p2 a1 a2 u1 (.part p) u3 u4 za=some (.ins C dx (eF n1 (.ref p2) (eF n0 (.ref p) fv))):=by rw[sT H4 za JN K7 NF Qh];exact h4z
   have czF:rD za=none:=by show conv fM p p2 a1 a2 u1 (.part p) u3 u4 za=none;rw[sT fM za JN K7 NF Qh];exact f3z
   refine k st rD _ ((g1.b8.trans g3.b8).trans Fj) ⟨⟨fun b o e=>?_,S4.gr.b8.trans Fj,Qj,fun b o e=>?_⟩,by have:=S4.len;simpa using this,fun i d h=>?_,fun i o h=>?_,fun i j o o' a w1 w2=>?_⟩
   . rw[sT H4 b (fun w=>by rw[w,gp] at e;cases e) (fun w=>by rw[w,gp2] at e;cases e) (fun w=>by rw[w,Vg] at e;cases e) (fun w=>by rw[w,ga2] at e;cases e)]
     exact S4.gr.big _ _ e
   . by_cases c1:b=p
     . rw[c1];exact .inr (.inl gp)
     . by_cases c2:b=p2
       . rw[c2];exact .inr (.inl gp2)
       . by_cases c3:b=a1
         . rw[c3];exact .inr (.inl Vg)
         . by_cases c4:b=a2
           . rw[c4];exact .inr (.inl ga2)
           . have e:conv fM p p2 a1 a2 u1 (.part p) u3 u4 b=some o:=e
             rw[sT fM b c1 c2 c3 c4] at e
             exact S4.gr.new b o e
   . cases i with
     | zero=>cases h
     | succ i=>
       obtain⟨w,w1,w2⟩:=S4.val (i+1) d h
       exact⟨w,w1,w2.mono Fj⟩
   . cases i with
     | zero=>
       cases h
       exact⟨za,hz,czF,SN,rfl,dx,_,p,ls,rfl,czH,Hh⟩
     | succ i=>exact absurd h (bH no i o)
   . cases i with
     | zero=>cases j with
       | zero=>exact fun _ _=>rfl
       | succ j=>exact absurd w2 (bH no j o')
     | succ i=>exact absurd w1 (bH no i o)
 . cases fl with
   | next=>
     obtain⟨σ7,H7,I7,p,p2,a1,a2,ki,yv,y1,y2,y3,y4,y5,y6,y7,y8,kk⟩:=q7
     obtain⟨o1,o2,I8⟩:=Inv.P9 I7 y1 y2 y3 y4 y5 y6 y7 y8
     exact⟨σ7,_,I8,kk o1 o2⟩
   | cont=>exact q7
   | brk=>exact q7
   | ret v=>exact q7
end
end Sg
namespace Sg
open PySem PySem.Spec PyProof.Rows L2
section
variable {X:Cx}{G:Gr}{E:XK}{dl:List Slot}{a b e o:Expr}{d:Dt}{u:Bool}{pos p apos bR:Pos}{k x:Str}{kds:List (Key×Dt)}
variable {d1 d2 d3 d4:Dt}
theorem K8 (n1 n2 n3 n4:Nat){a b c f:Str}{pa pb pc pf tp:Pos}{cx:Nat}(hN:X.N.Nodup)(hc:X.calm=true)(he:EE X G dl e (.tup [d1,d2,d3,d4]))(Ux:X.N[n1]?=some a:=by rfl)(Uy:X.N[n2]?=some b:=by rfl)(hi3:X.N[n3]?=some c:=by rfl)(hi4:X.N[n4]?=some f:=by rfl)(Uz:Loc X.env.scope a:=by first | exact Or.inl rfl | exact Or.inr rfl)(O2:Loc X.env.scope b:=by first | exact Or.inl rfl | exact Or.inr rfl)(hx3:Loc X.env.scope c:=by first | exact Or.inl rfl | exact Or.inr rfl)(hx4:Loc X.env.scope f:=by first | exact Or.inl rfl | exact Or.inr rfl)(UA:X.fn a=true∨X.env.scope.names.lookup a=some .local:=by first | exact .inl rfl | exact .inr rfl)(UB:X.fn b=true∨X.env.scope.names.lookup b=some .local:=by first | exact .inl rfl | exact .inr rfl)(hf3:X.fn c=true∨X.env.scope.names.lookup c=some .local:=by first | exact .inl rfl | exact .inr rfl)(hf4:X.fn f=true∨X.env.scope.names.lookup f=some .local:=by first | exact .inl rfl | exact .inr rfl)(hn:(assignEach [.Name a pa,.Name b pb,.Name c pc,.Name f pf] X.env).length=4:=by rfl)(kG:(assignEach [.Name a pa,.Name b pb,.Name c pc,.Name f pf] X.env).findIdx? (·.1)=none:=by rfl)(q1:(assignEach [.Name a pa,.Name b pb,.Name c pc,.Name f pf] X.env).map (·.2)=assign (.Name a pa) X.env::(assignEach [.Name b pb,.Name c pc,.Name f pf] X.env).map (·.2):=by rfl)(q2:(assignEach [.Name b pb,.Name c pc,.Name f pf] X.env).map (·.2)=assign (.Name b pb) X.env::(assignEach [.Name c pc,.Name f pf] X.env).map (·.2):=by rfl)(q3:(assignEach [.Name c pc,.Name f pf] X.env).map (·.2)=assign (.Name c pc) X.env::(assignEach [.Name f pf] X.env).map (·.2):=by rfl)(q4:(assignEach [.Name f pf] X.env).map (·.2)=assign (.Name f pf) X.env::(assignEach [] X.env).map (·.2):=by rfl)(hs:swapsWithSole [.Tuple [.Name a pa,.Name b pb,.Name c pc,.Name f pf] cx tp] e pos.line X.env=pure false:=by rfl)(hw:swappedStores [.Tuple [.Name a pa,.Name b pb,.Name c pc,.Name f pf] cx tp] e X.env=pure none:=by rfl)(h1:(assignEach [.Tuple [.Name a pa,.Name b pb,.Name c pc,.Name f pf] cx tp] X.env).map (·.2)=[assign (.Tuple [.Name a pa,.Name b pb,.Name c pc,.Name f pf] cx tp) X.env]:=by rfl):ES X G E dl (.Assign [.Tuple [.Name a pa,.Name b pb,.Name c pc,.Name f pf] cx tp] e pos) (.nx ((((dl.set n1 (.val d1)).set n2 (.val d2)).set n3 (.val d3)).set n4 (.val d4))):=
 qt (we he (r6 hc (dU (cD (pos:=pa) hN Ux Uz UA) (dU (cD (pos:=pb) hN Uy O2 UB) (dU (cD (pos:=pc) hN hi3 hx3 hf3) (dU (cD (pos:=pf) hN hi4 hx4 hf4) lL q4) q3) q2) q1) hn kG) hs hw h1) fun D st H ⟨Hf,S,k⟩=>⟨Hf,S,fun v aA H1 g1 r1=>by
   cases r1 with
   | @tup q vs _ hq rp=>
     cases rp with
     | cons r1 t1=>cases t1 with
       | cons r2 t2=>cases t2 with
         | cons r3 t3=>cases t3 with
           | cons r4 t4=>
             cases t4
             exact⟨q,_,rfl,eU g1.sub hq,rfl,_,_,rfl,_,_,rfl,_,_,rfl,_,_,rfl,rfl,k _ aA H1 g1.b8 (((((S.grow g1).set r1).set r2).set r3).set r4)⟩⟩
end
end Sg
namespace Sg
open PySem PySem.Spec PyProof.Rows L2
theorem fm:PySem.Slot "reversed" "__next__" "reversed.__next__":=
 .of (owner:="reversed") (n:="__next__") (by rw[typeLookup_type,builtinLookup_eq_fast];kernel_rfl) (by decide +kernel) (by decide +kernel) (by decide +kernel)
   (by first | exact .inl (by decide +kernel) | exact .inr (by decide +kernel)) (by rw[isSubtype_type];kernel_rfl)
theorem lb:entryFor table "reversed.__next__"=some Builtin.«reversed.__next__»:=entryFor_of_tree (by kernel_rfl)
theorem kj (a:Value):argsOk "reversed.__next__" ⟨[a],[]⟩:=by unfold argsOk;kernel_rfl
theorem mL:PySem.Slot "reversed" "__iter__" "reversed.__iter__":=
 .of (owner:="reversed") (n:="__iter__") (by rw[typeLookup_type,builtinLookup_eq_fast];kernel_rfl) (by decide +kernel) (by decide +kernel) (by decide +kernel)
   (by first | exact .inl (by decide +kernel) | exact .inr (by decide +kernel)) (by rw[isSubtype_type];kernel_rfl)
theorem qx (a:Value):argsOk "reversed.__iter__" ⟨[a],[]⟩:=by unfold argsOk;kernel_rfl
theorem sU:entryFor table "reversed.__iter__"=some Builtin.«dict_keyiterator.__iter__»:=
 entryFor_alias (id':="dict_keyiterator.__iter__") (by kernel_rfl) (by first | rfl | decide +kernel | (unfold String.splitOn;simp +decide [String.splitOnAux])) (by decide +kernel) (by kernel_rfl)
theorem uP:PySem.Slot "reversed" "__init__" "object.__init__":=
 .of (owner:="object") (n:="__init__") (by rw[typeLookup_type,builtinLookup_eq_fast];kernel_rfl) (by decide +kernel) (by decide +kernel) (by decide +kernel)
   (by first | exact .inl (by decide +kernel) | exact .inr (by decide +kernel)) (by rw[isSubtype_type];kernel_rfl)
theorem Bu:TypeCalled "reversed" "reversed.__new__" "object.__init__":=
 ⟨by decide +kernel,by decide +kernel,⟨_,_,F.mro_reversed⟩,F.made_reversed,by decide +kernel,F.sub_reversed_self,uP⟩
theorem l9:typeLookup (.type "str") "__reversed__"=pure none:=by rw[typeLookup_type,builtinLookup_eq_fast];kernel_rfl
theorem iy:typeLookup (.type "str") "__getitem__"=pure (some (.builtin "str.__getitem__")):=by rw[typeLookup_type,builtinLookup_eq_fast];kernel_rfl
theorem uQ:isSubtype (.type "str") (.type "dict")=pure false:=by rw[isSubtype_type];kernel_rfl
section
variable {prog:Program}{w:World}{A:Around}{E:Value→Shared→Prop}{s:Shared}
def NI (x:Str)(t:Tok)(i:Int):Obj:={ cls:=.type "reversed",data:=.fields #[.str x t,rawInt i]}
def m9 (h:Heap)(a:Addr)(x:Str)(t:Tok)(i:Int):Prop:=∃ o,h.get? a=some o∧o.cls=.type "reversed"∧o.data=.fields #[.str x t,rawInt i]
theorem m9.typeIs {a:Addr}{x:Str}{t:Tok}{i:Int}(q:m9 s.heap a x t i):s.TypeIs (.ref a) "reversed":=let ⟨o,ho,hc,_⟩:=q;⟨o,ho,hc⟩
theorem Hi (x:Str)(t:Tok)(sq:¬ (x.length:Int) ≥ 2 ^ 63):MeetsIn prog w (Builtin.«reversed.__new__» ⟨[.type "reversed",.str x t],[]⟩) (fun A R s=>R (.ok (.ret (.ref s.heap.objs.size))) { s with heap:=s.heap.push (NI x t ((x.length:Int) - 1)),toks:=s.toks+1+1}):=
 .of_wp fun A R s h=>by
   unfold Builtin.«reversed.__new__»
   refine wpAny_bind (wpAny_of_eq (newClass_reversed _) ?_)
   try dsimp only
   refine wpAny_bind (wpAny_of_eq (a:=()) (by first | rfl | kernel_rfl) ?_)
   refine wpAny_bind (wpAny_of_eq (a:=()) (by first | rfl | kernel_rfl) ?_)
   try dsimp only
   refine wpAny_bind (wpAny_specialOf (typeIs_str s x t) l9 ?_)
   try dsimp only
   refine wpAny_bind (wpAny_bind (wpAny_isInstance (typeIs_str s x t) uQ ?_))
   rw[if_neg Bool.false_ne_true]
   refine wpAny_bind (wpAny_specialOf (typeIs_str s x t) iy ?_)
   refine wpAny_of_eq (a:=true) (by kernel_rfl) ?_
   rw[if_neg (show ¬ ((!true)=true) from Bool.false_ne_true)]
   try dsimp only
   refine wpAny_bind (len_str sq ?_)
   refine wpAny_bind (wpAny_of_eq (a:=some (x.length:Int)) rfl ?_)
   try dsimp only
   refine wpAny_bind ?_
   show wpAny _ _ (newObj (.type "reversed") (.fields #[.str x t,rawInt ((x.length:Int) - 1)])) _ _ _
   exact wpAny_newObj_type (wpAny_pure ⟨_,rfl,h⟩)
theorem Eu {x:Str}{t:Tok}{Q:Value→Shared→Prop}(sq:¬ (x.length:Int) ≥ 2 ^ 63)(h:Q (.ref s.heap.objs.size) { s with heap:=s.heap.push (NI x t ((x.length:Int) - 1)),toks:=s.toks+1+1}):wpAny (model prog w) A (call (.type "reversed") [.str x t]) Q E s:=
 callType_newIn Bu (by decide) (F.typeCall_reversed_1 _) (F.newCall_reversed_1 _) (fun obj=>F.args_object_init_2 obj _) F.entry_reversed_new (Hi x t sq) ⟨⟨_,Heap.get?_push_size _ rfl,rfl⟩,h⟩
theorem pL {it:Addr}{x:Str}{t:Tok}{i c:Nat}{Q:Option Value→Shared→Prop}(hit:m9 s.heap it x t (i:Int))(hx:x.cps[i]?=some c)(sq:¬ (x.length:Int) ≥ 2 ^ 63)(hQ:∀ h',m9 h' it x t ((i:Int) - 1)→Heap.SameBut it s.heap h'→Q (some (.str ⟨#[c]⟩ (s.toks+1))) { s with heap:=h',toks:=s.toks+1+1}):wpAny (model prog w) A (pyNext (.ref it)) Q E s:=by
 obtain⟨o,ho,hc,hd⟩:=id hit
 have hil:i < x.length:=by
   have:=(Array.getElem?_eq_some_iff.mp hx).1
   exact this
 unfold pyNext
 refine wpAny_bind (wpAny_attempt (wpAny_callSpecial?_slot (name:=Str.ofString "__next__") hit.typeIs fm
   (wpAny_call_entry fm hit.typeIs lb ?_ (kj _))))
 unfold Builtin.«reversed.__next__»
 refine wpAny_bind (wpAny_of_eq (a:=(Value.ref it,[])) rfl ?_)
 try dsimp only
 refine wpAny_bind (wpAny_field ho hd (x:=.str x t) rfl ?_)
 refine wpAny_bind (wpAny_field ho hd (x:=rawInt (i:Int)) rfl ?_)
 show wpAny _ _ (if (i:Int) < 0 then _ else _) _ _ s
 rw[if_neg (by omega)]
 refine wpAny_bind (wpAny_specialOf (typeIs_str s x t) iy ?_)
 rw[if_neg (show ¬ ((some (Value.builtin "str.__getitem__")).isNone=true) from Bool.false_ne_true)]
 try dsimp only
 refine wpAny_bind (wpAny_mkInt ?_)
 refine wpAny_bind (wpAny_attempt (getItem_str (c:=c) ?_ ?_ ?_))
 . have e1:decide ((i:Int) < -(2 ^ 63:Int))=false:=decide_eq_false (by omega)
   have e2:decide ((i:Int) ≥ 2 ^ 63)=false:=decide_eq_false (by omega)
   rw[e1,e2];rfl
 . have e:seqIndex? (i:Int) x.length=some i:=by
     unfold seqIndex?
     simp
     omega
   rw[e];exact hx
 try dsimp only
 refine wpAny_bind (wpAny_field ho hd (x:=rawInt (i:Int)) rfl ?_)
 try dsimp only
 refine wpAny_bind (wpAny_setField ho hd (by simp) ?_)
 refine wpAny_pure ⟨_,rfl,wpAny_pure (hQ _ ?_ (Heap.SameBut.update ..))⟩
 exact⟨_,Heap.get?_update_self _ ho (Obj.isFreed_of_fields (Obj.data_mapFields hd _)),(Obj.cls_mapFields ..).trans hc,by
   rw[Obj.data_mapFields hd];simp⟩
theorem qy {it:Addr}{x:Str}{t:Tok}{Q:Option Value→Shared→Prop}(hh:A.handled=none)(hit:m9 s.heap it x t (-1))(hQ:∀ h',Heap.ExtBut it s.heap h'→Q none { s with heap:=h'}):wpAny (model prog w) A (pyNext (.ref it)) Q E s:=by
 obtain⟨o,ho,hc,hd⟩:=id hit
 unfold pyNext
 refine wpAny_bind (wpAny_attempt (wpAny_callSpecial?_slot (name:=Str.ofString "__next__") hit.typeIs fm
   (wpAny_call_entry fm hit.typeIs lb ?_ (kj _))))
 unfold Builtin.«reversed.__next__»
 refine wpAny_bind (wpAny_of_eq (a:=(Value.ref it,[])) rfl ?_)
 try dsimp only
 refine wpAny_bind (wpAny_field ho hd (x:=.str x t) rfl ?_)
 refine wpAny_bind (wpAny_field ho hd (x:=rawInt (-1)) rfl ?_)
 show wpAny _ _ (if (-1:Int) < 0 then _ else _) _ _ s
 rw[if_pos (by decide)]
 refine wpAny_bind (wpAny_rule ?_)
 refine wpAny_bind (wpAny_bind (wpAny_setField ho hd (by simp) ?_))
 have ho2:=Heap.get?_update_self (Obj.mapFields (·.setIfInBounds 1 (rawInt (-1)))) ho (Obj.isFreed_of_fields (Obj.data_mapFields hd _))
 refine wpAny_setField ho2 (Obj.data_mapFields hd _) (by simp) ?_
 refine wpAny_bind ?_
 show wpAny _ _ (newExc (.type "StopIteration") [] >>= _) _ _ _
 refine wpAny_bind ?_
 simp only[newExc,newTuple]
 refine wpAny_bind (wpAny_newObj_type ?_ (by size_fits))
 refine wpAny_bind (m:=firstArgMember _ _) (wpAny_of_eq (a:=Value.none) (by first | rfl | (simp only[firstArgMember];rfl)) ?_)
 refine wpAny_newObj_type ?_ (by size_fits)
 simp only[raiseNew]
 refine wpAny_bind (wpAny_handled ?_)
 first | rw[show A.in1.handled=none from hh] | rw[hh]
 refine wpAny_bind (wpAny_pure (wpAny_throw ?_))
 refine wpAny_bind (wpAny_isInstance (T:="StopIteration") (b:=true) ⟨_,Heap.get?_push_size _ rfl,rfl⟩ isSubtype_stop ?_)
 exact wpAny_pure (hQ _ (Heap.ExtBut.push (Heap.ExtBut.push (fun b o ne e=>((Heap.SameBut.update ..).2 b ne).trans (((Heap.SameBut.update ..).2 b ne).trans e)) _) _))
theorem qf {it:Addr}{x:Str}{t:Tok}{i:Int}{Q:Value→Shared→Prop}(hit:m9 s.heap it x t i)(h:Q (.ref it) s):wpAny (model prog w) A (pyIter (.ref it)) Q E s:=by
 refine wpAny_pyIter_slot hit.typeIs mL (wpAny_call_entry mL hit.typeIs sU ?_ (qx _))
 show wpAny _ _ (ret (.ref it)) _ _ s
 exact wpAny_pure ⟨_,rfl,"reversed",_,hit.typeIs,fm.lookup,h⟩
end
def Vi (x:Str):It:=
 ⟨fun i H=>i < x.length,fun i H v H'=>H'=H∧∃ c,x.cps[x.length - 1 - i]?=some c∧v=.str ⟨#[c]⟩,fun i H=>i=x.length⟩
theorem Ew {P:Program}{w:World}{K:PySem.W.Frag}{tg:Expr}(x:Str)(t:Tok)(it:Addr)(sq:¬ (x.length:Int) ≥ 2 ^ 63):Turn P w K tg (Vi x) [it] it (fun i h=>m9 h it x t ((x.length:Int) - 1 - i)) where
 mem:=by simp
 obj:=fun i h st b hb=>by
   have e:b=it:=by simpa using hb
   subst e
   obtain⟨o,e,c,d⟩:=st
   exact⟨o,e,fun v z=>by rw[d] at z;cases z⟩
 keep:=fun i h h' st k=>let ⟨o,e,c,d⟩:=st;⟨o,k it (by simp) o e,c,d⟩
 item:=by
   intro X hP hw hK hc i pins s σ H E I hf st hg
   subst hP hw hK
   have hg:i < x.length:=hg
   obtain⟨f0,f1,f2,f3,f4,f5⟩:=hf it (by simp)
   have e1:(x.length:Int) - 1 - i=((x.length - 1 - i:Nat):Int):=by omega
   rw[e1] at st
   have dS:x.length - 1 - i < x.cps.size:=by show _ < x.length;omega
   refine pL (c:=x.cps[x.length - 1 - i]) st (Array.getElem?_eq_getElem dS) sq fun h' gY sb=>?_
   have I1:L2.Inv X pins σ H { s with heap:=h',toks:=s.toks+1+1}:=I.turned (t':=s.toks+1+1) (fun b o hb e=>(sb.2 b hb).trans e) f0 f1 f3 f4 f5
   have e2:((x.length - 1 - i:Nat):Int) - 1=(x.length:Int) - 1 - ((i+1:Nat):Int):=by omega
   rw[e2] at gY
   obtain⟨o,e,c,d⟩:=id gY
   exact⟨_,rfl,Cg (s:={ s with heap:=h',toks:=s.toks+1+1}) e c d (by decide) ⟨.str ⟨#[x.cps[x.length - 1 - i]]⟩,H,I1,⟨_,rfl⟩,⟨rfl,_,Array.getElem?_eq_getElem dS,rfl⟩,gY,fun b hb=>(hf b hb).1⟩⟩
 done:=by
   intro X hP hw hK hc i pins s σ H E I hf st hg
   subst hP hw hK
   have hg:i=x.length:=hg
   subst hg
   obtain⟨f0,f1,f2,f3,f4,f5⟩:=hf it (by simp)
   have e1:(x.length:Int) - 1 - (x.length:Nat)=-1:=by omega
   rw[e1] at st
   exact qy (I.ok.hd hc) st fun h' eb=>⟨rfl,I.turned (t':=s.toks) (fun b o hb e=>eb b o hb e) f0 f1 f3 f4 f5⟩
 self:=fun _ _ _ _ _ st h=>qf st h
theorem Hj:bootBuiltins "reversed"=some (.type "reversed"):=by decide +kernel
section
variable {X:Cx}{G:Gr}{dl:List Slot}{a:Expr}{x:Str}{p pos:Pos}
def NJ (ta:TA):TI:=fun σ H R=>ta σ H fun vs H1=>∃ x,vs=[.str x]∧(¬ (x.length:Int) ≥ 2 ^ 63)∧R (Vi x) H1
theorem K9 {tg:Expr}{ta:TA}(hm:X.mg "reversed"=none)(ha:PA X [a] ta)(hg:Gl X "reversed":=by rfl)(hs:starEach [a] X.env=[(false,eval a X.env)]:=by rfl):PI X tg (.Call (.Name "reversed" p) [a] [] pos) (NJ ta):=by
 intro pins s σ H R I h
 refine Call_ (mX I hg hm Hj (PyProof.Rows.callWith_type1 (cM (ha pos pins s σ H _ I h) fun us s1 ⟨vs,H1,I1,r1,q1⟩=>?_) hs rfl))
 obtain⟨x,e,sq,q⟩:=q1
 subst e
 cases r1 with
 | cons r rr=>
   cases rr
   obtain⟨t,rfl⟩:=(show ∃ t,_=Value.str x t from r)
   refine Eu sq (qf (x:=x) (t:=t) (i:=(x.length:Int) - 1) ⟨_,Heap.get?_push_size _ rfl,rfl,rfl⟩ ?_)
   refine⟨s1.heap.objs.size,[s1.heap.objs.size],_,_,H1,rfl,I1.kept (t':=s1.toks+1+1) fun b o e=>Heap.get?_push_of_some _ e,Ew x t _ sq,?_,fun b hb=>?_,q⟩
   . have e:((x.length:Int) - 1)=(x.length:Int) - 1 - ((0:Nat):Int):=by omega
     rw[← e]
     exact⟨_,Heap.get?_push_size _ rfl,rfl,rfl⟩
   . have e:b=s1.heap.objs.size:=by simpa using hb
     subst e
     exact I1.uH (Nat.le_refl _) (I1.bU.fresh (Nat.le_refl _))
theorem Ex (hl:x.length≤1000000):qv X G dl (signs x).reverse (NJ (T6 X.K G dl [.str x])):=fun st H R ⟨Hf,S,k⟩=>⟨Hf,S,fun vs aA H1 g1 r1=>by
 cases r1 with
 | cons r t=>
   cases t
   cases r
   have hsl:=lS x
   refine⟨x,rfl,by omega,k _ aA H1 g1 fun cU H2 s1 s2 i=>⟨fun z hz=>?_,fun hi=>?_⟩⟩
   . have hi:i < (signs x).length:=by
       have:=(List.getElem?_eq_some_iff.mp hz).1
       simpa using this
     rw[List.getElem?_reverse hi,signs_get,hsl] at hz
     refine⟨by show i < x.length;omega,fun v H3 hy=>?_⟩
     obtain⟨e1,c,e2,e3⟩:=hy
     subst e1 e3
     rw[e2] at hz
     cases hz
     exact⟨cU,.refl s2,.str _⟩
   . show i=x.length
     rw[hi,List.length_reverse,hsl]⟩
theorem vQ {K:PySem.W.Frag}{H:Hp}:∀ {ds:List Dt} {d:Dt} {vs:List V},bY K H vs (ds ++ [d])→∃ ws v,vs=ws ++ [v]∧bY K H ws ds∧Rep K H v d
 | [],d,_,.cons r .nil=>⟨[],_,rfl,.nil,r⟩
 | e::ds,d,_,.cons r t=>by
   obtain⟨ws,v,e1,r1,r2⟩:=vQ t
   exact⟨_::ws,v,by rw[e1];rfl,.cons r r1,r2⟩
variable {E:XK}{d:Dt}{ds:List Dt}{y z:Str}{px pn apos bR:Pos}
theorem Qk (m n:Nat)(hN:X.N.Nodup)(hd:dl[n]?=some (.own (.lst (ds ++ [d]))))(hm:X.N[m]?=some y:=by rfl)(hy:Loc X.env.scope y:=by first | exact Or.inl rfl | exact Or.inr rfl)(hNn:X.N[n]?=some z:=by rfl)(hv:rY X.env.scope z:=by first | exact Or.inl rfl | exact Or.inr (Or.inl rfl) | exact Or.inr (Or.inr rfl))(jK:(z == ("__debug__":Str))=false:=by decide)(jJ:(z == ("__classdict__":Str))=false:=by decide)(gv:attributeBase (.Name z pn) "pop" X.env (eval (.Name z pn) X.env)=eval (.Name z pn) X.env:=by rfl)(gw:(apos.endLine == bR.line)=true:=by rfl)(hs:swapsWith (.Call (.Attribute (.Name z pn) "pop" apos) [] [] bR) (some (.Name y px)) pos.line X.env=pure false:=by rfl)(hf:X.fn y=true∨X.env.scope.names.lookup y=some .local:=by first | exact .inl rfl | exact .inr rfl | assumption):ES X G E dl (.Assign [.Name y px] (.Call (.Attribute (.Name z pn) "pop" apos) [] [] bR) pos) (.nx ((dl.set n (.own (.lst ds))).set m (.val d))):=
 qt (AL hN hm hy (FV PySem.F.plainAttrs_list PySem.F.slot_list_pop PySem.F.type_list_pop OT (sF (G:=G) (p:=pn) n hd hNn hv jK jJ) gv gw) hs hf) fun D st H ⟨Hf,S,k⟩=>by
   obtain⟨q,z1,z2,z3,vs,hq,rp⟩:=S.own n _ hd
   obtain⟨ws,v,ev,r1,r2⟩:=vQ rp
   subst ev
   refine⟨Hf,q,S,z1,z2,⟨_,hq,rp⟩,.inl ⟨rfl,_,.of hq⟩,q,_,v,rfl,rfl,hq,by simp,k _ Hf _ (aL.refl _) ((S.D6 hd z1 (w':=.lst ds) ⟨_,aq,?_⟩).set r2)⟩
   rw[List.dropLast_concat];exact r1
end
end Sg
namespace Sg
open PySem PySem.Spec PyProof.Rows L2
section
variable {X:Cx}{G:Gr}{dl:List Slot}{a b e:Expr}{pos p p2 apos bR:Pos}{bs:List Bool}{ns ns':List Int}
theorem jm:∀ {ns:List Int} {aI:List Value},Vals (ns.map V.int) aI→IntsAre aI ns
 | [],_,r=>by cases r;exact .nil
 | n::ns,_,r=>by
   cases r with
   | cons h t=>obtain⟨tk,rfl⟩:=h;exact .cons _ tk (jm t)
theorem pM:∀ {ns:List Int} {aI:List Value},IntsAre aI ns→Vals (ns.map V.int) aI
 | [],_,r=>by cases r;exact .nil
 | n::ns,_,r=>by
   cases r with
   | cons n tk t=>exact .cons ⟨_,rfl⟩ (pM t)
theorem xc:gZ X (.builtin "sorted") (fun xs H Q=>∃ (p:Addr) (ns ns':List Int),xs=[.ref p]∧jM X.K H p (ns.map V.int)∧ns.length < 64∧ns'.Perm ns∧ns'.Pairwise (·≤·)∧∀ l,H l=none→Q (.ref l) (upd H l (.lst (ns'.map V.int)))):=by
 intro pins s σ H xs us Q I r h
 obtain⟨p,ns,ns',rfl,hq,h64,hp,ho,q⟩:=h
 obtain⟨u,rfl,rx⟩:=vals1 r
 cases rx
 obtain⟨aI,rv,pl,hz⟩:=I.list hq
 have hlen:=rv.length
 rw[List.length_map] at hlen
 refine sorted_ints (vs:=aI) pl.isList (jm rv) (by omega) fun out ns2 a1 a2 a3=>?_
 have e:ns2=ns':=PySem.W.ksm_same (a2.trans hp.symm) a3 ho
 subst e
 obtain⟨c,hc⟩:=sortedAll_at s.heap aI out
 have Nf:=(pM a1).length
 rw[List.length_map] at Nf
 have hl3:=hp.length_eq
 refine⟨.ref (s.heap.objs.size+1),_,I.laid (t':=s.toks) (fun b o=>sortedAll_old) (Nat.le_succ _) (show bc X.prog X.w _ (sortedAll s.heap aI out) _ (.lst (ns2.map V.int)) from⟨?_,out.toList,c,pM a1,?_⟩),rfl,q _ (I.bU.fresh (Nat.le_succ _))⟩
 . rw[List.length_map];exact Nat.le_trans (show ns2.length≤64 by omega) (by decide)
 . exact hc
theorem boot_sorted:bootBuiltins "sorted"=some (.builtin "sorted"):=by decide +kernel
theorem vR {K:PySem.W.Frag}{H:Hp}:∀ ns:List Int,bY K H (ns.map V.int) (ns.map Dt.int)
 | []=>.nil
 | n::ns=>.cons (.int n) (vR ns)
theorem Ey (hm:X.mg "sorted"=none)(ha:EE X G dl a (.lst (ns.map .int)))(h64:ns.length < 64)(hp:ns'.Perm ns)(ho:ns'.Pairwise (·≤·))(hg:Gl X "sorted":=by rfl)(he:starEach [a] X.env=[(false,eval a X.env)]:=by rfl):EO X G dl (.Call (.Name "sorted" p) [a] [] pos) (.lst (ns'.map .int)):=
 fh (eQ xc hg hm boot_sorted (ae ha ao he) (by decide) (by decide) he rfl) fun st H Q ⟨Hf,S,k⟩=>⟨Hf,S,fun vs aA H1 g1 r1=>by
   cases r1 with
   | cons r t=>cases t;cases r with
     | @lst q vs _ z r=>
       have ev:=m6 r
       subst ev
       exact⟨q,ns,ns',rfl,.of (g1.sub _ _ z),h64,hp,ho,fun l hl=>k l aA _ (g1.trans (.eC g1.sub hl)) (g1.big.free hl) (g1.sub.free hl) ⟨_,aq,vR ns'⟩⟩⟩
end
end Sg
namespace Sg
open PySem PySem.Spec PyProof.Rows L2
section
variable {X:Cx}{G:Gr}{dl:List Slot}{a b e i o:Expr}{pos p p2 apos bR:Pos}{ds:List (Key×Dt)}{k:Str}
end
end Sg
namespace Sg
open PySem PySem.Spec PyProof.Rows L2
section
variable {X:Cx}{G:Gr}{dl:List Slot}{a:Expr}{xs:List Dt}{p pos kp cp:Pos}{jk:Nat}
end
end Sg
namespace Sg
open PySem PySem.Spec PyProof.Rows L2
theorem vS {K:PySem.W.Frag}{H:Hp}:∀ (ns:List Int),bY K H (ns.map V.int) (ns.map Dt.int)
 | []=>.nil
 | n::r=>.cons (.int n) (vS r)
theorem oe {K:PySem.W.Frag}{H:Hp}:∀ {ns:List Int} {vs:List V},bY K H vs (ns.map Dt.int)→vs=ns.map V.int
 | [],_,.nil=>rfl
 | n::r,_,.cons h t=>by cases h;rw[oe t];rfl
def Fl (fs:List (Str×FD)):List (Str×Dt):=fs.map fun kd=>(kd.1,fdD kd.2)
theorem C0 {K:PySem.W.Frag}{H:Hp}:∀ {fv:List (Str×V)} {fs:List (Str×FD)},Fw H fv fs→bS K H fv (Fl fs)
 | _,_,.nil=>.nil
 | _,_,.cons h t=>.cons (G5 h) (C0 t)
theorem Hk {K:PySem.W.Frag}{H:Hp}:∀ {fv:List (Str×V)} {fs:List (Str×FD)},bS K H fv (Fl fs)→Fw H fv fs
 | _,[],.nil=>.nil
 | _,(k,d)::fd,.cons h t=>.cons (Nz h) (Hk t)
section
variable {X:Cx}{G:Gr}{E:XK}{dl:List Slot}{e:Expr}{sts:List Stmt}{ou:Out}{C:Addr}{fs:List (Str×FD)}{ns:List Int}{K':PySem.W.Frag}
theorem NK (h:EE X G dl e (.fD (.obj C fs))):EE X G dl e (.obj C (Fl fs)):=fh h fun st H Q ⟨Hf,S,k⟩=>⟨Hf,S,fun v aA H1 g1 r1=>by
 cases r1 with
 | fD h=>cases h with
   | @obj a _ dx o fv _ e f=>exact k _ aA H1 g1 (.obj (.inr (.inr (.inr ⟨o,e⟩))) (C0 f))⟩
theorem nh (h:EE X G dl e (.fD (.lst ns))):EE X G dl e (.lP ns):=fh h fun st H Q ⟨Hf,S,k⟩=>⟨Hf,S,fun v aA H1 g1 r1=>by
 cases r1 with
 | fD h=>cases h with
   | @lst a o _ e=>exact k _ aA H1 g1 (.lP (.inl (.inr (.inr (.inr ⟨o,e⟩)))))⟩
theorem Ql (h:EE X G dl e (.fD (.tup K' ns)))(hK:K'=X.K):EE X G dl e (.tup (ns.map .int)):=fh h fun st H Q ⟨Hf,S,k⟩=>⟨Hf,S,fun v aA H1 g1 r1=>by
 subst hK
 cases r1 with
 | fD h=>cases h with
   | tup e=>exact k _ aA H1 g1 (.tup e (vS _))⟩
theorem Qm (h:EE X G dl e (.tup (ns.map .int)))(hK:K'=X.K):EE X G dl e (.fD (.tup K' ns)):=fh h fun st H Q ⟨Hf,S,k⟩=>⟨Hf,S,fun v aA H1 g1 r1=>by
 subst hK
 cases r1 with
 | tup s r=>
   rw[oe r] at s
   exact k _ aA H1 g1 (.fD (.tup s))⟩
theorem Hl (h:EO X G dl e (.obj C (Fl fs))):EE X G dl e (.fD (.obj C fs)):=by
 intro pins s st H Q I ⟨Hf,S,kk⟩
 refine cM (h pins s st H (fun v H'=>∃ p aT,v=.ref p∧bX Hf H aT H'∧H p=none∧aT p=none∧fg X.K aT H' p (.obj C (Fl fs))) I ⟨Hf,S,fun p aT H' g n n' r=>⟨p,aT,rfl,g,n,n',r⟩⟩) fun u s1 ⟨v,H',I1,rv,q,aT,ev,g,n,n',dx,fv,hq,rp⟩=>?_
 subst ev
 obtain⟨hd,hz,ne,ho,mA,hr⟩:=(show bc X.prog X.w H' s1.heap q (.ins C dx fv) from I1.bU q _ hq)
 let ob:=PySem.W.instObj C dx
 have I2:L2.Inv X pins st (upd H' q (.kx ob (.ins C dx fv))) s1:=jP (h':=s1.heap) (t':=s1.toks) I1 (by rw[hq];trivial) ⟨rfl,fun _ _=>rfl⟩ ⟨ob,ho⟩ ⟨ho,⟨by rw[ah ne];exact hd,hz,ne,ho,mA,hr⟩⟩
 have sm:aL aT (upd aT q (.kx ob (.ins C dx fv))):=cv n'
 refine⟨.ref q,_,I2,rv,kk _ (upd aT q (.kx ob (.ins C dx fv))) _ ⟨fun b o hb=>?_,g.b8.trans sm,dP g.sub,fun b o hb=>?_⟩ (.fD (.obj aq ((Hk rp).st fun b u e _=>sm b u e)))⟩
 . rw[ah (aB hb n)];exact g.big _ _ hb
 . by_cases e:b=q
   . subst e;exact .inr (.inl n)
   . rw[ah e] at hb;exact g.new b o hb
theorem Qn (h:EO X G dl e (.lst (ns.map .int))):EE X G dl e (.fD (.lst ns)):=by
 intro pins s st H Q I ⟨Hf,S,kk⟩
 refine cM (h pins s st H (fun v H'=>∃ p aT,v=.ref p∧bX Hf H aT H'∧H p=none∧aT p=none∧fg X.K aT H' p (.lst (ns.map .int))) I ⟨Hf,S,fun p aT H' g n n' r=>⟨p,aT,rfl,g,n,n',r⟩⟩) fun u s1 ⟨v,H',I1,rv,q,aT,ev,g,n,n',vs,hq,rp⟩=>?_
 subst ev
 have ev:=oe rp
 subst ev
 obtain⟨hz,aI,c,r,ho⟩:=(show bc X.prog X.w H' s1.heap q (.lst (ns.map V.int)) from I1.bU q _ hq)
 let ob:Obj:={ cls:=.type "list",data:=.seq aI.toArray c}
 have I2:L2.Inv X pins st (upd H' q (.kx ob (.lst (ns.map V.int)))) s1:=jP (h':=s1.heap) (t':=s1.toks) I1 (by rw[hq];trivial) ⟨rfl,fun _ _=>rfl⟩ ⟨ob,ho⟩ ⟨ho,hz,aI,c,r,ho⟩
 have sm:aL aT (upd aT q (.kx ob (.lst (ns.map V.int)))):=cv n'
 refine⟨.ref q,_,I2,rv,kk _ (upd aT q (.kx ob (.lst (ns.map V.int)))) _ ⟨fun b o hb=>?_,g.b8.trans sm,dP g.sub,fun b o hb=>?_⟩ (.fD (.lst aq))⟩
 . rw[ah (aB hb n)];exact g.big _ _ hb
 . by_cases e:b=q
   . subst e;exact .inr (.inl n)
   . rw[ah e] at hb;exact g.new b o hb
theorem rH (n:Nat)(h:jQ X G E (dl.set n (.val (.fD (.lst ns)))) sts ou)(hd:dl[n]?=some (.own (.lst (ns.map .int))):=by rfl):jQ X G E dl sts ou:=by
 intro pins s st H D I ⟨Hf,S,k⟩
 have ln:=S.len
 obtain⟨q,h1,h2,h3,vs,h4,h5⟩:=S.own n _ hd
 have ev:=oe h5
 subst ev
 have hl:n < dl.length:=(List.getElem?_eq_some_iff.mp hd).1
 obtain⟨hz,aI,c,r,ho⟩:=(show bc X.prog X.w H s.heap q (.lst (ns.map V.int)) from I.bU q _ h4)
 let ob:Obj:={ cls:=.type "list",data:=.seq aI.toArray c}
 have I':L2.Inv X pins st (upd H q (.kx ob (.lst (ns.map V.int)))) s:=jP (h':=s.heap) (t':=s.toks) I (by rw[h4];trivial) ⟨rfl,fun _ _=>rfl⟩ ⟨ob,ho⟩ ⟨ho,hz,aI,c,r,ho⟩
 have sm:aL Hf (upd Hf q (.kx ob (.lst (ns.map V.int)))):=cv h2
 refine h pins s st _ D I' ⟨upd Hf q (.kx ob (.lst (ns.map V.int))),⟨⟨fun b o hb=>?_,S.gr.b8.trans sm,dP S.sub,fun c o hc=>?_⟩,by simp[S.len],fun j y hj=>?_,fun j o' hj=>?_,fun j m o1 o2 c q1 q2 q3 q4=>?_⟩,k.mono sm⟩
 . rw[ah (aB hb h3)];exact S.gr.big _ _ hb
 . by_cases hb:c=q
   . subst hb;exact .inr (.inl h3)
   . rw[ah hb] at hc;exact S.gr.new c o hc
 . by_cases e:n=j
   . subst e
     rw[List.getElem?_set_self hl] at hj;cases hj
     exact⟨_,h1,.fD (.lst aq)⟩
   . rw[List.getElem?_set_ne e] at hj
     obtain⟨v,z1,z2⟩:=S.val j y hj
     exact⟨v,z1,z2.mono sm⟩
 . by_cases e:n=j
   . subst e;rw[List.getElem?_set_self hl] at hj;cases hj
   . rw[List.getElem?_set_ne e] at hj
     obtain⟨c,z1,z2,z3,z4⟩:=S.own j o' hj
     have ne:c≠q:=fun z=>by subst z;exact e (S.D5 n j _ _ _ hd hj h1 z1)
     exact⟨c,z1,by rw[ah ne];exact z2,z3,z4.grow (ah ne) sm⟩
 . have nj:n≠j:=fun e=>by subst e;rw[List.getElem?_set_self hl] at q1;cases q1
   have nm:n≠m:=fun e=>by subst e;rw[List.getElem?_set_self hl] at q2;cases q2
   rw[List.getElem?_set_ne nj] at q1
   rw[List.getElem?_set_ne nm] at q2
   exact S.D5 j m o1 o2 c q1 q2 q3 q4
theorem La {zs:List Int}:Gq X G dl zs.length (fun k=>(zs.map Dt.int).getD k .dQ) (FF X.K (tD X.K G dl (.lP zs))):=fun st H R ⟨Hf,S,k⟩=>⟨Hf,S,fun v aA H1 g1 r1=>by
 cases r1 with
 | @lP q _ hq=>
   refine⟨q,rfl,⟨_,g1.sub.seq hq⟩,k _ aA H1 g1 fun cU H2 g2 i=>⟨fun hi=>?_,fun hi=>⟨_,g2.big.seq (g1.sub.seq hq),by rw[List.length_map];omega⟩⟩⟩
   have hs:jM X.K H2 q (zs.map V.int):=g2.big.seq (g1.sub.seq hq)
   have z1:(zs.map V.int)[i]?=some (.int zs[i]):=by rw[List.getElem?_map,List.getElem?_eq_getElem hi];rfl
   refine⟨⟨_,_,hs,z1⟩,fun v H3 hy=>?_⟩
   obtain⟨e1,e2⟩:=hy
   have e2:=e2 _ hs
   rw[z1] at e2;cases e2
   refine⟨e1,?_⟩
   have e3:(zs.map Dt.int).getD i .dQ=.int zs[i]:=by rw[List.getD_eq_getElem?_getD,List.getElem?_map,List.getElem?_eq_getElem hi];rfl
   show Rep _ _ _ ((zs.map Dt.int).getD i .dQ)
   rw[e3];exact .int _⟩
theorem zI {x:Str}{p pos:Pos}(M:Mk0 X.K C)(hm:X.mg x=some (.ref C))(hg:Gl X x:=by rfl)(jK:(x == ("__debug__":Str))=false:=by decide):EE X G dl (.Call (.Name x p) [] [] pos) (.fD (.obj C [])):=by
 refine Hl (fs:=[]) ?_
 intro pins s st H Q I ⟨Hf,S,k⟩
 refine wpAny_Call_Name_kw (rh I hg hm ?_ jK)
 refine PySem.W.callWith_K0 I.jL M.kp (D9 M I fun x dx hx Us ne=>?_)
 have Fg:(upd H dx (.own x)) x=none:=by rw[ah (Ne.symm ne)];exact hx
 have g1:bX Hf H Hf (upd H dx (.own x)):=.eC S.sub Us
 have g2:bX Hf (upd H dx (.own x)) Hf (upd (upd H dx (.own x)) x (.ins C dx [])):=.eC g1.sub Fg
 exact k _ _ _ (g1.trans g2) hx (S.sub.free hx) ⟨dx,[],aq,.nil⟩
end
end Sg
namespace Sg
open PySem PySem.Spec PyProof.Rows L2
def fF (H:Hp)(p q1:Addr)(u1 u3:HO):Hp:=upd (upd H p u1) q1 u3
section
variable {X:Cx}{pins:List (Addr×Obj)}{σ:L2.St}{H:Hp}{s:Shared}{p q1:Addr}{ki:List (Key×V)}{f:Nat→List (Key×FD)}
theorem Inv.Lb (I:L2.Inv X pins σ H s)(hp:H p=some (.lst [.ref q1]))(JM:H q1=some (.dK ki))(f1:oY H ki (f 0)):∃ o1,L2.Inv X pins σ (fF H p q1 (.memo [(p,f)]) (.kd (some (p,0)) o1 ki)) s:=by
 obtain⟨z1,i1,c1,r1,e1⟩:=(show bc X.prog X.w H s.heap p (.lst [.ref q1]) from I.bU p _ hp)
 obtain⟨K4,lo1,vs1,kr1,o1,es1,ep1,U9,SM⟩:=(show bc X.prog X.w H s.heap q1 (.dK ki) from I.bU q1 _ JM)
 obtain⟨u1,rfl,w1⟩:=vals1 r1
 cases (show u1=Value.ref q1 from w1)
 refine⟨o1,?_⟩
 have m1:p≠q1:=fun z=>by rw[z,JM] at hp;cases hp
 generalize K5:fF H p q1 (.memo [(p,f)]) (.kd (some (p,0)) o1 ki)=H'
 have Va:H' p=some (.memo [(p,f)]):=by rw[← K5];unfold fF;rw[ah m1,aq]
 have Hg:H' q1=some (.kd (some (p,0)) o1 ki):=by rw[← K5];unfold fF;rw[aq]
 have Bq:∀ b,b≠p→b≠q1→H' b=H b:=fun b a1 a3=>by rw[← K5];unfold fF;rw[ah a3,ah a1]
 have qw:∀ b o,H b=some o→ldk o=false→H' b=some o:=fun b o e n=>by
   rw[Bq b (fun z=>by rw[z,hp] at e;cases e;cases n) (fun z=>by rw[z,JM] at e;cases e;cases n)]
   exact e
 have kp:Kp H H':=⟨fun b o e kq=>qw b _ e (by cases o <;> first | rfl | exact(show False from kq).elim),fun b e=>by
   cases q:H b with
   | none=>rw[q] at e;exact e.elim
   | some u=>
     rw[q] at e
     rw[qw b u q (by cases u <;> first | rfl | exact e.elim)]
     exact e,fun b x e=>qw b _ e rfl⟩
 refine I.un (h':=s.heap) (t':=s.toks) ⟨fun b o e _ _ _=>e,fun b o e _ _ _=>⟨o.slots,e⟩,fun b o e n _=>?_,fun b o e _=>⟨o,e⟩,fun b xs e=>qw b _ e rfl,fun b o u e=>qw b _ e rfl,fun b ps e=>⟨#[],by rw[qw b _ e rfl];simp⟩⟩ fun b u e=>?_
 . rw[Bq b (fun z=>by rw[z,hp] at n;cases n) (fun z=>by rw[z,JM] at n;cases n)]
   exact n
 . by_cases b1:b=p
   . subst b1
     rw[Va] at e;cases e
     refine⟨⟨_,e1⟩,1,by decide,⟨f,rfl⟩,rfl,fun j a h hj=>?_,by simp,fun n hn=>by rw[List.mem_replicate] at hn;omega,fun j a h n hj hn=>?_⟩
     . match j,hj with
       | 0,hj=>cases hj;exact .inl rfl
     . match j,hj,hn with
       | 0,hj,hn=>
         cases hj;cases hn
         refine⟨_,_,e1,rfl,fun i hi=>?_⟩
         have:i=0:=by omega
         subst this
         exact⟨q1,o1,ki,rfl,Hg,f1.kp kp⟩
   . by_cases b3:b=q1
     . subst b3;rw[Hg] at e;cases e
       refine⟨U9,⟨K4,lo1,vs1,kr1,o1,es1,ep1,U9,SM⟩,fun a i ht=>?_⟩
       cases ht
       exact⟨by rw[Va];trivial,_,_,e1,rfl⟩
     . rw[Bq b b1 b3] at e
       exact(I.bU b u e).v8 (fun _ _ _ q=>q) (fun c q=>qw c _ q rfl) (fun c xs q=>qw c _ q rfl) kp
end
section
variable {X:Cx}{G:Gr}{E:XK}{e1:Expr}{fs:List (Str×Dt)}{z C:Addr}{tl:List Slot}{f:Nat→List (Key×FD)}{n0 x0:Str}{Qb Qc Qd q1:Pos}
theorem uR (no:noOwn tl=true)(cl:nH X.K C)(PZ:cu X.K C n0)(he1:EO X G (.own (.zd z C fs)::tl) e1 (.eB (kI (f 0))))(Qe:∀ p ls,putD n0 (.memo p ls 0 1) fs=qc fs [n0] p ls 1:=by intro _ _;rfl)(hlen:Nat.ble fs.length 990=true:=by rfl)(hN:X.N[0]?=some x0:=by rfl)(hv:rY X.env.scope x0:=by first | exact Or.inl rfl | exact Or.inr (Or.inl rfl) | exact Or.inr (Or.inr rfl))(jK:(x0 == ("__debug__":Str))=false:=by decide)(jJ:(x0 == ("__classdict__":Str))=false:=by decide)(w6:starEach [e1] X.env=[(false,eval e1 X.env)]:=by rfl)(Fd:swapsWith (.List [e1] Qd) (some (.Attribute (.Name x0 Qb) n0 Qc)) q1.line X.env=pure false:=by rfl):jQ X G E (.own (.zd z C fs)::tl) [.Assign [.Attribute (.Name x0 Qb) n0 Qc] (.List [e1] Qd) q1] (.nx (.own (.wG z C fs [f] [n0] 1)::tl)):=by
 intro pins s st H D I ⟨Hf,S,k⟩
 have base:=jN (se (pos:=q1) (pos':=Qc) (fP (pos:=Qb) hN hv jK jJ) (sh (pos:=Qd) (iO he1 kY w6)) Fd)
 let RQ:L2.St→Hp→Prop:=fun gY H'=>∃ p a1 ki,H' p=some (.lst [.ref a1])∧H' a1=some (.dK ki)∧oY H' ki (f 0)∧∀ o1,D.nx gY (fF H' p a1 (.memo [(p,f)]) (.kd (some (p,0)) o1 ki))
 refine cM (base pins s st H { D with nx:=RQ} I ?_) fun fl s7 q7=>?_
 . obtain⟨za,hz,hzf,SN,ez,dx,fv,K6,rf⟩:=S.own 0 _ rfl
   subst ez
   refine⟨Hf,S,fun a1 aA H1 g1 Vc Qf ⟨ki,PB,rk1⟩=>⟨Nat.le_of_ble_eq_true rfl,fun p hp=>?_⟩⟩
   have K4:H1 za=some (.ins C dx fv):=g1.big _ _ K6
   have JN:za≠p:=aB K4 hp
   have Vd:a1≠p:=aB PB hp
   have NF:za≠a1:=fun w=>by rw[w,Vc] at K6;cases K6
   have hzp:(upd H1 p (.lst [.ref a1])) za=some (.ins C dx fv):=by rw[ah JN];exact K4
   refine⟨_,hz,za,C,dx,fv,rfl,hzp,cl,PZ,by rw[rf.length];exact Nat.lt_of_le_of_lt (Nat.le_of_ble_eq_true hlen) (by decide),?_⟩
   let H4:Hp:=upd (upd H1 p (.lst [.ref a1])) za (.ins C dx (eF n0 (.ref p) fv))
   have Et:aA za=none:=g1.iu hzf K6
   have gz1:bX aA H1 aA (upd H1 p (.lst [.ref a1])):=.eC g1.sub hp
   have S0:d7 X.K G st Hf H (.bE::tl):=S.weak ⟨rfl,fun i s' e n=>by
     cases i with
     | zero=>cases e;exact absurd rfl n
     | succ i=>exact e⟩
   have nou:noOwn (.bE::tl)=true:=no
   have S4:d7 X.K G st aA H4 (.bE::tl):=lU ((S0.grow g1).grow gz1) nou Et SN
   have h4z:H4 za=some (.ins C dx (eF n0 (.ref p) fv)):=aq
   have h4p:H4 p=some (.lst [.ref a1]):=by show(upd (upd H1 p _) za _) p=_;rw[ah (Ne.symm JN),aq]
   have Qi:H4 a1=some (.dK ki):=by show(upd (upd H1 p _) za _) a1=_;rw[ah (Ne.symm NF),ah Vd];exact PB
   have f3p:aA p=none:=g1.sub.free hp
   have xa:aL aA H4:=fun b o e=>by
     have b1:b≠za:=fun w=>by rw[w,Et] at e;cases e
     have b2:b≠p:=fun w=>by rw[w,f3p] at e;cases e
     show(upd (upd H1 p _) za _) b=_
     rw[ah b1,ah b2];exact g1.sub _ _ e
   have gp:G.H p=none:=S.gr.big.free (g1.big.free hp)
   have Vg:G.H a1=none:=S.gr.big.free Vc
   have Vh:oY aA ki (f 0):=m7 rk1
   refine⟨p,a1,ki,h4p,Qi,e9 (fun b u e _=>xa _ _ e) Vh,fun o1=>?_⟩
   let ls:gK:=[(p,f)]
   let u1:HO:=.memo ls
   let u3:HO:=.kd (some (p,0)) o1 ki
   have m1:p≠a1:=Ne.symm Vd
   have cat:∀ (B:Hp),fF B p a1 u1 u3 p=some u1∧fF B p a1 u1 u3 a1=some u3:=fun B=>by
     unfold fF
     refine⟨?_,?_⟩
     . rw[ah m1,aq]
     . rw[aq]
   have sT:∀ (B:Hp) b,b≠p→b≠a1→fF B p a1 u1 u3 b=B b:=fun B b c1 c3=>by unfold fF;rw[ah c3,ah c1]
   let rD:Hp:=fF aA p a1 u1 u3
   have Fj:aL aA rD:=fun b o e=>by
     show fF aA p a1 u1 u3 b=some o
     rw[sT aA b (fun w=>by rw[w,f3p] at e;cases e) (fun w=>by rw[w,Qf] at e;cases e)]
     exact e
   have key:∀ (A B:Hp),aL A B→aL (fF A p a1 u1 u3) (fF B p a1 u1 u3):=fun A B sm=>dP (dP sm)
   have Qj:aL rD (fF H4 p a1 u1 u3):=key _ _ xa
   have Hh:bS X.K rD (eF n0 (.ref p) fv) (qc fs [n0] p ls 1):=by
     rw[← Qe p ls]
     refine(rf.mono (g1.b8.trans Fj)).put (f:=n0) (d:=.memo p ls 0 1) ?_
     refine .memo (f:=f) rfl (cat aA).1 (.inl rfl) fun i hi=>?_
     have:i=0:=by omega
     subst this
     exact⟨a1,o1,ki,(cat aA).2,e9 (fun b u e _=>Fj _ _ e) Vh⟩
   have czH:fF H4 p a1 u1 u3 za=some (.ins C dx (eF n0 (.ref p) fv)):=by rw[sT H4 za JN NF];exact h4z
   have czF:rD za=none:=by show fF aA p a1 u1 u3 za=none;rw[sT aA za JN NF];exact Et
   refine k st rD _ (g1.b8.trans Fj) ⟨⟨fun b o e=>?_,S4.gr.b8.trans Fj,Qj,fun b o e=>?_⟩,by have:=S4.len;simpa using this,fun i d h=>?_,fun i o h=>?_,fun i j o o' a w1 w2=>?_⟩
   . rw[sT H4 b (fun w=>by rw[w,gp] at e;cases e) (fun w=>by rw[w,Vg] at e;cases e)]
     exact S4.gr.big _ _ e
   . by_cases c1:b=p
     . rw[c1];exact .inr (.inl gp)
     . by_cases c3:b=a1
       . rw[c3];exact .inr (.inl Vg)
       . have e:fF aA p a1 u1 u3 b=some o:=e
         rw[sT aA b c1 c3] at e
         exact S4.gr.new b o e
   . cases i with
     | zero=>cases h
     | succ i=>
       obtain⟨w,w1,w2⟩:=S4.val (i+1) d h
       exact⟨w,w1,w2.mono Fj⟩
   . cases i with
     | zero=>
       cases h
       exact⟨za,hz,czF,SN,rfl,dx,_,p,ls,rfl,czH,Hh⟩
     | succ i=>exact absurd h (bH no i o)
   . cases i with
     | zero=>cases j with
       | zero=>exact fun _ _=>rfl
       | succ j=>exact absurd w2 (bH no j o')
     | succ i=>exact absurd w1 (bH no i o)
 . cases fl with
   | next=>
     obtain⟨σ7,H7,I7,p,a1,ki,y1,y3,y5,kk⟩:=q7
     obtain⟨o1,I8⟩:=Inv.Lb I7 y1 y3 y5
     exact⟨σ7,_,I8,kk o1⟩
   | cont=>exact q7
   | brk=>exact q7
   | ret v=>exact q7
end
section
variable {X:Cx}{G0:Gr}{E:XK}{fs:List (Str×Dt)}{l C:Addr}{ls:gK}{n N:Nat}{tl:List Slot}{f:Nat→List (Key×FD)}{n0 x0 xg:Str}{p1 p2 p3 a1 c1 q1:Pos}
theorem zJ (ng:Nat)(hs:ig l fs=true)(ht:n8 l tl=true)(hu:tl[ng]?=some .bE)(l8:ls.map (·.2)=[f])(hN:N < 9000)(cl:nH X.K C)(PZ:cu X.K C n0)(hA:G0.Hf l=some (.memo ls))(hB:G0.H l=some (.memo ls))
   (SJ:(l7 fs [n0] l ls n).lookup n0=some (.eA l ls 0 n):=by rfl)
   (SI:X.N[0]?=some x0:=by rfl) (hv0:rY X.env.scope x0:=by first | exact Or.inl rfl | exact Or.inr (Or.inl rfl) | exact Or.inr (Or.inr rfl)) (hd0:(x0 == ("__debug__":Str))=false:=by decide) (hc0:(x0 == ("__classdict__":Str))=false:=by decide)
   (hNg:X.N[ng+1]?=some xg:=by rfl) (hvg:rY X.env.scope xg:=by first | exact Or.inl rfl | exact Or.inr (Or.inl rfl) | exact Or.inr (Or.inr rfl)) (hdg:(xg == ("__debug__":Str))=false:=by decide) (hcg:(xg == ("__classdict__":Str))=false:=by decide)
   (hb1:attributeBase (.Name x0 p1) n0 X.env (eval (.Name x0 p1) X.env)=eval (.Name x0 p1) X.env:=by rfl)
   (Br:attributeBase (.Attribute (.Name x0 p1) n0 p2) "append" X.env (eval (.Attribute (.Name x0 p1) n0 p2) X.env)=eval (.Attribute (.Name x0 p1) n0 p2) X.env:=by rfl)
   (Hc:((backTo c1 (starEach [.Name xg p3] X.env)).all (fun x=>!x.1) && (backToKw c1 (keywordEach [] X.env)).all (fun x=>x.1.isSome) && decide ([Expr.Name xg p3].length+([]:List Keyword).length+(if ([]:List Keyword).isEmpty then 0 else 1) < 30))=true:=by rfl)
   (Bs:(a1.endLine == c1.line)=true:=by rfl) (w6:starEach [.Name xg p3] X.env=(false,eval (.Name xg p3) X.env)::starEach [] X.env:=by rfl)
   (Fd:swapsWith (.Call (.Attribute (.Attribute (.Name x0 p1) n0 p2) "append" a1) [.Name xg p3] [] c1) none q1.line X.env=pure false:=by rfl) :
   jQ X (UZ G0 l (.cm ls (List.replicate ls.length N))) E (.val (.obj C (l7 fs [n0] l ls n))::tl.set ng (.own (.eB (kI (f N)))))
     [.Expr (.Call (.Attribute (.Attribute (.Name x0 p1) n0 p2) "append" a1) [.Name xg p3] [] c1) q1] (.raw (RM X.K G0 C fs [n0] l ls n tl (N+1))):=by
 refine ze (jN (iM (sj PySem.F.plainAttrs_list PySem.F.slot_list_append PySem.F.type_list_append m8 (sd (fP (pos:=p1) SI hv0 hd0 hc0) hb1) (iO (fP (pos:=p3) hNg hvg hdg hcg) kY w6) Br Hc Bs w6 rfl) Fd)) fun D st H ⟨Hf,S,k⟩=>?_
 have e2:ls.length=1:=by have:=congrArg List.length l8;simpa using this
 have eR:∀ M:Nat,List.replicate ls.length M=[M]:=fun M=>by rw[e2];rfl
 rw[eR] at S
 have U2:ng < tl.length:=(List.getElem?_eq_some_iff.mp hu).1
 obtain⟨v0,hv,rv⟩:=S.val 0 _ rfl
 cases rv with
 | @obj sa _ dx fv _ P5 rf=>
   obtain⟨oa,Bt,hmk,_,back⟩:=Rd.ex P5
   have P6:Hf l=some (.cm ls [N]):=S.gr.b8 _ _ aq
   have NC:H l=some (.cm ls [N]):=S.sub _ _ P6
   have hm:cP Hf l ls:=.inr ⟨_,P6⟩
   obtain⟨y0,hy0,ry0⟩:=rf.lookup SJ
   obtain⟨qa,hq,U3,hqg,kvs,ND,rk⟩:=S.own (ng+1) (.eB (kI (f N))) (by show(tl.set ng _)[ng]?=_;rw[List.getElem?_set_self U2])
   cases ry0 with
   | @eA _ p _ _ _ f0 zA _ acJ _=>
       have ef0:f0=f:=by
         have:=congrArg (fun z=>z[0]?) l8
         simp only[List.getElem?_map,zA] at this
         exact Option.some.inj this
       subst ef0
       have fzH:oY H kvs (f0 N):=e9 (fun b u e _=>S.sub _ _ e) (m7 rk)
       have nql:qa≠l:=fun z=>by rw[z,NC] at ND;cases ND
       have U5:sa≠l:=fun z=>by rw[z,P6] at Bt;cases Bt;cases hmk
       have nsq:sa≠qa:=fun z=>by rw[z,U3] at Bt;cases Bt
       refine⟨_,hv,sa,C,dx,fv,_,rfl,back _ (S.sub _ _ Bt),cl,PZ,hy0,.inr (.inr (.inr (.inr ⟨rfl,l,ls,[N],0,f0,N,NC,zA,rfl⟩))),_,hq,l,ls,[N],0,p,f0,N,qa,kvs,rfl,rfl,NC,zA,rfl,hN,ND,fzH,fun oq=>?_⟩
       let H6:Hp:=upd (upd H l (.cm ls ([N].set 0 (N+1)))) qa (.kd (some (p,N)) oq kvs)
       show D.nx st H6
       have h6l:H6 l=some (.cm ls [N+1]):=by show(upd (upd H l _) qa _) l=_;rw[ah (Ne.symm nql),aq];rfl
       have U7:∀ b o,H b=some o→b≠l→b≠qa→(upd H6 l (.memo ls)) b=some o:=fun b o e n1 n2=>by
         rw[ah n1]
         show(upd (upd H l _) qa _) b=_
         rw[ah n2,ah n1];exact e
       have f5r:∀ b o,Hf b=some o→b≠qa:=fun b o e z=>by rw[z,U3] at e;cases e
       have Hd:aL (upd Hf l (.memo ls)) (upd H6 l (.memo ls)):=fun b o e=>by
         by_cases bl:b=l
         . rw[bl,aq] at e ⊢;exact e
         . rw[ah bl] at e;exact U7 b o (S.sub _ _ e) bl (f5r b o e)
       have He:=e6 Hd
       have g6:bX G0.Hf G0.H (fT (upd Hf l (.memo ls)) (upd H6 l (.memo ls))) (upd H6 l (.memo ls)):=by
         refine⟨fun b o e=>?_,fun b o e=>?_,k9 Hd,fun b o e=>?_⟩
         . by_cases bl:b=l
           . rw[bl,hB] at e;cases e;rw[bl];exact aq
           . have h3:H b=some o:=S.gr.big _ _ (by show(upd G0.H l _) b=_;rw[ah bl];exact e)
             have nbq:b≠qa:=fun z=>by
               have:(upd G0.H l (.cm ls [N])) qa=none:=hqg
               rw[← z,ah bl,e] at this;cases this
             exact U7 b o h3 bl nbq
         . by_cases bl:b=l
           . rw[bl,hA] at e;cases e;rw[bl];exact He _ _ aq
           . have h3:Hf b=some o:=S.gr.b8 _ _ (by show(upd G0.Hf l _) b=_;rw[ah bl];exact e)
             exact He _ _ (by rw[ah bl];exact h3)
         . rcases lX (Hf:=upd Hf l (.memo ls)) (H:=upd H6 l (.memo ls)) b with⟨u',z1,z2,z3⟩ | z
           . rw[z3] at e;cases e;exact .inr (.inr z2)
           . rw[z] at e
             by_cases bl:b=l
             . rw[bl];exact .inl ⟨_,hA⟩
             . rw[ah bl] at e
               rcases S.gr.new b o e with⟨O3,y⟩ | y | y
               . have y:(upd G0.Hf l _) b=some O3:=y
                 rw[ah bl] at y;exact .inl ⟨O3,y⟩
               . have y:(upd G0.H l _) b=none:=y
                 rw[ah bl] at y;exact .inr (.inl y)
               . exact .inr (.inr y)
       have P8:∀ {v:V} {d:Dt},pJ l d=true→Rep X.K Hf v d→Rep X.K (fT (upd Hf l (.memo ls)) (upd H6 l (.memo ls))) v d:=fun {v d} hn r=>(fE hm (.inl rfl) hn r).mono He
       refine k st H6 ⟨by rw[eR];exact h6l,_,⟨g6,by have:=S.len;simpa using this,fun i d h=>?_,fun i o h=>?_,fun i j o o' a h=>?_⟩⟩
       . cases i with
         | zero=>
           cases h
           refine⟨_,hv,.obj (back _ (He _ _ (by rw[ah U5];exact Bt))) ?_⟩
           exact(NB hs hm rf).mono He
         | succ i=>
           have h:tl[i]?=some (.val d):=h
           have e:ng≠i:=fun z=>by rw[← z,hu] at h;cases h
           obtain⟨w,w1,w2⟩:=S.val (i+1) d (by show(tl.set ng _)[i]?=_;rw[List.getElem?_set_ne e];exact h)
           exact⟨w,w1,P8 (jw ht h) w2⟩
       . cases i with
         | zero=>cases h
         | succ i=>exact absurd h (bH (fk ht) i o)
       . cases i with
         | zero=>cases h
         | succ i=>exact absurd h (bH (fk ht) i o)
end
abbrev SO (g:Str)(C':Addr)(fs':List (Str×Dt))(nm':List Str)(l':Addr)(ls':gK)(n':Nat):List (Str×Dt):=[(g,.obj C' (qc fs' nm' l' ls' n'))]
section
variable {X:Cx}{G:Gr}{E:XK}{dl:List Slot}{e:Expr}{pos:Pos}{sts:List Stmt}{o:Out}{C C' l l':Addr}{ls ls':gK}{n n' m:Nat}{nm nm':List Str}{fs':List (Str×Dt)}{g:Str}{tl:List Slot}{K:PySem.W.Frag}{Hf H:Hp}{st:L2.St}
theorem C1 {fv:List (Str×V)}(r:bS K Hf fv (qc (SO g C' fs' nm' l' ls' n') nm l ls n)):∃ v f2,fv=(g,v)::f2∧Rep K Hf v (.obj C' (qc fs' nm' l' ls' n'))∧bS K Hf f2 ((List.range nm.length).map fun j=>(nm.getD j "",.memo l ls j n)):=by
 have r:bS K Hf fv ((g,.obj C' (qc fs' nm' l' ls' n'))::(List.range nm.length).map fun j=>(nm.getD j "",.memo l ls j n)):=r
 cases r with
 | cons h t=>exact⟨_,_,rfl,h,t⟩
theorem Ez (i:Nat)(hn:0 < nm.length)(Sx:0 < nm'.length)(hl:ls'.length≠ls.length)(h:l'≠l→jQ X G E dl sts o)(hd:dl[i]?=some (.val (.obj C (qc (SO g C' fs' nm' l' ls' n') nm l ls n))):=by rfl):jQ X G E dl sts o:=by
 intro pins s st H D I ⟨Hf,S,k⟩
 obtain⟨v,hv,rv⟩:=S.val i _ hd
 refine h ?_ pins s st H D I ⟨Hf,S,k⟩
 cases rv with
 | obj q r=>
   obtain⟨v',f2,_,r1,r2⟩:=C1 r
   have h1:=sS hn r
   cases r1 with
   | obj q' r'=>
     have h2:=sS Sx r'
     intro z
     rw[z,h1] at h2
     have:=HO.memo.inj (Option.some.inj h2)
     exact hl (by rw[this])
theorem EC (he:EE X G (.val (.obj C (qc (SO g C' fs' nm' l' ls' n') nm l ls n))::tl) e (.uG l' ls' m))(hs:swapsWith e none pos.line X.env=pure false:=by rfl):ES X G E (.val (.obj C (qc (SO g C' fs' nm' l' ls' n') nm l ls n))::tl) (.Expr e pos) (.nx (.val (.obj C (qc (SO g C' fs' nm' l' ls' m) nm l ls n))::tl)):=
 qt (iM he hs) fun D st H ⟨Hf,S,k⟩=>⟨Hf,S,fun v aA H1 g1 r1=>by
   have S1:=S.grow g1
   cases r1 with
   | uG kn=>
     refine k st aA H1 g1.b8 ⟨S1.gr,S1.len,fun i d h=>?_,fun i o h=>S1.own i o ?_,fun i j o o' a h1 h2=>S1.D5 i j o o' a ?_ ?_⟩
     . cases i with
       | zero=>
         cases h
         obtain⟨v,hv,rv⟩:=S1.val 0 _ rfl
         cases rv with
         | obj q r=>
           obtain⟨v',f2,ef,r1,r2⟩:=C1 r
           subst ef
           cases r1 with
           | obj q' r'=>exact⟨_,hv,.obj q (.cons (.obj q' (zE kn r')) r2)⟩
       | succ i=>exact S1.val (i+1) d h
     . cases i with
       | zero=>cases h
       | succ i=>exact h
     . cases i with
       | zero=>cases h1
       | succ i=>exact h1
     . cases j with
       | zero=>cases h2
       | succ j=>exact h2⟩
end
end Sg
namespace Sg
open PySem PySem.Spec PyProof.Rows L2
def adh (K:PySem.W.Frag)(n:Nat)(t:J2):TG:=fun v σ H Q=>∃ a xs,v=.ref a∧jM K H a xs∧xs.length=n∧t xs σ H Q
theorem Qo {X:Cx}{es:List Expr}{k:Nat}{t:J2}{n:Nat}{pos:Pos}(hc:X.calm=true)(h:Tg X es t)(hn:(assignEach es X.env).length=n:=by rfl)(kG:(assignEach es X.env).findIdx? (·.1)=none:=by rfl):PG X (.Tuple es k pos) (adh X.K n t):=by
 intro pins s σ H v u Q I r hw
 obtain⟨a,xs,e1,hq,hl,hw⟩:=hw
 subst e1
 cases r
 obtain⟨aI,rv,hp,hz⟩:=I.list hq
 obtain⟨o,m,e,h1,h2,h3⟩:=hp
 have hL:s.heap.IsList a aI.toArray:=⟨o,e,h1,m,h3⟩
 rw[assign_Tuple]
 refine wpAny_bind (wpAny_standAt ?_)
 unfold unpack
 have e5:(assignEach es X.env).length=aI.toArray.size:=by simp[hn,← hl,rv.length]
 rw[e5,kG]
 refine wpAny_bind (wpAny_holding (PySem.W.kun_itemsOf (I.ok.hd hc) hL fun h' hx=>?_))
 have I1:Inv X pins σ H { s with heap:=h'}:=I.kept (t':=s.toks) fun b o e=>hx b o (Nat.ne_of_lt (Heap.lt_size e)) e
 exact h pins _ σ H xs _ Q I1 (by simpa using rv) hw
section
variable {X:Cx}{G:Gr}{E:XK}{dl:List Slot}{e:Expr}{d1 d2:Dt}{pos:Pos}
theorem Hm (n1 n2:Nat){a b:Str}{pa pb tp:Pos}{cx:Nat}(hN:X.N.Nodup)(hc:X.calm=true)(he:EE X G dl e (.lst [d1,d2]))(Ux:X.N[n1]?=some a:=by rfl)(Uy:X.N[n2]?=some b:=by rfl)(Uz:Loc X.env.scope a:=by first | exact Or.inl rfl | exact Or.inr rfl)(O2:Loc X.env.scope b:=by first | exact Or.inl rfl | exact Or.inr rfl)(UA:X.fn a=true∨X.env.scope.names.lookup a=some .local:=by first | exact .inl rfl | exact .inr rfl)(UB:X.fn b=true∨X.env.scope.names.lookup b=some .local:=by first | exact .inl rfl | exact .inr rfl)(hn:(assignEach [.Name a pa,.Name b pb] X.env).length=2:=by rfl)(kG:(assignEach [.Name a pa,.Name b pb] X.env).findIdx? (·.1)=none:=by rfl)(q1:(assignEach [.Name a pa,.Name b pb] X.env).map (·.2)=assign (.Name a pa) X.env::(assignEach [.Name b pb] X.env).map (·.2):=by rfl)(q2:(assignEach [.Name b pb] X.env).map (·.2)=assign (.Name b pb) X.env::(assignEach [] X.env).map (·.2):=by rfl)(hs:swapsWithSole [.Tuple [.Name a pa,.Name b pb] cx tp] e pos.line X.env=pure false:=by rfl)(hw:swappedStores [.Tuple [.Name a pa,.Name b pb] cx tp] e X.env=pure none:=by rfl)(h1:(assignEach [.Tuple [.Name a pa,.Name b pb] cx tp] X.env).map (·.2)=[assign (.Tuple [.Name a pa,.Name b pb] cx tp) X.env]:=by rfl):ES X G E dl (.Assign [.Tuple [.Name a pa,.Name b pb] cx tp] e pos) (.nx ((dl.set n1 (.val d1)).set n2 (.val d2))):=
 qt (we he (Qo hc (dU (cD (pos:=pa) hN Ux Uz UA) (dU (cD (pos:=pb) hN Uy O2 UB) lL q2) q1) hn kG) hs hw h1) fun D st H ⟨Hf,S,k⟩=>⟨Hf,S,fun v aA H1 g1 r1=>by
   cases r1 with
   | @lst q vs _ hq rp=>
     cases rp with
     | cons r1 t1=>cases t1 with
       | cons r2 t2=>
         cases t2
         exact⟨q,_,rfl,.of (g1.sub _ _ hq),rfl,_,_,rfl,_,_,rfl,rfl,k _ aA H1 g1.b8 (((S.grow g1).set r1).set r2)⟩⟩
end
end Sg
namespace Pf
open PySem PySem.Spec PyProof.Rows L2 Sg
def top (i:Nat):Stmt:=PySem.Challenge.pw_strokegrow_k55_whole_reach_touched.main.body.getD i (.Pass ⟨0,0,0,0⟩)
abbrev f7:Stmt:=top 13
abbrev f9:Stmt:=top 14
abbrev bZ:Stmt:=top 15
abbrev cW:Stmt:=inClass (top 16) 3
abbrev cX:Stmt:=inClass (top 16) 4
abbrev dY:Stmt:=inClass (top 16) 5
abbrev dJ:Stmt:=inClass (top 16) 6
abbrev b0:Stmt:=inClass (top 17) 0
abbrev aN:Stmt:=inClass (top 17) 1
abbrev bJ:Stmt:=inClass (top 17) 2
abbrev cY:Stmt:=inClass (top 18) 0
abbrev aW:Stmt:=inClass (top 18) 1
abbrev cy:Stmt:=inClass (top 18) 2
abbrev fo:Stmt:=top 19
abbrev cZ:Stmt:=inClass (top 21) 0
abbrev c5:Stmt:=inClass (top 21) 1
abbrev c6:Stmt:=inClass (top 21) 2
abbrev bK:Stmt:=inClass (top 21) 3
abbrev c7:Stmt:=inClass (top 21) 4
abbrev bh:Stmt:=inClass (top 21) 5
abbrev c8:Stmt:=inClass (top 21) 6
abbrev c9:Stmt:=inClass (top 21) 7
abbrev da:Stmt:=inClass (top 21) 8
abbrev b5:Stmt:=inClass (top 21) 10
abbrev gb:Stmt:=top 22
abbrev aS:Stmt:=top 23
abbrev dZ:Stmt:=top 24
abbrev cz:Stmt:=top 27
abbrev fq:Stmt:=top 28
abbrev bx:Stmt:=inClass (top 30) 0
abbrev a6:Stmt:=inClass (top 30) 1
abbrev aH:Stmt:=inClass (top 30) 2
abbrev aM:Stmt:=inClass (top 30) 4
abbrev dR:Stmt:=top 32
abbrev aZ:Stmt:=top 33
abbrev bj:Stmt:=inClass (top 34) 0
abbrev aX:Stmt:=inClass (top 34) 1
abbrev aG:Stmt:=inClass (top 34) 3
abbrev b6:Stmt:=inClass (top 34) 4
abbrev aR:Stmt:=inClass (top 34) 5
abbrev aJ:Stmt:=inClass (top 34) 8
abbrev a0:Stmt:=inClass (top 34) 9
abbrev bA:Stmt:=inClass (top 34) 11
abbrev bo:Stmt:=top 38
abbrev bB:Stmt:=top 39
abbrev bG:Stmt:=top 40
abbrev cF:Stmt:=inClass (top 41) 0
abbrev dM:Stmt:=inClass (top 41) 1
abbrev bL:Stmt:=inClass (top 41) 2
abbrev bI:Stmt:=inClass (top 41) 4
abbrev dc:Stmt:=inClass (top 41) 5
abbrev de:Stmt:=inClass (top 41) 6
abbrev bM:Stmt:=inClass (top 41) 7
abbrev i9:Stmt:=top 43
abbrev gc:Stmt:=top 44
abbrev d0:Stmt:=top 45
abbrev ja:Stmt:=top 46
abbrev gd:Stmt:=top 47
abbrev mM:Stmt:=top 48
abbrev gf:Stmt:=top 49
abbrev mN:Stmt:=top 50
abbrev Lc:List Str:=["one","other"]
theorem Hn:ax Lc ["one","other"] (af f7):=⟨rfl,rfl,rfl,by decide +kernel,rfl,by decide +kernel,by decide +kernel⟩
abbrev Ld:List Str:=["one","other"]
theorem Ho:ax Ld ["one","other"] (af f9):=⟨rfl,rfl,rfl,by decide +kernel,rfl,by decide +kernel,by decide +kernel⟩
abbrev sV:List Str:=["deed"]
theorem qz:ax sV ["deed"] (af bZ):=⟨rfl,rfl,rfl,by decide +kernel,rfl,by decide +kernel,by decide +kernel⟩
abbrev xf:List Str:=["self","number"]
theorem uS:ax xf ["self","number"] (af cW):=⟨rfl,rfl,rfl,by decide +kernel,rfl,by decide +kernel,by decide +kernel⟩
abbrev xh:List Str:=["self","spot","by","turns"]
theorem jb:ax xh ["self","spot","by"] (af cX):=⟨rfl,rfl,rfl,by decide +kernel,rfl,by decide +kernel,by decide +kernel⟩
abbrev Bv:List Str:=["self","way"]
theorem zK:ax Bv ["self","way"] (af dY):=⟨rfl,rfl,rfl,by decide +kernel,rfl,by decide +kernel,by decide +kernel⟩
abbrev zL:List Str:=["self","deed","spot","way"]
theorem og:ax zL ["self","deed","spot","way"] (af dJ):=⟨rfl,rfl,rfl,by decide +kernel,rfl,by decide +kernel,by decide +kernel⟩
abbrev sW:List Str:=["self"]
theorem qA:ax sW ["self"] (af b0):=⟨rfl,rfl,rfl,by decide +kernel,rfl,by decide +kernel,by decide +kernel⟩
abbrev kJ:List Str:=["self","spot"]
theorem jW:ax kJ ["self","spot"] (af aN):=⟨rfl,rfl,rfl,by decide +kernel,rfl,by decide +kernel,by decide +kernel⟩
abbrev qB:List Str:=["self","way","spot","x","y"]
theorem fU:ax qB ["self","way","spot"] (af bJ):=⟨rfl,rfl,rfl,by decide +kernel,rfl,by decide +kernel,by decide +kernel⟩
abbrev xi:List Str:=["self"]
theorem uT:ax xi ["self"] (af cY):=⟨rfl,rfl,rfl,by decide +kernel,rfl,by decide +kernel,by decide +kernel⟩
abbrev ma:List Str:=["self","spot"]
theorem lg:ax ma ["self","spot"] (af aW):=⟨rfl,rfl,rfl,by decide +kernel,rfl,by decide +kernel,by decide +kernel⟩
abbrev uU:List Str:=["self","way","spot","x","y"]
theorem iz:ax uU ["self","way","spot"] (af cy):=⟨rfl,rfl,rfl,by decide +kernel,rfl,by decide +kernel,by decide +kernel⟩
abbrev Hq:List Str:=["ways"]
theorem ED:ax Hq ["ways"] (af fo):=⟨rfl,rfl,rfl,by decide +kernel,rfl,by decide +kernel,by decide +kernel⟩
abbrev xj:List Str:=["self","pen","deed_count","last_way","last_spot","stroke_count","reaches","touches","crosses"]
theorem uV:ax xj ["self","pen","deed_count","last_way","last_spot","stroke_count","reaches","touches","crosses"] (af cZ):=⟨rfl,rfl,rfl,by decide +kernel,rfl,by decide +kernel,by decide +kernel⟩
abbrev xk:List Str:=["self"]
theorem uW:ax xk ["self"] (af c5):=⟨rfl,rfl,rfl,by decide +kernel,rfl,by decide +kernel,by decide +kernel⟩
abbrev xl:List Str:=["self"]
theorem uX:ax xl ["self"] (af c6):=⟨rfl,rfl,rfl,by decide +kernel,rfl,by decide +kernel,by decide +kernel⟩
abbrev qC:List Str:=["self"]
theorem pN:ax qC ["self"] (af bK):=⟨rfl,rfl,rfl,by decide +kernel,rfl,by decide +kernel,by decide +kernel⟩
abbrev uY:List Str:=["self","first"]
theorem sX:ax uY ["self","first"] (af c7):=⟨rfl,rfl,rfl,by decide +kernel,rfl,by decide +kernel,by decide +kernel⟩
abbrev kl:List Str:=["self","numbers","first"]
theorem pO:ax kl ["self","numbers","first"] (af bh):=⟨rfl,rfl,rfl,by decide +kernel,rfl,by decide +kernel,by decide +kernel⟩
abbrev uZ:List Str:=["self","first"]
theorem sY:ax uZ ["self","first"] (af c8):=⟨rfl,rfl,rfl,by decide +kernel,rfl,by decide +kernel,by decide +kernel⟩
abbrev u0:List Str:=["self","first"]
theorem sZ:ax u0 ["self","first"] (af c9):=⟨rfl,rfl,rfl,by decide +kernel,rfl,by decide +kernel,by decide +kernel⟩
abbrev xm:List Str:=["self"]
theorem u5:ax xm ["self"] (af da):=⟨rfl,rfl,rfl,by decide +kernel,rfl,by decide +kernel,by decide +kernel⟩
abbrev tf:List Str:=["self","other","pen","shift","reaches","touches","way"]
theorem km:ax tf ["self","other"] (af b5):=⟨rfl,rfl,rfl,by decide +kernel,rfl,by decide +kernel,by decide +kernel⟩
abbrev Lf:List Str:=["pen"]
theorem Hr:ax Lf ["pen"] (af gb):=⟨rfl,rfl,rfl,by decide +kernel,rfl,by decide +kernel,by decide +kernel⟩
abbrev gS:List Str:=["pen","deed","behind","spot","reaches","touches"]
theorem jx:ax gS ["pen","deed"] (af aS):=⟨rfl,rfl,rfl,by decide +kernel,rfl,by decide +kernel,by decide +kernel⟩
abbrev Bw:List Str:=["pen","deeds","track","deed"]
theorem qg:ax Bw ["pen","deeds"] (af dZ):=⟨rfl,rfl,rfl,by decide +kernel,rfl,by decide +kernel,by decide +kernel⟩
abbrev u6:List Str:=["age","first","last"]
theorem tq:ax u6 ["age","first","last"] (af cz):=⟨rfl,rfl,rfl,by decide +kernel,rfl,by decide +kernel,by decide +kernel⟩
abbrev C3:List Str:=["rules","word"]
theorem zM:ax C3 ["rules","word"] (af fq):=⟨rfl,rfl,rfl,by decide +kernel,rfl,by decide +kernel,by decide +kernel⟩
abbrev lh:List Str:=["self","growth","rules"]
theorem ko:ax lh ["self","growth"] (af bx):=⟨rfl,rfl,rfl,by decide +kernel,rfl,by decide +kernel,by decide +kernel⟩
abbrev ni:List Str:=["self","tracks","whole","track"]
theorem g9:ax ni ["self","tracks"] (af a6):=⟨rfl,rfl,rfl,by decide +kernel,rfl,by decide +kernel,by decide +kernel⟩
abbrev hE:List Str:=["self","age","rules","last","grown","letter"]
theorem gz:ax hE ["self","age"] (af aH):=⟨rfl,rfl,rfl,by decide +kernel,rfl,by decide +kernel,by decide +kernel⟩
abbrev iT:List Str:=["self","age","begin","end"]
theorem nr:ax iT ["self","age","begin","end"] (af aM):=⟨rfl,rfl,rfl,by decide +kernel,rfl,by decide +kernel,by decide +kernel⟩
abbrev zN:List Str:=["tallies","letters"]
theorem vT:ax zN ["tallies","letters"] (af dR):=⟨rfl,rfl,rfl,by decide +kernel,rfl,by decide +kernel,by decide +kernel⟩
abbrev jy:List Str:=["word","rounds"]
theorem oh:ax jy ["word","rounds"] (af aZ):=⟨rfl,rfl,rfl,by decide +kernel,rfl,by decide +kernel,by decide +kernel⟩
abbrev jc:List Str:=["self","rules","start"]
theorem lj:ax jc ["self","rules","start"] (af bj):=⟨rfl,rfl,rfl,by decide +kernel,rfl,by decide +kernel,by decide +kernel⟩
abbrev me:List Str:=["self"]
theorem ll:ax me ["self"] (af aX):=⟨rfl,rfl,rfl,by decide +kernel,rfl,by decide +kernel,by decide +kernel⟩
abbrev fA:List Str:=["self","age","letters","last","grown","letter"]
theorem hU:ax fA ["self","age"] (af aG):=⟨rfl,rfl,rfl,by decide +kernel,rfl,by decide +kernel,by decide +kernel⟩
abbrev tu:List Str:=["self","age"]
theorem qD:ax tu ["self","age"] (af b6):=⟨rfl,rfl,rfl,by decide +kernel,rfl,by decide +kernel,by decide +kernel⟩
abbrev lp:List Str:=["self","age","place"]
theorem kK:ax lp ["self","age","place"] (af aR):=⟨rfl,rfl,rfl,by decide +kernel,rfl,by decide +kernel,by decide +kernel⟩
abbrev jX:List Str:=["self","age","begin","end"]
theorem jz:ax jX ["self","age","begin","end"] (af aJ):=⟨rfl,rfl,rfl,by decide +kernel,rfl,by decide +kernel,by decide +kernel⟩
abbrev kr:List Str:=["self","age"]
theorem pP:ax kr ["self","age"] (af a0):=⟨rfl,rfl,rfl,by decide +kernel,rfl,by decide +kernel,by decide +kernel⟩
abbrev qE:List Str:=["self","age","begin","end","between","waiting","place","piece","rounds","behind"]
theorem jA:ax qE ["self","age","begin","end"] (af bA):=⟨rfl,rfl,rfl,by decide +kernel,rfl,by decide +kernel,by decide +kernel⟩
abbrev oi:List Str:=["text"]
theorem nu:ax oi ["text"] (af bo):=⟨rfl,rfl,rfl,by decide +kernel,rfl,by decide +kernel,by decide +kernel⟩
abbrev lq:List Str:=["word","letters"]
theorem qF:ax lq ["word","letters"] (af bB):=⟨rfl,rfl,rfl,by decide +kernel,rfl,by decide +kernel,by decide +kernel⟩
abbrev jY:List Str:=["rows","firsts","letters","number","row","letter_fits"]
theorem mO:ax jY ["rows"] (af bG):=⟨rfl,rfl,rfl,by decide +kernel,rfl,by decide +kernel,by decide +kernel⟩
abbrev xn:List Str:=["self","ways","rows","drawer","row"]
theorem mP:ax xn ["self","ways","rows"] (af cF):=⟨rfl,rfl,rfl,by decide +kernel,rfl,by decide +kernel,by decide +kernel⟩
abbrev zO:List Str:=["self"]
theorem xp:ax zO ["self"] (af dM):=⟨rfl,rfl,rfl,by decide +kernel,rfl,by decide +kernel,by decide +kernel⟩
abbrev qG:List Str:=["self"]
theorem pQ:ax qG ["self"] (af bL):=⟨rfl,rfl,rfl,by decide +kernel,rfl,by decide +kernel,by decide +kernel⟩
abbrev tw:List Str:=["self","letter"]
theorem qH:ax tw ["self","letter"] (af bI):=⟨rfl,rfl,rfl,by decide +kernel,rfl,by decide +kernel,by decide +kernel⟩
abbrev xq:List Str:=["self","letter"]
theorem u7:ax xq ["self","letter"] (af dc):=⟨rfl,rfl,rfl,by decide +kernel,rfl,by decide +kernel,by decide +kernel⟩
abbrev xu:List Str:=["self","letter"]
theorem u9:ax xu ["self","letter"] (af de):=⟨rfl,rfl,rfl,by decide +kernel,rfl,by decide +kernel,by decide +kernel⟩
abbrev qI:List Str:=["self","text","most","at","sign"]
theorem jB:ax qI ["self","text","most"] (af bM):=⟨rfl,rfl,rfl,by decide +kernel,rfl,by decide +kernel,by decide +kernel⟩
abbrev Qp:List Str:=["_law_script","_law_k","_law_cell_here","_law_low"]
theorem rJ:ax Qp ["_law_script","_law_k"] (af i9):=⟨rfl,rfl,rfl,by decide +kernel,rfl,by decide +kernel,by decide +kernel⟩
abbrev Lg:List Str:=["_law_found"]
theorem Hs:ax Lg ["_law_found"] (af gc):=⟨rfl,rfl,rfl,by decide +kernel,rfl,by decide +kernel,by decide +kernel⟩
abbrev Bx:List Str:=["_law_cell_here","_law_many","_law_free","_law_found","_law_k","_law_at"]
theorem qh:ax Bx ["_law_cell_here","_law_many"] (af d0):=⟨rfl,rfl,rfl,by decide +kernel,rfl,by decide +kernel,by decide +kernel⟩
abbrev Qq:List Str:=["_law_number","_law_alphabet_here","_law_most","_law_found","_law_size","_law_k"]
theorem C4:ax Qq ["_law_number","_law_alphabet_here","_law_most"] (af ja):=⟨rfl,rfl,rfl,by decide +kernel,rfl,by decide +kernel,by decide +kernel⟩
abbrev Lh:List Str:=["_law_script","_law_far","_law_first","_law_way","_law_age","_law_many","_law_most","_law_alphabet_here","_law_rows","_law_k","_law_cell_here","_law_deed","_law_start"]
theorem zP:ax Lh ["_law_script","_law_far"] (af gd):=⟨rfl,rfl,rfl,by decide +kernel,rfl,by decide +kernel,by decide +kernel⟩
abbrev Vj:List Str:=["_law_script","_law_k","_law_far","_law_number"]
theorem Ht:ax Vj ["_law_script","_law_k"] (af mM):=⟨rfl,rfl,rfl,by decide +kernel,rfl,by decide +kernel,by decide +kernel⟩
abbrev Li:List Str:=["_law_ways","_law_spot","_law_x","_law_y"]
theorem zQ:ax Li ["_law_ways","_law_spot"] (af gf):=⟨rfl,rfl,rfl,by decide +kernel,rfl,by decide +kernel,by decide +kernel⟩
abbrev Vk:List Str:=["_law_script","_law_ways","_law_rows","_law_start","_law_age","_law_growth","_law_drawing","_law_younger","_law_size","_law_begin","_law_end","_law_way","_law_track","_law_reach","_law_touch","_law_asked","_law_k","_law_place","_law_far","_law_first","_law_v"]
theorem Hu:ax Vk ["_law_script"] (af mN):=⟨rfl,rfl,rfl,by decide +kernel,rfl,by decide +kernel,by decide +kernel⟩
structure df where
 iU:Addr
 C5:FuncData
 iV:Addr
 C6:FuncData
 dn:Addr
 lr:FuncData
 b9:Addr
 oj:FuncData
 cb:Addr
 om:FuncData
 dt:Addr
 tE:FuncData
 cN:Addr
 qi:FuncData
 cG:Addr
 lu:FuncData
 aU:Addr
 fO:FuncData
 cf:Addr
 ky:FuncData
 dw:Addr
 oo:FuncData
 bf:Addr
 hV:FuncData
 dg:Addr
 mQ:FuncData
 gA:Addr
 zR:FuncData
 dy:Addr
 ow:FuncData
 dA:Addr
 oy:FuncData
 dB:Addr
 oA:FuncData
 cg:Addr
 kz:FuncData
 cA:Addr
 gh:FuncData
 cj:Addr
 kA:FuncData
 cB:Addr
 gi:FuncData
 cC:Addr
 gj:FuncData
 dC:Addr
 oB:FuncData
 cH:Addr
 lx:FuncData
 iW:Addr
 C7:FuncData
 cO:Addr
 kB:FuncData
 eW:Addr
 tF:FuncData
 dN:Addr
 mR:FuncData
 iX:Addr
 C8:FuncData
 cI:Addr
 ly:FuncData
 bw:Addr
 iC:FuncData
 aY:Addr
 hX:FuncData
 br:Addr
 iY:FuncData
 fG:Addr
 zS:FuncData
 cw:Addr
 jC:FuncData
 dh:Addr
 mS:FuncData
 bg:Addr
 hZ:FuncData
 bb:Addr
 iD:FuncData
 cJ:Addr
 lz:FuncData
 a5:Addr
 gB:FuncData
 aQ:Addr
 fH:FuncData
 bN:Addr
 kC:FuncData
 bO:Addr
 kE:FuncData
 bW:Addr
 iZ:FuncData
 dq:Addr
 lC:FuncData
 dW:Addr
 oC:FuncData
 di:Addr
 oE:FuncData
 dX:Addr
 qj:FuncData
 ck:Addr
 kF:FuncData
 b7:Addr
 lD:FuncData
 dD:Addr
 oF:FuncData
 dF:Addr
 oG:FuncData
 bC:Addr
 fu:FuncData
 lE:Addr
 Hv:FuncData
 i0:Addr
 C9:FuncData
 eX:Addr
 tG:FuncData
 lF:Addr
 Hw:FuncData
 i3:Addr
 Dc:FuncData
 qk:Addr
 NL:FuncData
 i4:Addr
 Dd:FuncData
 jD:Addr
 zT:FuncData
 gk:Tok
 gm:Tok
 gn:Tok
 fw:Tok
 aK:Addr
 bD:Addr
 aO:Addr
 aw:Addr
 ay:Addr
 aD:Addr
 ij:Addr
 dO:Addr
 zU:Tok
 tH:Tok
 xv:Tok
 K:PySem.W.Frag
structure Txt (K:PySem.W.Frag)(mg:Str→Option Value)(t:df):Prop where
 hK:t.K=K
 jZ:nH K t.aK
 EF:mg "Quarter"=some (.ref t.aK)
 Qr:PySem.W.keepIn K (.ref t.aK)=true
 oH:nH K t.bD
 Lj:mg "Sixth"=some (.ref t.bD)
 Vl:PySem.W.keepIn K (.ref t.bD)=true
 eh:nH K t.aO
 Lk:mg "Rules"=some (.ref t.aO)
 Vm:PySem.W.keepIn K (.ref t.aO)=true
 bF:nH K t.aw
 Hx:mg "Growth"=some (.ref t.aw)
 SQ:PySem.W.keepIn K (.ref t.aw)=true
 aC:nH K t.ay
 Ll:mg "Track"=some (.ref t.ay)
 Vn:PySem.W.keepIn K (.ref t.ay)=true
 cV:nH K t.aD
 EG:mg "Drawing"=some (.ref t.aD)
 Qs:PySem.W.keepIn K (.ref t.aD)=true
 By:Mk0 K t.aK
 Hy:Mk0 K t.bD
 Hz:L2.Mk K t.aO t.di
 EH:L2.Mk K t.aw t.dh
 HA:L2.Mk K t.ay t.dy
 Bz:L2.Mk K t.aD t.cI
 na_Rules_drawer:cu K t.aO "drawer"
 na_Rules_row_by_letter:cu K t.aO "row_by_letter"
 na_Growth_rules:cu K t.aw "rules"
 na_Growth_seed:cu K t.aw "seed"
 na_Growth_tallies:cu K t.aw "tallies"
 na_Growth_lengths:cu K t.aw "lengths"
 na_Track_drawer:cu K t.ay "drawer"
 na_Track_deed_count:cu K t.ay "deed_count"
 na_Track_last_way:cu K t.ay "last_way"
 na_Track_last_spot:cu K t.ay "last_spot"
 na_Track_stroke_count:cu K t.ay "stroke_count"
 na_Track_reaches:cu K t.ay "reaches"
 na_Track_touches:cu K t.ay "touches"
 na_Track_crosses:cu K t.ay "crosses"
 na_Drawing_growth:cu K t.aD "growth"
 na_Drawing_tracks:cu K t.aD "tracks"
 xw:mg "DEEDS"=some (.ref t.ij)
 xx:∀ H,Rep K H (.ref t.ij) (.tup [.str "stroke",.str "step",.str "left",.str "right",.str "rest"])
 mT:mg "GOING_DEEDS"=some (.ref t.dO)
 mU:∀ H,Rep K H (.ref t.dO) (.tup [.str "stroke",.str "step"])
 zV:mg "MOST_ROWS"=some (.int 6 t.zU)
 tJ:mg "MOST_IN_WORD"=some (.int 8 t.tH)
 xy:mg "LAST_ROUND"=some (.int 200 t.xv)
 Lm:fL K "added" "added" f7 t.iU t.C5
 Ln:PySem.W.keepIn K (.ref t.iU)=true
 Lo:Binds K t.C5 ["one","other"] []
 Lp:mg "added"=some (.ref t.iU)
 Lq:fL K "cross" "cross" f9 t.iV t.C6
 Lr:PySem.W.keepIn K (.ref t.iV)=true
 Lu:Binds K t.C6 ["one","other"] []
 Lv:mg "cross"=some (.ref t.iV)
 tK:fL K "turn_of_deed" "turn_of_deed" bZ t.dn t.lr
 tL:PySem.W.keepIn K (.ref t.dn)=true
 tM:Binds K t.lr ["deed"] []
 tN:mg "turn_of_deed"=some (.ref t.dn)
 xA:fL K "way_of" "Pen.way_of" cW t.b9 t.oj
 Lw:PySem.W.keepIn K (.ref t.b9)=true
 xB:Binds K t.oj ["self","number"] []
 kL:Meth K t.aK "way_of" t.b9
 mf:Meth K t.bD "way_of" t.b9
 xC:fL K "turned" "Pen.turned" cX t.cb t.om
 Lx:PySem.W.keepIn K (.ref t.cb)=true
 xD:Binds K t.om ["self","spot","by"] []
 kM:Meth K t.aK "turned" t.cb
 mh:Meth K t.bD "turned" t.cb
 BA:fL K "step" "Pen.step" dY t.dt t.tE
 Qt:PySem.W.keepIn K (.ref t.dt)=true
 BB:Binds K t.tE ["self","way"] []
 mi:Meth K t.aK "step" t.dt
 oJ:Meth K t.bD "step" t.dt
 zW:fL K "after" "Pen.after" dJ t.cN t.qi
 NM:PySem.W.keepIn K (.ref t.cN)=true
 zX:Binds K t.qi ["self","deed","spot","way"] []
 lG:Meth K t.aK "after" t.cN
 nv:Meth K t.bD "after" t.cN
 tP:fL K "ways" "Quarter.ways" b0 t.cG t.lu
 HB:PySem.W.keepIn K (.ref t.cG)=true
 tQ:Binds K t.lu ["self"] []
 jE:Meth K t.aK "ways" t.cG
 kN:fL K "turned_left" "Quarter.turned_left" aN t.aU t.fO
 yw:PySem.W.keepIn K (.ref t.aU)=true
 kO:Binds K t.fO ["self","spot"] []
 fV:Meth K t.aK "turned_left" t.aU
 qJ:fL K "along" "Quarter.along" bJ t.cf t.ky
 Fm:PySem.W.keepIn K (.ref t.cf)=true
 qK:Binds K t.ky ["self","way","spot"] []
 jd:Meth K t.aK "along" t.cf
 xE:fL K "ways" "Sixth.ways" cY t.dw t.oo
 Ly:PySem.W.keepIn K (.ref t.dw)=true
 xF:Binds K t.oo ["self"] []
 mj:Meth K t.bD "ways" t.dw
 ml:fL K "turned_left" "Sixth.turned_left" aW t.bf t.hV
 AB:PySem.W.keepIn K (.ref t.bf)=true
 mn:Binds K t.hV ["self","spot"] []
 iE:Meth K t.bD "turned_left" t.bf
 va:fL K "along" "Sixth.along" cy t.dg t.mQ
 JO:PySem.W.keepIn K (.ref t.dg)=true
 vb:Binds K t.mQ ["self","way","spot"] []
 lH:Meth K t.bD "along" t.dg
 HC:fL K "pen_of" "pen_of" fo t.gA t.zR
 HD:PySem.W.keepIn K (.ref t.gA)=true
 HE:Binds K t.zR ["ways"] []
 HF:mg "pen_of"=some (.ref t.gA)
 xG:sI K "__init__" "Track.__init__" cZ t.dy t.ow
 Lz:PySem.W.keepIn K (.ref t.dy)=true
 xH:Binds K t.ow ["self","pen","deed_count","last_way","last_spot","stroke_count","reaches","touches","crosses"] []
 xI:fL K "many" "Track.many" c5 t.dA t.oy
 LA:PySem.W.keepIn K (.ref t.dA)=true
 xJ:Binds K t.oy ["self"] []
 mq:Meth K t.ay "many" t.dA
 xK:fL K "turn" "Track.turn" c6 t.dB t.oA
 LB:PySem.W.keepIn K (.ref t.dB)=true
 xM:Binds K t.oA ["self"] []
 mv:Meth K t.ay "turn" t.dB
 qL:fL K "strokes" "Track.strokes" bK t.cg t.kz
 Fn:PySem.W.keepIn K (.ref t.cg)=true
 qM:Binds K t.kz ["self"] []
 j0:Meth K t.ay "strokes" t.cg
 tR:Binds K t.gh ["self","first"] [.int 0 t.gk]
 vc:sI K "shift" "Track.shift" c7 t.cA t.gh
 JP:PySem.W.keepIn K (.ref t.cA)=true
 vd:Binds K t.gh ["self","first"] []
 gC:Meth K t.ay "shift" t.cA
 qN:fL K "by_ways" "Track.by_ways" bh t.cj t.kA
 Fp:PySem.W.keepIn K (.ref t.cj)=true
 qO:Binds K t.kA ["self","numbers","first"] []
 j4:Meth K t.ay "by_ways" t.cj
 tS:Binds K t.gi ["self","first"] [.int 0 t.gm]
 vf:sI K "reach" "Track.reach" c8 t.cB t.gi
 JQ:PySem.W.keepIn K (.ref t.cB)=true
 vg:Binds K t.gi ["self","first"] []
 gD:Meth K t.ay "reach" t.cB
 tT:Binds K t.gj ["self","first"] [.int 0 t.gn]
 vh:sI K "touch" "Track.touch" c9 t.cC t.gj
 JR:PySem.W.keepIn K (.ref t.cC)=true
 vi:Binds K t.gj ["self","first"] []
 gF:Meth K t.ay "touch" t.cC
 xN:fL K "area" "Track.area" da t.dC t.oB
 LC:PySem.W.keepIn K (.ref t.dC)=true
 xO:Binds K t.oB ["self"] []
 mw:Meth K t.ay "area" t.dC
 tU:fL K "joined" "Track.joined" b5 t.cH t.lx
 HG:PySem.W.keepIn K (.ref t.cH)=true
 tV:Binds K t.lx ["self","other"] []
 kP:Meth K t.ay "joined" t.cH
 LD:fL K "still" "still" gb t.iW t.C7
 LF:PySem.W.keepIn K (.ref t.iW)=true
 LG:Binds K t.C7 ["pen"] []
 LH:mg "still"=some (.ref t.iW)
 qP:fL K "track_of_deed" "track_of_deed" aS t.cO t.kB
 qQ:PySem.W.keepIn K (.ref t.cO)=true
 qR:Binds K t.kB ["pen","deed"] []
 qS:mg "track_of_deed"=some (.ref t.cO)
 BC:fL K "track_of" "track_of" dZ t.eW t.tF
 BD:PySem.W.keepIn K (.ref t.eW)=true
 BE:Binds K t.tF ["pen","deeds"] []
 BF:mg "track_of"=some (.ref t.eW)
 vj:fL K "check_round" "check_round" cz t.dN t.mR
 vk:PySem.W.keepIn K (.ref t.dN)=true
 vm:Binds K t.mR ["age","first","last"] []
 vn:mg "check_round"=some (.ref t.dN)
 LI:fL K "tally" "tally" fq t.iX t.C8
 LJ:PySem.W.keepIn K (.ref t.iX)=true
 LK:Binds K t.C8 ["rules","word"] []
 LL:mg "tally"=some (.ref t.iX)
 tW:sI K "__init__" "Drawing.__init__" bx t.cI t.ly
 HH:PySem.W.keepIn K (.ref t.cI)=true
 tX:Binds K t.ly ["self","growth"] []
 ny:fL K "join_all" "Drawing.join_all" a6 t.bw t.iC
 BG:PySem.W.keepIn K (.ref t.bw)=true
 nz:Binds K t.iC ["self","tracks"] []
 ik:Meth K t.aD "join_all" t.bw
 mx:fL K "deepen_to" "Drawing.deepen_to" aH t.aY t.hX
 AD:PySem.W.keepIn K (.ref t.aY)=true
 my:Binds K t.hX ["self","age"] []
 gT:Meth K t.aD "deepen_to" t.aY
 oK:fL K "stretch" "Drawing.stretch" aM t.br t.iY
 De:PySem.W.keepIn K (.ref t.br)=true
 oM:Binds K t.iY ["self","age","begin","end"] []
 iF:Meth K t.aD "stretch" t.br
 HI:fL K "summed" "summed" dR t.fG t.zS
 HJ:PySem.W.keepIn K (.ref t.fG)=true
 HK:Binds K t.zS ["tallies","letters"] []
 HL:mg "summed"=some (.ref t.fG)
 pR:fL K "waiting_pieces" "waiting_pieces" aZ t.cw t.jC
 pS:PySem.W.keepIn K (.ref t.cw)=true
 pT:Binds K t.jC ["word","rounds"] []
 pU:mg "waiting_pieces"=some (.ref t.cw)
 vo:sI K "__init__" "Growth.__init__" bj t.dh t.mS
 JS:PySem.W.keepIn K (.ref t.dh)=true
 vp:Binds K t.mS ["self","rules","start"] []
 mz:fL K "rules_told" "Growth.rules_told" aX t.bg t.hZ
 AE:PySem.W.keepIn K (.ref t.bg)=true
 mB:Binds K t.hZ ["self"] []
 il:Meth K t.aw "rules_told" t.bg
 nA:fL K "deepen_to" "Growth.deepen_to" aG t.bb t.iD
 BH:PySem.W.keepIn K (.ref t.bb)=true
 nB:Binds K t.iD ["self","age"] []
 iG:Meth K t.aw "deepen_to" t.bb
 tY:fL K "enter" "Growth.enter" b6 t.cJ t.lz
 HM:PySem.W.keepIn K (.ref t.cJ)=true
 tZ:Binds K t.lz ["self","age"] []
 j5:Meth K t.aw "enter" t.cJ
 lI:fL K "check_place" "Growth.check_place" aR t.a5 t.gB
 zY:PySem.W.keepIn K (.ref t.a5)=true
 lJ:Binds K t.gB ["self","age","place"] []
 gU:Meth K t.aw "check_place" t.a5
 j6:fL K "check_stretch" "Growth.check_stretch" aJ t.aQ t.fH
 xP:PySem.W.keepIn K (.ref t.aQ)=true
 j7:Binds K t.fH ["self","age","begin","end"] []
 fW:Meth K t.aw "check_stretch" t.aQ
 qT:fL K "length" "Growth.length" a0 t.bN t.kC
 Fq:PySem.W.keepIn K (.ref t.bN)=true
 qU:Binds K t.kC ["self","age"] []
 jF:Meth K t.aw "length" t.bN
 qV:fL K "pieces" "Growth.pieces" bA t.bO t.kE
 Fs:PySem.W.keepIn K (.ref t.bO)=true
 qW:Binds K t.kE ["self","age","begin","end"] []
 jG:Meth K t.aw "pieces" t.bO
 oN:fL K "is_small_letter" "is_small_letter" bo t.bW t.iZ
 oO:PySem.W.keepIn K (.ref t.bW)=true
 oP:Binds K t.iZ ["text"] []
 oQ:mg "is_small_letter"=some (.ref t.bW)
 t5:fL K "is_word_over" "is_word_over" bB t.dq t.lC
 t6:PySem.W.keepIn K (.ref t.dq)=true
 t7:Binds K t.lC ["word","letters"] []
 t8:mg "is_word_over"=some (.ref t.dq)
 xQ:fL K "check_rows" "check_rows" bG t.dW t.oC
 xR:PySem.W.keepIn K (.ref t.dW)=true
 xS:Binds K t.oC ["rows"] []
 xU:mg "check_rows"=some (.ref t.dW)
 xV:sI K "__init__" "Rules.__init__" cF t.di t.oE
 LM:PySem.W.keepIn K (.ref t.di)=true
 xW:Binds K t.oE ["self","ways","rows"] []
 zZ:fL K "pen" "Rules.pen" dM t.dX t.qj
 NN:PySem.W.keepIn K (.ref t.dX)=true
 z5:Binds K t.qj ["self"] []
 nC:Meth K t.aO "pen" t.dX
 qX:fL K "letters" "Rules.letters" bL t.ck t.kF
 Ft:PySem.W.keepIn K (.ref t.ck)=true
 qY:Binds K t.kF ["self"] []
 j8:Meth K t.aO "letters" t.ck
 t9:fL K "row_of" "Rules.row_of" bI t.b7 t.lD
 HN:PySem.W.keepIn K (.ref t.b7)=true
 ua:Binds K t.lD ["self","letter"] []
 kQ:Meth K t.aO "row_of" t.b7
 xX:fL K "deed" "Rules.deed" dc t.dD t.oF
 LN:PySem.W.keepIn K (.ref t.dD)=true
 xY:Binds K t.oF ["self","letter"] []
 mC:Meth K t.aO "deed" t.dD
 xZ:fL K "word" "Rules.word" de t.dF t.oG
 LO:PySem.W.keepIn K (.ref t.dF)=true
 x3:Binds K t.oG ["self","letter"] []
 mD:Meth K t.aO "word" t.dF
 pV:Binds K t.fu ["self","text","most"] [.int 8 t.fw]
 qZ:sI K "word_of" "Rules.word_of" bM t.bC t.fu
 Fu:PySem.W.keepIn K (.ref t.bC)=true
 Fv:Binds K t.fu ["self","text","most"] []
 j9:Meth K t.aO "word_of" t.bC
 Qu:fL K "_law_cell" "_law_cell" i9 t.lE t.Hv
 Qv:PySem.W.keepIn K (.ref t.lE)=true
 Qw:Binds K t.Hv ["_law_script","_law_k"] []
 Qx:mg "_law_cell"=some (.ref t.lE)
 LP:fL K "_law_whole" "_law_whole" gc t.i0 t.C9
 k_whole:PySem.W.keepIn K (.ref t.i0)=true
 LQ:Binds K t.C9 ["_law_found"] []
 LR:mg "_law_whole"=some (.ref t.i0)
 BI:fL K "_law_alphabet" "_law_alphabet" d0 t.eX t.tG
 BJ:PySem.W.keepIn K (.ref t.eX)=true
 BK:Binds K t.tG ["_law_cell_here","_law_many"] []
 BL:mg "_law_alphabet"=some (.ref t.eX)
 Qy:fL K "_law_text" "_law_text" ja t.lF t.Hw
 Qz:PySem.W.keepIn K (.ref t.lF)=true
 QA:Binds K t.Hw ["_law_number","_law_alphabet_here","_law_most"] []
 QB:mg "_law_text"=some (.ref t.lF)
 LU:fL K "_law_shape" "_law_shape" gd t.i3 t.Dc
 LV:PySem.W.keepIn K (.ref t.i3)=true
 LW:Binds K t.Dc ["_law_script","_law_far"] []
 LX:mg "_law_shape"=some (.ref t.i3)
 Vo:fL K "_law_big" "_law_big" mM t.qk t.NL
 Vp:PySem.W.keepIn K (.ref t.qk)=true
 Vq:Binds K t.NL ["_law_script","_law_k"] []
 Vr:mg "_law_big"=some (.ref t.qk)
 LY:fL K "_law_along" "_law_along" gf t.i4 t.Dd
 LZ:PySem.W.keepIn K (.ref t.i4)=true
 L5:Binds K t.Dd ["_law_ways","_law_spot"] []
 rK:mg "_law_along"=some (.ref t.i4)
 Vs:fL K "law" "law" mN t.jD t.zT
 ahz:PySem.W.keepIn K (.ref t.jD)=true
 ahA:Binds K t.zT ["_law_script"] []
 Vt:mg "law"=some (.ref t.jD)
 z_all:mg "all"=none
 z_bool:mg "bool"=none
 z_dict:mg "dict"=none
 z_enumerate:mg "enumerate"=none
 z_int:mg "int"=none
 z_isinstance:mg "isinstance"=none
 z_len:mg "len"=none
 z_list:mg "list"=none
 z_max:mg "max"=none
 z_min:mg "min"=none
 z_range:mg "range"=none
 z_reversed:mg "reversed"=none
 z_sorted:mg "sorted"=none
 z_sum:mg "sum"=none
 z_tuple:mg "tuple"=none
 QC:∀ (s:Shared) (u:Value),BindsTo s t.zT ⟨[u],[]⟩ [("_law_script",u)]
theorem QD {K:W.Frag}{h:Heap}{mg:Str→Option Value}(X:K.In h)(G:h.Ns mainGlobals mg){aK:Addr}{bD:Addr}{aO:Addr}{aw:Addr}{ay:Addr}{aD:Addr}{ij:Addr}{y0:Option Addr}{y1:Nat}{y2:Array (Option Value)}{HP HQ HR HS HU:Tok}{dO:Addr}{y3:Option Addr}{y4:Nat}{y5:Array (Option Value)}{ub ue:Tok}{y6:Tok}{y7:Tok}{y8:Tok}{iU:Addr}{y9 y10:Option Addr}{y11:Array (Option Value)}{y12 y13 y14 y15 y16 y17:Value}{iV:Addr}{y18 y19:Option Addr}{y20:Array (Option Value)}{y21 y22 y23 y24 y25 y26:Value}{dn:Addr}{y27 y28:Option Addr}{y29:Array (Option Value)}{y30 y31 y32 y33 y34 y35:Value}{b9:Addr}{y36 y37:Option Addr}{y38:Array (Option Value)}{y39 y40 y41 y42 y43 y44:Value}{cb:Addr}{y45 y46:Option Addr}{y47:Array (Option Value)}{y48 y49 y50 y51 y52 y53:Value}{dt:Addr}{y54 y55:Option Addr}{y56:Array (Option Value)}{y57 y58 y59 y60 y61 y62:Value}{cN:Addr}{y63 y64:Option Addr}{y65:Array (Option Value)}{y66 y67 y68 y69 y70 y71:Value}{cG:Addr}{y72 y73:Option Addr}{y74:Array (Option Value)}{y75 y76 y77 y78 y79 y80:Value}{aU:Addr}{y81 y82:Option Addr}{y83:Array (Option Value)}{y84 y85 y86 y87 y88 y89:Value}{cf:Addr}{y90 y91:Option Addr}{y92:Array (Option Value)}{y93 y94 y95 y96 y97 y98:Value}{dw:Addr}{y99 Vu:Option Addr}{adt:Array (Option Value)}{adu Vv Vw Vx QE Vy:Value}{bf:Addr}{adv Vz:Option Addr}{adw:Array (Option Value)}{adx VA VB VC QF VD:Value}{dg:Addr}{ady VE:Option Addr}{adz:Array (Option Value)}{adA VF VG VH QG VI:Value}{gA:Addr}{adB VJ:Option Addr}{adC:Array (Option Value)}{adD VL VM VN QH VO:Value}{dy:Addr}{adE VP:Option Addr}{adF:Array (Option Value)}{adG VQ VR VS QI VT:Value}{dA:Addr}{adH VU:Option Addr}{adI:Array (Option Value)}{adJ VV VW VX QJ VY:Value}{dB:Addr}{adK VZ:Option Addr}{adL:Array (Option Value)}{adM V0 V1 V2 QK V3:Value}{cg:Addr}{adN V4:Option Addr}{adO:Array (Option Value)}{adP V5 V6 V7 QL V8:Value}{cA:Addr}{adQ V9:Option Addr}{adR:Array (Option Value)}{adS Wa Wb Wc QM Wd:Value}{je:Addr}{adT:Option Addr}{adU:Value}{adV:Nat}{adW:Array (Option Value)}{gk:Tok}{cj:Addr}{adX We:Option Addr}{adY:Array (Option Value)}{adZ Wf Wg Wh QN Wi:Value}{cB:Addr}{ad0 Wj:Option Addr}{ad1:Array (Option Value)}{ad2 Wk Wl Wm QO Wn:Value}{jf:Addr}{ad3:Option Addr}{ad4:Value}{ad5:Nat}{ad6:Array (Option Value)}{gm:Tok}{cC:Addr}{ad7 Wo:Option Addr}{ad8:Array (Option Value)}{ad9 Wq Wr Ws QP Wt:Value}{jg:Addr}{aea:Option Addr}{aeb:Value}{aec:Nat}{aed:Array (Option Value)}{gn:Tok}{dC:Addr}{aee Wu:Option Addr}{aef:Array (Option Value)}{aeg Wv Ww Wx QQ Wy:Value}{cH:Addr}{aeh Wz:Option Addr}{aei:Array (Option Value)}{aej WA WB WC QR WD:Value}{iW:Addr}{aek WE:Option Addr}{ael:Array (Option Value)}{aem WG WH WI QS WJ:Value}{cO:Addr}{aen WK:Option Addr}{aeo:Array (Option Value)}{aep WL WM WN QT WO:Value}{eW:Addr}{aeq WQ:Option Addr}{aer:Array (Option Value)}{aes WR WS WT QU WU:Value}{dN:Addr}{aet WV:Option Addr}{aeu:Array (Option Value)}{aev WW WX WY QV WZ:Value}{iX:Addr}{aew W0:Option Addr}{aex:Array (Option Value)}{aey W2 W3 W4 QW W5:Value}{cI:Addr}{aez W6:Option Addr}{aeA:Array (Option Value)}{aeB W7 W8 W9 QX Xa:Value}{bw:Addr}{aeC Xb:Option Addr}{aeD:Array (Option Value)}{aeE Xc Xd Xe QY Xf:Value}{aY:Addr}{aeF Xg:Option Addr}{aeG:Array (Option Value)}{aeH Xh Xi Xj QZ Xk:Value}{br:Addr}{aeI Xl:Option Addr}{aeJ:Array (Option Value)}{aeK Xm Xn Xo Q0 Xp:Value}{fG:Addr}{aeL Xq:Option Addr}{aeM:Array (Option Value)}{aeN Xr Xs Xt Q1 Xu:Value}{cw:Addr}{aeO Xv:Option Addr}{aeP:Array (Option Value)}{aeQ Xw Xx Xy Q2 Xz:Value}{dh:Addr}{aeR XA:Option Addr}{aeS:Array (Option Value)}{aeT XB XC XD Q3 XE:Value}{bg:Addr}{aeU XG:Option Addr}{aeV:Array (Option Value)}{aeW XH XI XJ Q4 XM:Value}{bb:Addr}{aeX XO:Option Addr}{aeY:Array (Option Value)}{aeZ XQ XR XS Q5 XT:Value}{cJ:Addr}{ae0 XU:Option Addr}{ae1:Array (Option Value)}{ae2 XW XY XZ Q6 X0:Value}{a5:Addr}{ae3 X1:Option Addr}{ae4:Array (Option Value)}{ae5 X2 X3 X4 Q7 X5:Value}{aQ:Addr}{ae6 X6:Option Addr}{ae7:Array (Option Value)}{ae8 X7 X8 X9 Q8 Ya:Value}{bN:Addr}{ae9 Yb:Option Addr}{afa:Array (Option Value)}{afb Yc Yd Ye Q9 Yf:Value}{bO:Addr}{afc Yg:Option Addr}{afd:Array (Option Value)}{afe Yh Yi Yj Ra Yk:Value}{bW:Addr}{aff Yl:Option Addr}{afg:Array (Option Value)}{afh Ym Yn Yo Rb Yp:Value}{dq:Addr}{afi Yq:Option Addr}{afj:Array (Option Value)}{afk Yr Ys Yt Rc Yu:Value}{dW:Addr}{afl Yv:Option Addr}{afm:Array (Option Value)}{afn Yw Yx Yy Rf Yz:Value}{di:Addr}{afo YA:Option Addr}{afp:Array (Option Value)}{afq YB YC YD Rg YE:Value}{dX:Addr}{afr YF:Option Addr}{afs:Array (Option Value)}{afu YG YH YI Rh YJ:Value}{ck:Addr}{afv YK:Option Addr}{afw:Array (Option Value)}{afx YL YM YN Ri YO:Value}{b7:Addr}{afy YQ:Option Addr}{afz:Array (Option Value)}{afA YR YS YT Rj YU:Value}{dD:Addr}{afB YV:Option Addr}{afC:Array (Option Value)}{afD YW YX YY Rk YZ:Value}{dF:Addr}{afE Y0:Option Addr}{afF:Array (Option Value)}{afG Y1 Y2 Y3 Rm Y4:Value}{bC:Addr}{afH Y5:Option Addr}{afI:Array (Option Value)}{afJ Y6 Y7 Y8 Rn Y9:Value}{gW:Addr}{afK:Option Addr}{afL:Value}{afM:Nat}{afN:Array (Option Value)}{fw:Tok}{lE:Addr}{afO Za:Option Addr}{afP:Array (Option Value)}{afQ Zb Zc Zd Ro Ze:Value}{i0:Addr}{afR Zf:Option Addr}{afS:Array (Option Value)}{afT Zg Zh Zi Rp Zj:Value}{eX:Addr}{afU Zk:Option Addr}{afV:Array (Option Value)}{afW Zl Zm Zn Rq Zo:Value}{lF:Addr}{afX Zp:Option Addr}{afY:Array (Option Value)}{afZ Zq Zr Zs Rr Zt:Value}{i3:Addr}{af0 Zu:Option Addr}{af1:Array (Option Value)}{af2 Zv Zw Zx Rt Zy:Value}{qk:Addr}{af3 Zz:Option Addr}{af4:Array (Option Value)}{af5 ZA ZC ZE Ru ZF:Value}{i4:Addr}{af6 ZG:Option Addr}{af7:Array (Option Value)}{af8 ZH ZI ZJ Rv ZK:Value}{jD:Addr}{af9 ZL:Option Addr}{aga:Array (Option Value)}{agb ZM ZN ZO Rw ZP:Value}(aQuarter:W.nsIn K mainGlobals "Quarter"=some (some (.ref aK)))(pgQuarter:W.plainGet K aK Str.empty=true)(hdQuarter:W.hasDictIn K aK=true)(poQuarter:W.plainOver K aK=true)(saQuarter:W.findIn K (.ref aK) "__setattr__"=some (some (.builtin "object.__setattr__")))(kcQuarter:W.keepIn K (.ref aK)=true)(aSixth:W.nsIn K mainGlobals "Sixth"=some (some (.ref bD)))(pgSixth:W.plainGet K bD Str.empty=true)(hdSixth:W.hasDictIn K bD=true)(poSixth:W.plainOver K bD=true)(saSixth:W.findIn K (.ref bD) "__setattr__"=some (some (.builtin "object.__setattr__")))(kcSixth:W.keepIn K (.ref bD)=true)(aRules:W.nsIn K mainGlobals "Rules"=some (some (.ref aO)))(pgRules:W.plainGet K aO Str.empty=true)(hdRules:W.hasDictIn K aO=true)(poRules:W.plainOver K aO=true)(saRules:W.findIn K (.ref aO) "__setattr__"=some (some (.builtin "object.__setattr__")))(kcRules:W.keepIn K (.ref aO)=true)(aGrowth:W.nsIn K mainGlobals "Growth"=some (some (.ref aw)))(pgGrowth:W.plainGet K aw Str.empty=true)(hdGrowth:W.hasDictIn K aw=true)(poGrowth:W.plainOver K aw=true)(saGrowth:W.findIn K (.ref aw) "__setattr__"=some (some (.builtin "object.__setattr__")))(kcGrowth:W.keepIn K (.ref aw)=true)(aTrack:W.nsIn K mainGlobals "Track"=some (some (.ref ay)))(pgTrack:W.plainGet K ay Str.empty=true)(hdTrack:W.hasDictIn K ay=true)(poTrack:W.plainOver K ay=true)(saTrack:W.findIn K (.ref ay) "__setattr__"=some (some (.builtin "object.__setattr__")))(kcTrack:W.keepIn K (.ref ay)=true)(aDrawing:W.nsIn K mainGlobals "Drawing"=some (some (.ref aD)))(pgDrawing:W.plainGet K aD Str.empty=true)(hdDrawing:W.hasDictIn K aD=true)(poDrawing:W.plainOver K aD=true)(saDrawing:W.findIn K (.ref aD) "__setattr__"=some (some (.builtin "object.__setattr__")))(kcDrawing:W.keepIn K (.ref aD)=true)(mkQuarter:W.makesIn K aK=true)(inQuarter:W.findIn K (.ref aK) "__init__"=some (some (.builtin "object.__init__")))(mkSixth:W.makesIn K bD=true)(inSixth:W.findIn K (.ref bD) "__init__"=some (some (.builtin "object.__init__")))(mkRules:W.makesIn K aO=true)(inRules:W.findIn K (.ref aO) "__init__"=some (some (.ref di)))(fiRules:W.isFn K (.ref di)=true)(mkGrowth:W.makesIn K aw=true)(inGrowth:W.findIn K (.ref aw) "__init__"=some (some (.ref dh)))(fiGrowth:W.isFn K (.ref dh)=true)(mkTrack:W.makesIn K ay=true)(inTrack:W.findIn K (.ref ay) "__init__"=some (some (.ref dy)))(fiTrack:W.isFn K (.ref dy)=true)(mkDrawing:W.makesIn K aD=true)(inDrawing:W.findIn K (.ref aD) "__init__"=some (some (.ref cI)))(fiDrawing:W.isFn K (.ref cI)=true)(na_Rules_drawer:W.findIn K (.ref aO) "drawer"=some none)(na_Rules_row_by_letter:W.findIn K (.ref aO) "row_by_letter"=some none)(na_Growth_rules:W.findIn K (.ref aw) "rules"=some none)(na_Growth_seed:W.findIn K (.ref aw) "seed"=some none)(na_Growth_tallies:W.findIn K (.ref aw) "tallies"=some none)(na_Growth_lengths:W.findIn K (.ref aw) "lengths"=some none)(na_Track_drawer:W.findIn K (.ref ay) "drawer"=some none)(na_Track_deed_count:W.findIn K (.ref ay) "deed_count"=some none)(na_Track_last_way:W.findIn K (.ref ay) "last_way"=some none)(na_Track_last_spot:W.findIn K (.ref ay) "last_spot"=some none)(na_Track_stroke_count:W.findIn K (.ref ay) "stroke_count"=some none)(na_Track_reaches:W.findIn K (.ref ay) "reaches"=some none)(na_Track_touches:W.findIn K (.ref ay) "touches"=some none)(na_Track_crosses:W.findIn K (.ref ay) "crosses"=some none)(na_Drawing_growth:W.findIn K (.ref aD) "growth"=some none)(na_Drawing_tracks:W.findIn K (.ref aD) "tracks"=some none)(ag_DEEDS:W.nsIn K mainGlobals "DEEDS"=some (some (.ref ij)))(lg_DEEDS:K.lookup ij=some ⟨.type "tuple",y0,.seq #[.str "stroke" HP,.str "step" HQ,.str "left" HR,.str "right" HS,.str "rest" HU] y1,y2⟩)(ag_GOING_DEEDS:W.nsIn K mainGlobals "GOING_DEEDS"=some (some (.ref dO)))(lg_GOING_DEEDS:K.lookup dO=some ⟨.type "tuple",y3,.seq #[.str "stroke" ub,.str "step" ue] y4,y5⟩)(ag_MOST_ROWS:W.nsIn K mainGlobals "MOST_ROWS"=some (some (.int 6 y6)))(ag_MOST_IN_WORD:W.nsIn K mainGlobals "MOST_IN_WORD"=some (some (.int 8 y7)))(ag_LAST_ROUND:W.nsIn K mainGlobals "LAST_ROUND"=some (some (.int 200 y8)))(y574:W.nsIn K mainGlobals "added"=some (some (.ref iU)))(y575:K.lookup iU=some ⟨y12,y9,.func (W.fnOf "added" "added" (ak f7) (ai f7) (af f7) .none y13 y14 y15 y10 y16 y17),y11⟩)(y576:W.codeIn K y16 "added"=true)(y577:W.keepIn K (.ref iU)=true)(y578:W.nsIn K mainGlobals "cross"=some (some (.ref iV)))(y579:K.lookup iV=some ⟨y21,y18,.func (W.fnOf "cross" "cross" (ak f9) (ai f9) (af f9) .none y22 y23 y24 y19 y25 y26),y20⟩)(y580:W.codeIn K y25 "cross"=true)(y581:W.keepIn K (.ref iV)=true)(y582:W.nsIn K mainGlobals "turn_of_deed"=some (some (.ref dn)))(y583:K.lookup dn=some ⟨y30,y27,.func (W.fnOf "turn_of_deed" "turn_of_deed" (ak bZ) (ai bZ) (af bZ) .none y31 y32 y33 y28 y34 y35),y29⟩)(y584:W.codeIn K y34 "turn_of_deed"=true)(y585:W.keepIn K (.ref dn)=true)(y586:W.findIn K (.ref aK) "way_of"=some (some (.ref b9)))(y587:W.isFn K (.ref b9)=true)(y588:W.findIn K (.ref bD) "way_of"=some (some (.ref b9)))(y589:W.isFn K (.ref b9)=true)(y590:K.lookup b9=some ⟨y39,y36,.func (W.fnOf "way_of" "Pen.way_of" (ak cW) (ai cW) (af cW) .none y40 y41 y42 y37 y43 y44),y38⟩)(y591:W.codeIn K y43 "Pen.way_of"=true)(y592:W.keepIn K (.ref b9)=true)(y593:W.findIn K (.ref aK) "turned"=some (some (.ref cb)))(y594:W.isFn K (.ref cb)=true)(y595:W.findIn K (.ref bD) "turned"=some (some (.ref cb)))(y596:W.isFn K (.ref cb)=true)(y597:K.lookup cb=some ⟨y48,y45,.func (W.fnOf "turned" "Pen.turned" (ak cX) (ai cX) (af cX) .none y49 y50 y51 y46 y52 y53),y47⟩)(y598:W.codeIn K y52 "Pen.turned"=true)(y599:W.keepIn K (.ref cb)=true)(y600:W.findIn K (.ref aK) "step"=some (some (.ref dt)))(y601:W.isFn K (.ref dt)=true)(y602:W.findIn K (.ref bD) "step"=some (some (.ref dt)))(y603:W.isFn K (.ref dt)=true)(y604:K.lookup dt=some ⟨y57,y54,.func (W.fnOf "step" "Pen.step" (ak dY) (ai dY) (af dY) .none y58 y59 y60 y55 y61 y62),y56⟩)(y605:W.codeIn K y61 "Pen.step"=true)(y606:W.keepIn K (.ref dt)=true)(y607:W.findIn K (.ref aK) "after"=some (some (.ref cN)))(y608:W.isFn K (.ref cN)=true)(y609:W.findIn K (.ref bD) "after"=some (some (.ref cN)))(y610:W.isFn K (.ref cN)=true)(y611:K.lookup cN=some ⟨y66,y63,.func (W.fnOf "after" "Pen.after" (ak dJ) (ai dJ) (af dJ) .none y67 y68 y69 y64 y70 y71),y65⟩)(y612:W.codeIn K y70 "Pen.after"=true)(y613:W.keepIn K (.ref cN)=true)(y614:W.findIn K (.ref aK) "ways"=some (some (.ref cG)))(y615:W.isFn K (.ref cG)=true)(y616:K.lookup cG=some ⟨y75,y72,.func (W.fnOf "ways" "Quarter.ways" (ak b0) (ai b0) (af b0) .none y76 y77 y78 y73 y79 y80),y74⟩)(y617:W.codeIn K y79 "Quarter.ways"=true)(y618:W.keepIn K (.ref cG)=true)(y619:W.findIn K (.ref aK) "turned_left"=some (some (.ref aU)))(y620:W.isFn K (.ref aU)=true)(y621:K.lookup aU=some ⟨y84,y81,.func (W.fnOf "turned_left" "Quarter.turned_left" (ak aN) (ai aN) (af aN) .none y85 y86 y87 y82 y88 y89),y83⟩)(y622:W.codeIn K y88 "Quarter.turned_left"=true)(y623:W.keepIn K (.ref aU)=true)(y624:W.findIn K (.ref aK) "along"=some (some (.ref cf)))(y625:W.isFn K (.ref cf)=true)(y626:K.lookup cf=some ⟨y93,y90,.func (W.fnOf "along" "Quarter.along" (ak bJ) (ai bJ) (af bJ) .none y94 y95 y96 y91 y97 y98),y92⟩)(y627:W.codeIn K y97 "Quarter.along"=true)(y628:W.keepIn K (.ref cf)=true)(y629:W.findIn K (.ref bD) "ways"=some (some (.ref dw)))(y630:W.isFn K (.ref dw)=true)(y631:K.lookup dw=some ⟨adu,y99,.func (W.fnOf "ways" "Sixth.ways" (ak cY) (ai cY) (af cY) .none Vv Vw Vx Vu QE Vy),adt⟩)(y632:W.codeIn K QE "Sixth.ways"=true)(y633:W.keepIn K (.ref dw)=true)(y634:W.findIn K (.ref bD) "turned_left"=some (some (.ref bf)))(y635:W.isFn K (.ref bf)=true)(y636:K.lookup bf=some ⟨adx,adv,.func (W.fnOf "turned_left" "Sixth.turned_left" (ak aW) (ai aW) (af aW) .none VA VB VC Vz QF VD),adw⟩)(y637:W.codeIn K QF "Sixth.turned_left"=true)(y638:W.keepIn K (.ref bf)=true)(y639:W.findIn K (.ref bD) "along"=some (some (.ref dg)))(y640:W.isFn K (.ref dg)=true)(y641:K.lookup dg=some ⟨adA,ady,.func (W.fnOf "along" "Sixth.along" (ak cy) (ai cy) (af cy) .none VF VG VH VE QG VI),adz⟩)(y642:W.codeIn K QG "Sixth.along"=true)(y643:W.keepIn K (.ref dg)=true)(y644:W.nsIn K mainGlobals "pen_of"=some (some (.ref gA)))(y645:K.lookup gA=some ⟨adD,adB,.func (W.fnOf "pen_of" "pen_of" (ak fo) (ai fo) (af fo) .none VL VM VN VJ QH VO),adC⟩)(y646:W.codeIn K QH "pen_of"=true)(y647:W.keepIn K (.ref gA)=true)(y648:K.lookup dy=some ⟨adG,adE,.func (W.fnOf "__init__" "Track.__init__" (ak cZ) (ai cZ) (af cZ) .none VQ VR VS VP QI VT),adF⟩)(y649:W.codeIn K QI "Track.__init__"=true)(y650:W.keepIn K (.ref dy)=true)(y651:W.findIn K (.ref ay) "many"=some (some (.ref dA)))(y652:W.isFn K (.ref dA)=true)(y653:K.lookup dA=some ⟨adJ,adH,.func (W.fnOf "many" "Track.many" (ak c5) (ai c5) (af c5) .none VV VW VX VU QJ VY),adI⟩)(y654:W.codeIn K QJ "Track.many"=true)(y655:W.keepIn K (.ref dA)=true)(y656:W.findIn K (.ref ay) "turn"=some (some (.ref dB)))(y657:W.isFn K (.ref dB)=true)(y658:K.lookup dB=some ⟨adM,adK,.func (W.fnOf "turn" "Track.turn" (ak c6) (ai c6) (af c6) .none V0 V1 V2 VZ QK V3),adL⟩)(y659:W.codeIn K QK "Track.turn"=true)(y660:W.keepIn K (.ref dB)=true)(y661:W.findIn K (.ref ay) "strokes"=some (some (.ref cg)))(y662:W.isFn K (.ref cg)=true)(y663:K.lookup cg=some ⟨adP,adN,.func (W.fnOf "strokes" "Track.strokes" (ak bK) (ai bK) (af bK) .none V5 V6 V7 V4 QL V8),adO⟩)(y664:W.codeIn K QL "Track.strokes"=true)(y665:W.keepIn K (.ref cg)=true)(y666:W.findIn K (.ref ay) "shift"=some (some (.ref cA)))(y667:W.isFn K (.ref cA)=true)(y668:K.lookup cA=some ⟨adS,adQ,.func (W.fnOf "shift" "Track.shift" (ak c7) (ai c7) (af c7) (.ref je) Wa Wb Wc V9 QM Wd),adR⟩)(y669:K.lookup je=some ⟨adU,adT,.seq #[.int 0 gk] adV,adW⟩)(y670:W.codeIn K QM "Track.shift"=true)(y671:W.keepIn K (.ref cA)=true)(y672:W.findIn K (.ref ay) "by_ways"=some (some (.ref cj)))(y673:W.isFn K (.ref cj)=true)(y674:K.lookup cj=some ⟨adZ,adX,.func (W.fnOf "by_ways" "Track.by_ways" (ak bh) (ai bh) (af bh) .none Wf Wg Wh We QN Wi),adY⟩)(y675:W.codeIn K QN "Track.by_ways"=true)(y676:W.keepIn K (.ref cj)=true)(y677:W.findIn K (.ref ay) "reach"=some (some (.ref cB)))(y678:W.isFn K (.ref cB)=true)(y679:K.lookup cB=some ⟨ad2,ad0,.func (W.fnOf "reach" "Track.reach" (ak c8) (ai c8) (af c8) (.ref jf) Wk Wl Wm Wj QO Wn),ad1⟩)(y680:K.lookup jf=some ⟨ad4,ad3,.seq #[.int 0 gm] ad5,ad6⟩)(y681:W.codeIn K QO "Track.reach"=true)(y682:W.keepIn K (.ref cB)=true)(y683:W.findIn K (.ref ay) "touch"=some (some (.ref cC)))(y684:W.isFn K (.ref cC)=true)(y685:K.lookup cC=some ⟨ad9,ad7,.func (W.fnOf "touch" "Track.touch" (ak c9) (ai c9) (af c9) (.ref jg) Wq Wr Ws Wo QP Wt),ad8⟩)(y686:K.lookup jg=some ⟨aeb,aea,.seq #[.int 0 gn] aec,aed⟩)(y687:W.codeIn K QP "Track.touch"=true)(y688:W.keepIn K (.ref cC)=true)(y689:W.findIn K (.ref ay) "area"=some (some (.ref dC)))(y690:W.isFn K (.ref dC)=true)(y691:K.lookup dC=some ⟨aeg,aee,.func (W.fnOf "area" "Track.area" (ak da) (ai da) (af da) .none Wv Ww Wx Wu QQ Wy),aef⟩)(y692:W.codeIn K QQ "Track.area"=true)(y693:W.keepIn K (.ref dC)=true)(y694:W.findIn K (.ref ay) "joined"=some (some (.ref cH)))(y695:W.isFn K (.ref cH)=true)(y696:K.lookup cH=some ⟨aej,aeh,.func (W.fnOf "joined" "Track.joined" (ak b5) (ai b5) (af b5) .none WA WB WC Wz QR WD),aei⟩)(y697:W.codeIn K QR "Track.joined"=true)(y698:W.keepIn K (.ref cH)=true)(y699:W.nsIn K mainGlobals "still"=some (some (.ref iW)))(y700:K.lookup iW=some ⟨aem,aek,.func (W.fnOf "still" "still" (ak gb) (ai gb) (af gb) .none WG WH WI WE QS WJ),ael⟩)(y701:W.codeIn K QS "still"=true)(y702:W.keepIn K (.ref iW)=true)(y703:W.nsIn K mainGlobals "track_of_deed"=some (some (.ref cO)))(y704:K.lookup cO=some ⟨aep,aen,.func (W.fnOf "track_of_deed" "track_of_deed" (ak aS) (ai aS) (af aS) .none WL WM WN WK QT WO),aeo⟩)(y705:W.codeIn K QT "track_of_deed"=true)(y706:W.keepIn K (.ref cO)=true)(y707:W.nsIn K mainGlobals "track_of"=some (some (.ref eW)))(y708:K.lookup eW=some ⟨aes,aeq,.func (W.fnOf "track_of" "track_of" (ak dZ) (ai dZ) (af dZ) .none WR WS WT WQ QU WU),aer⟩)(y709:W.codeIn K QU "track_of"=true)(y710:W.keepIn K (.ref eW)=true)(y711:W.nsIn K mainGlobals "check_round"=some (some (.ref dN)))(y712:K.lookup dN=some ⟨aev,aet,.func (W.fnOf "check_round" "check_round" (ak cz) (ai cz) (af cz) .none WW WX WY WV QV WZ),aeu⟩)(y713:W.codeIn K QV "check_round"=true)(y714:W.keepIn K (.ref dN)=true)(y715:W.nsIn K mainGlobals "tally"=some (some (.ref iX)))(y716:K.lookup iX=some ⟨aey,aew,.func (W.fnOf "tally" "tally" (ak fq) (ai fq) (af fq) .none W2 W3 W4 W0 QW W5),aex⟩)(y717:W.codeIn K QW "tally"=true)(y718:W.keepIn K (.ref iX)=true)(y719:K.lookup cI=some ⟨aeB,aez,.func (W.fnOf "__init__" "Drawing.__init__" (ak bx) (ai bx) (af bx) .none W7 W8 W9 W6 QX Xa),aeA⟩)(y720:W.codeIn K QX "Drawing.__init__"=true)(y721:W.keepIn K (.ref cI)=true)(y722:W.findIn K (.ref aD) "join_all"=some (some (.ref bw)))(y723:W.isFn K (.ref bw)=true)(y724:K.lookup bw=some ⟨aeE,aeC,.func (W.fnOf "join_all" "Drawing.join_all" (ak a6) (ai a6) (af a6) .none Xc Xd Xe Xb QY Xf),aeD⟩)(y725:W.codeIn K QY "Drawing.join_all"=true)(y726:W.keepIn K (.ref bw)=true)(y727:W.findIn K (.ref aD) "deepen_to"=some (some (.ref aY)))(y728:W.isFn K (.ref aY)=true)(y729:K.lookup aY=some ⟨aeH,aeF,.func (W.fnOf "deepen_to" "Drawing.deepen_to" (ak aH) (ai aH) (af aH) .none Xh Xi Xj Xg QZ Xk),aeG⟩)(y730:W.codeIn K QZ "Drawing.deepen_to"=true)(y731:W.keepIn K (.ref aY)=true)(y732:W.findIn K (.ref aD) "stretch"=some (some (.ref br)))(y733:W.isFn K (.ref br)=true)(y734:K.lookup br=some ⟨aeK,aeI,.func (W.fnOf "stretch" "Drawing.stretch" (ak aM) (ai aM) (af aM) .none Xm Xn Xo Xl Q0 Xp),aeJ⟩)(y735:W.codeIn K Q0 "Drawing.stretch"=true)(y736:W.keepIn K (.ref br)=true)(y737:W.nsIn K mainGlobals "summed"=some (some (.ref fG)))(y738:K.lookup fG=some ⟨aeN,aeL,.func (W.fnOf "summed" "summed" (ak dR) (ai dR) (af dR) .none Xr Xs Xt Xq Q1 Xu),aeM⟩)(y739:W.codeIn K Q1 "summed"=true)(y740:W.keepIn K (.ref fG)=true)(y741:W.nsIn K mainGlobals "waiting_pieces"=some (some (.ref cw)))(y742:K.lookup cw=some ⟨aeQ,aeO,.func (W.fnOf "waiting_pieces" "waiting_pieces" (ak aZ) (ai aZ) (af aZ) .none Xw Xx Xy Xv Q2 Xz),aeP⟩)(y743:W.codeIn K Q2 "waiting_pieces"=true)(y744:W.keepIn K (.ref cw)=true)(y745:K.lookup dh=some ⟨aeT,aeR,.func (W.fnOf "__init__" "Growth.__init__" (ak bj) (ai bj) (af bj) .none XB XC XD XA Q3 XE),aeS⟩)(y746:W.codeIn K Q3 "Growth.__init__"=true)(y747:W.keepIn K (.ref dh)=true)(y748:W.findIn K (.ref aw) "rules_told"=some (some (.ref bg)))(y749:W.isFn K (.ref bg)=true)(y750:K.lookup bg=some ⟨aeW,aeU,.func (W.fnOf "rules_told" "Growth.rules_told" (ak aX) (ai aX) (af aX) .none XH XI XJ XG Q4 XM),aeV⟩)(y751:W.codeIn K Q4 "Growth.rules_told"=true)(y752:W.keepIn K (.ref bg)=true)(y753:W.findIn K (.ref aw) "deepen_to"=some (some (.ref bb)))(y754:W.isFn K (.ref bb)=true)(y755:K.lookup bb=some ⟨aeZ,aeX,.func (W.fnOf "deepen_to" "Growth.deepen_to" (ak aG) (ai aG) (af aG) .none XQ XR XS XO Q5 XT),aeY⟩)(y756:W.codeIn K Q5 "Growth.deepen_to"=true)(y757:W.keepIn K (.ref bb)=true)(y758:W.findIn K (.ref aw) "enter"=some (some (.ref cJ)))(y759:W.isFn K (.ref cJ)=true)(y760:K.lookup cJ=some ⟨ae2,ae0,.func (W.fnOf "enter" "Growth.enter" (ak b6) (ai b6) (af b6) .none XW XY XZ XU Q6 X0),ae1⟩)(y761:W.codeIn K Q6 "Growth.enter"=true)(y762:W.keepIn K (.ref cJ)=true)(y763:W.findIn K (.ref aw) "check_place"=some (some (.ref a5)))(y764:W.isFn K (.ref a5)=true)(y765:K.lookup a5=some ⟨ae5,ae3,.func (W.fnOf "check_place" "Growth.check_place" (ak aR) (ai aR) (af aR) .none X2 X3 X4 X1 Q7 X5),ae4⟩)(y766:W.codeIn K Q7 "Growth.check_place"=true)(y767:W.keepIn K (.ref a5)=true)(y768:W.findIn K (.ref aw) "check_stretch"=some (some (.ref aQ)))(y769:W.isFn K (.ref aQ)=true)(y770:K.lookup aQ=some ⟨ae8,ae6,.func (W.fnOf "check_stretch" "Growth.check_stretch" (ak aJ) (ai aJ) (af aJ) .none X7 X8 X9 X6 Q8 Ya),ae7⟩)(y771:W.codeIn K Q8 "Growth.check_stretch"=true)(y772:W.keepIn K (.ref aQ)=true)(y773:W.findIn K (.ref aw) "length"=some (some (.ref bN)))(y774:W.isFn K (.ref bN)=true)(y775:K.lookup bN=some ⟨afb,ae9,.func (W.fnOf "length" "Growth.length" (ak a0) (ai a0) (af a0) .none Yc Yd Ye Yb Q9 Yf),afa⟩)(y776:W.codeIn K Q9 "Growth.length"=true)(y777:W.keepIn K (.ref bN)=true)(y778:W.findIn K (.ref aw) "pieces"=some (some (.ref bO)))(y779:W.isFn K (.ref bO)=true)(y780:K.lookup bO=some ⟨afe,afc,.func (W.fnOf "pieces" "Growth.pieces" (ak bA) (ai bA) (af bA) .none Yh Yi Yj Yg Ra Yk),afd⟩)(y781:W.codeIn K Ra "Growth.pieces"=true)(y782:W.keepIn K (.ref bO)=true)(y783:W.nsIn K mainGlobals "is_small_letter"=some (some (.ref bW)))(y784:K.lookup bW=some ⟨afh,aff,.func (W.fnOf "is_small_letter" "is_small_letter" (ak bo) (ai bo) (af bo) .none Ym Yn Yo Yl Rb Yp),afg⟩)(y785:W.codeIn K Rb "is_small_letter"=true)(y786:W.keepIn K (.ref bW)=true)(y787:W.nsIn K mainGlobals "is_word_over"=some (some (.ref dq)))(y788:K.lookup dq=some ⟨afk,afi,.func (W.fnOf "is_word_over" "is_word_over" (ak bB) (ai bB) (af bB) .none Yr Ys Yt Yq Rc Yu),afj⟩)(y789:W.codeIn K Rc "is_word_over"=true)(y790:W.keepIn K (.ref dq)=true)(y791:W.nsIn K mainGlobals "check_rows"=some (some (.ref dW)))(y792:K.lookup dW=some ⟨afn,afl,.func (W.fnOf "check_rows" "check_rows" (ak bG) (ai bG) (af bG) .none Yw Yx Yy Yv Rf Yz),afm⟩)(y793:W.codeIn K Rf "check_rows"=true)(y794:W.keepIn K (.ref dW)=true)(y795:K.lookup di=some ⟨afq,afo,.func (W.fnOf "__init__" "Rules.__init__" (ak cF) (ai cF) (af cF) .none YB YC YD YA Rg YE),afp⟩)(y796:W.codeIn K Rg "Rules.__init__"=true)(y797:W.keepIn K (.ref di)=true)(y798:W.findIn K (.ref aO) "pen"=some (some (.ref dX)))(y799:W.isFn K (.ref dX)=true)(y800:K.lookup dX=some ⟨afu,afr,.func (W.fnOf "pen" "Rules.pen" (ak dM) (ai dM) (af dM) .none YG YH YI YF Rh YJ),afs⟩)(y801:W.codeIn K Rh "Rules.pen"=true)(y802:W.keepIn K (.ref dX)=true)(y803:W.findIn K (.ref aO) "letters"=some (some (.ref ck)))(y804:W.isFn K (.ref ck)=true)(y805:K.lookup ck=some ⟨afx,afv,.func (W.fnOf "letters" "Rules.letters" (ak bL) (ai bL) (af bL) .none YL YM YN YK Ri YO),afw⟩)(y806:W.codeIn K Ri "Rules.letters"=true)(y807:W.keepIn K (.ref ck)=true)(y808:W.findIn K (.ref aO) "row_of"=some (some (.ref b7)))(y809:W.isFn K (.ref b7)=true)(y810:K.lookup b7=some ⟨afA,afy,.func (W.fnOf "row_of" "Rules.row_of" (ak bI) (ai bI) (af bI) .none YR YS YT YQ Rj YU),afz⟩)(y811:W.codeIn K Rj "Rules.row_of"=true)(y812:W.keepIn K (.ref b7)=true)(y813:W.findIn K (.ref aO) "deed"=some (some (.ref dD)))(y814:W.isFn K (.ref dD)=true)(y815:K.lookup dD=some ⟨afD,afB,.func (W.fnOf "deed" "Rules.deed" (ak dc) (ai dc) (af dc) .none YW YX YY YV Rk YZ),afC⟩)(y816:W.codeIn K Rk "Rules.deed"=true)(y817:W.keepIn K (.ref dD)=true)(y818:W.findIn K (.ref aO) "word"=some (some (.ref dF)))(y819:W.isFn K (.ref dF)=true)(y820:K.lookup dF=some ⟨afG,afE,.func (W.fnOf "word" "Rules.word" (ak de) (ai de) (af de) .none Y1 Y2 Y3 Y0 Rm Y4),afF⟩)(y821:W.codeIn K Rm "Rules.word"=true)(y822:W.keepIn K (.ref dF)=true)(y823:W.findIn K (.ref aO) "word_of"=some (some (.ref bC)))(y824:W.isFn K (.ref bC)=true)(y825:K.lookup bC=some ⟨afJ,afH,.func (W.fnOf "word_of" "Rules.word_of" (ak bM) (ai bM) (af bM) (.ref gW) Y6 Y7 Y8 Y5 Rn Y9),afI⟩)(y826:K.lookup gW=some ⟨afL,afK,.seq #[.int 8 fw] afM,afN⟩)(y827:W.codeIn K Rn "Rules.word_of"=true)(y828:W.keepIn K (.ref bC)=true)(y829:W.nsIn K mainGlobals "_law_cell"=some (some (.ref lE)))(y830:K.lookup lE=some ⟨afQ,afO,.func (W.fnOf "_law_cell" "_law_cell" (ak i9) (ai i9) (af i9) .none Zb Zc Zd Za Ro Ze),afP⟩)(y831:W.codeIn K Ro "_law_cell"=true)(y832:W.keepIn K (.ref lE)=true)(y833:W.nsIn K mainGlobals "_law_whole"=some (some (.ref i0)))(y834:K.lookup i0=some ⟨afT,afR,.func (W.fnOf "_law_whole" "_law_whole" (ak gc) (ai gc) (af gc) .none Zg Zh Zi Zf Rp Zj),afS⟩)(y835:W.codeIn K Rp "_law_whole"=true)(y836:W.keepIn K (.ref i0)=true)(y837:W.nsIn K mainGlobals "_law_alphabet"=some (some (.ref eX)))(y838:K.lookup eX=some ⟨afW,afU,.func (W.fnOf "_law_alphabet" "_law_alphabet" (ak d0) (ai d0) (af d0) .none Zl Zm Zn Zk Rq Zo),afV⟩)(y839:W.codeIn K Rq "_law_alphabet"=true)(y840:W.keepIn K (.ref eX)=true)(y841:W.nsIn K mainGlobals "_law_text"=some (some (.ref lF)))(y842:K.lookup lF=some ⟨afZ,afX,.func (W.fnOf "_law_text" "_law_text" (ak ja) (ai ja) (af ja) .none Zq Zr Zs Zp Rr Zt),afY⟩)(y843:W.codeIn K Rr "_law_text"=true)(y844:W.keepIn K (.ref lF)=true)(y845:W.nsIn K mainGlobals "_law_shape"=some (some (.ref i3)))(y846:K.lookup i3=some ⟨af2,af0,.func (W.fnOf "_law_shape" "_law_shape" (ak gd) (ai gd) (af gd) .none Zv Zw Zx Zu Rt Zy),af1⟩)(y847:W.codeIn K Rt "_law_shape"=true)(y848:W.keepIn K (.ref i3)=true)(y849:W.nsIn K mainGlobals "_law_big"=some (some (.ref qk)))(y850:K.lookup qk=some ⟨af5,af3,.func (W.fnOf "_law_big" "_law_big" (ak mM) (ai mM) (af mM) .none ZA ZC ZE Zz Ru ZF),af4⟩)(y851:W.codeIn K Ru "_law_big"=true)(y852:W.keepIn K (.ref qk)=true)(y853:W.nsIn K mainGlobals "_law_along"=some (some (.ref i4)))(y854:K.lookup i4=some ⟨af8,af6,.func (W.fnOf "_law_along" "_law_along" (ak gf) (ai gf) (af gf) .none ZH ZI ZJ ZG Rv ZK),af7⟩)(y855:W.codeIn K Rv "_law_along"=true)(y856:W.keepIn K (.ref i4)=true)(y857:W.nsIn K mainGlobals "law"=some (some (.ref jD)))(y858:K.lookup jD=some ⟨agb,af9,.func (W.fnOf "law" "law" (ak mN) (ai mN) (af mN) .none ZM ZN ZO ZL Rw ZP),aga⟩)(y859:W.codeIn K Rw "law"=true)(y860:W.keepIn K (.ref jD)=true)(z_all:W.nsIn K mainGlobals "all"=some none)(z_bool:W.nsIn K mainGlobals "bool"=some none)(z_dict:W.nsIn K mainGlobals "dict"=some none)(z_enumerate:W.nsIn K mainGlobals "enumerate"=some none)(z_int:W.nsIn K mainGlobals "int"=some none)(z_isinstance:W.nsIn K mainGlobals "isinstance"=some none)(z_len:W.nsIn K mainGlobals "len"=some none)(z_list:W.nsIn K mainGlobals "list"=some none)(z_max:W.nsIn K mainGlobals "max"=some none)(z_min:W.nsIn K mainGlobals "min"=some none)(z_range:W.nsIn K mainGlobals "range"=some none)(z_reversed:W.nsIn K mainGlobals "reversed"=some none)(z_sorted:W.nsIn K mainGlobals "sorted"=some none)(z_sum:W.nsIn K mainGlobals "sum"=some none)(z_tuple:W.nsIn K mainGlobals "tuple"=some none):∃ t,Txt K mg t∧t.jD=jD:=by
 refine⟨⟨iU,W.fnOf "added" "added" (ak f7) (ai f7) (af f7) .none y13 y14 y15 y10 y16 y17,iV,W.fnOf "cross" "cross" (ak f9) (ai f9) (af f9) .none y22 y23 y24 y19 y25 y26,dn,W.fnOf "turn_of_deed" "turn_of_deed" (ak bZ) (ai bZ) (af bZ) .none y31 y32 y33 y28 y34 y35,b9,W.fnOf "way_of" "Pen.way_of" (ak cW) (ai cW) (af cW) .none y40 y41 y42 y37 y43 y44,cb,W.fnOf "turned" "Pen.turned" (ak cX) (ai cX) (af cX) .none y49 y50 y51 y46 y52 y53,dt,W.fnOf "step" "Pen.step" (ak dY) (ai dY) (af dY) .none y58 y59 y60 y55 y61 y62,cN,W.fnOf "after" "Pen.after" (ak dJ) (ai dJ) (af dJ) .none y67 y68 y69 y64 y70 y71,cG,W.fnOf "ways" "Quarter.ways" (ak b0) (ai b0) (af b0) .none y76 y77 y78 y73 y79 y80,aU,W.fnOf "turned_left" "Quarter.turned_left" (ak aN) (ai aN) (af aN) .none y85 y86 y87 y82 y88 y89,cf,W.fnOf "along" "Quarter.along" (ak bJ) (ai bJ) (af bJ) .none y94 y95 y96 y91 y97 y98,dw,W.fnOf "ways" "Sixth.ways" (ak cY) (ai cY) (af cY) .none Vv Vw Vx Vu QE Vy,bf,W.fnOf "turned_left" "Sixth.turned_left" (ak aW) (ai aW) (af aW) .none VA VB VC Vz QF VD,dg,W.fnOf "along" "Sixth.along" (ak cy) (ai cy) (af cy) .none VF VG VH VE QG VI,gA,W.fnOf "pen_of" "pen_of" (ak fo) (ai fo) (af fo) .none VL VM VN VJ QH VO,dy,W.fnOf "__init__" "Track.__init__" (ak cZ) (ai cZ) (af cZ) .none VQ VR VS VP QI VT,dA,W.fnOf "many" "Track.many" (ak c5) (ai c5) (af c5) .none VV VW VX VU QJ VY,dB,W.fnOf "turn" "Track.turn" (ak c6) (ai c6) (af c6) .none V0 V1 V2 VZ QK V3,cg,W.fnOf "strokes" "Track.strokes" (ak bK) (ai bK) (af bK) .none V5 V6 V7 V4 QL V8,cA,W.fnOf "shift" "Track.shift" (ak c7) (ai c7) (af c7) (.ref je) Wa Wb Wc V9 QM Wd,cj,W.fnOf "by_ways" "Track.by_ways" (ak bh) (ai bh) (af bh) .none Wf Wg Wh We QN Wi,cB,W.fnOf "reach" "Track.reach" (ak c8) (ai c8) (af c8) (.ref jf) Wk Wl Wm Wj QO Wn,cC,W.fnOf "touch" "Track.touch" (ak c9) (ai c9) (af c9) (.ref jg) Wq Wr Ws Wo QP Wt,dC,W.fnOf "area" "Track.area" (ak da) (ai da) (af da) .none Wv Ww Wx Wu QQ Wy,cH,W.fnOf "joined" "Track.joined" (ak b5) (ai b5) (af b5) .none WA WB WC Wz QR WD,iW,W.fnOf "still" "still" (ak gb) (ai gb) (af gb) .none WG WH WI WE QS WJ,cO,W.fnOf "track_of_deed" "track_of_deed" (ak aS) (ai aS) (af aS) .none WL WM WN WK QT WO,eW,W.fnOf "track_of" "track_of" (ak dZ) (ai dZ) (af dZ) .none WR WS WT WQ QU WU,dN,W.fnOf "check_round" "check_round" (ak cz) (ai cz) (af cz) .none WW WX WY WV QV WZ,iX,W.fnOf "tally" "tally" (ak fq) (ai fq) (af fq) .none W2 W3 W4 W0 QW W5,cI,W.fnOf "__init__" "Drawing.__init__" (ak bx) (ai bx) (af bx) .none W7 W8 W9 W6 QX Xa,bw,W.fnOf "join_all" "Drawing.join_all" (ak a6) (ai a6) (af a6) .none Xc Xd Xe Xb QY Xf,aY,W.fnOf "deepen_to" "Drawing.deepen_to" (ak aH) (ai aH) (af aH) .none Xh Xi Xj Xg QZ Xk,br,W.fnOf "stretch" "Drawing.stretch" (ak aM) (ai aM) (af aM) .none Xm Xn Xo Xl Q0 Xp,fG,W.fnOf "summed" "summed" (ak dR) (ai dR) (af dR) .none Xr Xs Xt Xq Q1 Xu,cw,W.fnOf "waiting_pieces" "waiting_pieces" (ak aZ) (ai aZ) (af aZ) .none Xw Xx Xy Xv Q2 Xz,dh,W.fnOf "__init__" "Growth.__init__" (ak bj) (ai bj) (af bj) .none XB XC XD XA Q3 XE,bg,W.fnOf "rules_told" "Growth.rules_told" (ak aX) (ai aX) (af aX) .none XH XI XJ XG Q4 XM,bb,W.fnOf "deepen_to" "Growth.deepen_to" (ak aG) (ai aG) (af aG) .none XQ XR XS XO Q5 XT,cJ,W.fnOf "enter" "Growth.enter" (ak b6) (ai b6) (af b6) .none XW XY XZ XU Q6 X0,a5,W.fnOf "check_place" "Growth.check_place" (ak aR) (ai aR) (af aR) .none X2 X3 X4 X1 Q7 X5,aQ,W.fnOf "check_stretch" "Growth.check_stretch" (ak aJ) (ai aJ) (af aJ) .none X7 X8 X9 X6 Q8 Ya,bN,W.fnOf "length" "Growth.length" (ak a0) (ai a0) (af a0) .none Yc Yd Ye Yb Q9 Yf,bO,W.fnOf "pieces" "Growth.pieces" (ak bA) (ai bA) (af bA) .none Yh Yi Yj Yg Ra Yk,bW,W.fnOf "is_small_letter" "is_small_letter" (ak bo) (ai bo) (af bo) .none Ym Yn Yo Yl Rb Yp,dq,W.fnOf "is_word_over" "is_word_over" (ak bB) (ai bB) (af bB) .none Yr Ys Yt Yq Rc Yu,dW,W.fnOf "check_rows" "check_rows" (ak bG) (ai bG) (af bG) .none Yw Yx Yy Yv Rf Yz,di,W.fnOf "__init__" "Rules.__init__" (ak cF) (ai cF) (af cF) .none YB YC YD YA Rg YE,dX,W.fnOf "pen" "Rules.pen" (ak dM) (ai dM) (af dM) .none YG YH YI YF Rh YJ,ck,W.fnOf "letters" "Rules.letters" (ak bL) (ai bL) (af bL) .none YL YM YN YK Ri YO,b7,W.fnOf "row_of" "Rules.row_of" (ak bI) (ai bI) (af bI) .none YR YS YT YQ Rj YU,dD,W.fnOf "deed" "Rules.deed" (ak dc) (ai dc) (af dc) .none YW YX YY YV Rk YZ,dF,W.fnOf "word" "Rules.word" (ak de) (ai de) (af de) .none Y1 Y2 Y3 Y0 Rm Y4,bC,W.fnOf "word_of" "Rules.word_of" (ak bM) (ai bM) (af bM) (.ref gW) Y6 Y7 Y8 Y5 Rn Y9,lE,W.fnOf "_law_cell" "_law_cell" (ak i9) (ai i9) (af i9) .none Zb Zc Zd Za Ro Ze,i0,W.fnOf "_law_whole" "_law_whole" (ak gc) (ai gc) (af gc) .none Zg Zh Zi Zf Rp Zj,eX,W.fnOf "_law_alphabet" "_law_alphabet" (ak d0) (ai d0) (af d0) .none Zl Zm Zn Zk Rq Zo,lF,W.fnOf "_law_text" "_law_text" (ak ja) (ai ja) (af ja) .none Zq Zr Zs Zp Rr Zt,i3,W.fnOf "_law_shape" "_law_shape" (ak gd) (ai gd) (af gd) .none Zv Zw Zx Zu Rt Zy,qk,W.fnOf "_law_big" "_law_big" (ak mM) (ai mM) (af mM) .none ZA ZC ZE Zz Ru ZF,i4,W.fnOf "_law_along" "_law_along" (ak gf) (ai gf) (af gf) .none ZH ZI ZJ ZG Rv ZK,jD,W.fnOf "law" "law" (ak mN) (ai mN) (af mN) .none ZM ZN ZO ZL Rw ZP,gk,gm,gn,fw,aK,bD,aO,aw,ay,aD,ij,dO,y6,y7,y8,K⟩,?_,rfl⟩
 constructor
 . exact rfl
 . exact⟨pgQuarter,hdQuarter,poQuarter,saQuarter⟩
 . exact W.mg_of X G aQuarter
 . exact kcQuarter
 . exact⟨pgSixth,hdSixth,poSixth,saSixth⟩
 . exact W.mg_of X G aSixth
 . exact kcSixth
 . exact⟨pgRules,hdRules,poRules,saRules⟩
 . exact W.mg_of X G aRules
 . exact kcRules
 . exact⟨pgGrowth,hdGrowth,poGrowth,saGrowth⟩
 . exact W.mg_of X G aGrowth
 . exact kcGrowth
 . exact⟨pgTrack,hdTrack,poTrack,saTrack⟩
 . exact W.mg_of X G aTrack
 . exact kcTrack
 . exact⟨pgDrawing,hdDrawing,poDrawing,saDrawing⟩
 . exact W.mg_of X G aDrawing
 . exact kcDrawing
 . exact⟨mkQuarter,inQuarter,kcQuarter⟩
 . exact⟨mkSixth,inSixth,kcSixth⟩
 . exact⟨mkRules,inRules,fiRules,kcRules⟩
 . exact⟨mkGrowth,inGrowth,fiGrowth,kcGrowth⟩
 . exact⟨mkTrack,inTrack,fiTrack,kcTrack⟩
 . exact⟨mkDrawing,inDrawing,fiDrawing,kcDrawing⟩
 . exact na_Rules_drawer
 . exact na_Rules_row_by_letter
 . exact na_Growth_rules
 . exact na_Growth_seed
 . exact na_Growth_tallies
 . exact na_Growth_lengths
 . exact na_Track_drawer
 . exact na_Track_deed_count
 . exact na_Track_last_way
 . exact na_Track_last_spot
 . exact na_Track_stroke_count
 . exact na_Track_reaches
 . exact na_Track_touches
 . exact na_Track_crosses
 . exact na_Drawing_growth
 . exact na_Drawing_tracks
 . exact W.mg_of X G ag_DEEDS
 . exact fun H=>.tup (vs:=[.str "stroke",.str "step",.str "left",.str "right",.str "rest"]) (.inr ⟨_,_,_,lg_DEEDS,rfl,rfl,Nat.le_of_ble_eq_true rfl,.cons ⟨_,rfl⟩ (.cons ⟨_,rfl⟩ (.cons ⟨_,rfl⟩ (.cons ⟨_,rfl⟩ (.cons ⟨_,rfl⟩ (.nil)))))⟩) (.cons (.str _) (.cons (.str _) (.cons (.str _) (.cons (.str _) (.cons (.str _) (.nil))))))
 . exact W.mg_of X G ag_GOING_DEEDS
 . exact fun H=>.tup (vs:=[.str "stroke",.str "step"]) (.inr ⟨_,_,_,lg_GOING_DEEDS,rfl,rfl,Nat.le_of_ble_eq_true rfl,.cons ⟨_,rfl⟩ (.cons ⟨_,rfl⟩ (.nil))⟩) (.cons (.str _) (.cons (.str _) (.nil)))
 . exact W.mg_of X G ag_MOST_ROWS
 . exact W.mg_of X G ag_MOST_IN_WORD
 . exact W.mg_of X G ag_LAST_ROUND
 . exact au (st:=f7) y575 y576 y577
 . exact y577
 . exact(au (st:=f7) y575 y576 y577).binds fun _ _ _ _ _ _ us hl=>match us,hl with | [_,_],_=>rfl
 . exact W.mg_of X G y574
 . exact au (st:=f9) y579 y580 y581
 . exact y581
 . exact(au (st:=f9) y579 y580 y581).binds fun _ _ _ _ _ _ us hl=>match us,hl with | [_,_],_=>rfl
 . exact W.mg_of X G y578
 . exact au (st:=bZ) y583 y584 y585
 . exact y585
 . exact(au (st:=bZ) y583 y584 y585).binds fun _ _ _ _ _ _ us hl=>match us,hl with | [_],_=>rfl
 . exact W.mg_of X G y582
 . exact au (st:=cW) y590 y591 y592
 . exact y592
 . exact(au (st:=cW) y590 y591 y592).binds fun _ _ _ _ _ _ us hl=>match us,hl with | [_,_],_=>rfl
 . exact⟨y586,y587,y592⟩
 . exact⟨y588,y589,y592⟩
 . exact au (st:=cX) y597 y598 y599
 . exact y599
 . exact(au (st:=cX) y597 y598 y599).binds fun _ _ _ _ _ _ us hl=>match us,hl with | [_,_,_],_=>rfl
 . exact⟨y593,y594,y599⟩
 . exact⟨y595,y596,y599⟩
 . exact au (st:=dY) y604 y605 y606
 . exact y606
 . exact(au (st:=dY) y604 y605 y606).binds fun _ _ _ _ _ _ us hl=>match us,hl with | [_,_],_=>rfl
 . exact⟨y600,y601,y606⟩
 . exact⟨y602,y603,y606⟩
 . exact au (st:=dJ) y611 y612 y613
 . exact y613
 . exact(au (st:=dJ) y611 y612 y613).binds fun _ _ _ _ _ _ us hl=>match us,hl with | [_,_,_,_],_=>rfl
 . exact⟨y607,y608,y613⟩
 . exact⟨y609,y610,y613⟩
 . exact au (st:=b0) y616 y617 y618
 . exact y618
 . exact(au (st:=b0) y616 y617 y618).binds fun _ _ _ _ _ _ us hl=>match us,hl with | [_],_=>rfl
 . exact⟨y614,y615,y618⟩
 . exact au (st:=aN) y621 y622 y623
 . exact y623
 . exact(au (st:=aN) y621 y622 y623).binds fun _ _ _ _ _ _ us hl=>match us,hl with | [_,_],_=>rfl
 . exact⟨y619,y620,y623⟩
 . exact au (st:=bJ) y626 y627 y628
 . exact y628
 . exact(au (st:=bJ) y626 y627 y628).binds fun _ _ _ _ _ _ us hl=>match us,hl with | [_,_,_],_=>rfl
 . exact⟨y624,y625,y628⟩
 . exact au (st:=cY) y631 y632 y633
 . exact y633
 . exact(au (st:=cY) y631 y632 y633).binds fun _ _ _ _ _ _ us hl=>match us,hl with | [_],_=>rfl
 . exact⟨y629,y630,y633⟩
 . exact au (st:=aW) y636 y637 y638
 . exact y638
 . exact(au (st:=aW) y636 y637 y638).binds fun _ _ _ _ _ _ us hl=>match us,hl with | [_,_],_=>rfl
 . exact⟨y634,y635,y638⟩
 . exact au (st:=cy) y641 y642 y643
 . exact y643
 . exact(au (st:=cy) y641 y642 y643).binds fun _ _ _ _ _ _ us hl=>match us,hl with | [_,_,_],_=>rfl
 . exact⟨y639,y640,y643⟩
 . exact au (st:=fo) y645 y646 y647
 . exact y647
 . exact(au (st:=fo) y645 y646 y647).binds fun _ _ _ _ _ _ us hl=>match us,hl with | [_],_=>rfl
 . exact W.mg_of X G y644
 . exact iS (st:=cZ) y648 y649
 . exact y650
 . exact(au (st:=cZ) y648 y649 y650).binds fun _ _ _ _ _ _ us hl=>match us,hl with | [_,_,_,_,_,_,_,_,_],_=>rfl
 . exact au (st:=c5) y653 y654 y655
 . exact y655
 . exact(au (st:=c5) y653 y654 y655).binds fun _ _ _ _ _ _ us hl=>match us,hl with | [_],_=>rfl
 . exact⟨y651,y652,y655⟩
 . exact au (st:=c6) y658 y659 y660
 . exact y660
 . exact(au (st:=c6) y658 y659 y660).binds fun _ _ _ _ _ _ us hl=>match us,hl with | [_],_=>rfl
 . exact⟨y656,y657,y660⟩
 . exact au (st:=bK) y663 y664 y665
 . exact y665
 . exact(au (st:=bK) y663 y664 y665).binds fun _ _ _ _ _ _ us hl=>match us,hl with | [_],_=>rfl
 . exact⟨y661,y662,y665⟩
 . exact fun s us X hl=>by obtain⟨z,rfl⟩:=Bb hl;exact BindsTo.of_defaults rfl (X _ _ y669) rfl rfl rfl
 . exact iS (st:=c7) y668 y670
 . exact y671
 . exact fun s us X hl=>by obtain⟨z,y,rfl⟩:=wR hl;exact BindsTo.of_defaults rfl (X _ _ y669) rfl rfl rfl
 . exact⟨y666,y667,y671⟩
 . exact au (st:=bh) y674 y675 y676
 . exact y676
 . exact(au (st:=bh) y674 y675 y676).binds fun _ _ _ _ _ _ us hl=>match us,hl with | [_,_,_],_=>rfl
 . exact⟨y672,y673,y676⟩
 . exact fun s us X hl=>by obtain⟨z,rfl⟩:=Bb hl;exact BindsTo.of_defaults rfl (X _ _ y680) rfl rfl rfl
 . exact iS (st:=c8) y679 y681
 . exact y682
 . exact fun s us X hl=>by obtain⟨z,y,rfl⟩:=wR hl;exact BindsTo.of_defaults rfl (X _ _ y680) rfl rfl rfl
 . exact⟨y677,y678,y682⟩
 . exact fun s us X hl=>by obtain⟨z,rfl⟩:=Bb hl;exact BindsTo.of_defaults rfl (X _ _ y686) rfl rfl rfl
 . exact iS (st:=c9) y685 y687
 . exact y688
 . exact fun s us X hl=>by obtain⟨z,y,rfl⟩:=wR hl;exact BindsTo.of_defaults rfl (X _ _ y686) rfl rfl rfl
 . exact⟨y683,y684,y688⟩
 . exact au (st:=da) y691 y692 y693
 . exact y693
 . exact(au (st:=da) y691 y692 y693).binds fun _ _ _ _ _ _ us hl=>match us,hl with | [_],_=>rfl
 . exact⟨y689,y690,y693⟩
 . exact au (st:=b5) y696 y697 y698
 . exact y698
 . exact(au (st:=b5) y696 y697 y698).binds fun _ _ _ _ _ _ us hl=>match us,hl with | [_,_],_=>rfl
 . exact⟨y694,y695,y698⟩
 . exact au (st:=gb) y700 y701 y702
 . exact y702
 . exact(au (st:=gb) y700 y701 y702).binds fun _ _ _ _ _ _ us hl=>match us,hl with | [_],_=>rfl
 . exact W.mg_of X G y699
 . exact au (st:=aS) y704 y705 y706
 . exact y706
 . exact(au (st:=aS) y704 y705 y706).binds fun _ _ _ _ _ _ us hl=>match us,hl with | [_,_],_=>rfl
 . exact W.mg_of X G y703
 . exact au (st:=dZ) y708 y709 y710
 . exact y710
 . exact(au (st:=dZ) y708 y709 y710).binds fun _ _ _ _ _ _ us hl=>match us,hl with | [_,_],_=>rfl
 . exact W.mg_of X G y707
 . exact au (st:=cz) y712 y713 y714
 . exact y714
 . exact(au (st:=cz) y712 y713 y714).binds fun _ _ _ _ _ _ us hl=>match us,hl with | [_,_,_],_=>rfl
 . exact W.mg_of X G y711
 . exact au (st:=fq) y716 y717 y718
 . exact y718
 . exact(au (st:=fq) y716 y717 y718).binds fun _ _ _ _ _ _ us hl=>match us,hl with | [_,_],_=>rfl
 . exact W.mg_of X G y715
 . exact iS (st:=bx) y719 y720
 . exact y721
 . exact(au (st:=bx) y719 y720 y721).binds fun _ _ _ _ _ _ us hl=>match us,hl with | [_,_],_=>rfl
 . exact au (st:=a6) y724 y725 y726
 . exact y726
 . exact(au (st:=a6) y724 y725 y726).binds fun _ _ _ _ _ _ us hl=>match us,hl with | [_,_],_=>rfl
 . exact⟨y722,y723,y726⟩
 . exact au (st:=aH) y729 y730 y731
 . exact y731
 . exact(au (st:=aH) y729 y730 y731).binds fun _ _ _ _ _ _ us hl=>match us,hl with | [_,_],_=>rfl
 . exact⟨y727,y728,y731⟩
 . exact au (st:=aM) y734 y735 y736
 . exact y736
 . exact(au (st:=aM) y734 y735 y736).binds fun _ _ _ _ _ _ us hl=>match us,hl with | [_,_,_,_],_=>rfl
 . exact⟨y732,y733,y736⟩
 . exact au (st:=dR) y738 y739 y740
 . exact y740
 . exact(au (st:=dR) y738 y739 y740).binds fun _ _ _ _ _ _ us hl=>match us,hl with | [_,_],_=>rfl
 . exact W.mg_of X G y737
 . exact au (st:=aZ) y742 y743 y744
 . exact y744
 . exact(au (st:=aZ) y742 y743 y744).binds fun _ _ _ _ _ _ us hl=>match us,hl with | [_,_],_=>rfl
 . exact W.mg_of X G y741
 . exact iS (st:=bj) y745 y746
 . exact y747
 . exact(au (st:=bj) y745 y746 y747).binds fun _ _ _ _ _ _ us hl=>match us,hl with | [_,_,_],_=>rfl
 . exact au (st:=aX) y750 y751 y752
 . exact y752
 . exact(au (st:=aX) y750 y751 y752).binds fun _ _ _ _ _ _ us hl=>match us,hl with | [_],_=>rfl
 . exact⟨y748,y749,y752⟩
 . exact au (st:=aG) y755 y756 y757
 . exact y757
 . exact(au (st:=aG) y755 y756 y757).binds fun _ _ _ _ _ _ us hl=>match us,hl with | [_,_],_=>rfl
 . exact⟨y753,y754,y757⟩
 . exact au (st:=b6) y760 y761 y762
 . exact y762
 . exact(au (st:=b6) y760 y761 y762).binds fun _ _ _ _ _ _ us hl=>match us,hl with | [_,_],_=>rfl
 . exact⟨y758,y759,y762⟩
 . exact au (st:=aR) y765 y766 y767
 . exact y767
 . exact(au (st:=aR) y765 y766 y767).binds fun _ _ _ _ _ _ us hl=>match us,hl with | [_,_,_],_=>rfl
 . exact⟨y763,y764,y767⟩
 . exact au (st:=aJ) y770 y771 y772
 . exact y772
 . exact(au (st:=aJ) y770 y771 y772).binds fun _ _ _ _ _ _ us hl=>match us,hl with | [_,_,_,_],_=>rfl
 . exact⟨y768,y769,y772⟩
 . exact au (st:=a0) y775 y776 y777
 . exact y777
 . exact(au (st:=a0) y775 y776 y777).binds fun _ _ _ _ _ _ us hl=>match us,hl with | [_,_],_=>rfl
 . exact⟨y773,y774,y777⟩
 . exact au (st:=bA) y780 y781 y782
 . exact y782
 . exact(au (st:=bA) y780 y781 y782).binds fun _ _ _ _ _ _ us hl=>match us,hl with | [_,_,_,_],_=>rfl
 . exact⟨y778,y779,y782⟩
 . exact au (st:=bo) y784 y785 y786
 . exact y786
 . exact(au (st:=bo) y784 y785 y786).binds fun _ _ _ _ _ _ us hl=>match us,hl with | [_],_=>rfl
 . exact W.mg_of X G y783
 . exact au (st:=bB) y788 y789 y790
 . exact y790
 . exact(au (st:=bB) y788 y789 y790).binds fun _ _ _ _ _ _ us hl=>match us,hl with | [_,_],_=>rfl
 . exact W.mg_of X G y787
 . exact au (st:=bG) y792 y793 y794
 . exact y794
 . exact(au (st:=bG) y792 y793 y794).binds fun _ _ _ _ _ _ us hl=>match us,hl with | [_],_=>rfl
 . exact W.mg_of X G y791
 . exact iS (st:=cF) y795 y796
 . exact y797
 . exact(au (st:=cF) y795 y796 y797).binds fun _ _ _ _ _ _ us hl=>match us,hl with | [_,_,_],_=>rfl
 . exact au (st:=dM) y800 y801 y802
 . exact y802
 . exact(au (st:=dM) y800 y801 y802).binds fun _ _ _ _ _ _ us hl=>match us,hl with | [_],_=>rfl
 . exact⟨y798,y799,y802⟩
 . exact au (st:=bL) y805 y806 y807
 . exact y807
 . exact(au (st:=bL) y805 y806 y807).binds fun _ _ _ _ _ _ us hl=>match us,hl with | [_],_=>rfl
 . exact⟨y803,y804,y807⟩
 . exact au (st:=bI) y810 y811 y812
 . exact y812
 . exact(au (st:=bI) y810 y811 y812).binds fun _ _ _ _ _ _ us hl=>match us,hl with | [_,_],_=>rfl
 . exact⟨y808,y809,y812⟩
 . exact au (st:=dc) y815 y816 y817
 . exact y817
 . exact(au (st:=dc) y815 y816 y817).binds fun _ _ _ _ _ _ us hl=>match us,hl with | [_,_],_=>rfl
 . exact⟨y813,y814,y817⟩
 . exact au (st:=de) y820 y821 y822
 . exact y822
 . exact(au (st:=de) y820 y821 y822).binds fun _ _ _ _ _ _ us hl=>match us,hl with | [_,_],_=>rfl
 . exact⟨y818,y819,y822⟩
 . exact fun s us X hl=>by obtain⟨z,y,rfl⟩:=PF hl;exact BindsTo.of_defaults rfl (X _ _ y826) rfl rfl rfl
 . exact iS (st:=bM) y825 y827
 . exact y828
 . exact fun s us X hl=>match us,hl with | [_,_,_],_=>BindsTo.of_defaults rfl (X _ _ y826) rfl rfl rfl
 . exact⟨y823,y824,y828⟩
 . exact au (st:=i9) y830 y831 y832
 . exact y832
 . exact(au (st:=i9) y830 y831 y832).binds fun _ _ _ _ _ _ us hl=>match us,hl with | [_,_],_=>rfl
 . exact W.mg_of X G y829
 . exact au (st:=gc) y834 y835 y836
 . exact y836
 . exact(au (st:=gc) y834 y835 y836).binds fun _ _ _ _ _ _ us hl=>match us,hl with | [_],_=>rfl
 . exact W.mg_of X G y833
 . exact au (st:=d0) y838 y839 y840
 . exact y840
 . exact(au (st:=d0) y838 y839 y840).binds fun _ _ _ _ _ _ us hl=>match us,hl with | [_,_],_=>rfl
 . exact W.mg_of X G y837
 . exact au (st:=ja) y842 y843 y844
 . exact y844
 . exact(au (st:=ja) y842 y843 y844).binds fun _ _ _ _ _ _ us hl=>match us,hl with | [_,_,_],_=>rfl
 . exact W.mg_of X G y841
 . exact au (st:=gd) y846 y847 y848
 . exact y848
 . exact(au (st:=gd) y846 y847 y848).binds fun _ _ _ _ _ _ us hl=>match us,hl with | [_,_],_=>rfl
 . exact W.mg_of X G y845
 . exact au (st:=mM) y850 y851 y852
 . exact y852
 . exact(au (st:=mM) y850 y851 y852).binds fun _ _ _ _ _ _ us hl=>match us,hl with | [_,_],_=>rfl
 . exact W.mg_of X G y849
 . exact au (st:=gf) y854 y855 y856
 . exact y856
 . exact(au (st:=gf) y854 y855 y856).binds fun _ _ _ _ _ _ us hl=>match us,hl with | [_,_],_=>rfl
 . exact W.mg_of X G y853
 . exact au (st:=mN) y858 y859 y860
 . exact y860
 . exact(au (st:=mN) y858 y859 y860).binds fun _ _ _ _ _ _ us hl=>match us,hl with | [_],_=>rfl
 . exact W.mg_of X G y857
 . exact W.mg_none_of X G z_all
 . exact W.mg_none_of X G z_bool
 . exact W.mg_none_of X G z_dict
 . exact W.mg_none_of X G z_enumerate
 . exact W.mg_none_of X G z_int
 . exact W.mg_none_of X G z_isinstance
 . exact W.mg_none_of X G z_len
 . exact W.mg_none_of X G z_list
 . exact W.mg_none_of X G z_max
 . exact W.mg_none_of X G z_min
 . exact W.mg_none_of X G z_range
 . exact W.mg_none_of X G z_reversed
 . exact W.mg_none_of X G z_sorted
 . exact W.mg_none_of X G z_sum
 . exact W.mg_none_of X G z_tuple
 . exact fun s u=>.of_eq rfl
abbrev CX:mG:=CX0
def sg (c:Nat):Str:=⟨#[c]⟩
def tx (w:List Nat):Str:=⟨w.toArray⟩
structure Row where
 c:Nat
 d:Str
 w:List Nat
def mV:List Str:=["stroke","step","left","right","rest"]
def oR (r:Row):Dt:=.tup [.str (sg r.c),.str r.d,.str (tx r.w)]
def small (c:Nat):Prop:=97≤c∧c≤122
structure cQ (rows:List Row):Prop where
 pos:0 < rows.length
 le:rows.length≤6
 nd:(rows.map (·.c)).Nodup
 sm:∀ r∈rows,small r.c
 dd:∀ r∈rows,r.d∈mV
 wp:∀ r∈rows,0 < r.w.length∧r.w.length≤8
 wo:∀ r∈rows,∀ x∈r.w,x∈rows.map (·.c)
def pW (rows:List Row):List (Key×Dt):=rows.map fun r=>(.inr (sg r.c),oR r)
abbrev Rl:=List Dt→Res→Prop
def wy (six:Bool):Int:=if six then 6 else 4
def df.pc (t:df)(six:Bool):Addr:=if six then t.bD else t.aK
def df.yx (t:df)(six:Bool)(rows:List Row):Dt:=.obj t.aO [("drawer",.fD (.obj (t.pc six) [])),("row_by_letter",.eB (pW rows))]
theorem pX {a b:Nat}(h:sg a=sg b):a=b:=by
 have:=congrArg (fun s:Str=>s.cps.toList) h
 simpa [sg] using this
theorem HV {c:Nat}{L:List Nat}:sg c∈L.map sg ↔ c∈L:=by
 constructor
 . intro h
   obtain⟨x,hx,e⟩:=List.mem_map.mp h
   rw[← pX e];exact hx
 . exact fun h=>List.mem_map.mpr ⟨c,h,rfl⟩
theorem agc {c:Nat}(h:97≤c):Px "a" (sg c)=true:=by
 have e:("a":Str).cps.toList=[97]:=rfl
 unfold Px
 rw[e]
 show(!decide ([c] < [97]))=true
 have:¬ ([c] < [97]):=by
   intro z
   rcases List.cons_lt_cons_iff.mp z with z | ⟨_,z⟩
   . omega
   . exact absurd z (by simp)
 simp[this]
theorem agd {c:Nat}(h:c≤122):Px (sg c) "z"=true:=by
 have e:("z":Str).cps.toList=[122]:=rfl
 unfold Px
 rw[e]
 show(!decide ([122] < [c]))=true
 have:¬ ([122] < [c]):=by
   intro z
   rcases List.cons_lt_cons_iff.mp z with z | ⟨_,z⟩
   . omega
   . exact absurd z (by simp)
 simp[this]
theorem uf (w:List Nat):Sg.signs (tx w)=(w.map sg).map Dt.str:=by
 unfold Sg.signs tx
 rw[List.map_map];rfl
theorem fB (w:List Nat):(tx w).length=w.length:=by show w.toArray.size=w.length;simp
theorem gG {w:List Nat}(h:∀ x∈w,x < 128):gQ (tx w)=true:=by
 unfold gQ tx
 rw[Array.all_eq_true_iff_forall_mem]
 intro x hx
 exact decide_eq_true (h x (by simpa using hx))
theorem pY:∀ {rows:List Row},(rows.map (·.c)).Nodup→∀ {r:Row},r∈rows→jt (pW rows) (.inr (sg r.c))=some (oR r)
 | [],_,r,h=>by cases h
 | q::rows,nd,r,h=>by
   rw[List.map_cons,List.nodup_cons] at nd
   rcases List.mem_cons.mp h with rfl | h
   . exact nZ (p:=(.inr (sg r.c),oR r)) rfl
   . have ne:¬ (Sum.inr (sg q.c):Key)=.inr (sg r.c):=fun z=>nd.1 (by
       rw[pX (Sum.inr.inj z)]
       exact List.mem_map.mpr ⟨r,h,rfl⟩)
     show jt ((.inr (sg q.c),oR q)::pW rows) _=_
     rw[k8 (p:=(.inr (sg q.c),oR q)) ne]
     exact pY nd.2 h
theorem ql {n:Nat}(h:n≤2000):n≤sizeLine:=Nat.le_trans h (by decide)
def L6:Rl:=fun ds r=>∃ c,ds=[.str (sg c)]∧small c∧r=.ret (.bl true)
def Rx:Rl:=fun ds r=>∃ (w L:List Nat),ds=[.str (tx w),.lst ((L.map sg).map .str)]∧(0 < w.length∧w.length≤8)∧(∀ x∈w,x∈L)∧(∀ x∈L,small x)∧r=.ret (.bl true)
def L7:Rl:=fun ds r=>∃ rows,ds=[.lst (rows.map oR)]∧cQ rows∧r=.ret .dQ
def Ry:Stmt→Scope
 | .Return (some (.BoolOp _ [_,.Call _ [.ListComp _ _ sc _] _ _] _)) _=>sc
 | _=>af (.Pass ⟨0,0,0,0⟩)
abbrev L8:Scope:=Ry ((ai bB).getD 0 (.Pass ⟨0,0,0,0⟩))
theorem Df:g8 L8 (af bB) lq ["sign","letters"] ["sign"] [1]=true:=by decide +kernel
abbrev EI:Scope:=Uu ((ai bG).getD 2 (.Pass ⟨0,0,0,0⟩))
theorem vU:g8 EI (af bG) jY ["row"] ["row"] []=true:=by decide +kernel
abbrev L9:Scope:=Uu ((ai bG).getD 3 (.Pass ⟨0,0,0,0⟩))
theorem Dg:g8 L9 (af bG) jY ["first"] ["first"] []=true:=by decide +kernel
theorem eO {X:Cx}{G:Gr}{dl:List Slot}{zs zs':List Dt}{wi:TI}(h:qv X G dl zs wi)(e:zs'=zs):qv X G dl zs' wi:=by subst e;exact h
section
variable {P:Program}{w:World}{K:PySem.W.Frag}{mg:Str→Option Value}{base:Heap}{t:df}
theorem HW (T:Txt K mg t):GF P w K mg base CX 1 "is_small_letter" 1 L6:=by
 refine⟨_,_,_,gx T.oN nu rfl fun cS A outer s H E G ds r hr hl hR=>?_,T.oQ,T.oO,T.oP⟩
 obtain⟨c,rfl,⟨h1,h2⟩,rfl⟩:=hR
 exact⟨_,.rt _,av (aV (sy (u:=true) (v:=true) (bP (Ba (wI T.z_len (aa 0 rfl) (ql (n:=1) (by decide))) ar) rfl) fun _=>(nP (bP (GJ eJ (aa 0 rfl) eJ) (by rw[agc h1,agd h2];rfl)))))⟩
theorem Ma (T:Txt K mg t):GF P w K mg base CX 1 "is_word_over" 2 Rx:=by
 refine⟨_,_,_,gx T.t5 qF rfl fun cS A outer s H E G ds r hr hl hR=>?_,T.t8,T.t6,T.t7⟩
 obtain⟨wd,L,rfl,⟨h0,h8⟩,hw,hL,rfl⟩:=hR
 have PD:gQ (tx wd)=true:=gG fun x hx=>by have:=hL x (hw x hx);unfold small at this;omega
 have hlen:=fB wd
 have e1:(decide ((1:Int)≤((tx wd).length:Nat)) && decide (((tx wd).length:Nat)≤(8:Int)))=true:=by
   rw[hlen,decide_eq_true (by omega),decide_eq_true (by omega)];rfl
 have e2:(((wd.filter fun _=>true).map fun x=>Dt.bl (decide (sg x∈L.map sg))))=((List.replicate wd.length true).map Dt.bl):=by
   rw[List.filter_eq_self.mpr (fun _ _=>rfl)]
   refine List.ext_getElem (by simp) fun i h1 h2=>?_
   simp only[List.getElem_map,List.getElem_replicate]
   have hi:i < wd.length:=by simpa using h1
   rw[decide_eq_true (HV.mpr (hw _ (List.getElem_mem hi)))]
 have e3:(List.replicate wd.length true).all id=true:=by simp
 have es:wd.map (fun x=>Dt.str (sg x))=Sg.signs (tx wd):=by rw[uf,List.map_map];rfl
 refine⟨_,.rt _,av (aV (sy (u:=true) (v:=true) (bP (GK ar (wI T.z_len (aa 0 rfl) (ql (by omega))) (iQ (w:=.int 8) T.tJ ⟨_,rfl⟩ fun _=>.int 8)) (congrArg Dt.bl e1)) fun _=>(nP (bP (Pz (bs:=List.replicate wd.length true) T.z_all rfl (bP (g7 (gO wd (fun x=>Dt.str (sg x)) (fun x=>.bl (decide (sg x∈L.map sg))) (fun x=>[.val (.str (sg x))]) (fun _=>true) rfl (d6 Df) (gR (aa 0 rfl)) (ee (d6 Df) rfl) (eO (eG PD) es) (fun a _=>eK) (.nil fun _ _=>rfl)
   (fun a ha _ C fp s' H' G'=>Py (aa 0 rfl) (aa 1 rfl)) (ql (by omega)))) (congrArg Dt.lst e2))) (congrArg Dt.bl e3)))))⟩
end
theorem BM {k:Nat}{ds:List Dt}{K:PySem.W.Frag}{H:Hp}{vs:List V}(r:bY K H vs ds)(hk:k≤ds.length):bY K H (DT vs none (some (k:Int))) (ds.take k):=by
 unfold DT
 rw[HT.FR,HT.Kb,List.drop_zero,r.length,Nat.min_eq_left hk,Nat.sub_zero]
 exact r.take k
theorem Mb {X:Cx}{G:Gr}{dl:List Slot}{a b:Expr}{ds:List Dt}{k:Nat}{pos p2:Pos}(ha:EE X G dl a (.lst ds))(hb:EE X G dl b (.int (k:Int)))(hk:k≤ds.length):EO X G dl (.Subscript a (.Slice none (some b) none p2) pos) (.lst (ds.take k)):=
 fh (yS Ke ha Cn (Cp hb)) fun st H Q ⟨Hf,S,kk⟩=>⟨Hf,S,fun v aA H1 g1 r1=>by
   cases r1 with
   | @lst q vs _ hq rp=>
     refine⟨aA,S.grow g1,fun z cU H2 g2 r2=>?_⟩
     cases r2
     have g:=g1.trans g2
     refine⟨(k:Int),rfl,q,vs,rfl,.of (g2.big _ _ (g1.sub _ _ hq)),fun p hp=>kk p cU _ (g.trans (.eC g.sub hp)) (g.big.free hp) (g.sub.free hp) ⟨_,aq,BM (rp.mono g2.b8) hk⟩⟩⟩
theorem fX {L:List Dt}{L':List Dt}(e:L=L'){X:Cx}{G:Gr}{dl:List Slot}{z:Expr}(h:EO X G dl z (.lst L)):EE X G dl z (.lst L'):=by subst e;exact g7 h
section
variable {P:Program}{w:World}{K:PySem.W.Frag}{mg:Str→Option Value}{base:Heap}{t:df}
theorem HX (T:Txt K mg t):GF P w K mg base CX 2 "check_rows" 1 L7:=by
 refine⟨_,_,_,gx T.xQ mO rfl fun cS A outer s H E G ds r hr hl hR=>?_,T.xU,T.xR,T.xS⟩
 obtain⟨rows,rfl,ok,rfl⟩:=hR
 have Dh:=HW (P:=P) (w:=w) (base:=base) T
 have Rz:=Ma (P:=P) (w:=w) (base:=base) T
 have nd:=mO.nd
 have hp:=ok.pos
 have hl6:=ok.le
 let cs:=rows.map (·.c)
 let lt:List Dt:=(cs.map sg).map Dt.str
 have e0:(decide ((((rows.map oR).length:Nat):Int)=0))=false:=by rw[List.length_map];exact decide_eq_false (by omega)
 have e1:(decide ((6:Int) < (((rows.map oR).length:Nat):Int)))=false:=by rw[List.length_map];exact decide_eq_false (by omega)
 have ef:((rows.filter fun _=>true).map fun r=>Dt.str (sg r.c))=lt:=by
   rw[List.filter_eq_self.mpr (fun _ _=>rfl)]
   show _=((rows.map (·.c)).map sg).map Dt.str
   rw[List.map_map,List.map_map];rfl
 have ez:(rows.map fun r=>Dt.str (sg r.c))=lt:=by
   show _=((rows.map (·.c)).map sg).map Dt.str
   rw[List.map_map,List.map_map];rfl
 have hsz:rows.length≤sizeLine:=ql (by omega)
 let S:Nat→List Slot:=fun _=>[.val (.lst (rows.map oR)),.val (.lst lt),.val (.lst lt),.bE,.bE,.bE]
 let xs:=rows.map oR
 have Mc:xs.length=rows.length:=List.length_map ..
 refine⟨.nx (S rows.length),.nx _,aj (dm (u:=false) (d5 (jS (CD T.z_len (aa 0 rfl)) ar) e0) (fun h=>nomatch h) (fun h=>dk))
   (aj (dm (u:=false) (d5 (zh (CD T.z_len (aa 0 rfl)) (iQ (w:=.int 6) T.zV ⟨_,rfl⟩ fun _=>.int 6)) e1) (fun h=>nomatch h) (fun h=>dk))
   (aj (GB 1 rows oR (fun r=>Dt.str (sg r.c)) (fun r=>[.val (oR r)]) (fun _=>true) rfl nd (d6 vU) (iN (aa 0 rfl)) (ee (d6 vU) rfl) jr (fun a _=>eK) (.nil fun _ _=>rfl) (fun a ha _ C fp s' H' G'=>bV (aa 0 rfl) ar rfl) hsz)
   ?r1))⟩
 rw[ef]
 refine sE 1 (w:=.lst lt) (aj (GB 2 rows (fun r=>Dt.str (sg r.c)) (fun r=>Dt.str (sg r.c)) (fun r=>[.val (.str (sg r.c))]) (fun _=>true) rfl nd (d6 Dg) (iN (aa 1 rfl)) (ee (d6 Dg) rfl) (eO jr ez) (fun a _=>eK)
   (.one fun a ha C fp s' H' G'=>zf (cR Dh aF hr (ae (aa 0 rfl) ao) ⟨a.c,rfl,ok.sm a ha,rfl⟩)) (fun a ha _ C fp s' H' G'=>aa 0 rfl) hsz) ?r2)
 rw[ef]
 refine sE 2 (w:=.lst lt) (av (nY (o:=.nx (S rows.length)) (m:=rows.length) (List.range xs.length) (fun(j:Nat)=>.tup [.int j,xs.getD j .dQ]) (fun(j:Nat) dl=>(dl.set 3 (.val (.int j))).set 4 (.val (xs.getD j .dQ))) S rfl PassesOwn.leaving
   (KL rfl T.z_enumerate (ae (aa 0 rfl) ao)) (Eh (xs:=xs)) (r6 rfl (dU (cD nd rfl (.inl rfl)) (dU (cD nd rfl (.inl rfl)) lL))) (fun a _=>CM) (Le.of ⟨rfl,rfl,rfl,trivial⟩) (by rw[List.length_range,Mc];exact Nat.le_refl _) (fun j a hj ha=>?l) (by rw[List.length_range,Mc];exact .all rfl)))
 rw[List.getElem?_range (by omega)] at ha
 cases ha
 have ex:xs.getD j .dQ=oR rows[j]:=by
   show(rows.map oR).getD j .dQ=_
   rw[List.getD_eq_getElem?_getD,List.getElem?_map,List.getElem?_eq_getElem hj];rfl
 have hm:=List.getElem_mem hj
 have hcl:cs.length=rows.length:=List.length_map ..
 have eT:lt.take j=((cs.take j).map sg).map Dt.str:=by
   show((cs.map sg).map Dt.str).take j=_
   rw[← List.map_take,← List.map_take]
 have dS:lt.length=rows.length:=by show((cs.map sg).map Dt.str).length=_;rw[List.length_map,List.length_map,hcl]
 have agf:sg rows[j].c ∉ (cs.take j).map sg:=by
   intro z
   have z:=HV.mp z
   obtain⟨i,hi,e⟩:=List.mem_iff_getElem.mp z
   rw[List.length_take] at hi
   rw[List.getElem_take] at e
   have h:=List.pairwise_iff_getElem.mp ok.nd i j (by rw[List.length_map];omega) (by rw[List.length_map];exact hj) (by omega)
   exact h (e.trans (List.getElem_map (f:=Row.c) (l:=rows) (i:=j) (h:=by rw[List.length_map];exact hj)).symm)
 have en:(!decide (sg rows[j].c∈(cs.take j).map sg))=true:=by rw[decide_eq_false agf];rfl
 have v4:∀ {X:Cx} {G:Gr} {dl:List Slot} {e:Expr},EE X G dl e (xs.getD j .dQ)→EE X G dl e (.tup [.str (sg rows[j].c),.str rows[j].d,.str (tx rows[j].w)]):=fun h=>by rw[ex] at h;exact h
 refine .nx (aj (aE 5 nd (sy (u:=true) (v:=true) (cR Dh aF hr (ae (bV (v4 (aa 4 rfl)) ar rfl) ao) ⟨_,rfl,ok.sm _ hm,rfl⟩) fun _=>(nP (bP (KN (xs:=(cs.take j).map sg) (bV (v4 (aa 4 rfl)) ar rfl) (fX eT (Mb (aa 1 rfl) (aa 3 rfl) (by rw[dS];exact Nat.le_of_lt hj)))) (congrArg Dt.bl en)))))
   (av (dm (u:=false) (wH (u:=true) (uM (pv (u:=true) (v:=true) (zf (aa 5 rfl)) fun _=>(pv (u:=true) (v:=true) (d5 (Be (xs:=mV) (bV (v4 (aa 4 rfl)) ar rfl) (iQ (w:=.ref t.ij) T.xw rfl T.xx)) (decide_eq_true (ok.dd _ hm))) fun _=>(rq (zf (cR Rz aF hr (ae (bV (v4 (aa 4 rfl)) ar rfl) (ae (aa 2 rfl) ao)) ⟨rows[j].w,cs,rfl,ok.wp _ hm,ok.wo _ hm,fun x hx=>?_,rfl⟩))))))) (fun h=>nomatch h) (fun h=>dk)))) (Le.of ⟨rfl,rfl,rfl,trivial⟩)
 obtain⟨r,hr',rfl⟩:=List.mem_map.mp hx
 exact ok.sm r hr'
end
def HY (t:df):Rl:=fun ds r=>∃ six,ds=[.int (wy six)]∧r=.ret (.fD (.obj (t.pc six) []))
def Md (t:df):Rl:=fun ds r=>∃ six rows,ds=[.int (wy six),.lst (rows.map oR)]∧cQ rows∧r=.own (.obj t.aO [("drawer",.fD (.obj (t.pc six) [])),("row_by_letter",.eB (pW rows))])
def rr (r:Row):Str×List Dt:=(sg r.c,[.str r.d,.str (tx r.w)])
theorem Di (rows:List Row):rows.map oR=(rows.map rr).map sO:=by rw[List.map_map];rfl
theorem RA (rows:List Row):pW rows=mJ (rows.map rr):=by unfold mJ pW;rw[List.map_map];rfl
theorem ZQ {rows:List Row}(nd:(rows.map (·.c)).Nodup):((rows.map rr).map (·.1)).Nodup:=by
 have e:(rows.map rr).map (·.1)=(rows.map (·.c)).map sg:=by rw[List.map_map,List.map_map];rfl
 rw[e]
 exact List.Pairwise.map sg (fun a b h z=>h (pX z)) nd
section
variable {P:Program}{w:World}{K:PySem.W.Frag}{mg:Str→Option Value}{base:Heap}{t:df}
theorem EJ (T:Txt K mg t):GF P w K mg base CX 1 "pen_of" 1 (HY t):=by
 refine⟨_,_,_,gx T.HC ED rfl fun cS A outer s H E G ds r hr hl hR=>?_,T.HF,T.HD,T.HE⟩
 obtain⟨six,rfl,rfl⟩:=hR
 cases six with
 | false=>exact⟨_,.rt _,nQ (dm (jS (aa 0 rfl) ar) (fun h=>av (aV (zI T.By T.EF))) (fun h=>absurd h (by decide)))⟩
 | true=>exact⟨_,.rt _,aj (dm (jS (aa 0 rfl) ar) (fun h=>absurd h (by decide)) (fun h=>dk)) (nQ (dm (jS (aa 0 rfl) ar) (fun h=>av (aV (zI T.Hy T.Lj))) (fun h=>absurd h (by decide))))⟩
theorem HZ (T:Txt K mg t):SG P w K mg base CX 3 "Rules" t.aO 3 (Md t):=by
 refine⟨_,_,_,fnI T.xV mP rfl fun cS A outer s H E G z ds r hr hl hR=>?_,T.Hz,T.Lk,T.xW⟩
 obtain⟨six,rows,rfl,ok,rfl⟩:=hR
 have ZR:=EJ (P:=P) (w:=w) (base:=base) T
 have Me:=HX (P:=P) (w:=w) (base:=base) T
 have nd:=mP.nd
 have hu:(A.deeper (envOfC "Rules.__init__" (af cF) s.heap.objs.size t.di cS)).units+1 < cLine:=by have:=hr.units;omega
 rw[RA,Di]
 refine⟨_,.nx ?fin,aj (aE 3 nd (cR ZR aF hr (ae (aa 1 rfl) ao) ⟨six,rfl,rfl⟩))
   (aj (nS (cR Me aF hr (ae (aa 2 rfl) ao) ⟨rows,by rw[Di],ok,rfl⟩))
   (aj (gM (aa 3 rfl) T.eh T.na_Rules_drawer)
   (GP 2 4 (C:=t.aO) (rows:=rows.map rr) (dlu:=[.bE,.val (.int (wy six)),.val (.lst ((rows.map rr).map sO)),.val (.fD (.obj (t.pc six) [])),.bE]) hu nd rfl PassesOwn.leaving T.eh T.na_Rules_row_by_letter rfl rfl rfl rfl (by decide) (by decide) rfl (ZQ ok.nd) (by rw[List.length_map];exact Nat.lt_of_le_of_lt ok.le (by decide))
     (fun r=>bV (aa 4 rfl) ar (iP (j:=0) rfl)) (fun r=>KR T.z_tuple (aa 4 rfl)))))⟩
 rfl
end
open PySem.Builtin.Str in
theorem vV (x:Str){a b:Nat}(SR:a≤b)(hb:b≤x.length){l u:Option Int}(h:strSliceIndices l u 1 x.length=strSliceIndices (some (a:Int)) (some (b:Int)) 1 x.length):Txt.slice x l u=⟨((x.cps.toList.drop a).take (b - a)).toArray⟩:=by
 unfold Txt.slice
 rw[h,PySem.StrLaws.sliced_plain x SR hb]
 split
 . rename_i q
   rw[PySem.StrLaws.strSliceIndices_plain SR hb,List.length_map,List.length_range] at q
   have q:b - a=x.length:=by simpa using q
   have ea:a=0:=by omega
   have eb:b=x.length:=by omega
   subst ea eb
   rw[List.drop_zero,Nat.sub_zero]
   have:x.cps.toList.take x.length=x.cps.toList:=List.take_of_length_le (by simp[Str.length])
   rw[this]
 . rfl
open PySem.Builtin.Str in
theorem Ia (L:List Nat){k:Nat}(h:k≤L.length):Txt.slice (tx L) none (some (k:Int))=tx (L.take k):=by
 rw[vV (tx L) (a:=0) (b:=k) (Nat.zero_le _) (by rw[fB];exact h)]
 . show(⟨(((L.toArray.toList).drop 0).take (k - 0)).toArray⟩:Str)=_
   simp[tx]
 . simp[strSliceIndices]
   have e:max (0:Int) (min 0 ((tx L).length:Int))=0:=by omega
   rw[e]
open PySem.Builtin.Str in
theorem BN (L:List Nat){k:Nat}(h:k≤L.length):Txt.slice (tx L) (some (k:Int)) none=tx (L.drop k):=by
 rw[vV (tx L) (a:=k) (b:=(tx L).length) (by rw[fB];exact h) (Nat.le_refl _)]
 . show(⟨(((L.toArray.toList).drop k).take ((tx L).length - k)).toArray⟩:Str)=_
   rw[fB,List.toList_toArray,List.take_of_length_le (by rw[List.length_drop];exact Nat.le_refl _)]
   rfl
 . simp[strSliceIndices]
   have e:max (0:Int) (min (if ((tx L).length:Int) < 0 then ((tx L).length:Int)+(tx L).length else (tx L).length) ((tx L).length:Int))=(tx L).length:=by
     rw[if_neg (by omega)];omega
   rw[e]
theorem RB (a b:List Nat):tx a ++ tx b=tx (a ++ b):=by
 show(⟨a.toArray ++ b.toArray⟩:Str)=⟨(a ++ b).toArray⟩
 simp
theorem ZT (L:List Nat){k:Nat}(h:k < L.length):jO (tx L).cps.toList (k:Int)=some (L.getD k 0):=by
 show jO L.toArray.toList (k:Int)=_
 rw[List.toList_toArray]
 refine iP ?_
 rw[List.getD_eq_getElem?_getD,List.getElem?_eq_getElem h];rfl
section
variable {X:Cx}{G:Gr}{dl:List Slot}{a b e:Expr}{L M:List Nat}{k:Nat}{pos p p2:Pos}{ns:List Int}
theorem x4 (ha:EE X G dl a (.str (tx L)))(hb:EE X G dl b (.str (tx M)))(h:L.length+M.length≤2000):EE X G dl (.BinOp a .Add b pos) (.str (tx (L ++ M))):=
 bP (O5 ha hb (by rw[fB,fB];exact ql h)) (by rw[RB])
theorem x5 (ha:EE X G dl a (.str (tx L)))(hb:EE X G dl b (.int (k:Int)))(h:k < L.length)(hl:L.length≤2000)(hs:ia b:=by intro _ _;rfl):EE X G dl (.Subscript a b pos) (.str (tx [L.getD k 0])):=
 O8 ha hb (ZT L h) (by rw[fB];exact ql hl) hs
theorem Mf (ha:EE X G dl a (.str (tx L)))(hb:EE X G dl b (.int (k:Int)))(h:k≤L.length)(hl:L.length≤2000):EE X G dl (.Subscript a (.Slice none (some b) none p2) pos) (.str (tx (L.take k))):=
 bP (GG ha GD (CO hb) (by rw[fB];exact ql hl)) (by rw[Ia L h])
theorem EK (ha:EE X G dl a (.str (tx L)))(hb:EE X G dl b (.int (k:Int)))(h:k≤L.length)(hl:L.length≤2000):EE X G dl (.Subscript a (.Slice (some b) none none p2) pos) (.str (tx (L.drop k))):=
 bP (GG ha (CO hb) GD (by rw[fB];exact ql hl)) (by rw[BN L h])
theorem oS (hm:X.mg "len"=none)(ha:EE X G dl a (.str (tx L)))(hl:L.length≤2000)(hg:Gl X "len":=by rfl)(he:starEach [a] X.env=[(false,eval a X.env)]:=by rfl):EE X G dl (.Call (.Name "len" p) [a] [] pos) (.int (L.length:Nat)):=
 bP (wI hm ha (by rw[fB];exact ql hl) hg he) (by rw[fB])
end
theorem Dj:∀ (Ls:List (List Nat)) (a:List Nat),(Ls.map tx).foldl (fun acc p=>acc ++ (("":Str).cps) ++ p.cps) a.toArray=(a ++ Ls.flatten).toArray
 | [],a=>by simp
 | l::r,a=>by
   have e:a.toArray ++ ("":Str).cps ++ (tx l).cps=(a ++ l).toArray:=by
     show a.toArray ++ (#[]:Array Nat) ++ l.toArray=_
     simp
   rw[List.map_cons,List.foldl_cons,e,Dj r,List.flatten_cons,List.append_assoc]
theorem Mg (Ls:List (List Nat)):Txt.join "" (Ls.map tx)=tx Ls.flatten:=by
 cases Ls with
 | nil=>rfl
 | cons l r=>
   show(⟨(r.map tx).foldl (fun acc p=>acc ++ (("":Str).cps) ++ p.cps) l.toArray⟩:Str)=_
   rw[Dj,List.flatten_cons];rfl
theorem EL {X:Cx}{G:Gr}{dl:List Slot}{a e:Expr}{apos bR:Pos}{Ls:List (List Nat)}(ha:EE X G dl a (.str ""))(he:EE X G dl e (.lst ((Ls.map tx).map .str)))(hw:Ls.flatten.length+Ls.length≤100000)(gv:attributeBase a "join" X.env (eval a X.env)=eval a X.env:=by rfl)
   (sk:((backTo bR (starEach [e] X.env)).all (fun x=>!x.1) && (backToKw bR (keywordEach [] X.env)).all (fun x=>x.1.isSome) && decide ([e].length+([]:List Keyword).length+(if ([]:List Keyword).isEmpty then 0 else 1) < 30))=true:=by rfl)
   (gw:(apos.endLine == bR.line)=true:=by rfl) (kG:starEach [e] X.env=(false,eval e X.env)::starEach [] X.env:=by rfl):EE X G dl (.Call (.Attribute a "join" apos) [e] [] bR) (.str (tx Ls.flatten)):=by
 have e1:((Ls.map tx).map (·.length)).sum=Ls.flatten.length:=by
   rw[List.length_flatten,List.map_map]
   congr 1
 exact bP (KP ha he (joinOk_of_weight (by rw[e1,List.length_map];omega) (by decide)) gv sk gw kG) (by rw[Mg])
theorem z6:∀ rows:List Row,(rows.map fun r=>[r.c]).flatten=rows.map (·.c)
 | []=>rfl
 | a::r=>by rw[List.map_cons,List.flatten_cons,z6 r];rfl
def df.vW (t:df)(six:Bool)(rows:List Row):List (Str×Dt):=[("drawer",.fD (.obj (t.pc six) [])),("row_by_letter",.eB (pW rows))]
def ka (rows:List Row)(x:Nat):Str:=((rows.find? fun r=>decide (r.c=x)).map (·.d)).getD ""
def wordOf (rows:List Row)(x:Nat):List Nat:=((rows.find? fun r=>decide (r.c=x)).map (·.w)).getD []
theorem gH {rows:List Row}{x:Nat}(h:x∈rows.map (·.c)):∃ r∈rows,r.c=x∧ka rows x=r.d∧wordOf rows x=r.w:=by
 obtain⟨q,hq,e⟩:=List.mem_map.mp h
 cases f:rows.find? (fun r=>decide (r.c=x)) with
 | none=>exact absurd (decide_eq_true e) (by simpa using List.find?_eq_none.mp f q hq)
 | some r=>
   refine⟨r,List.mem_of_find?_eq_some f,of_decide_eq_true (List.find?_some (p:=fun r:Row=>decide (r.c=x)) f),?_,?_⟩
   . unfold ka;rw[f];rfl
   . unfold wordOf;rw[f];rfl
def BO (t:df):Rl:=fun ds r=>∃ six rows,ds=[t.yx six rows]∧cQ rows∧r=.ret (.str (tx (rows.map (·.c))))
def Ib (t:df):Rl:=fun ds r=>∃ six rows q,ds=[t.yx six rows,.str (sg q.c)]∧cQ rows∧q∈rows∧r=.ret (oR q)
def Mh (t:df):Rl:=fun ds r=>∃ six rows x,ds=[t.yx six rows,.str (sg x)]∧cQ rows∧x∈rows.map (·.c)∧r=.ret (.str (ka rows x))
def Mi (t:df):Rl:=fun ds r=>∃ six rows x,ds=[t.yx six rows,.str (sg x)]∧cQ rows∧x∈rows.map (·.c)∧r=.ret (.str (tx (wordOf rows x)))
section
variable {P:Program}{w:World}{K:PySem.W.Frag}{mg:Str→Option Value}{base:Heap}{t:df}
theorem vX (T:Txt K mg t):MF P w K mg base CX 1 t.aO "row_of" 2 (Ib t):=by
 refine⟨T.eh,_,_,_,gx T.t9 qH rfl fun cS A outer s H E G ds r hr hl hR=>?_,T.kQ,T.ua⟩
 obtain⟨six,rows,q,rfl,ok,hq,rfl⟩:=hR
 have hu:(A.deeper (envOfC "Rules.row_of" (af bI) s.heap.objs.size t.b7 cS)).units+1 < cLine:=by have:=hr.units;omega
 have hv:=pY ok.nd hq
 exact⟨_,.rt _,aj (dm (u:=false) (d5 (CQ hu (aa 1 rfl) (aP (fs:=t.vW six rows) (aa 0 rfl) T.eh T.na_Rules_row_by_letter rfl)) (by rw[hv];rfl)) (fun h=>nomatch h) (fun h=>dk))
   (av (aV (KQ hu (aP (fs:=t.vW six rows) (aa 0 rfl) T.eh T.na_Rules_row_by_letter rfl) (aa 1 rfl) hv (fun _ _=>rfl))))⟩
theorem ug (T:Txt K mg t):MF P w K mg base CX 2 t.aO "word" 2 (Mi t):=by
 refine⟨T.eh,_,_,_,gx T.xZ u9 rfl fun cS A outer s H E G ds r hr hl hR=>?_,T.mD,T.x3⟩
 obtain⟨six,rows,x,rfl,ok,hx,rfl⟩:=hR
 obtain⟨q,hq,rfl,e1,e2⟩:=gH hx
 have m:=vX (P:=P) (w:=w) (base:=base) T
 rw[e2]
 exact⟨_,.rt _,av (aV (bV (cE (fs:=t.vW six rows) (aa 0 rfl) m aF hr (ae (aa 1 rfl) ao) ⟨six,rows,q,rfl,ok,hq,rfl⟩) ar rfl))⟩
end
section
variable {P:Program}{w:World}{K:PySem.W.Frag}{mg:Str→Option Value}{base:Heap}{t:df}
theorem gI (T:Txt K mg t):MF P w K mg base CX 1 t.aO "letters" 1 (BO t):=by
 refine⟨T.eh,_,_,_,gx T.qX pQ rfl fun cS A outer s H E G ds r hr hl hR=>?_,T.j8,T.qY⟩
 obtain⟨six,rows,rfl,ok,rfl⟩:=hR
 have h6:=ok.le
 have el:((pW rows).map fun kd=>kD kd.1)=((rows.map fun r=>[r.c]).map tx).map Dt.str:=by
   unfold pW
   rw[List.map_map,List.map_map,List.map_map];rfl
 have ef:(rows.map fun r=>[r.c]).flatten=rows.map (·.c):=z6 rows
 refine⟨_,.rt _,av (aV (bP (EL (Ls:=rows.map fun r=>[r.c]) eJ (fX el (GR T.z_list rfl (aP (fs:=t.vW six rows) (aa 0 rfl) T.eh T.na_Rules_row_by_letter rfl))) (by rw[ef,List.length_map,List.length_map];omega)) (by rw[ef])))⟩
end
section
variable {P:Program}{w:World}{K:PySem.W.Frag}{mg:Str→Option Value}{base:Heap}{t:df}
theorem Ic (T:Txt K mg t):MF P w K mg base CX 2 t.aO "deed" 2 (Mh t):=by
 refine⟨T.eh,_,_,_,gx T.xX u7 rfl fun cS A outer s H E G ds r hr hl hR=>?_,T.mC,T.xY⟩
 obtain⟨six,rows,x,rfl,ok,hx,rfl⟩:=hR
 obtain⟨q,hq,rfl,e1,e2⟩:=gH hx
 have m:=vX (P:=P) (w:=w) (base:=base) T
 rw[e1]
 exact⟨_,.rt _,av (aV (bV (cE (fs:=t.vW six rows) (aa 0 rfl) m aF hr (ae (aa 1 rfl) ao) ⟨six,rows,q,rfl,ok,hq,rfl⟩) ar rfl))⟩
end
def vY (t:df):Rl:=fun ds r=>∃ (six:Bool) (rows:List Row) (w:List Nat) (m:Nat),ds=[t.yx six rows,.str (tx w),.int (m:Nat)]∧cQ rows∧(∀ x∈w,x∈rows.map (·.c))∧(0 < w.length∧w.length≤m∧m≤1000)∧r=.ret (.str (tx w))
theorem Mj (w:List Nat):w.map (fun x=>Dt.str (sg x))=Sg.signs (tx w):=by rw[uf,List.map_map];rfl
theorem rL {rows:List Row}(ok:cQ rows){w:List Nat}(h:∀ x∈w,x∈rows.map (·.c)):gQ (tx w)=true:=gG fun x hx=>by
 obtain⟨r,hr,rfl⟩:=List.mem_map.mp (h x hx)
 have:=ok.sm r hr
 unfold small at this;omega
section
variable {P:Program}{w:World}{K:PySem.W.Frag}{mg:Str→Option Value}{base:Heap}{t:df}
theorem BP (T:Txt K mg t):gu P w K mg base CX 1 t.bC t.fu ["self","text","most"] (CB K 3 (vY t)):=by
 refine fnG T.qZ jB rfl fun cS A outer s H E G ds r hr hl hR=>?_
 obtain⟨six,rows,wd,m,rfl,ok,hw,⟨h0,hm,hm2⟩,rfl⟩:=hR
 have nd:=jB.nd
 have hu:(A.deeper (envOfC "Rules.word_of" (af bM) s.heap.objs.size t.bC cS)).units+1 < cLine:=by have:=hr.units;omega
 have ne:¬ tx wd=("":Str):=fun z=>by
   have:=congrArg Str.length z
   rw[fB] at this
   have e:("":Str).length=0:=rfl
   omega
 let xs:=Sg.signs (tx wd)
 have Mc:xs.length=wd.length:=by show(Sg.signs (tx wd)).length=_;rw[lS,fB]
 let S:Nat→List Slot:=fun _=>[.val (t.yx six rows),.val (.str (tx wd)),.val (.int (m:Nat)),.bE,.bE]
 refine⟨_,.rt _,aj (dm (u:=false) (d5 (m5 (aa 1 rfl) eJ) (decide_eq_false ne)) (fun h=>nomatch h) (fun h=>dk))
   (aj (nY (o:=.nx (S wd.length)) (m:=wd.length) (List.range xs.length) (fun(j:Nat)=>.tup [.int j,xs.getD j .dQ]) (fun(j:Nat) dl=>(dl.set 3 (.val (.int j))).set 4 (.val (xs.getD j .dQ))) S rfl PassesOwn.leaving
     (GU rfl T.z_enumerate (ae (aa 1 rfl) ao)) (Bl (rL ok hw)) (r6 rfl (dU (cD nd rfl (.inl rfl)) (dU (cD nd rfl (.inl rfl)) lL))) (fun a _=>CM) (Le.of ⟨rfl,rfl,rfl,trivial⟩) (by rw[List.length_range,Mc];exact Nat.le_refl _) (fun j a hj ha=>?_) (by rw[List.length_range,Mc];exact .all rfl))
   (av (aV (aa 1 rfl))))⟩
 rw[List.getElem?_range (by omega)] at ha
 cases ha
 have ex:xs.getD j .dQ=.str (sg wd[j]):=by
   show(Sg.signs (tx wd)).getD j .dQ=_
   rw[← Mj,List.getD_eq_getElem?_getD,List.getElem?_map,List.getElem?_eq_getElem hj];rfl
 have v4:∀ {X:Cx} {G:Gr} {dl:List Slot} {e:Expr},EE X G dl e (xs.getD j .dQ)→EE X G dl e (.str (sg wd[j])):=fun h=>by rw[ex] at h;exact h
 obtain⟨q,hq,hc,_,_⟩:=gH (hw _ (List.getElem_mem hj))
 have hv:=pY ok.nd hq
 rw[hc] at hv
 exact .nx (av (dm (u:=false) (uM (vF (u:=false) (v:=false) (d5 (Ga (aa 3 rfl) (aa 2 rfl)) (decide_eq_false (by omega))) fun _=>(sx (d5 (CQ hu (v4 (aa 4 rfl)) (aP (fs:=t.vW six rows) (aa 0 rfl) T.eh T.na_Rules_row_by_letter rfl)) (by rw[hv];rfl))))) (fun h=>nomatch h) (fun h=>dk))) (Le.of ⟨rfl,rfl,rfl,trivial⟩)
theorem agg {K:PySem.W.Frag}:∀ H,bY K H [.int 8] [.int 8]:=fun _=>.cons (.int 8) .nil
theorem z7 (T:Txt K mg t):Fe P w K mg base CX 1 t.aO "word_of" 3 [.int 8] (vY t):=⟨T.eh,_,_,_,_,[.int 8],BP T,T.j9,T.pV,.cons ⟨_,rfl⟩ .nil,agg⟩
end
def RC (t:df):Rl:=fun ds r=>∃ six rows,ds=[t.yx six rows]∧r=.ret (.fD (.obj (t.pc six) []))
section
variable {P:Program}{w:World}{K:PySem.W.Frag}{mg:Str→Option Value}{base:Heap}{t:df}
theorem Dl (T:Txt K mg t):MF P w K mg base CX 1 t.aO "pen" 1 (RC t):=by
 refine⟨T.eh,_,_,_,gx T.zZ xp rfl fun cS A outer s H E G ds r hr hl hR=>?_,T.nC,T.z5⟩
 obtain⟨six,rows,rfl,rfl⟩:=hR
 exact⟨_,.rt _,av (aV (aP (fs:=t.vW six rows) (aa 0 rfl) T.eh T.na_Rules_drawer rfl))⟩
end
def tl (six:Bool)(p:Int×Int):Int×Int:=if six then (-p.2,p.1+p.2) else (-p.2,p.1)
def tn (six:Bool):Nat→Int×Int→Int×Int
 | 0,p=>p
 | n+1,p=>tl six (tn six n p)
def sp (p:Int×Int):Dt:=.tup [.int p.1,.int p.2]
theorem fJ (six:Bool):0 < wy six:=by cases six <;> decide
def RD (t:df)(six:Bool):Rl:=fun ds r=>ds=[.obj (t.pc six) []]∧r=.ret (.int (wy six))
def RE (t:df)(six:Bool):Rl:=fun ds r=>∃ p,ds=[.obj (t.pc six) [],sp p]∧r=.ret (sp (tl six p))
def Ie (t:df)(six:Bool):Rl:=fun ds r=>∃ z,ds=[.obj (t.pc six) [],.int z]∧r=.ret (.int (z % wy six))
def Ig (t:df)(six:Bool):Rl:=fun ds r=>∃ p b,ds=[.obj (t.pc six) [],sp p,.int b]∧r=.ret (sp (tn six (b % wy six).toNat p))
section
variable {P:Program}{w:World}{K:PySem.W.Frag}{mg:Str→Option Value}{base:Heap}{t:df}
theorem rM (T:Txt K mg t)(six:Bool):MF P w K mg base CX 1 (t.pc six) "ways" 1 (RD t six):=by
 cases six with
 | false=>
   refine⟨T.jZ,_,_,_,gx T.tP qA rfl fun cS A outer s H E G ds r hr hl hR=>?_,T.jE,T.tQ⟩
   obtain⟨rfl,rfl⟩:=hR
   exact⟨_,.rt _,av (aV ar)⟩
 | true=>
   refine⟨T.oH,_,_,_,gx T.xE uT rfl fun cS A outer s H E G ds r hr hl hR=>?_,T.mj,T.xF⟩
   obtain⟨rfl,rfl⟩:=hR
   exact⟨_,.rt _,av (aV ar)⟩
theorem Ml (T:Txt K mg t)(six:Bool):MF P w K mg base CX 1 (t.pc six) "turned_left" 2 (RE t six):=by
 cases six with
 | false=>
   refine⟨T.jZ,_,_,_,gx T.kN jW rfl fun cS A outer s H E G ds r hr hl hR=>?_,T.fV,T.kO⟩
   obtain⟨p,rfl,rfl⟩:=hR
   exact⟨_,.rt _,(av (aV (d8 (ae (fQ (bV (aa 1 rfl) ar rfl)) (ae (bV (aa 1 rfl) ar rfl) ao)) (Nat.le_of_ble_eq_true rfl))))⟩
 | true=>
   refine⟨T.oH,_,_,_,gx T.ml lg rfl fun cS A outer s H E G ds r hr hl hR=>?_,T.iE,T.mn⟩
   obtain⟨p,rfl,rfl⟩:=hR
   exact⟨_,.rt _,(av (aV (d8 (ae (fQ (bV (aa 1 rfl) ar rfl)) (ae (bu (bV (aa 1 rfl) ar rfl) (bV (aa 1 rfl) ar rfl)) ao)) (Nat.le_of_ble_eq_true rfl))))⟩
theorem Dm {six:Bool}{m:Str}{f:Addr}(hQ:Meth K t.aK m f)(hS:Meth K t.bD m f):Meth K (t.pc six) m f:=by cases six <;> assumption
theorem Dn (T:Txt K mg t)(six:Bool):nH K (t.pc six):=by cases six;exact T.jZ;exact T.oH
theorem jH (T:Txt K mg t)(six:Bool):MF P w K mg base CX 2 (t.pc six) "way_of" 2 (Ie t six):=by
 refine⟨Dn T six,_,_,_,gx T.xA uS rfl fun cS A outer s H E G ds r hr hl hR=>?_,Dm T.kL T.mf,T.xB⟩
 obtain⟨z,rfl,rfl⟩:=hR
 have h1:=rM (P:=P) (w:=w) (base:=base) T six
 refine⟨_,.rt _,av (aV (dj (aa 1 rfl) (d9 (aa 0 rfl) h1 aF hr ⟨rfl,rfl⟩) (fJ six)))⟩
theorem vZ (T:Txt K mg t)(six:Bool):MF P w K mg base CX 3 (t.pc six) "turned" 3 (Ig t six):=by
 refine⟨Dn T six,_,_,_,gx T.xC jb rfl fun cS A outer s H E G ds r hr hl hR=>?_,Dm T.kM T.mh,T.xD⟩
 obtain⟨p,b,rfl,rfl⟩:=hR
 have h1:=jH (P:=P) (w:=w) (base:=base) T six
 have h2:=Ml (P:=P) (w:=w) (base:=base) T six
 have hb1:=Int.emod_nonneg b (Int.ne_of_gt (fJ six))
 have hb2:=Int.emod_lt_of_pos b (fJ six)
 have hb3:wy six≤6:=by cases six <;> decide
 refine⟨_,.rt _,aj (ip 3 (fun k=>[.val (.obj (t.pc six) []),.val (sp (tn six k p)),.val (.int b),.bE]) jb.nd rfl PassesOwn.leaving T.z_range
   (ae (cE (aa 0 rfl) h1 aF hr (ae (aa 2 rfl) ao) ⟨b,rfl,rfl⟩) ao) ⟨by omega,by omega⟩ (Le.of ⟨rfl,rfl,rfl,trivial⟩) (Nat.le_refl _) (fun k hk=>?_) (.all rfl)) (av (aV (aa 1 rfl)))⟩
 refine .nx (av (aE 1 jb.nd (cE (aa 0 rfl) h2 aF hr (ae (aa 1 rfl) ao) ⟨_,rfl,rfl⟩))) (Le.of ⟨rfl,rfl,rfl,trivial⟩)
end
theorem Dp {m n:Nat}{a b:Int}(ha:a.natAbs < 2 ^ m)(hb:b.natAbs < 2 ^ n)(h:m+n≤134217728):IntMulOk a b:=IntMulOk.of_le (PySem.intBits_le_iff.mpr ha) (PySem.intBits_le_iff.mpr hb) h
def gX (six:Bool)(w:Int)(p:Int×Int):Int:=
 if six then (if w=0 then 2 * p.1+p.2 else if w=1 then p.1+2 * p.2 else if w=2 then p.2 - p.1 else if w=3 then -2 * p.1 - p.2 else if w=4 then -p.1 - 2 * p.2 else p.1 - p.2)
 else (if w=0 then p.1 else if w=1 then p.2 else if w=2 then -p.1 else -p.2)
theorem Ih (six:Bool){w:Int}(h0:0≤w)(h1:w < wy six)(b:Int)(p:Int×Int):gX six ((w+b) % wy six) (tn six (b % wy six).toNat p)=gX six w p:=by
 obtain⟨x,y⟩:=p
 cases six with
 | false=>
   have e:wy false=4:=rfl
   have h1:w < 4:=h1
   rw[e]
   have h:w=0∨w=1∨w=2∨w=3:=by omega
   have g:b % 4=0∨b % 4=1∨b % 4=2∨b % 4=3:=by omega
   have q:(w+b) % 4=(w+b % 4) % 4:=by omega
   rw[q]
   rcases h with rfl | rfl | rfl | rfl <;> rcases g with g | g | g | g <;> rw[g] <;> simp[gX,tn,tl]
 | true=>
   have e:wy true=6:=rfl
   have h1:w < 6:=h1
   rw[e]
   have h:w=0∨w=1∨w=2∨w=3∨w=4∨w=5:=by omega
   have g:b % 6=0∨b % 6=1∨b % 6=2∨b % 6=3∨b % 6=4∨b % 6=5:=by omega
   have q:(w+b) % 6=(w+b % 6) % 6:=by omega
   rw[q]
   rcases h with rfl | rfl | rfl | rfl | rfl | rfl <;> rcases g with g | g | g | g | g | g <;> rw[g] <;> simp[gX,tn,tl] <;> omega
def Mm (t:df)(six:Bool):Rl:=fun ds r=>∃ z p,ds=[.obj (t.pc six) [],.int z,sp p]∧(0≤z∧z < wy six)∧r=.ret (.int (gX six z p))
section
variable {P:Program}{w:World}{K:PySem.W.Frag}{mg:Str→Option Value}{base:Heap}{t:df}
theorem ZU {z:Int}(p:Int×Int)(h0:0≤z)(h1:z < 4):jO [Dt.int p.1,Dt.int p.2,Dt.int (-p.1),Dt.int (-p.2)] z=some (Dt.int (gX false z p)):=by
 have h:z=0∨z=1∨z=2∨z=3:=by omega
 rcases h with rfl | rfl | rfl | rfl <;> rfl
theorem ZV {z:Int}(p:Int×Int)(h0:0≤z)(h1:z < 6):jO [Dt.int (2 * p.1+p.2),Dt.int (p.1+2 * p.2),Dt.int (p.2 - p.1),Dt.int (-2 * p.1 - p.2),Dt.int (-p.1 - 2 * p.2),Dt.int (p.1 - p.2)] z=some (Dt.int (gX true z p)):=by
 have h:z=0∨z=1∨z=2∨z=3∨z=4∨z=5:=by omega
 rcases h with rfl | rfl | rfl | rfl | rfl | rfl <;> rfl
theorem mod_lt {z m:Int}(h0:0≤z)(h1:z < m):z % m=z:=Int.emod_eq_of_lt h0 h1
theorem z8 (T:Txt K mg t)(six:Bool):MF P w K mg base CX 3 (t.pc six) "along" 3 (Mm t six):=by
 have oT:=jH (P:=P) (w:=w) (base:=base) T six
 cases six with
 | false=>
   refine⟨T.jZ,_,_,_,gx T.qJ fU rfl fun cS A outer s H E G ds r hr hl hR=>?_,T.jd,T.qK⟩
   obtain⟨z,p,rfl,⟨h0,h1⟩,rfl⟩:=hR
   exact⟨_,.rt _,(aj (aE 3 fU.nd (bV (aa 2 rfl) ar rfl))
 (aj (aE 4 fU.nd (bV (aa 2 rfl) ar rfl))
 (av (aV (bV (d8 (ae (aa 3 rfl) (ae (aa 4 rfl) (ae (fQ (aa 3 rfl)) (ae (fQ (aa 4 rfl)) ao)))) (Nat.le_of_ble_eq_true rfl)) (cE (aa 0 rfl) oT aF hr (ae (aa 1 rfl) ao) ⟨z,rfl,rfl⟩) (by rw[mod_lt h0 h1];exact ZU p h0 h1))))))⟩
 | true=>
   refine⟨T.oH,_,_,_,gx T.va iz rfl fun cS A outer s H E G ds r hr hl hR=>?_,T.lH,T.vb⟩
   obtain⟨z,p,rfl,⟨h0,h1⟩,rfl⟩:=hR
   exact⟨_,.rt _,(aj (aE 3 iz.nd (bV (aa 2 rfl) ar rfl))
 (aj (aE 4 iz.nd (bV (aa 2 rfl) ar rfl))
 (av (aV (bV (d8 (ae (bu (ff ar (aa 3 rfl) (nG.ok (Or.inl ⟨by decide,by decide⟩))) (aa 4 rfl)) (ae (bu (aa 3 rfl) (ff ar (aa 4 rfl) (nG.ok (Or.inl ⟨by decide,by decide⟩)))) (ae (eD (aa 4 rfl) (aa 3 rfl)) (ae (eD (ff (fQ ar) (aa 3 rfl) (nG.ok (Or.inl ⟨by decide,by decide⟩))) (aa 4 rfl)) (ae (eD (fQ (aa 3 rfl)) (ff ar (aa 4 rfl) (nG.ok (Or.inl ⟨by decide,by decide⟩)))) (ae (eD (aa 3 rfl) (aa 4 rfl)) ao)))))) (Nat.le_of_ble_eq_true rfl)) (cE (aa 0 rfl) oT aF hr (ae (aa 1 rfl) ao) ⟨z,rfl,rfl⟩) (by rw[mod_lt h0 h1];exact ZV p h0 h1))))))⟩
end
def ad (p q:Int×Int):Int×Int:=(p.1+q.1,p.2+q.2)
def Mn:Rl:=fun ds r=>∃ p q,ds=[sp p,sp q]∧r=.ret (sp (ad p q))
def NO:List Str:=["stroke","step"]
def oU (d:Str):Int:=if d="left" then 1 else if d="right" then -1 else 0
def rN (six:Bool)(d:Str)(p:Int×Int)(w:Int):(Int×Int)×Int:=(if d∈NO then ad p (tn six (w % wy six).toNat (1,0)) else p,(w+oU d) % wy six)
def Mo:Rl:=fun ds r=>∃ d:Str,ds=[.str d]∧r=.ret (.int (oU d))
def RF (t:df)(six:Bool):Rl:=fun ds r=>∃ w,ds=[.obj (t.pc six) [],.int w]∧r=.ret (sp (tn six (w % wy six).toNat (1,0)))
def Mp (t:df)(six:Bool):Rl:=fun ds r=>∃ d p w,ds=[.obj (t.pc six) [],.str d,sp p,.int w]∧d∈mV∧r=.ret (.tup [sp (rN six d p w).1,.int (rN six d p w).2])
section
variable {P:Program}{w:World}{K:PySem.W.Frag}{mg:Str→Option Value}{base:Heap}{t:df}
theorem z9 (T:Txt K mg t):GF P w K mg base CX 1 "added" 2 Mn:=by
 refine⟨_,_,_,gx T.Lm Hn rfl fun cS A outer s H E G ds r hr hl hR=>?_,T.Lp,T.Ln,T.Lo⟩
 obtain⟨p,q,rfl,rfl⟩:=hR
 exact⟨_,.rt _,(av (aV (d8 (ae (bu (bV (aa 0 rfl) ar rfl) (bV (aa 1 rfl) ar rfl)) (ae (bu (bV (aa 0 rfl) ar rfl) (bV (aa 1 rfl) ar rfl)) ao)) (Nat.le_of_ble_eq_true rfl))))⟩
theorem Ii (T:Txt K mg t):GF P w K mg base CX 1 "turn_of_deed" 1 Mo:=by
 refine⟨_,_,_,gx T.tK qz rfl fun cS A outer s H E G ds r hr hl hR=>?_,T.tN,T.tL,T.tM⟩
 obtain⟨d,rfl,rfl⟩:=hR
 by_cases c0:d="left"
 . rw[show oU d=1 from if_pos c0]
   exact⟨_,.rt _,nQ (dm (m5 (aa 0 rfl) eJ) (fun h=>av (aV ar)) (fun h=>absurd c0 (of_decide_eq_false h)))⟩
 by_cases c1:d="right"
 . rw[show oU d=-1 by unfold oU;rw[if_neg c0,if_pos c1]]
   exact⟨_,.rt _,aj (dm (m5 (aa 0 rfl) eJ) (fun h=>absurd (of_decide_eq_true h) c0) (fun h=>dk)) (nQ (dm (m5 (aa 0 rfl) eJ) (fun h=>av (aV (fQ ar))) (fun h=>absurd c1 (of_decide_eq_false h))))⟩
 . rw[show oU d=0 by unfold oU;rw[if_neg c0,if_neg c1]]
   exact⟨_,.rt _,aj (dm (m5 (aa 0 rfl) eJ) (fun h=>absurd (of_decide_eq_true h) c0) (fun h=>dk)) (aj (dm (m5 (aa 0 rfl) eJ) (fun h=>absurd (of_decide_eq_true h) c1) (fun h=>dk)) (av (aV ar)))⟩
theorem Mq (T:Txt K mg t)(six:Bool):MF P w K mg base CX 4 (t.pc six) "step" 2 (RF t six):=by
 refine⟨Dn T six,_,_,_,gx T.BA zK rfl fun cS A outer s H E G ds r hr hl hR=>?_,Dm T.mi T.oJ,T.BB⟩
 obtain⟨z,rfl,rfl⟩:=hR
 have h1:=vZ (P:=P) (w:=w) (base:=base) T six
 exact⟨_,.rt _,av (aV (cE (aa 0 rfl) h1 aF hr (ae (d8 (ae ar (ae ar ao)) (Nat.le_of_ble_eq_true rfl)) (ae (aa 1 rfl) ao)) ⟨(1,0),z,rfl,rfl⟩))⟩
theorem Ij (T:Txt K mg t)(six:Bool):MF P w K mg base CX 5 (t.pc six) "after" 4 (Mp t six):=by
 refine⟨Dn T six,_,_,_,gx T.zW og rfl fun cS A outer s H E G ds r hr hl hR=>?_,Dm T.lG T.nv,T.zX⟩
 obtain⟨d,p,z,rfl,hd,rfl⟩:=hR
 have h1:=Mq (P:=P) (w:=w) (base:=base) T six
 have h2:=z9 (P:=P) (w:=w) (base:=base) T
 have h3:=Ii (P:=P) (w:=w) (base:=base) T
 have h4:=jH (P:=P) (w:=w) (base:=base) T six
 by_cases c:d∈NO
 . rw[show rN six d p z=(ad p (tn six (z % wy six).toNat (1,0)),(z+oU d) % wy six) by unfold rN;rw[if_pos c]]
   exact⟨_,.rt _,(aj (dm (CI (xs:=mV) (aa 1 rfl) (iQ (w:=.ref t.ij) T.xw rfl T.xx)) (fun h=>absurd h (by simp[hd])) (fun h=>dk))
 (aj (dm (Be (xs:=NO) (aa 1 rfl) (iQ (w:=.ref t.dO) T.mT rfl T.mU)) (fun h=>
     (av (aE 2 og.nd (cR h2 aF hr (ae (aa 2 rfl) (ae (cE (aa 0 rfl) h1 aF hr (ae (aa 3 rfl) ao) ⟨_,rfl,rfl⟩) ao)) ⟨_,_,rfl,rfl⟩)))) (fun h=>absurd c (of_decide_eq_false h)))
 (av (aV (d8 (ae (aa 2 rfl) (ae (cE (aa 0 rfl) h4 aF hr (ae (bu (aa 3 rfl) (cR h3 aF hr (ae (aa 1 rfl) ao) ⟨_,rfl,rfl⟩)) ao) ⟨_,rfl,rfl⟩) ao)) (Nat.le_of_ble_eq_true rfl))))))⟩
 . rw[show rN six d p z=(p,(z+oU d) % wy six) by unfold rN;rw[if_neg c]]
   exact⟨_,.rt _,(aj (dm (CI (xs:=mV) (aa 1 rfl) (iQ (w:=.ref t.ij) T.xw rfl T.xx)) (fun h=>absurd h (by simp[hd])) (fun h=>dk))
 (aj (dm (Be (xs:=NO) (aa 1 rfl) (iQ (w:=.ref t.dO) T.mT rfl T.mU)) (fun h=>absurd (of_decide_eq_true h) c) (fun h=>dk))
 (av (aV (d8 (ae (aa 2 rfl) (ae (cE (aa 0 rfl) h4 aF hr (ae (bu (aa 3 rfl) (cR h3 aF hr (ae (aa 1 rfl) ao) ⟨_,rfl,rfl⟩)) ao) ⟨_,rfl,rfl⟩) ao)) (Nat.le_of_ble_eq_true rfl))))))⟩
end
def sm (p:Int×Int):Prop:=p.1.natAbs < 2 ^ 1000∧p.2.natAbs < 2 ^ 1000
def cr (p q:Int×Int):Int:=p.1 * q.2 - p.2 * q.1
def Mr:Rl:=fun ds r=>∃ p q,ds=[sp p,sp q]∧(sm p∧sm q)∧r=.ret (.int (cr p q))
section
variable {P:Program}{w:World}{K:PySem.W.Frag}{mg:Str→Option Value}{base:Heap}{t:df}
theorem Il (T:Txt K mg t):GF P w K mg base CX 1 "cross" 2 Mr:=by
 refine⟨_,_,_,gx T.Lq Ho rfl fun cS A outer s H E G ds r hr hl hR=>?_,T.Lv,T.Lr,T.Lu⟩
 obtain⟨p,q,rfl,⟨hp,hq⟩,rfl⟩:=hR
 exact⟨_,.rt _,(av (aV (eD (ff (bV (aa 0 rfl) ar rfl) (bV (aa 1 rfl) ar rfl) (Dp hp.1 hq.2 (by decide))) (ff (bV (aa 0 rfl) ar rfl) (bV (aa 1 rfl) ar rfl) (Dp hp.2 hq.1 (by decide))))))⟩
end
structure Tr where
 many:Int
 turn:Int
 shift:Int×Int
 eE:Int
 reach:List Int
 cK:List Int
 kR:Int
def df.trK (t:df)(six:Bool)(x:Tr):List (Str×FD):=[("drawer",.obj (t.pc six) []),("deed_count",.int x.many),("last_way",.int x.turn),("last_spot",.tup t.K [x.shift.1,x.shift.2]),("stroke_count",.int x.eE),("reaches",.lst x.reach),("touches",.lst x.cK),("crosses",.int x.kR)]
def df.iH (t:df)(six:Bool)(x:Tr):List (Str×Dt):=[("drawer",.fD (.obj (t.pc six) [])),("deed_count",.int x.many),("last_way",.int x.turn),("last_spot",.fD (.tup t.K [x.shift.1,x.shift.2])),("stroke_count",.int x.eE),("reaches",.fD (.lst x.reach)),("touches",.fD (.lst x.cK)),("crosses",.int x.kR)]
def df.Dq (t:df)(six:Bool)(x:Tr):Dt:=.obj t.ay (t.iH six x)
def df.l2 (t:df)(six:Bool)(x:Tr):Dt:=.fD (.obj t.ay (t.trK six x))
theorem jh {X:Cx}{G:Gr}{dl:List Slot}{e:Expr}{t:df}{six:Bool}{x:Tr}(h:EE X G dl e (t.l2 six x)):EE X G dl e (t.Dq six x):=NK h
theorem BQ {X:Cx}{G:Gr}{dl:List Slot}{e:Expr}{t:df}{six:Bool}{x:Tr}(h:EO X G dl e (.obj t.ay (t.iH six x))):EE X G dl e (t.l2 six x):=Hl (fs:=t.trK six x) h
theorem iI {X:Cx}{G:Gr}{dl:List Slot}{e:Expr}{t:df}{six:Bool}(h:EE X G dl e (.fD (.obj (t.pc six) []))):EE X G dl e (.obj (t.pc six) []):=NK h
theorem uh {X:Cx}{G:Gr}{dl:List Slot}{e:Expr}{K':PySem.W.Frag}{p:Int×Int}(hK:K'=X.K)(h:EE X G dl e (.fD (.tup K' [p.1,p.2]))):EE X G dl e (sp p):=Ql h hK
theorem BR {X:Cx}{G:Gr}{dl:List Slot}{e:Expr}{K':PySem.W.Frag}{p:Int×Int}(hK:K'=X.K)(h:EE X G dl e (sp p)):EE X G dl e (.fD (.tup K' [p.1,p.2])):=Qm (ns:=[p.1,p.2]) h hK
def wn (six:Bool):Nat:=if six then 6 else 4
theorem qm (six:Bool):(wn six:Int)=wy six:=by cases six <;> rfl
def ke (six:Bool)(ns:List Int)(f:Int):List Int:=(List.range (wn six)).map fun(w:Nat)=>ns.getD (((w:Int) - f) % wy six).toNat 0
def vq (six:Bool)(x y:Tr)(w:Nat):Int:=if (ke six y.reach x.turn).getD w 0+gX six w x.shift≤x.reach.getD w 0 then x.reach.getD w 0 else (ke six y.reach x.turn).getD w 0+gX six w x.shift
def x6 (six:Bool)(x y:Tr)(w:Nat):Int:=if (ke six y.reach x.turn).getD w 0+gX six w x.shift≤x.reach.getD w 0 then x.cK.getD w 0 else (ke six y.cK x.turn).getD w 0+x.many
def jn (six:Bool)(x y:Tr):Tr where
 many:=x.many+y.many
 turn:=(x.turn+y.turn) % wy six
 shift:=ad x.shift (tn six (x.turn % wy six).toNat y.shift)
 eE:=x.eE+y.eE
 reach:=(List.range (wn six)).map (vq six x y)
 cK:=(List.range (wn six)).map (x6 six x y)
 kR:=x.kR+y.kR+cr x.shift (tn six (x.turn % wy six).toNat y.shift)
def AF (six:Bool):Tr:=⟨0,0,(0,0),0,List.replicate (wn six) 0,List.replicate (wn six) 0,0⟩
def one (six:Bool)(d:Str):Tr:=⟨1,(rN six d (0,0) 0).2,(rN six d (0,0) 0).1,if d="stroke" then 1 else 0,(List.range (wn six)).map fun(w:Nat)=>if gX six w (rN six d (0,0) 0).1 > 0 then gX six w (rN six d (0,0) 0).1 else 0,
 (List.range (wn six)).map fun(w:Nat)=>if (if gX six w (rN six d (0,0) 0).1 > 0 then gX six w (rN six d (0,0) 0).1 else 0) < 1 then (if gX six w (rN six d (0,0) 0).1 > 0 then gX six w (rN six d (0,0) 0).1 else 0) else 1,0⟩
def cL (six:Bool)(ds:List Str):Tr:=ds.foldl (fun x d=>jn six x (one six d)) (AF six)
structure WF (six:Bool)(x:Tr):Prop where
 rl:x.reach.length=wn six
 tl:x.cK.length=wn six
 sm:x.shift.1.natAbs < 2 ^ 990∧x.shift.2.natAbs < 2 ^ 990
def RG (t:df):Rl:=fun ds r=>∃ six x,ds=[.fD (.obj (t.pc six) []),.int x.many,.int x.turn,.fD (.tup t.K [x.shift.1,x.shift.2]),.int x.eE,.fD (.lst x.reach),.fD (.lst x.cK),.int x.kR]∧r=.own (.obj t.ay (t.iH six x))
def Dr (t:df)(f:Tr→Dt):Rl:=fun ds r=>∃ six x,ds=[t.Dq six x]∧r=.ret (f x)
def x8 (t:df):Rl:=fun ds r=>∃ six x f,ds=[t.Dq six x,.int f]∧r=.ret (sp (tn six (f % wy six).toNat x.shift))
def ZW (t:df):Rl:=fun ds r=>∃ six x ns f,ds=[t.Dq six x,.lP ns,.int f]∧ns.length=wn six∧r=.own (.lst ((ke six ns f).map .int))
def x9 (t:df):Rl:=fun ds r=>∃ six x f,ds=[t.Dq six x,.int f]∧WF six x∧r=.own (.lst ((ke six x.reach f).map .int))
def ya (t:df):Rl:=fun ds r=>∃ six x f,ds=[t.Dq six x,.int f]∧WF six x∧r=.own (.lst ((ke six x.cK f).map .int))
def Im (t:df):Rl:=fun ds r=>∃ six x y,ds=[t.Dq six x,t.Dq six y]∧(WF six x∧WF six y)∧r=.ret (t.l2 six (jn six x y))
def Ms (t:df):Rl:=fun ds r=>∃ six,ds=[.fD (.obj (t.pc six) [])]∧r=.ret (t.l2 six (AF six))
def EM (t:df):Rl:=fun ds r=>∃ six d,ds=[.fD (.obj (t.pc six) []),.str d]∧d∈mV∧r=.ret (t.l2 six (one six d))
def BS (t:df):Rl:=fun ds r=>∃ (six:Bool) (xs:List Str),ds=[.fD (.obj (t.pc six) []),.lst (xs.map .str)]∧(∀ d∈xs,d∈mV)∧xs.length≤1000∧r=.ret (t.l2 six (cL six xs))
section
variable {P:Program}{w:World}{K:PySem.W.Frag}{mg:Str→Option Value}{base:Heap}{t:df}
theorem yb (T:Txt K mg t):SG P w K mg base CX 1 "Track" t.ay 9 (RG t):=by
 refine⟨_,_,_,fnI T.xG uV rfl fun cS A outer s H E G z ds r hr hl hR=>?_,T.HA,T.Ll,T.xH⟩
 obtain⟨six,x,rfl,rfl⟩:=hR
 exact⟨_,.nx rfl,aj (gM (aa 1 rfl) T.aC T.na_Track_drawer) (aj (gM (aa 2 rfl) T.aC T.na_Track_deed_count) (aj (gM (aa 3 rfl) T.aC T.na_Track_last_way) (aj (gM (aa 4 rfl) T.aC T.na_Track_last_spot)
   (aj (gM (aa 5 rfl) T.aC T.na_Track_stroke_count) (aj (gM (aa 6 rfl) T.aC T.na_Track_reaches) (aj (gM (aa 7 rfl) T.aC T.na_Track_touches) (av (gM (aa 8 rfl) T.aC T.na_Track_crosses))))))))⟩
theorem Mt (T:Txt K mg t):MF P w K mg base CX 1 t.ay "many" 1 (Dr t fun x=>.int x.many):=by
 refine⟨T.aC,_,_,_,gx T.xI uW rfl fun cS A outer s H E G ds r hr hl hR=>?_,T.mq,T.xJ⟩
 obtain⟨six,x,rfl,rfl⟩:=hR
 exact⟨_,.rt _,av (aV (aP (fs:=t.iH six x) (aa 0 rfl) T.aC T.na_Track_deed_count rfl))⟩
theorem Mu (T:Txt K mg t):MF P w K mg base CX 1 t.ay "turn" 1 (Dr t fun x=>.int x.turn):=by
 refine⟨T.aC,_,_,_,gx T.xK uX rfl fun cS A outer s H E G ds r hr hl hR=>?_,T.mv,T.xM⟩
 obtain⟨six,x,rfl,rfl⟩:=hR
 exact⟨_,.rt _,av (aV (aP (fs:=t.iH six x) (aa 0 rfl) T.aC T.na_Track_last_way rfl))⟩
theorem BU (T:Txt K mg t):MF P w K mg base CX 1 t.ay "strokes" 1 (Dr t fun x=>.int x.eE):=by
 refine⟨T.aC,_,_,_,gx T.qL pN rfl fun cS A outer s H E G ds r hr hl hR=>?_,T.j0,T.qM⟩
 obtain⟨six,x,rfl,rfl⟩:=hR
 exact⟨_,.rt _,av (aV (aP (fs:=t.iH six x) (aa 0 rfl) T.aC T.na_Track_stroke_count rfl))⟩
theorem Mv (T:Txt K mg t):MF P w K mg base CX 1 t.ay "area" 1 (Dr t fun x=>.int x.kR):=by
 refine⟨T.aC,_,_,_,gx T.xN u5 rfl fun cS A outer s H E G ds r hr hl hR=>?_,T.mw,T.xO⟩
 obtain⟨six,x,rfl,rfl⟩:=hR
 exact⟨_,.rt _,av (aV (aP (fs:=t.iH six x) (aa 0 rfl) T.aC T.na_Track_crosses rfl))⟩
theorem Aa (T:Txt K mg t):gu P w K mg base CX 4 t.cA t.gh ["self","first"] (CB K 2 (x8 t)):=by
 refine fnG T.vc sX rfl fun cS A outer s H E G ds r hr hl hR=>?_
 obtain⟨six,x,f,rfl,rfl⟩:=hR
 have h1:=vZ (P:=P) (w:=w) (base:=base) T six
 exact⟨_,.rt _,av (aV (cE (iI (aP (fs:=t.iH six x) (aa 0 rfl) T.aC T.na_Track_drawer rfl)) h1 aF hr (ae (uh T.hK (aP (fs:=t.iH six x) (aa 0 rfl) T.aC T.na_Track_last_spot rfl)) (ae (aa 1 rfl) ao)) ⟨_,_,rfl,rfl⟩))⟩
theorem rep0 {K:PySem.W.Frag}:∀ H,bY K H [.int 0] [.int 0]:=fun _=>.cons (.int 0) .nil
theorem Io (T:Txt K mg t):Fe P w K mg base CX 4 t.ay "shift" 2 [] (x8 t):=⟨T.aC,_,_,_,[],[],Aa T,T.gC,T.vd,.nil,fun _=>.nil⟩
theorem EN (T:Txt K mg t):Fe P w K mg base CX 4 t.ay "shift" 2 [.int 0] (x8 t):=⟨T.aC,_,_,_,_,[.int 0],Aa T,T.gC,T.tR,.cons ⟨_,rfl⟩ .nil,rep0⟩
abbrev BV:Scope:=Uu ((ai bh).getD 0 (.Pass ⟨0,0,0,0⟩))
theorem BW:sL BV (af bh) kl ["way","self","numbers","first"] [0,1,2] "way"=true:=by decide +kernel
theorem rO {ns:List Int}{k:Int}(h0:0≤k)(h1:k < ns.length):jO (ns.map Dt.int) k=some (.int (ns.getD k.toNat 0)):=by
 obtain⟨n,rfl⟩:=Int.eq_ofNat_of_zero_le h0
 refine iP ?_
 have h:n < ns.length:=by omega
 rw[List.getElem?_map,List.getElem?_eq_getElem h,Int.toNat_natCast,List.getD_eq_getElem?_getD,List.getElem?_eq_getElem h];rfl
theorem uk {ns:List Int}{k:Int}(h0:0≤k)(h1:k < ns.length):jO ns k=some (ns.getD k.toNat 0):=by
 obtain⟨n,rfl⟩:=Int.eq_ofNat_of_zero_le h0
 refine iP ?_
 have h:n < ns.length:=by omega
 rw[List.getElem?_eq_getElem h,Int.toNat_natCast,List.getD_eq_getElem?_getD,List.getElem?_eq_getElem h];rfl
theorem l3 {f:Nat→Int}{n k:Nat}(h:k < n):(((List.range n).map f).map Dt.int).getD k .dQ=.int (f k):=by
 rw[List.getD_eq_getElem?_getD,List.getElem?_map,List.getElem?_map,List.getElem?_range h];rfl
theorem um (T:Txt K mg t):MF P w K mg base CX 3 t.ay "by_ways" 3 (ZW t):=by
 refine⟨T.aC,_,_,_,gx T.qN pO rfl fun cS A outer s H E G ds r hr hl hR=>?_,T.j4,T.qO⟩
 obtain⟨six,x,ns,f,rfl,hn,rfl⟩:=hR
 have h1:=jH (P:=P) (w:=w) (base:=base) T six
 have hw:=qm six
 have hw6:wn six≤6:=by cases six <;> decide
 have Sx:ns.length=wn six:=hn
 refine⟨_,.ro _,av (iR (Ur (N:=["way","self","numbers","first"]) (ix:=[0,1,2]) rfl (Bd BW) (o5 rfl T.z_range (ae (rA T.z_len (aa 1 rfl)) ao)) (sG ?_) (fun k hk C fp s' H' G'=>?_) ?_ ?_))⟩
 . omega
 . rw[Int.toNat_natCast,Sx] at hk
   have e:((ke six ns f).map Dt.int).getD k .dQ=.int (ns.getD (((k:Int) - f) % wy six).toNat 0):=l3 hk
   rw[e]
   have Pa:=Int.emod_nonneg ((k:Int) - f) (Int.ne_of_gt (fJ six))
   have hm1:=Int.emod_lt_of_pos ((k:Int) - f) (fJ six)
   exact pA (aa 2 rfl) (cE (iI (aP (fs:=t.iH six x) (aa 1 rfl) T.aC T.na_Track_drawer rfl)) h1 aF hr (ae (eD (aa 0 rfl) (aa 3 rfl)) ao) ⟨_,rfl,rfl⟩) (uk Pa (by omega))
 . rw[List.length_map,Int.toNat_natCast,Sx]
   unfold ke
   simp
 . rw[Int.toNat_natCast]
   exact Nat.le_of_lt (pj (by omega))
end
section
variable {P:Program}{w:World}{K:PySem.W.Frag}{mg:Str→Option Value}{base:Heap}{t:df}
theorem Ab (T:Txt K mg t):gu P w K mg base CX 4 t.cB t.gi ["self","first"] (CB K 2 (x9 t)):=by
 refine fnG T.vf sY rfl fun cS A outer s H E G ds r hr hl hR=>?_
 obtain⟨six,x,f,rfl,hw,rfl⟩:=hR
 have h1:=Pm (um (P:=P) (w:=w) (base:=base) T)
 exact⟨_,.ro _,av (iR (sJ (fs:=t.iH six x) (aa 0 rfl) h1 aF hr (ae (nh (aP (fs:=t.iH six x) (aa 0 rfl) T.aC T.na_Track_reaches rfl)) (ae (aa 1 rfl) ao)) ⟨six,x,_,_,rfl,hw.rl,rfl⟩))⟩
theorem Ac (T:Txt K mg t):gu P w K mg base CX 4 t.cC t.gj ["self","first"] (CB K 2 (ya t)):=by
 refine fnG T.vh sZ rfl fun cS A outer s H E G ds r hr hl hR=>?_
 obtain⟨six,x,f,rfl,hw,rfl⟩:=hR
 have h1:=Pm (um (P:=P) (w:=w) (base:=base) T)
 exact⟨_,.ro _,av (iR (sJ (fs:=t.iH six x) (aa 0 rfl) h1 aF hr (ae (nh (aP (fs:=t.iH six x) (aa 0 rfl) T.aC T.na_Track_touches rfl)) (ae (aa 1 rfl) ao)) ⟨six,x,_,_,rfl,hw.tl,rfl⟩))⟩
theorem Ad (T:Txt K mg t):Fe P w K mg base CX 4 t.ay "reach" 2 [] (x9 t):=⟨T.aC,_,_,_,[],[],Ab T,T.gD,T.vg,.nil,fun _=>.nil⟩
theorem Ae (T:Txt K mg t):Fe P w K mg base CX 4 t.ay "touch" 2 [] (ya t):=⟨T.aC,_,_,_,[],[],Ac T,T.gF,T.vi,.nil,fun _=>.nil⟩
theorem ER (T:Txt K mg t):Fe P w K mg base CX 4 t.ay "reach" 2 [.int 0] (x9 t):=⟨T.aC,_,_,_,_,[.int 0],Ab T,T.gD,T.tS,.cons ⟨_,rfl⟩ .nil,rep0⟩
theorem ET (T:Txt K mg t):Fe P w K mg base CX 4 t.ay "touch" 2 [.int 0] (ya t):=⟨T.aC,_,_,_,_,[.int 0],Ac T,T.gF,T.tT,.cons ⟨_,rfl⟩ .nil,rep0⟩
theorem Af (T:Txt K mg t):GF P w K mg base CX 3 "still" 1 (Ms t):=by
 refine⟨_,_,_,gx T.LD Hr rfl fun cS A outer s H E G ds r hr hl hR=>?_,T.LH,T.LF,T.LG⟩
 obtain⟨six,rfl,rfl⟩:=hR
 have h1:=rM (P:=P) (w:=w) (base:=base) T six
 have h2:=yb (P:=P) (w:=w) (base:=base) T
 have e:∀ {X:Cx} {G:Gr} {dl:List Slot} {e:Expr},EO X G dl e (.lst (List.replicate (wy six).toNat [Dt.int 0]).flatten)→EE X G dl e (.fD (.lst (List.replicate (wn six) (0:Int)))):=fun h=>by
   refine Qn (Gi h ?_)
   cases six <;> rfl
 have hb:-(2 ^ 63)≤wy six∧wy six < 2 ^ 63∧[Dt.int 0].length * (wy six).toNat≤sizeLine:=by cases six <;> decide
 exact⟨_,.rt _,av (aV (BQ (rB h2 aF hr (ae (aa 0 rfl) (ae ar (ae ar (ae (BR (p:=(0,0)) T.hK (d8 (ae ar (ae ar ao)) (Nat.le_of_ble_eq_true rfl))) (ae ar
   (ae (e (Gj (F4 (ae ar ao) (Nat.le_of_ble_eq_true rfl)) (d9 (iI (aa 0 rfl)) h1 aF hr ⟨rfl,rfl⟩) hb.1 hb.2.1 hb.2.2)) (ae (e (Gj (F4 (ae ar ao) (Nat.le_of_ble_eq_true rfl)) (d9 (iI (aa 0 rfl)) h1 aF hr ⟨rfl,rfl⟩) hb.1 hb.2.1 hb.2.2)) (ae ar ao)))))))) ⟨six,AF six,rfl,rfl⟩)))⟩
abbrev RH:Scope:=Uu ((ai aS).getD 2 (.Pass ⟨0,0,0,0⟩))
abbrev RI:Scope:=Uu ((ai aS).getD 3 (.Pass ⟨0,0,0,0⟩))
theorem RJ:sL RH (af aS) gS ["way","pen","spot"] [0,3] "way"=true:=by decide +kernel
theorem RK:sL RI (af aS) gS ["reach"] [] "reach"=true:=by decide +kernel
def kf (six:Bool)(d:Str)(w:Nat):Int:=if gX six w (rN six d (0,0) 0).1 > 0 then gX six w (rN six d (0,0) 0).1 else 0
theorem BX (T:Txt K mg t):GF P w K mg base CX 6 "track_of_deed" 2 (EM t):=by
 refine⟨_,_,_,gx T.qP jx rfl fun cS A outer s H E G ds r hr hl hR=>?_,T.qS,T.qQ,T.qR⟩
 obtain⟨six,d,rfl,hd,rfl⟩:=hR
 have h1:=rM (P:=P) (w:=w) (base:=base) T six
 have h2:=yb (P:=P) (w:=w) (base:=base) T
 have h3:=Ij (P:=P) (w:=w) (base:=base) T six
 have h4:=z8 (P:=P) (w:=w) (base:=base) T six
 have hw:=qm six
 have hw6:wn six≤6:=by cases six <;> decide
 have ZX:(wy six).toNat=wn six:=by omega
 have nd:=jx.nd
 refine⟨_,.rt _,aj (aE 2 nd (cE (iI (aa 0 rfl)) h3 aF hr (ae (aa 1 rfl) (ae (d8 (ae ar (ae ar ao)) (Nat.le_of_ble_eq_true rfl)) (ae ar ao))) ⟨d,(0,0),0,rfl,hd,rfl⟩)) (aj (aE 3 nd (bV (aa 2 rfl) ar rfl))
   (aj (Np (ys:=((List.range (wn six)).map (kf six d)).map .int) 4 (N:=["way","pen","spot"]) (ix:=[0,3]) rfl nd (Bd RJ) (o5 rfl T.z_range (ae (d9 (iI (aa 0 rfl)) h1 aF hr ⟨rfl,rfl⟩) ao)) (sG ?_) (fun k hk C fp s' H' G'=>?_) ?_ ?_)
   (rH (ns:=(List.range (wn six)).map (kf six d)) 4 (aj (Np (ys:=((List.range (wn six)).map (fun k=>if kf six d k < 1 then kf six d k else 1)).map .int) 5 (N:=["reach"]) (ix:=[]) rfl nd (Bd RK) (iN (nh (aa 4 rfl))) La (fun k hk C fp s' H' G'=>?_) ?_ ?_)
   (rH (ns:=(List.range (wn six)).map fun k=>if kf six d k < 1 then kf six d k else 1) 5 (av (aV (BQ (rB h2 aF hr (ae (aa 0 rfl) (ae ar (ae (bV (aa 2 rfl) ar rfl) (ae (BR T.hK (aa 3 rfl)) (ae (bP (d:=.int (if d="stroke" then 1 else 0)) ?_ rfl) (ae (aa 4 rfl) (ae (aa 5 rfl) (ae ar ao)))))))) ⟨six,one six d,rfl,rfl⟩)))))))))⟩
 . omega
 . rw[ZX] at hk
   rw[l3 hk]
   exact wQ T.z_max rfl (ae ar (ae (cE (iI (aa 1 rfl)) h4 aF hr (ae (aa 0 rfl) (ae (aa 2 rfl) ao)) ⟨_,_,rfl,⟨by omega,by omega⟩,rfl⟩) ao))
 . rw[List.length_map,List.length_map,List.length_range,ZX]
 . rw[ZX];exact Nat.le_of_lt (pj (by omega))
 . rw[List.length_map,List.length_range] at hk
   rw[show(((List.range (wn six)).map (fun k=>if kf six d k < 1 then kf six d k else 1)).map Dt.int).getD k .dQ=.int (if kf six d k < 1 then kf six d k else 1) from l3 hk]
   have e:((List.map (kf six d) (List.range (wn six))).map Dt.int).getD k .dQ=.int (kf six d k):=l3 hk
   refine Gk (i:=1) (j:=kf six d k) T.z_min rfl (ae ar (ae ?_ ao))
   rw[← e]
   exact aa 0 rfl
 . simp
 . rw[List.length_map,List.length_range];exact Nat.le_of_lt (pj (by omega))
 . exact O7 (m5 (aa 1 rfl) eJ) (fun h=>bP ar (by rw[if_pos (of_decide_eq_true h)])) (fun h=>bP ar (by rw[if_neg (of_decide_eq_false h)]))
end
theorem rP {f g:Nat→Int}{n k:Nat}(h:k < n):((List.range n).map fun w=>if w < k then f w else g w).set k (f k)=(List.range n).map fun w=>if w < k+1 then f w else g w:=by
 refine List.ext_getElem? fun i=>?_
 by_cases hi:i < n
 . by_cases e:k=i
   . subst e
     rw[List.getElem?_set_self (by simp;exact h),List.getElem?_map,List.getElem?_range h]
     simp
   . rw[List.getElem?_set_ne e,List.getElem?_map,List.getElem?_map,List.getElem?_range hi]
     have:(i < k+1) ↔ (i < k):=by omega
     simp[this]
 . rw[List.getElem?_eq_none (by simp;omega),List.getElem?_eq_none (by simp;omega)]
theorem NP {f g:Nat→Int}{n:Nat}:((List.range n).map fun w=>if w < 0 then f w else g w)=(List.range n).map g:=by simp
theorem NQ {f g:Nat→Int}{n:Nat}:((List.range n).map fun w=>if w < n then f w else g w)=(List.range n).map f:=by
 refine List.map_congr_left fun i hi=>?_
 rw[if_pos (List.mem_range.mp hi)]
theorem oV {l:List Int}{k:Nat}{z:Int}:(l.map Dt.int).set k (.int z)=(l.set k z).map Dt.int:=by rw[List.map_set]
theorem Ds (six:Bool)(ns:List Int)(f:Int):(List.range (wn six)).map (fun w=>(ke six ns f).getD w 0)=ke six ns f:=by
 refine List.ext_getElem? fun i=>?_
 by_cases hi:i < wn six
 . rw[List.getElem?_map,List.getElem?_range hi]
   have hl:i < (ke six ns f).length:=by unfold ke;simpa using hi
   rw[List.getElem?_eq_getElem hl]
   simp[List.getD_eq_getElem?_getD,hl]
 . rw[List.getElem?_eq_none (by simp;omega),List.getElem?_eq_none (by unfold ke;simp;omega)]
theorem Mw {n k:Nat}(h:k < n):AY n (k:Int)=some k:=by
 unfold AY
 simp[h]
theorem ZY {six:Bool}{b:Int}{p:Int×Int}(h:p.1.natAbs < 2 ^ 990∧p.2.natAbs < 2 ^ 990):sm (tn six (b % wy six).toNat p):=by
 obtain⟨x,y⟩:=p
 obtain⟨h1,h2⟩:=h
 simp only at h1 h2
 unfold sm
 cases six with
 | false=>
   have e:wy false=4:=rfl
   rw[e]
   have h:b % 4=0∨b % 4=1∨b % 4=2∨b % 4=3:=by omega
   rcases h with h | h | h | h <;> rw[h] <;> simp[tn,Pf.tl] <;> omega
 | true=>
   have e:wy true=6:=rfl
   rw[e]
   have h:b % 6=0∨b % 6=1∨b % 6=2∨b % 6=3∨b % 6=4∨b % 6=5:=by omega
   rcases h with h | h | h | h | h | h <;> rw[h] <;> simp[tn,Pf.tl] <;> omega
section
variable {P:Program}{w:World}{K:PySem.W.Frag}{mg:Str→Option Value}{base:Heap}{t:df}
theorem v3 (T:Txt K mg t):MF P w K mg base CX 5 t.ay "joined" 2 (Im t):=by
 refine⟨T.aC,_,_,_,gx T.tU km rfl fun cS A outer s H E G ds r hr hl hR=>?_,T.kP,T.tV⟩
 obtain⟨six,x,y,rfl,⟨wx,wy'⟩,rfl⟩:=hR
 have rQ:=Io (P:=P) (w:=w) (base:=base) T
 have yc:=Ad (P:=P) (w:=w) (base:=base) T
 have yd:=Ae (P:=P) (w:=w) (base:=base) T
 have RL:=rM (P:=P) (w:=w) (base:=base) T six
 have rK:=z8 (P:=P) (w:=w) (base:=base) T six
 have oT:=jH (P:=P) (w:=w) (base:=base) T six
 have RN:=Mt (P:=P) (w:=w) (base:=base) T
 have RO:=Mu (P:=P) (w:=w) (base:=base) T
 have EU:=BU (P:=P) (w:=w) (base:=base) T
 have RP:=Mv (P:=P) (w:=w) (base:=base) T
 have Mx:=z9 (P:=P) (w:=w) (base:=base) T
 have My:=Il (P:=P) (w:=w) (base:=base) T
 have RS:=yb (P:=P) (w:=w) (base:=base) T
 have hw:=qm six
 have ZX:(wy six).toNat=wn six:=by omega
 have hw6:wn six≤6:=by cases six <;> decide
 have nd:=km.nd
 let S:Nat→List Slot:=fun k=>[.val (t.Dq six x),.val (t.Dq six y),.val (.fD (.obj (t.pc six) [])),.val (sp (tn six (x.turn % wy six).toNat y.shift)),
   .own (.lst (((List.range (wn six)).map fun w=>if w < k then vq six x y w else (ke six y.reach x.turn).getD w 0).map .int)),
   .own (.lst (((List.range (wn six)).map fun w=>if w < k then x6 six x y w else (ke six y.cK x.turn).getD w 0).map .int)),.bE]
 have e0:S 0=[.val (t.Dq six x),.val (t.Dq six y),.val (.fD (.obj (t.pc six) [])),.val (sp (tn six (x.turn % wy six).toNat y.shift)),.own (.lst ((ke six y.reach x.turn).map .int)),.own (.lst ((ke six y.cK x.turn).map .int)),.bE]:=by
   show [_,_,_,_,Slot.own (.lst (((List.range (wn six)).map fun w=>if w < 0 then _ else _).map .int)),Slot.own (.lst (((List.range (wn six)).map fun w=>if w < 0 then _ else _).map .int)),_]=_
   rw[NP,NP,Ds,Ds]
 have en:S (wn six)=[.val (t.Dq six x),.val (t.Dq six y),.val (.fD (.obj (t.pc six) [])),.val (sp (tn six (x.turn % wy six).toNat y.shift)),.own (.lst ((jn six x y).reach.map .int)),.own (.lst ((jn six x y).cK.map .int)),.bE]:=by
   show [_,_,_,_,Slot.own (.lst (((List.range (wn six)).map fun w=>if w < wn six then _ else _).map .int)),Slot.own (.lst (((List.range (wn six)).map fun w=>if w < wn six then _ else _).map .int)),_]=_
   rw[NQ,NQ];rfl
 refine⟨_,.rt _,aj (aE 2 nd (aP (fs:=t.iH six x) (aa 0 rfl) T.aC T.na_Track_drawer rfl))
   (aj (aE 3 nd (Gv (fs:=t.iH six y) (aa 1 rfl) rQ aF hr (ae (aP (fs:=t.iH six x) (aa 0 rfl) T.aC T.na_Track_last_way rfl) ao) ⟨six,y,_,rfl,rfl⟩))
   (aj (ib 4 nd (sJ (fs:=t.iH six y) (aa 1 rfl) yc aF hr (ae (aP (fs:=t.iH six x) (aa 0 rfl) T.aC T.na_Track_last_way rfl) ao) ⟨six,y,_,rfl,wy',rfl⟩))
   (aj (ib 5 nd (sJ (fs:=t.iH six y) (aa 1 rfl) yd aF hr (ae (aP (fs:=t.iH six x) (aa 0 rfl) T.aC T.na_Track_last_way rfl) ao) ⟨six,y,_,rfl,wy',rfl⟩))
   (aj (ip (m:=wn six) 6 S nd rfl PassesOwn.leaving T.z_range (ae (d9 (iI (aa 2 rfl)) RL aF hr ⟨rfl,rfl⟩) ao) ⟨by omega,by omega⟩ (by rw[e0];exact Le.of ⟨rfl,rfl,rfl,rfl,rfl,rfl,trivial⟩) (by omega) (fun k hk=>?_) (by rw[ZX];exact .all rfl))
   ?_))))⟩
 . have hk':k < ((List.range (wn six)).map fun w=>if w < k then vq six x y w else (ke six y.reach x.turn).getD w 0).length:=by simpa using hk
   have akL:k < ((List.range (wn six)).map fun w=>if w < k then x6 six x y w else (ke six y.cK x.turn).getD w 0).length:=by simpa using hk
   have ga:∀ (f g:Nat→Int) (z:Int),jO ((((List.range (wn six)).map fun w=>if w < k then f w else g w)).map Dt.int) (k:Int)=some (.int (g k)):=fun f g z=>by
     refine iP ?_
     rw[List.getElem?_map,List.getElem?_map,List.getElem?_range hk]
     simp
   have gs:∀ (l:List Int) (z:Int),l.length=wn six→jO ((l.map Dt.int).set k (.int z)) (k:Int)=some (.int z):=fun l z hl=>by
     refine iP ?_
     rw[List.getElem?_set_self (by simp;omega)]
   have ix:∀ (l:List Dt),l.length=wn six→AY l.length (k:Int)=some k:=fun l hl=>Mw (by omega)
   have xr:jO x.reach (k:Int)=some (x.reach.getD k 0):=by
     have:=uk (ns:=x.reach) (k:=k) (by omega) (by rw[wx.rl];omega)
     simpa using this
   have xt:jO x.cK (k:Int)=some (x.cK.getD k 0):=by
     have:=uk (ns:=x.cK) (k:=k) (by omega) (by rw[wx.tl];omega)
     simpa using this
   have lA:(((List.range (wn six)).map fun w=>if w < k then vq six x y w else (ke six y.reach x.turn).getD w 0).map Dt.int).length=wn six:=by simp
   have lB:(((List.range (wn six)).map fun w=>if w < k then x6 six x y w else (ke six y.cK x.turn).getD w 0).map Dt.int).length=wn six:=by simp
   have lA0:((List.range (wn six)).map fun w=>if w < k then vq six x y w else (ke six y.reach x.turn).getD w 0).length=wn six:=by simp
   have iA:=ix _ lA
   have iB:=ix _ lB
   have iA':∀ z,AY (List.length (List.set (((List.range (wn six)).map fun w=>if w < k then vq six x y w else (ke six y.reach x.turn).getD w 0).map Dt.int) k z)) (k:Int)=some k:=fun z=>ix _ (by rw[List.length_set];exact lA)
   have iB':∀ z,AY (List.length (List.set (((List.range (wn six)).map fun w=>if w < k then x6 six x y w else (ke six y.cK x.turn).getD w 0).map Dt.int) k z)) (k:Int)=some k:=fun z=>ix _ (by rw[List.length_set];exact lB)
   by_cases c:(ke six y.reach x.turn).getD k 0+gX six k x.shift≤x.reach.getD k 0
   . have eR:vq six x y k=x.reach.getD k 0:=if_pos c
     have eT:x6 six x y k=x.cK.getD k 0:=if_pos c
     refine .nx (aj (jq (m:=k) 4 (bu (pC 4 (aa 6 rfl) (ga _ _ 0)) (cE (iI (aa 2 rfl)) rK aF hr (ae (aa 6 rfl) (ae (uh T.hK (aP (fs:=t.iH six x) (aa 0 rfl) T.aC T.na_Track_last_spot rfl)) ao)) ⟨_,_,rfl,⟨by omega,by omega⟩,rfl⟩)) (aa 6 rfl) iA)
       (aj (jq (m:=k) 5 (bu (pC 5 (aa 6 rfl) (ga _ _ 0)) (aP (fs:=t.iH six x) (aa 0 rfl) T.aC T.na_Track_deed_count rfl)) (aa 6 rfl) iB)
       (av (dm (Ga (pA (nh (aP (fs:=t.iH six x) (aa 0 rfl) T.aC T.na_Track_reaches rfl)) (aa 6 rfl) xr) (pC 4 (aa 6 rfl) (gs _ _ lA0)))
         (fun h=>aj (jq (m:=k) 4 (pA (nh (aP (fs:=t.iH six x) (aa 0 rfl) T.aC T.na_Track_reaches rfl)) (aa 6 rfl) xr) (aa 6 rfl) (iA' _))
           (av (jq (m:=k) 5 (pA (nh (aP (fs:=t.iH six x) (aa 0 rfl) T.aC T.na_Track_touches rfl)) (aa 6 rfl) xt) (aa 6 rfl) (iB' _))))
         (fun h=>absurd c (of_decide_eq_false h)))))) (Le.of ⟨rfl,rfl,rfl,rfl,?_,?_,trivial⟩)
     . rw[List.set_set,oV,← eR,rP hk]
     . rw[List.set_set,oV,← eT,rP hk]
   . have eR:vq six x y k=(ke six y.reach x.turn).getD k 0+gX six k x.shift:=if_neg c
     have eT:x6 six x y k=(ke six y.cK x.turn).getD k 0+x.many:=if_neg c
     refine .nx (aj (jq (m:=k) 4 (bu (pC 4 (aa 6 rfl) (ga _ _ 0)) (cE (iI (aa 2 rfl)) rK aF hr (ae (aa 6 rfl) (ae (uh T.hK (aP (fs:=t.iH six x) (aa 0 rfl) T.aC T.na_Track_last_spot rfl)) ao)) ⟨_,_,rfl,⟨by omega,by omega⟩,rfl⟩)) (aa 6 rfl) iA)
       (aj (jq (m:=k) 5 (bu (pC 5 (aa 6 rfl) (ga _ _ 0)) (aP (fs:=t.iH six x) (aa 0 rfl) T.aC T.na_Track_deed_count rfl)) (aa 6 rfl) iB)
       (av (dm (Ga (pA (nh (aP (fs:=t.iH six x) (aa 0 rfl) T.aC T.na_Track_reaches rfl)) (aa 6 rfl) xr) (pC 4 (aa 6 rfl) (gs _ _ lA0)))
         (fun h=>absurd (of_decide_eq_true h) c)
         (fun h=>dk))))) (Le.of ⟨rfl,rfl,rfl,rfl,?_,?_,trivial⟩)
     . rw[oV,← eR,rP hk]
     . rw[oV,← eT,rP hk]
 . rw[en]
   exact rH (ns:=(jn six x y).reach) 4 (rH (ns:=(jn six x y).cK) 5 (av (aV (BQ (rB RS aF hr (ae (aa 2 rfl) (ae (bu (aP (fs:=t.iH six x) (aa 0 rfl) T.aC T.na_Track_deed_count rfl) (d9 (fs:=t.iH six y) (aa 1 rfl) RN aF hr ⟨six,y,rfl,rfl⟩))
     (ae (cE (iI (aa 2 rfl)) oT aF hr (ae (bu (aP (fs:=t.iH six x) (aa 0 rfl) T.aC T.na_Track_last_way rfl) (d9 (fs:=t.iH six y) (aa 1 rfl) RO aF hr ⟨six,y,rfl,rfl⟩)) ao) ⟨_,rfl,rfl⟩)
     (ae (BR T.hK (cR Mx aF hr (ae (uh T.hK (aP (fs:=t.iH six x) (aa 0 rfl) T.aC T.na_Track_last_spot rfl)) (ae (aa 3 rfl) ao)) ⟨_,_,rfl,rfl⟩))
     (ae (bu (aP (fs:=t.iH six x) (aa 0 rfl) T.aC T.na_Track_stroke_count rfl) (d9 (fs:=t.iH six y) (aa 1 rfl) EU aF hr ⟨six,y,rfl,rfl⟩))
     (ae (aa 4 rfl) (ae (aa 5 rfl) (ae (bu (bu (aP (fs:=t.iH six x) (aa 0 rfl) T.aC T.na_Track_crosses rfl) (d9 (fs:=t.iH six y) (aa 1 rfl) RP aF hr ⟨six,y,rfl,rfl⟩))
       (cR My aF hr (ae (uh T.hK (aP (fs:=t.iH six x) (aa 0 rfl) T.aC T.na_Track_last_spot rfl)) (ae (aa 3 rfl) ao)) ⟨_,_,rfl,⟨⟨by have:=wx.sm;omega,by have:=wx.sm;omega⟩,ZY wy'.sm⟩,rfl⟩)) ao)))))))) ⟨six,jn six x y,rfl,rfl⟩)))))
end
theorem iJ (six:Bool)(xs:List Str)(d:Str):cL six (xs ++ [d])=jn six (cL six xs) (one six d):=by
 unfold cL
 rw[List.foldl_append];rfl
theorem rR (six:Bool):∀ n:Nat,tn six n (0,0)=(0,0)
 | 0=>rfl
 | n+1=>by rw[tn,rR six n];cases six <;> rfl
theorem Ag (six:Bool)(d:Str):(rN six d (0,0) 0).1=if d∈NO then (1,0) else (0,0):=by
 have e:tn six ((0:Int) % wy six).toNat (1,0)=(1,0):=by cases six <;> rfl
 unfold rN
 show(if d∈NO then ad (0,0) (tn six ((0:Int) % wy six).toNat (1,0)) else (0,0))=_
 rw[e];rfl
theorem Mz (six:Bool)(b:Int):(tn six (b % wy six).toNat (1,0)).1.natAbs≤1∧(tn six (b % wy six).toNat (1,0)).2.natAbs≤1:=by
 cases six with
 | false=>
   have e:wy false=4:=rfl
   rw[e]
   have h:b % 4=0∨b % 4=1∨b % 4=2∨b % 4=3:=by omega
   rcases h with h | h | h | h <;> rw[h] <;> decide
 | true=>
   have e:wy true=6:=rfl
   rw[e]
   have h:b % 6=0∨b % 6=1∨b % 6=2∨b % 6=3∨b % 6=4∨b % 6=5:=by omega
   rcases h with h | h | h | h | h | h <;> rw[h] <;> decide
theorem MA (six:Bool)(x:Tr)(d:Str):(jn six x (one six d)).shift.1.natAbs≤x.shift.1.natAbs+1∧(jn six x (one six d)).shift.2.natAbs≤x.shift.2.natAbs+1:=by
 show(x.shift.1+(tn six (x.turn % wy six).toNat (rN six d (0,0) 0).1).1).natAbs≤_∧(x.shift.2+(tn six (x.turn % wy six).toNat (rN six d (0,0) 0).1).2).natAbs≤_
 rw[Ag]
 by_cases c:d∈NO
 . rw[if_pos c]
   have:=Mz six x.turn
   omega
 . rw[if_neg c,rR]
   simp
theorem RT (six:Bool)(d:Str):WF six (one six d):=⟨by unfold one;simp,by unfold one;simp,by
 show(rN six d (0,0) 0).1.1.natAbs < _∧(rN six d (0,0) 0).1.2.natAbs < _
 rw[Ag]
 by_cases c:d∈NO
 . rw[if_pos c];decide
 . rw[if_neg c];decide⟩
theorem RU (six:Bool):WF six (AF six):=⟨by unfold AF;simp,by unfold AF;simp,by show(0:Int).natAbs < _∧(0:Int).natAbs < _;decide⟩
theorem Ip (six:Bool):∀ (n:Nat) (xs:List Str),xs.length=n→(cL six xs).shift.1.natAbs≤n∧(cL six xs).shift.2.natAbs≤n∧(cL six xs).reach.length=wn six∧(cL six xs).cK.length=wn six:=by
 intro n
 induction n with
 | zero=>
   intro xs h
   have e:xs=[]:=List.eq_nil_of_length_eq_zero h
   subst e
   have w:=RU six
   exact⟨Nat.le_refl _,Nat.le_refl _,w.rl,w.tl⟩
 | succ n ih=>
   intro xs h
   have AG:xs≠[]:=fun e=>by rw[e] at h;cases h
   have e:=List.dropLast_concat_getLast AG
   have hl:xs.dropLast.length=n:=by rw[List.length_dropLast];omega
   obtain⟨h1,h2,h3,h4⟩:=ih _ hl
   rw[← e,iJ]
   obtain⟨q1,q2⟩:=MA six (cL six xs.dropLast) (xs.getLast AG)
   refine⟨by omega,by omega,?_,?_⟩
   . unfold jn;simp
   . unfold jn;simp
theorem rS (six:Bool){xs:List Str}(h:xs.length < 2 ^ 990):WF six (cL six xs):=by
 obtain⟨h1,h2,h3,h4⟩:=Ip six _ xs rfl
 exact⟨h3,h4,Nat.lt_of_le_of_lt h1 h,Nat.lt_of_le_of_lt h2 h⟩
theorem RV (six:Bool){xs:List Str}(h:xs.length≤100000):WF six (cL six xs):=rS six (Nat.lt_of_le_of_lt h (Nat.lt_of_lt_of_le (show 100000 < 2 ^ 20 by decide) (Nat.pow_le_pow_right (by decide) (by decide))))
section
variable {P:Program}{w:World}{K:PySem.W.Frag}{mg:Str→Option Value}{base:Heap}{t:df}
theorem Ah (T:Txt K mg t):GF P w K mg base CX 7 "track_of" 2 (BS t):=by
 refine⟨_,_,_,gx T.BC qg rfl fun cS A outer s H E G ds r hr hl hR=>?_,T.BF,T.BD,T.BE⟩
 obtain⟨six,xs,rfl,hd,hn,rfl⟩:=hR
 have ye:=Af (P:=P) (w:=w) (base:=base) T
 have ZZ:=BX (P:=P) (w:=w) (base:=base) T
 have uo:=v3 (P:=P) (w:=w) (base:=base) T
 have nd:=qg.nd
 let S:Nat→List Slot:=fun k=>[.val (.fD (.obj (t.pc six) [])),.val (.lst (xs.map .str)),.val (t.l2 six (cL six (xs.take k))),.bE]
 have en:S (xs.map Dt.str).length=[.val (.fD (.obj (t.pc six) [])),.val (.lst (xs.map .str)),.val (t.l2 six (cL six xs)),.bE]:=by
   show [_,_,Slot.val (t.l2 six (cL six (xs.take (xs.map Dt.str).length))),_]=_
   rw[List.length_map,List.take_length]
 refine⟨_,.rt _,aj (aE 2 nd (cR ye aF hr (ae (aa 0 rfl) ao) ⟨six,rfl,rfl⟩))
   (aj (CA (m:=(xs.map Dt.str).length) 3 S nd rfl PassesOwn.leaving (aa 1 rfl) (Le.of ⟨rfl,rfl,rfl,trivial⟩) (Nat.le_refl _) (fun k z hk hz=>?_) (.all rfl)) ?_)⟩
 . rw[List.length_map] at hk
   rw[List.getElem?_map,List.getElem?_eq_getElem hk] at hz
   cases hz
   have hm:xs[k]∈xs:=List.getElem_mem hk
   have e:cL six (xs.take (k+1))=jn six (cL six (xs.take k)) (one six xs[k]):=by
     rw[List.take_add_one,List.getElem?_eq_getElem hk]
     exact iJ _ _ _
   have hl:(xs.take k).length≤100000:=by rw[List.length_take];omega
   refine .nx (av (aE 2 nd (cE (fs:=t.iH six (cL six (xs.take k))) (jh (aa 2 rfl)) uo aF hr (ae (jh (cR ZZ aF hr (ae (aa 0 rfl) (ae (aa 3 rfl) ao)) ⟨six,xs[k],rfl,hd _ hm,rfl⟩)) ao) ⟨six,_,one six xs[k],rfl,⟨RV six hl,RT six _⟩,rfl⟩))) (Le.of ⟨rfl,rfl,?_,trivial⟩)
   show Slot.val (t.l2 six (cL six (xs.take (k+1))))=_
   rw[e]
 . rw[en]
   exact av (aV (aa 2 rfl))
end
theorem Iq (six:Bool):∀ (n:Nat) (xs:List Str),xs.length=n→(cL six xs).many=n∧(cL six xs).eE=(xs.count ("stroke":Str):Nat):=by
 intro n
 induction n with
 | zero=>
   intro xs h
   have e:xs=[]:=List.eq_nil_of_length_eq_zero h
   subst e
   exact⟨rfl,rfl⟩
 | succ n ih=>
   intro xs h
   have AG:xs≠[]:=fun e=>by rw[e] at h;cases h
   have e:=List.dropLast_concat_getLast AG
   have hl:xs.dropLast.length=n:=by rw[List.length_dropLast];omega
   obtain⟨h1,h2⟩:=ih _ hl
   have ec:xs.count ("stroke":Str)=xs.dropLast.count ("stroke":Str)+if xs.getLast AG="stroke" then 1 else 0:=by
     conv=>lhs;rw[← e]
     rw[List.count_append,List.count_singleton]
     congr 1
     by_cases c:xs.getLast AG="stroke" <;> simp[c]
   rw[ec]
   conv=>lhs;rw[← e]
   rw[show(cL six xs).eE=(cL six (xs.dropLast ++ [xs.getLast AG])).eE by rw[e],iJ]
   refine⟨?_,?_⟩
   . show(cL six xs.dropLast).many+1=_
     rw[h1];omega
   . show(cL six xs.dropLast).eE+(if xs.getLast AG="stroke" then 1 else 0)=_
     rw[h2]
     by_cases c:xs.getLast AG="stroke"
     . rw[if_pos c,if_pos c];omega
     . rw[if_neg c,if_neg c];omega
open PySem.Builtin.Str PySem.StrLaws in
theorem yf (s:Str)(c limit:Nat):∀ (n i:Nat) (acc:Array Nat) (free:Nat),free≤i→acc.size+n≤limit→(forIn (List.range' i n) (acc,free) (occBody s ⟨#[c]⟩ s.length limit)).run.fst.size=acc.size+(List.range' i n).countP (fun j=>decide (s.cps.toList[j]?=some c))
 | 0,i,acc,free,_,_=>by simp
 | n+1,i,acc,free,hf,hl=>by
   rw[List.range'_succ,List.forIn_cons,List.countP_cons]
   have hso:=subAt_one s c i
   by_cases hc:s.cps.toList[i]?=some c
   . obtain⟨h1,h2⟩:=hso.mpr hc
     have e:occBody s ⟨#[c]⟩ s.length limit i (acc,free)=pure (ForInStep.yield (acc.push i,i+(⟨#[c]⟩:Str).length)):=by
       unfold occBody
       exact if_pos ⟨⟨⟨by show acc.size < limit;omega,hf⟩,h1⟩,h2⟩
     rw[e]
     show(forIn (List.range' (i+1) n) (acc.push i,i+(⟨#[c]⟩:Str).length) (occBody s ⟨#[c]⟩ s.length limit)).run.fst.size=_
     rw[yf s c limit n (i+1) (acc.push i) _ (by show i+1≤i+1;omega) (by rw[Array.size_push];omega),Array.size_push,if_pos (decide_eq_true hc)]
     omega
   . have e:occBody s ⟨#[c]⟩ s.length limit i (acc,free)=pure (ForInStep.yield (acc,free)):=by
       unfold occBody
       exact if_neg fun h=>hc (hso.mp ⟨h.1.2,h.2⟩)
     rw[e]
     show(forIn (List.range' (i+1) n) (acc,free) (occBody s ⟨#[c]⟩ s.length limit)).run.fst.size=_
     rw[yf s c limit n (i+1) acc free (by omega) (by omega),if_neg (by simpa using hc)]
     omega
theorem EV (L:List Nat)(c:Nat):(List.range' 0 (L.length+1)).countP (fun j=>decide (L[j]?=some c))=L.count c:=by
 rw[← List.range_eq_range',List.range_succ,List.countP_append]
 have e1:(List.range L.length).map (fun j=>L[j]?)=L.map some:=by
   refine List.ext_getElem? fun i=>?_
   rw[List.getElem?_map,List.getElem?_map]
   by_cases h:i < L.length
   . rw[List.getElem?_range h];simp[h]
   . rw[List.getElem?_eq_none (by simp;omega),List.getElem?_eq_none (by omega)];rfl
 have e2:(List.range L.length).countP (fun j=>decide (L[j]?=some c))=((List.range L.length).map (fun j=>L[j]?)).countP (fun o=>decide (o=some c)):=by
   rw[List.countP_map];rfl
 rw[e2,e1,List.countP_map]
 have e3:((fun o=>decide (o=some c)) ∘ some)=fun x:Nat=>x == c:=by
   funext x
   by_cases h:x=c <;> simp[h]
 rw[e3]
 simp[List.count]
open PySem.Builtin.Str PySem.StrLaws in
theorem Ir (w:List Nat)(x:Nat):Txt.count (tx w) (sg x)=((w.count x:Nat):Int):=by
 unfold Txt.count
 have hl:=fB w
 rw[occ_eq,Array.length_toList]
 show(((forIn (List.range' 0 ((tx w).length+1 - 0)) (#[],0) (occBody (tx w) ⟨#[x]⟩ (tx w).length ((tx w).length+1))).run.fst.size:Nat):Int)=_
 rw[yf (tx w) x _ _ 0 #[] 0 (Nat.le_refl _) (by simp)]
 have e:(tx w).cps.toList=w:=by show w.toArray.toList=w;simp
 rw[e,hl,Nat.sub_zero,EV]
 simp
def NR (L w:List Nat):List (Key×Int):=L.map fun x=>(.inr (sg x),((w.count x:Nat):Int))
theorem Iu (L w:List Nat):(dI (NR L w)).map (·.1)=L.map fun x=>(Sum.inr (sg x):Key):=by
 unfold dI NR
 rw[List.map_map,List.map_map];rfl
theorem iq {L:List Nat}(h:L.Nodup):(L.map fun x=>(Sum.inr (sg x):Key)).Nodup:=by
 rw[List.nodup_iff_pairwise_ne,List.pairwise_map]
 exact(List.nodup_iff_pairwise_ne.mp h).imp fun hn e=>hn (pX (Sum.inr.inj e))
theorem RW (L w:List Nat):(L.map fun x=>Dt.tup [.str (sg x),.int ((w.count x:Nat):Int)])=(dI (NR L w)).map JL:=by
 unfold dI NR
 rw[List.map_map,List.map_map];rfl
def MB (t:df):Rl:=fun ds r=>∃ six rows w,ds=[t.yx six rows,.str (tx w)]∧cQ rows∧r=.own (.eB (dI (NR (rows.map (·.c)) w)))
abbrev agj:Stmt→Scope
 | .Return (some (.Call _ (.ListComp _ _ sc _::_) _ _)) _=>sc
 | _=>af (.Pass ⟨0,0,0,0⟩)
abbrev Iv:Scope:=agj ((ai fq).getD 0 (.Pass ⟨0,0,0,0⟩))
theorem Ai:g8 Iv (af fq) C3 ["letter","word"] ["letter"] [1]=true:=by decide +kernel
theorem fz (w:List Nat):w.map (fun x=>Dt.str (sg x))=Sg.signs (tx w):=by rw[uf,List.map_map];rfl
theorem uq {rows:List Row}(ok:cQ rows):gQ (tx (rows.map (·.c)))=true:=gG fun x hx=>by
 obtain⟨r,hr,rfl⟩:=List.mem_map.mp hx
 have:=ok.sm r hr
 unfold small at this;omega
section
variable {P:Program}{w:World}{K:PySem.W.Frag}{mg:Str→Option Value}{base:Heap}{t:df}
theorem Iw (T:Txt K mg t):GF P w K mg base CX 3 "tally" 2 (MB t):=by
 refine⟨_,_,_,gx T.LI zM rfl fun cS A outer s H E G ds r hr hl hR=>?_,T.LL,T.LJ,T.LK⟩
 obtain⟨six,rows,wd,rfl,ok,rfl⟩:=hR
 have eI:=gI (P:=P) (w:=w) (base:=base) T
 have nd:=zM.nd
 have h6:=ok.le
 let L:=rows.map (·.c)
 have e2:((L.filter fun _=>true).map fun x=>Dt.tup [.str (sg x),.int ((wd.count x:Nat):Int)])=(dI (NR L wd)).map JL:=by
   rw[List.filter_eq_self.mpr (fun _ _=>rfl)]
   exact RW L wd
 refine⟨_,.ro _,av (iR (ju T.z_dict rfl (fX e2 (gO L (fun x=>Dt.str (sg x)) (fun x=>.tup [.str (sg x),.int ((wd.count x:Nat):Int)]) (fun x=>[.val (.str (sg x))]) (fun _=>true) rfl (d6 Ai) (gR (d9 (fs:=t.vW six rows) (aa 0 rfl) eI aF hr ⟨six,rows,rfl,ok,rfl⟩)) (ee (d6 Ai) rfl) (eO (eG (uq ok)) (fz L)) (fun a _=>eK) (.nil fun _ _=>rfl)
     (fun a ha _ C fp s' H' G'=>d8 (ae (aa 0 rfl) (ae (bP (En (aa 1 rfl) (aa 0 rfl)) (congrArg Dt.int (Ir wd a))) ao)) (Nat.le_of_ble_eq_true rfl)) (ql (by show(rows.map (·.c)).length≤_;rw[List.length_map];omega)))) ?_ ?_))⟩
 . rw[Iu];exact iq ok.nd
 . show((NR (rows.map (·.c)) wd).map _).length≤_
   unfold NR
   rw[List.length_map,List.length_map,List.length_map]
   exact ql (by omega)
end
def cT (rows:List Row):Nat→Nat→Nat→Int
 | 0,c,x=>(([c].count x:Nat):Int)
 | i+1,c,x=>((wordOf rows c).map fun y=>cT rows i y x).sum
def kc (L:List Nat)(T:Nat→Int):List (Key×Int):=L.map fun x=>(.inr (sg x),T x)
def lT (rows:List Row)(i c:Nat):Int:=((rows.map (·.c)).map fun x=>cT rows i c x).sum
def ur (rows:List Row)(i:Nat):List (Key×FD):=(rows.map (·.c)).map fun c=>(.inr (sg c),.eB (kc (rows.map (·.c)) (cT rows i c)))
def yg (rows:List Row)(i:Nat):List (Key×FD):=(rows.map (·.c)).map fun c=>(.inr (sg c),.int (lT rows i c))
theorem MC (L:List Nat)(T:Nat→Int):(kc L T).map (·.2)=L.map T:=by unfold kc;rw[List.map_map];rfl
theorem MD (L:List Nat)(T:Nat→Int):(dI (kc L T)).map (·.1)=L.map fun x=>(Sum.inr (sg x):Key):=by unfold dI kc;rw[List.map_map,List.map_map];rfl
theorem RX (L:List Nat)(T:Nat→Int):(dI (kc L T)).length=L.length:=by unfold dI kc;rw[List.length_map,List.length_map]
def kd (L:List Nat)(D:Nat→Dt):List (Key×Dt):=L.map fun x=>(.inr (sg x),D x)
theorem i5 {D:Nat→Dt}:∀ {L:List Nat} {x:Nat},x∈L→jt (kd L D) (.inr (sg x))=some (D x)
 | [],_,h=>by cases h
 | y::L,x,h=>by
   by_cases e:y=x
   . subst e
     exact nZ (p:=((.inr (sg y):Key),D y)) rfl
   . have ne:¬ (Sum.inr (sg y):Key)=.inr (sg x):=fun z=>e (pX (Sum.inr.inj z))
     have hx:x∈L:=by
       rcases List.mem_cons.mp h with z | z
       . exact absurd z.symm e
       . exact z
     exact(k8 (p:=((.inr (sg y):Key),D y)) ne).trans (i5 hx)
theorem NS (L:List Nat)(T:Nat→Int):dI (kc L T)=kd L fun x=>.int (T x):=by unfold dI kc kd;rw[List.map_map];rfl
theorem Fl (rows:List Row)(i:Nat):kI (ur rows i)=kd (rows.map (·.c)) fun c=>.eu (dI (kc (rows.map (·.c)) (cT rows i c))):=by unfold kI ur kd;rw[List.map_map];rfl
theorem NT (rows:List Row)(i:Nat):kI (yg rows i)=kd (rows.map (·.c)) fun c=>.int (lT rows i c):=by unfold kI yg kd;rw[List.map_map];rfl
theorem oW (L:List Nat)(D:Nat→Dt):(kd L D).map (·.1)=L.map fun x=>(Sum.inr (sg x):Key):=by unfold kd;rw[List.map_map];rfl
theorem Aj (L:List Nat)(D:Nat→Dt):(L.map fun x=>Dt.tup [.str (sg x),D x])=(kd L D).map JL:=by unfold kd;rw[List.map_map];rfl
theorem Iy {L:List Nat}(nd:L.Nodup){D:Nat→Dt}{j:Nat}(hj:j < L.length):sN (kd (L.take j) D) (.inr (sg L[j])) (D L[j])=kd (L.take (j+1)) D:=by
 have hn:jt (kd (L.take j) D) (.inr (sg L[j]))=none:=by
   refine pH fun kv hkv=>?_
   have:kv.1∈(kd (L.take j) D).map (·.1):=List.mem_map.mpr ⟨kv,hkv,rfl⟩
   rw[oW] at this
   obtain⟨y,hy,e⟩:=List.mem_map.mp this
   intro z
   rw[← e] at z
   have z:y=L[j]:=pX (Sum.inr.inj z)
   obtain⟨i,hi,e⟩:=List.mem_iff_getElem.mp hy
   rw[List.length_take] at hi
   rw[List.getElem_take] at e
   exact List.pairwise_iff_getElem.mp nd i j (by omega) hj (by omega) (e.trans z)
 unfold sN
 rw[hn,if_neg (by simp)]
 unfold kd
 rw[List.take_add_one,List.getElem?_eq_getElem hj,List.map_append];rfl
def Iz (L:List Nat)(T:Nat→Int):Dt:=.eu (dI (kc L T))
def IA:Rl:=fun ds r=>∃ (L:List Nat) (ts:List (Nat→Int)),ds=[.lst (ts.map (Iz L)),.str (tx L)]∧L.Nodup∧L.length≤6∧(∀ x∈L,x < 128)∧ts.length≤1000∧r=.own (.eB (dI (kc L fun x=>(ts.map fun T=>T x).sum)))
abbrev RY:Stmt→Scope
 | .Return (some (.Call _ (.ListComp _ _ sc _::_) _ _)) _=>sc
 | _=>af (.Pass ⟨0,0,0,0⟩)
abbrev Z0:Stmt→Scope
 | .Return (some (.Call _ (.ListComp (.Tuple [_,.Call _ (.ListComp _ _ sc _::_) _ _] _ _) _ _ _::_) _ _)) _=>sc
 | _=>af (.Pass ⟨0,0,0,0⟩)
abbrev NU:Scope:=RY ((ai dR).getD 0 (.Pass ⟨0,0,0,0⟩))
abbrev RZ:Scope:=Z0 ((ai dR).getD 0 (.Pass ⟨0,0,0,0⟩))
def agk (sc:Scope):Env:={ scope:=sc,locals:=0,globals:=0,cells:=[],qual:="",func:=none,code:=.none,frame:=none,builtins:=0}
abbrev Z1:Scope:=relabel NU (agk (af dR))
theorem NV:G1 NU (af dR) zN ["letter","tallies"] "letter" [0]=true:=by decide +kernel
theorem IB:g8 RZ Z1 ["letter","tallies"] ["counts","letter"] ["counts"] [0]=true:=by decide +kernel
section
variable {P:Program}{w:World}{K:PySem.W.Frag}{mg:Str→Option Value}{base:Heap}{t:df}
theorem EX (T:Txt K mg t):GF P w K mg base CX 2 "summed" 2 IA:=by
 refine⟨_,_,_,gx T.HI vT rfl fun cS A outer s H E G ds r hr hl hR=>?_,T.HL,T.HJ,T.HK⟩
 obtain⟨L,ts,rfl,hnd,hL,h7,hts,rfl⟩:=hR
 have nd:=vT.nd
 have hu:(A.deeper (envOfC "summed" (af dR) s.heap.objs.size t.fG cS)).units+1 < cLine:=by have:=hr.units;omega
 let D:Nat→Dt:=fun x=>.int (ts.map fun T=>T x).sum
 have e2:((L.filter fun _=>true).map fun x=>Dt.tup [.str (sg x),D x])=(dI (kc L fun x=>(ts.map fun T=>T x).sum)).map JL:=by
   rw[List.filter_eq_self.mpr (fun _ _=>rfl),NS]
   exact Aj L D
 refine⟨_,.ro _,av (iR (ju T.z_dict rfl (fX e2 (PN L (fun x=>Dt.str (sg x)) (fun x=>.tup [.str (sg x),D x]) (fun x=>[.val (.str (sg x))]) (fun _=>true) rfl (Ny NV) (gR (aa 1 rfl)) (GZ (Ny NV)) (eO (eG (gG h7)) (fz L)) (fun a _=>eK) (.nil fun _ _=>rfl)
     (fun a ha _ c C fp s' H' G'=>?_) (ql (by omega)))) (by rw[MD];exact iq hnd) (by rw[RX];exact ql (by omega))))⟩
 have e3:((ts.filter fun _=>true).map fun T=>Dt.int (T a))=(ts.map fun T=>T a).map Dt.int:=by
   rw[List.filter_eq_self.mpr (fun _ _=>rfl),List.map_map];rfl
 refine d8 (ae (aa 0 rfl) (ae (GN T.z_sum rfl (fX e3 (gO ts (Iz L) (fun T=>Dt.int (T a)) (fun T=>[.val (Iz L T)]) (fun _=>true) rfl (d6 IB) (iN (aa 1 rfl)) (ee (d6 IB) rfl) jr (fun a _=>eK) (.nil fun _ _=>rfl)
   (fun T' hT' _ C2 fp2 s2 H2 G2=>?_) (ql (by omega))))) ao)) (Nat.le_of_ble_eq_true rfl)
 exact iw hu (aa 0 rfl) (aa 1 rfl) (by rw[NS];exact i5 ha) (fun _ _=>rfl)
end
def df.yh (t:df)(six:Bool)(rows:List Row)(w:List Nat):List (Str×Dt):=[("rules",t.yx six rows),("seed",.str (tx w))]
def oX (rows:List Row):List (Nat→List (Key×FD)):=[ur rows,yg rows]
abbrev df.fY (t:df)(six:Bool)(rows:List Row)(w:List Nat)(l:Addr)(ls:gK)(n:Nat):List (Str×Dt):=qc (t.yh six rows w) ["tallies","lengths"] l ls n
abbrev df.EY (t:df)(six:Bool)(rows:List Row)(w:List Nat)(l:Addr)(ls:gK)(n:Nat):List (Str×Dt):=l7 (t.yh six rows w) ["tallies","lengths"] l ls n
abbrev df.agl (t:df)(six:Bool)(rows:List Row)(w:List Nat)(n:Nat):Dt:=.uK t.aw (t.yh six rows w) (oX rows) ["tallies","lengths"] n
structure kS (rows:List Row)(w:List Nat):Prop where
 ok:cQ rows
 w0:0 < w.length
 w8:w.length≤8
 wm:∀ x∈w,x∈rows.map (·.c)
theorem Ak {a:Addr}:∀ rows:List Row,wZ a (pW rows)=true
 | []=>rfl
 | r::rows=>by
   show(pJ a (oR r) && wZ a (pW rows))=true
   rw[Ak rows];rfl
theorem BY {a:Addr}(t:df)(six:Bool)(rows:List Row):pJ a (t.yx six rows)=true:=by
 show ig a [("drawer",.fD (.obj (t.pc six) [])),("row_by_letter",.eB (pW rows))]=true
 show(true && (wZ a (pW rows) && true))=true
 rw[Ak];rfl
theorem Al {a:Addr}(t:df)(six:Bool)(rows:List Row)(w:List Nat):ig a (t.yh six rows w)=true:=by
 show(pJ a (t.yx six rows) && (true && true))=true
 rw[BY];rfl
def ME (t:df):Rl:=fun ds r=>∃ six rows w,ds=[t.yx six rows,.str (tx w)]∧kS rows w∧r=.own (.pq t.aw (t.yh six rows w) (oX rows) ["tallies","lengths"] 1)
abbrev BZ:Stmt→Scope
 | .Assign _ (.List [.Call _ (.ListComp _ _ sc _::_) _ _] _) _=>sc
 | _=>af (.Pass ⟨0,0,0,0⟩)
abbrev R0:Scope:=BZ ((ai bj).getD 2 (.Pass ⟨0,0,0,0⟩))
abbrev R1:Scope:=BZ ((ai bj).getD 3 (.Pass ⟨0,0,0,0⟩))
theorem IC:g8 R0 (af bj) jc ["letter","rules"] ["letter"] [1]=true:=by decide +kernel
theorem ID:g8 R1 (af bj) jc ["letter"] ["letter"] []=true:=by decide +kernel
theorem Du:∀ {L:List Nat} {c:Nat},L.Nodup→c∈L→(L.map fun x=>(([c].count x:Nat):Int)).sum=1
 | [],_,_,h=>by cases h
 | y::L,c,nd,h=>by
   rw[List.nodup_cons] at nd
   rw[List.map_cons,List.sum_cons]
   by_cases e:c=y
   . subst e
     have z:(L.map fun x=>(([c].count x:Nat):Int)).sum=0:=by
       have:∀ x∈L,(([c].count x:Nat):Int)=0:=fun x hx=>by
         have:¬ c=x:=fun z=>nd.1 (z ▸ hx)
         simp[List.count_cons,this]
       rw[List.map_congr_left this]
       clear this nd h
       induction L with
       | nil=>rfl
       | cons a r ih=>rw[List.map_cons,List.sum_cons,ih];rfl
     rw[z]
     simp
   . have hc:c∈L:=by
       rcases List.mem_cons.mp h with z | z
       . exact absurd z e
       . exact z
     rw[Du nd.2 hc]
     simp[List.count_cons,e]
theorem Z2 {rows:List Row}(ok:cQ rows){c:Nat}(h:c∈rows.map (·.c)):lT rows 0 c=1:=Du ok.nd h
section
variable {P:Program}{w:World}{K:PySem.W.Frag}{mg:Str→Option Value}{base:Heap}{t:df}
theorem IE (T:Txt K mg t):SG P w K mg base CX 4 "Growth" t.aw 3 (ME t):=by
 refine⟨_,_,_,fnI T.vo lj rfl fun cS A outer s H E G z ds r hr hl hR=>?_,T.EH,T.Hx,T.vp⟩
 obtain⟨six,rows,wd,rfl,ok,rfl⟩:=hR
 have eI:=gI (P:=P) (w:=w) (base:=base) T
 have EZ:=z7 (P:=P) (w:=w) (base:=base) T
 have MG:=Iw (P:=P) (w:=w) (base:=base) T
 have h6:=ok.ok.le
 let L:=rows.map (·.c)
 have hL:L.length≤6:=by show(rows.map (·.c)).length≤6;rw[List.length_map];exact h6
 have nd:=lj.nd
 have e1:((L.filter fun _=>true).map fun x=>Dt.tup [.str (sg x),Iz L (cT rows 0 x)])=(kI (ur rows 0)).map JL:=by
   rw[List.filter_eq_self.mpr (fun _ _=>rfl),Fl]
   exact Aj L _
 have e2:((L.filter fun _=>true).map fun x=>Dt.tup [.str (sg x),.int 1])=(kI (yg rows 0)).map JL:=by
   rw[List.filter_eq_self.mpr (fun _ _=>rfl),NT,← Aj]
   exact List.map_congr_left fun x hx=>by rw[Z2 ok.ok hx]
 refine⟨_,.nxG (fs:=t.yh six rows wd) (gs:=oX rows) (nm:=["tallies","lengths"]) (n:=1) rfl,aj (gM (aa 1 rfl) T.bF T.na_Growth_rules) (aj (gM (Gv (fs:=t.vW six rows) (aa 1 rfl) EZ aF hr (ae (aa 2 rfl) ao) ⟨six,rows,wd,8,rfl,ok.ok,ok.wm,⟨ok.w0,ok.w8,by decide⟩,rfl⟩) T.bF T.na_Growth_seed)
   (xb (f:=ur rows) (g:=yg rows) rfl T.bF T.na_Growth_tallies T.na_Growth_lengths ?_ ?_))⟩
 . refine ju T.z_dict rfl (fX e1 (gO L (fun x=>Dt.str (sg x)) (fun x=>.tup [.str (sg x),Iz L (cT rows 0 x)]) (fun x=>[.val (.str (sg x))]) (fun _=>true) rfl (d6 IC) (gR (d9 (fs:=t.vW six rows) (aa 1 rfl) eI aF hr ⟨six,rows,rfl,ok.ok,rfl⟩)) (ee (d6 IC) rfl) (eO (eG (uq ok.ok)) (fz L)) (fun a _=>eK) (.nil fun _ _=>rfl)
     (fun a ha _ C fp s' H' G'=>d8 (ae (aa 0 rfl) (ae (NA (vJ MG aF hr (ae (aa 1 rfl) (ae (aa 0 rfl) ao)) ⟨six,rows,[a],rfl,ok.ok,rfl⟩)) ao)) (Nat.le_of_ble_eq_true rfl)) (ql (by omega)))) (by rw[Fl,oW];exact iq ok.ok.nd) (by rw[Fl];show(List.map _ _).length≤_;rw[List.length_map,List.length_map];exact ql (by omega))
 . refine ju T.z_dict rfl (fX e2 (gO L (fun x=>Dt.str (sg x)) (fun x=>.tup [.str (sg x),.int 1]) (fun x=>[.val (.str (sg x))]) (fun _=>true) rfl (d6 ID) (gR (d9 (fs:=t.vW six rows) (aa 1 rfl) eI aF hr ⟨six,rows,rfl,ok.ok,rfl⟩)) (ee (d6 ID) rfl) (eO (eG (uq ok.ok)) (fz L)) (fun a _=>eK) (.nil fun _ _=>rfl)
     (fun a ha _ C fp s' H' G'=>d8 (ae (aa 0 rfl) (ae ar ao)) (Nat.le_of_ble_eq_true rfl)) (ql (by omega)))) (by rw[NT,oW];exact iq ok.ok.nd) (by rw[NT];show(List.map _ _).length≤_;rw[List.length_map,List.length_map];exact ql (by omega))
end
def IF (t:df):Rl:=fun ds r=>∃ six rows w l ls n age,ds=[.obj t.aw (t.fY six rows w l ls n),.int ((age:Nat):Int)]∧kS rows w∧ls.map (·.2)=oX rows∧age≤1000∧r=.ret (.uG l ls (age+1))
abbrev Z3:Stmt→List Stmt
 | .While _ b _ _=>b
 | _=>[]
abbrev Am:Stmt→Scope
 | .For _ _ [.Assign _ (.Call _ (.ListComp _ _ sc _::_) _ _) _] _ _=>sc
 | _=>af (.Pass ⟨0,0,0,0⟩)
abbrev MH:Stmt→Scope
 | .Expr (.Call _ [.Call _ (.ListComp _ _ sc _::_) _ _] _ _) _=>sc
 | _=>af (.Pass ⟨0,0,0,0⟩)
abbrev wB:List Stmt:=Z3 ((ai aG).getD 1 (.Pass ⟨0,0,0,0⟩))
abbrev Z4:Scope:=Am (wB.getD 2 (.Pass ⟨0,0,0,0⟩))
abbrev Z5:Scope:=MH (wB.getD 4 (.Pass ⟨0,0,0,0⟩))
theorem NW:g8 Z4 (af aG) fA ["younger","last"] ["younger"] [3]=true:=by decide +kernel
theorem NX:g8 Z5 (af aG) fA ["letter","grown"] ["letter"] [4]=true:=by decide +kernel
section
variable {P:Program}{w:World}{K:PySem.W.Frag}{mg:Str→Option Value}{base:Heap}{t:df}
theorem E1 (T:Txt K mg t):MF P w K mg base CX 4 t.aw "deepen_to" 2 (IF t):=by
 refine⟨T.bF,_,_,_,gx T.nA hU rfl fun cS A outer s H E G ds r hr hl hR=>?_,T.iG,T.nB⟩
 obtain⟨six,rows,wd,l,ls,n,age,rfl,ok,l8,i8,rfl⟩:=hR
 have eI:=gI (P:=P) (w:=w) (base:=base) T
 have uu:=ug (P:=P) (w:=w) (base:=base) T
 have IG:=EX (P:=P) (w:=w) (base:=base) T
 have nd:=hU.nd
 have h6:=ok.ok.le
 let L:=rows.map (·.c)
 have hL:L.length≤6:=by show(rows.map (·.c)).length≤6;rw[List.length_map];exact h6
 have h7:∀ x∈L,x < 128:=fun x hx=>by
   obtain⟨r,hr,rfl⟩:=List.mem_map.mp hx
   have:=ok.ok.sm r hr
   unfold small at this;omega
 have hu:(A.deeper (envOfC "Growth.deepen_to" (af aG) s.heap.objs.size t.bb cS)).units+1 < cLine:=by have:=hr.units;omega
 have e2:ls.length=2:=by have:=congrArg List.length l8;simpa [oX] using this
 let tl:List Slot:=[.val (.int ((age:Nat):Int)),.val (.str (tx L)),.bE,.bE,.bE]
 refine⟨_,l1 (by rw[e2];exact Nat.le_refl 2),aj (dl1:=yu t.aw (t.yh six rows wd) ["tallies","lengths"] l ls n tl) (aE 2 nd (d9 (fs:=t.vW six rows) (aP (fs:=t.fY six rows wd l ls n) (aa 0 rfl) T.bF T.na_Growth_rules rfl) eI aF hr ⟨six,rows,rfl,ok.ok,rfl⟩))
   (av (vO (age:=age) PassesOwn.leaving (Al t six rows wd) rfl (by decide) (by omega) (fun N G hx=>?_) (fun N hN hNa G0 hA hB=>?_)))⟩
 . exact d5 (nV (CY (N:=N) T.z_len hx (aP (fs:=t.EY six rows wd l ls n) (aa 0 rfl) T.bF T.na_Growth_tallies rfl) (by rw[e2];rfl)) (aa 1 rfl)) (decide_eq_decide.mpr (by omega))
 . let Dk:Nat→Dt:=fun c=>Iz L (cT rows N c)
   let S:Nat→List Slot:=fun k=>[.val (.obj t.aw (t.EY six rows wd l ls n)),.val (.int ((age:Nat):Int)),.val (.str (tx L)),.val (.eu (kI (ur rows (N - 1)))),.own (.eB (kd (L.take k) Dk)),.bE]
   have eS:S L.length=[.val (.obj t.aw (t.EY six rows wd l ls n)),.val (.int ((age:Nat):Int)),.val (.str (tx L)),.val (.eu (kI (ur rows (N - 1)))),.own (.eB (kI (ur rows N))),.bE]:=by
     show [_,_,_,_,Slot.own (.eB (kd (L.take L.length) Dk)),_]=_
     rw[List.take_length,Fl rows N];rfl
   refine aj (aE 3 nd (zD (f:=ur rows) (N:=N) aq (aP (fs:=t.EY six rows wd l ls n) (aa 0 rfl) T.bF T.na_Growth_tallies rfl) (fQ ar) (by rw[l8];rfl) (by rw[e2];rfl) hN)) (aj (ib 4 nd CS)
     (aj (dl1:=S L.length) (nY (o:=.nx (S L.length)) (m:=L.length) L (fun x=>Dt.str (sg x)) (fun x dl=>dl.set 5 (.val (.str (sg x)))) S rfl PassesOwn.leaving (gR (aa 2 rfl)) (eO (eG (gG h7)) (fz L)) (cD nd rfl (.inl rfl)) (fun a _=>wV) (Le.of ⟨rfl,rfl,rfl,rfl,rfl,trivial⟩) (Nat.le_refl _) (fun k a hk ha=>?_) (.all rfl)) ?_))
   . rw[List.getElem?_eq_getElem hk] at ha
     cases ha
     have hm:L[k]∈L:=List.getElem_mem hk
     obtain⟨q,hq,hc,_,ew⟩:=gH hm
     have hwp:=ok.ok.wp q hq
     have Z6:∀ y∈wordOf rows L[k],y∈L:=fun y hy=>ok.ok.wo q hq y (by rw[ew] at hy;exact hy)
     have OZ:(wordOf rows L[k]).length≤8:=by rw[ew];exact hwp.2
     have UI:(kd (L.take k) Dk).length < sizeLine:=by
       unfold kd
       rw[List.length_map,List.length_take];exact Nat.lt_of_lt_of_le (show min k L.length < 2000 by omega) (by decide)
     have e3:(((wordOf rows L[k]).filter fun _=>true).map fun y=>Iz L (cT rows (N - 1) y))=((wordOf rows L[k]).map fun y=>cT rows (N - 1) y).map (Iz L):=by
       rw[List.filter_eq_self.mpr (fun _ _=>rfl),List.map_map];rfl
     have eN:N=(N - 1)+1:=by omega
     have ed:Dk L[k]=.eu (dI (kc L fun x=>(((wordOf rows L[k]).map fun y=>cT rows (N - 1) y).map fun T=>T x).sum)):=by
       have e7:(cT rows N L[k])=fun x=>(((wordOf rows L[k]).map fun y=>cT rows (N - 1) y).map fun T=>T x).sum:=by
         funext x
         rw[List.map_map]
         obtain⟨M,rfl⟩:∃ M,N=M+1:=⟨N - 1,eN⟩
         rfl
       show Iz L (cT rows N L[k])=_
       rw[e7];rfl
     refine .nx (av (CT (kds:=kd (L.take k) Dk) (d:=Dk L[k]) 4 hu (by rw[ed];exact NA (vJ IG aF hr (ae (fX e3 (gO (wordOf rows L[k]) (fun x=>Dt.str (sg x)) (fun y=>Iz L (cT rows (N - 1) y)) (fun x=>[.val (.str (sg x))]) (fun _=>true) rfl (d6 NW) (gR (cE (fs:=t.vW six rows) (aP (fs:=t.EY six rows wd l ls n) (aa 0 rfl) T.bF T.na_Growth_rules rfl) uu aF hr (ae (aa 5 rfl) ao) ⟨six,rows,L[k],rfl,ok.ok,hm,rfl⟩)) (ee (d6 NW) rfl) (eO (eG (rL ok.ok Z6)) (fz _)) (fun a _=>eK) (.nil fun _ _=>rfl)
       (fun y hy _ C fp s' H' G'=>iw hu (aa 1 rfl) (aa 0 rfl) (by rw[Fl];exact i5 (Z6 y hy)) (fun _ _=>rfl)) (ql (by omega)))) (ae (aa 2 rfl) ao)) ⟨L,_,rfl,ok.ok.nd,hL,h7,by rw[List.length_map];omega,rfl⟩)) (aa 5 rfl) UI)) (Le.of ⟨rfl,rfl,rfl,rfl,?_,trivial⟩)
     show Slot.own (.eB (kd (L.take (k+1)) Dk))=Slot.own (.eB (sN (kd (L.take k) Dk) (.inr (sg L[k])) (Dk L[k])))
     rw[Iy ok.ok.nd hk]
   . rw[eS]
     refine Cz (dl1:=.val (.obj t.aw (t.EY six rows wd l ls n))::tl.set 3 (.own (.eB (kI (ur rows N))))) (zH (f:=ur rows) (g:=yg rows) (tl:=tl) 3 (Al t six rows wd) rfl rfl l8 (by omega) T.bF T.na_Growth_tallies T.na_Growth_lengths hA hB (fun G2=>?_)) (Le.of ⟨rfl,rfl,rfl,rfl,trivial⟩)
     have e4:((L.filter fun _=>true).map fun x=>Dt.tup [.str (sg x),.int (lT rows N x)])=(kI (yg rows N)).map JL:=by
       rw[List.filter_eq_self.mpr (fun _ _=>rfl),NT]
       exact Aj L _
     exact ju T.z_dict rfl (fX e4 (gO L (fun x=>Dt.str (sg x)) (fun x=>.tup [.str (sg x),.int (lT rows N x)]) (fun x=>[.val (.str (sg x))]) (fun _=>true) rfl (d6 NX) (gR (aa 2 rfl)) (ee (d6 NX) rfl) (eO (eG (gG h7)) (fz L)) (fun a _=>eK) (.nil fun _ _=>rfl)
       (fun a ha _ C fp s' H' G'=>d8 (ae (aa 0 rfl) (ae (bP (K1 (kds:=kc L (cT rows N a)) T.z_sum rfl (iw (d:=Iz L (cT rows N a)) hu (aa 1 rfl) (aa 0 rfl) (by rw[Fl];exact i5 ha) (fun _ _=>rfl)) (.inl rfl)) (by rw[MC];rfl)) ao)) (Nat.le_of_ble_eq_true rfl)) (ql (by omega)))) (by rw[NT,oW];exact iq ok.ok.nd) (by rw[NT];show(List.map _ _).length≤_;rw[List.length_map,List.length_map];exact ql (by omega))
end
def agn:Rl:=fun ds r=>∃ z f l:Int,ds=[.int z,.int f,.int l]∧f≤z∧z≤l∧r=.ret .dQ
def MI (t:df):Rl:=fun ds r=>∃ six rows w l ls n age,ds=[.obj t.aw (t.fY six rows w l ls n),.int ((age:Nat):Int)]∧kS rows w∧ls.map (·.2)=oX rows∧age≤200∧r=.ret (.uG l ls (age+1))
def lnT (rows:List Row)(w:List Nat)(age:Nat):Int:=(w.map (lT rows age)).sum
def R3 (t:df):Rl:=fun ds r=>∃ six rows w l ls n age,ds=[.obj t.aw (t.fY six rows w l ls n),.int ((age:Nat):Int)]∧kS rows w∧ls.map (·.2)=oX rows∧age≤200∧r=.ret (.int (lnT rows w age))
def R4 (t:df):Rl:=fun ds r=>∃ six rows w l ls n,ds=[.obj t.aw (t.fY six rows w l ls n)]∧r=.ret (t.yx six rows)
abbrev IH:Stmt→Scope
 | .Return (some (.Call _ (.ListComp _ _ sc _::_) _ _)) _=>sc
 | _=>af (.Pass ⟨0,0,0,0⟩)
abbrev Z7:Scope:=IH ((ai a0).getD 1 (.Pass ⟨0,0,0,0⟩))
theorem NY:g8 Z7 (af a0) kr ["letter","self","age"] ["letter"] [0,1]=true:=by decide +kernel
theorem kS.asc {rows:List Row}{w:List Nat}(ok:kS rows w):gQ (tx w)=true:=rL ok.ok ok.wm
section
variable {P:Program}{w:World}{K:PySem.W.Frag}{mg:Str→Option Value}{base:Heap}{t:df}
theorem Z8 (T:Txt K mg t):GF P w K mg base CX 1 "check_round" 3 agn:=by
 refine⟨_,_,_,gx T.vj tq rfl fun cS A outer s H E G ds r hr hl hR=>?_,T.vn,T.vk,T.vm⟩
 obtain⟨z,f,l,rfl,h1,h2,rfl⟩:=hR
 exact⟨_,.nx _,av (dm (u:=false) (uM (vF (u:=false) (v:=false) (d5 (sA (aa 0 rfl) (aa 1 rfl)) (decide_eq_false (by omega))) fun _=>(sx (d5 (zh (aa 0 rfl) (aa 2 rfl)) (decide_eq_false (by omega)))))) (fun h=>nomatch h) (fun h=>dk))⟩
theorem An (T:Txt K mg t):MF P w K mg base CX 5 t.aw "enter" 2 (MI t):=by
 refine⟨T.bF,_,_,_,gx T.tY qD rfl fun cS A outer s H E G ds r hr hl hR=>?_,T.j5,T.tZ⟩
 obtain⟨six,rows,wd,l,ls,n,age,rfl,ok,l8,i8,rfl⟩:=hR
 have agp:=Z8 (P:=P) (w:=w) (base:=base) T
 have B0:=E1 (P:=P) (w:=w) (base:=base) T
 have e2:ls.length=2:=by have:=congrArg List.length l8;simpa [oX] using this
 exact⟨_,l1 (nm:=["tallies","lengths"]) (by rw[e2];exact Nat.le_refl 2),aj (nS (cR agp aF hr (ae (aa 1 rfl) (ae ar (ae (iQ (w:=.int 200) T.xy ⟨_,rfl⟩ fun _=>.int 200) ao))) ⟨_,_,_,rfl,by omega,by omega,rfl⟩))
   (av (n9 (m:=age+1) (tl:=[.val (.int ((age:Nat):Int))]) (cE (fs:=t.fY six rows wd l ls n) (aa 0 rfl) B0 aF hr (ae (aa 1 rfl) ao) ⟨six,rows,wd,l,ls,n,age,rfl,ok,l8,by omega,rfl⟩)))⟩
theorem Dv (T:Txt K mg t):MF P w K mg base CX 6 t.aw "length" 2 (R3 t):=by
 refine⟨T.bF,_,_,_,gx T.qT pP rfl fun cS A outer s H E G ds r hr hl hR=>?_,T.jF,T.qU⟩
 obtain⟨six,rows,wd,l,ls,n,age,rfl,ok,l8,i8,rfl⟩:=hR
 have II:=An (P:=P) (w:=w) (base:=base) T
 have hu:(A.deeper (envOfC "Growth.length" (af a0) s.heap.objs.size t.bN cS)).units+1 < cLine:=by have:=hr.units;omega
 have w8:=ok.w8
 have e3:((wd.filter fun _=>true).map fun x=>Dt.int (lT rows age x))=(wd.map (lT rows age)).map Dt.int:=by
   rw[List.filter_eq_self.mpr (fun _ _=>rfl),List.map_map];rfl
 exact⟨_,.rt _,aj (n9 (m:=age+1) (tl:=[.val (.int ((age:Nat):Int))]) (cE (fs:=t.fY six rows wd l ls n) (aa 0 rfl) II aF hr (ae (aa 1 rfl) ao) ⟨six,rows,wd,l,ls,n,age,rfl,ok,l8,by omega,rfl⟩))
   (av (aV (GN T.z_sum rfl (fX e3 (gO wd (fun x=>Dt.str (sg x)) (fun x=>Dt.int (lT rows age x)) (fun x=>[.val (.str (sg x))]) (fun _=>true) rfl (d6 NY) (gR (aP (fs:=t.fY six rows wd l ls (age+1)) (aa 0 rfl) T.bF T.na_Growth_seed rfl)) (ee (d6 NY) rfl) (eO (eG ok.asc) (fz wd)) (fun a _=>eK) (.nil fun _ _=>rfl)
     (fun a ha _ C fp s' H' G'=>iw hu (Bo (n:=age+1) (j:=1) (f:=yg rows) (aP (fs:=t.fY six rows wd l ls (age+1)) (aa 1 rfl) T.bF T.na_Growth_lengths rfl) (aa 2 rfl) (by rw[l8];rfl) (by omega) (by omega)) (aa 0 rfl) (by rw[NT];exact i5 (ok.wm a ha)) (fun _ _=>rfl)) (ql (by omega)))))))⟩
theorem yi (T:Txt K mg t):MF P w K mg base CX 1 t.aw "rules_told" 1 (R4 t):=by
 refine⟨T.bF,_,_,_,gx T.mz ll rfl fun cS A outer s H E G ds r hr hl hR=>?_,T.il,T.mB⟩
 obtain⟨six,rows,wd,l,ls,n,rfl,rfl⟩:=hR
 exact⟨_,.rt _,av (aV (aP (fs:=t.fY six rows wd l ls n) (aa 0 rfl) T.bF T.na_Growth_rules rfl))⟩
end
def MM:Int:=2305843009213693951
def kg (ns:List Int)(k:Nat):Int:=ns.getD (k % ns.length) 0
def cn (ns:List Int)(k:Nat):Int:=kg ns k % 10 ^ 60 / MM * MM+(kg ns k+7919 * ((k:Int)+1)) * 6364136223846793005 % MM
theorem Ao (ns:List Int)(k:Nat):0≤cn ns k:=by
 have h1:=Int.emod_nonneg (kg ns k) (show(10:Int) ^ 60≠0 by decide)
 have h2:=Int.emod_nonneg ((kg ns k+7919 * ((k:Int)+1)) * 6364136223846793005) (show MM≠0 by decide)
 have h3:0≤kg ns k % 10 ^ 60 / MM:=Int.ediv_nonneg h1 (by decide)
 unfold cn
 have h4:0≤kg ns k % 10 ^ 60 / MM * MM:=Int.mul_nonneg h3 (by decide)
 omega
def Z9:Rl:=fun ds r=>∃ ns:List Int,ns.length≤63∧ds=[.lP ns]∧r=.ret (.bl true)
def IJ (K:PySem.W.Frag):Sp:=CB K 1 Z9
theorem R5 {K:PySem.W.Frag}{H:Hp}{a:Addr}{ns:List Int}(hl:ns.length≤63)(hS:jM K H a (ns.map V.int)):IJ K [.ref a] H (fun v _=>v=.bl true) fun _ _ _=>False:=
 ⟨H,[.lP ns],.ret (.bl true),aL.refl H,.cons (.lP hS) .nil,rfl,⟨ns,hl,rfl,rfl⟩,fun v aT H' g r=>by cases r;rfl⟩
def rT:Rl:=fun ds r=>∃ (ns:List Int) (k:Nat),ds=[.lP ns,.int k]∧k≤100∧r=.ret (.int (cn ns k))
def MJ:Rl:=fun ds r=>∃ z,ds=[.int z]∧r=.ret (.bl true)
section
variable {P:Program}{w:World}{K:PySem.W.Frag}{mg:Str→Option Value}{base:Heap}{t:df}
theorem IK (ns:List Int)(k:Nat)(h:k < ns.length):jO ns (k:Int)=some (ns.getD k 0):=by
 refine iP ?_
 rw[List.getD_eq_getElem?_getD,List.getElem?_eq_getElem h];rfl
theorem uv (T:Txt K mg t):GF P w K mg base CX 1 "_law_cell" 2 rT:=by
 refine⟨_,_,_,gx T.Qu rJ rfl fun cS A outer s H E G ds r hr hl hR=>?_,T.Qx,T.Qv,T.Qw⟩
 obtain⟨ns,k,rfl,hk,rfl⟩:=hR
 refine⟨_,.rt _,aj (aE 2 rJ.nd ar) (aj (dl1:=[.val (.lP ns),.val (.int k),.val (.int (kg ns k)),.bE]) (dm (zh (rA T.z_len (aa 0 rfl)) ar) (fun h=>?_) (fun h=>?_))
   (aj (aE 3 rJ.nd (dj (ff (bu (aa 2 rfl) (ff ar (bu (aa 1 rfl) ar) (nG.ok (Or.inl ⟨by decide,by decide⟩)))) ar (nG.ok (Or.inr ⟨by decide,by decide⟩))) ar (by decide)))
 (av (aV (bu (ff (eZ (dj (aa 2 rfl) (F3 ar ar ⟨by decide,by decide,by decide⟩) (by decide)) ar ⟨by decide,by decide +kernel⟩) ar (nG.ok (Or.inr ⟨by decide,by decide⟩))) (aa 3 rfl))))))⟩
 . have h:=of_decide_eq_true h
   have hl:0 < ns.length:=by omega
   have e:((k:Nat):Int) % ((ns.length:Nat):Int)=((k % ns.length:Nat):Int):=by omega
   exact av (aE 2 rJ.nd (pA (aa 0 rfl) (bP (dj (aa 1 rfl) (rA T.z_len (aa 0 rfl)) (by omega)) (congrArg Dt.int e)) (IK ns _ (Nat.mod_lt _ hl))))
 . have h:=of_decide_eq_false h
   have e:kg ns k=0:=by unfold kg;rw[List.getD_eq_getElem?_getD,List.getElem?_eq_none (by omega)];rfl
   rw[e]
   exact dk
theorem IL (T:Txt K mg t):GF P w K mg base CX 1 "_law_whole" 1 MJ:=by
 refine⟨_,_,_,gx T.LP Hs rfl fun cS A outer s H E G ds r hr hl hR=>?_,T.LR,T.k_whole,T.LQ⟩
 obtain⟨z,rfl,rfl⟩:=hR
 exact⟨_,.rt _,(av (aV (sy (u:=true) (v:=true) (F9 T.z_isinstance (aa 0 rfl) (Nk T.z_int Sg.boot_int) rfl trivial rfl) fun _=>(nP (O6 (u:=false) (F9 T.z_isinstance (aa 0 rfl) (Nk T.z_bool Sg.boot_bool) rfl trivial rfl))))))⟩
end
def abc:List Nat:=(List.range 26).map (97 + ·)
structure LS where
 left:List Nat
 rest:Int
 out:List Nat
def ls (c:Int):Nat→LS
 | 0=>⟨abc,c,[]⟩
 | k+1=>let s:=ls c k;let at_:=(s.rest % (s.left.length:Nat)).toNat;⟨s.left.take at_ ++ s.left.drop (at_+1),s.rest / (s.left.length:Nat),s.out ++ [s.left.getD at_ 0]⟩
def l4 (s:LS):Nat:=(s.rest % (s.left.length:Nat)).toNat
structure LOk (k:Nat)(s:LS):Prop where
 len:s.left.length+k=26
 ol:s.out.length=k
 sm:∀ x∈s.left,small x
 so:∀ x∈s.out,small x
 nl:s.left.Nodup
 no:s.out.Nodup
 ap:∀ x∈s.out,x ∉ s.left
theorem IM {s:LS}(h:0 < s.left.length):l4 s < s.left.length:=by
 have h0:=Int.emod_nonneg s.rest (show((s.left.length:Nat):Int)≠0 by omega)
 have h1:=Int.emod_lt_of_pos s.rest (show(0:Int) < (s.left.length:Nat) by omega)
 unfold l4
 omega
theorem IP (c:Int):∀ k,k≤6→LOk k (ls c k)
 | 0,_=>⟨show abc.length+0=26 by decide,rfl,fun x hx=>by
     obtain⟨i,hi,rfl⟩:=List.mem_map.mp (show x∈(List.range 26).map (97 + ·) from hx)
     have:=List.mem_range.mp hi
     unfold small;omega,fun x h=>absurd h (List.not_mem_nil),show abc.Nodup by decide,List.nodup_nil,fun x h=>absurd h (List.not_mem_nil)⟩
 | k+1,hk=>by
   have ih:=IP c k (by omega)
   have hl:=ih.len
   have dS:l4 (ls c k) < (ls c k).left.length:=IM (by omega)
   generalize hs:ls c k=s at ih hl dS
   have e:ls c (k+1)=⟨s.left.take (l4 s) ++ s.left.drop (l4 s+1),s.rest / (s.left.length:Nat),s.out ++ [s.left.getD (l4 s) 0]⟩:=by rw[← hs];rfl
   rw[e]
   have eg:s.left.getD (l4 s) 0=s.left[l4 s]:=by rw[List.getD_eq_getElem?_getD,List.getElem?_eq_getElem dS];rfl
   have sub:s.left.take (l4 s) ++ s.left.drop (l4 s+1)=s.left.eraseIdx (l4 s):=(List.eraseIdx_eq_take_drop_succ _ _).symm
   have mem:∀ x∈s.left.take (l4 s) ++ s.left.drop (l4 s+1),x∈s.left:=fun x hx=>by
     rcases List.mem_append.mp hx with h | h
     . exact List.mem_of_mem_take h
     . exact List.mem_of_mem_drop h
   have PK:s.left[l4 s]∈s.left:=List.getElem_mem dS
   have nin:s.left[l4 s] ∉ s.left.take (l4 s) ++ s.left.drop (l4 s+1):=by
     have pw:=List.pairwise_iff_getElem.mp ih.nl
     intro h
     rcases List.mem_append.mp h with h | h
     . obtain⟨i,hi,e⟩:=List.mem_iff_getElem.mp h
       rw[List.length_take] at hi
       rw[List.getElem_take] at e
       exact pw i (l4 s) (by omega) dS (by omega) e
     . obtain⟨i,hi,e⟩:=List.mem_iff_getElem.mp h
       rw[List.length_drop] at hi
       rw[List.getElem_drop] at e
       exact pw (l4 s) (l4 s+1+i) dS (by omega) (by omega) e.symm
   refine⟨?_,?_,fun x hx=>ih.sm x (mem x hx),fun x hx=>?_,?_,?_,fun x hx=>?_⟩
   . show(s.left.take (l4 s) ++ s.left.drop (l4 s+1)).length+(k+1)=26
     rw[List.length_append,List.length_take,List.length_drop];omega
   . show(s.out ++ [s.left.getD (l4 s) 0]).length=k+1
     rw[List.length_append,ih.ol];rfl
   . rcases List.mem_append.mp hx with h | h
     . exact ih.so x h
     . have:x=s.left[l4 s]:=by rw[← eg];simpa using h
       rw[this];exact ih.sm _ PK
   . show(s.left.take (l4 s) ++ s.left.drop (l4 s+1)).Nodup
     rw[sub]
     exact List.Nodup.sublist (List.eraseIdx_sublist _ _) ih.nl
   . show(s.out ++ [s.left.getD (l4 s) 0]).Nodup
     rw[eg]
     refine List.nodup_append.mpr ⟨ih.no,by simp,fun a ha b hb z=>?_⟩
     have:b=s.left[l4 s]:=by simpa using hb
     subst z this
     exact ih.ap _ ha PK
   . rcases List.mem_append.mp hx with h | h
     . exact fun z=>ih.ap x h (mem x z)
     . have:x=s.left[l4 s]:=by rw[← eg];simpa using h
       rw[this];exact nin
def ws (L:List Nat)(c m:Int):Nat→Int×List Nat
 | 0=>(c / m,[])
 | k+1=>let s:=ws L c m k;(s.1 / (L.length:Nat),s.2 ++ [L.getD (s.1 % (L.length:Nat)).toNat 0])
def uw (L:List Nat)(c m:Int):List Nat:=(ws L c m (1+c % m).toNat).2
theorem B1 (L:List Nat)(c m:Int):∀ k,(ws L c m k).2.length=k
 | 0=>rfl
 | k+1=>by show((ws L c m k).2 ++ [_]).length=_;rw[List.length_append,B1 L c m k];rfl
theorem IQ (L:List Nat)(hL:0 < L.length)(c m:Int):∀ k,∀ x∈(ws L c m k).2,x∈L
 | 0,x,h=>by cases h
 | k+1,x,h=>by
   rcases List.mem_append.mp h with h | h
   . exact IQ L hL c m k x h
   . have h0:=Int.emod_nonneg (ws L c m k).1 (show((L.length:Nat):Int)≠0 by omega)
     have h1:=Int.emod_lt_of_pos (ws L c m k).1 (show(0:Int) < (L.length:Nat) by omega)
     have dS:((ws L c m k).1 % (L.length:Nat)).toNat < L.length:=by omega
     have:x=L.getD ((ws L c m k).1 % (L.length:Nat)).toNat 0:=by simpa using h
     rw[this,List.getD_eq_getElem?_getD,List.getElem?_eq_getElem dS]
     exact List.getElem_mem dS
theorem at_getD {L:List Str}{i:Int}{n:Nat}(hn:L.length=n)(h0:0≤i)(h1:i < n):jO (L.map Dt.str) i=some (.str (L.getD i.toNat "")):=by
 have e:i=((i.toNat:Nat):Int):=by omega
 rw[e]
 have hk:i.toNat < L.length:=by omega
 refine(iP (j:=i.toNat) ?_).trans rfl
 rw[List.getElem?_map,List.getElem?_eq_getElem hk,List.getD_eq_getElem?_getD]
 show some (Dt.str L[i.toNat])=some (Dt.str ((L[(i.toNat:Int).toNat]?).getD ""))
 rw[Int.toNat_natCast,List.getElem?_eq_getElem hk];rfl
theorem yj {L:List Nat}(hL:0 < L.length)(c m:Int)(hm:0 < m):0 < (uw L c m).length∧(uw L c m).length≤m.toNat∧∀ x∈uw L c m,x∈L:=by
 have h0:=Int.emod_nonneg c (show m≠0 by omega)
 have h1:=Int.emod_lt_of_pos c hm
 have hl:=B1 L c m (1+c % m).toNat
 refine⟨?_,?_,IQ L hL c m _⟩
 . show 0 < (ws L c m (1+c % m).toNat).2.length;omega
 . show(ws L c m (1+c % m).toNat).2.length≤_;omega
def ux (c:Int)(n:Nat):List Nat:=(ls c n).out
theorem Ap (c:Int){n:Nat}(h:n≤6):(ux c n).length=n∧(ux c n).Nodup∧∀ x∈ux c n,small x:=let ok:=IP c n h;⟨ok.ol,ok.no,ok.so⟩
def MK:Rl:=fun ds r=>∃ (c:Int) (n:Nat),ds=[.int c,.int n]∧n≤6∧r=.ret (.str (tx (ux c n)))
def R6:Rl:=fun ds r=>∃ (L:List Nat) (c m:Int),ds=[.int c,.str (tx L),.int m]∧(0 < L.length∧L.length≤100)∧(0≤c∧0 < m∧m≤500)∧r=.ret (.str (tx (uw L c m)))
section
variable {P:Program}{w:World}{K:PySem.W.Frag}{mg:Str→Option Value}{base:Heap}{t:df}
theorem IS (T:Txt K mg t):GF P w K mg base CX 1 "_law_alphabet" 2 MK:=by
 refine⟨_,_,_,gx T.BI qh rfl fun cS A outer s H E G ds r hr hl hR=>?_,T.BL,T.BJ,T.BK⟩
 obtain⟨c,n,rfl,hn,rfl⟩:=hR
 have nd:=qh.nd
 let S:Nat→List Slot:=fun k=>[.val (.int (ls c k).rest),.val (.int n),.val (.str (tx (ls c k).left)),.val (.str (tx (ls c k).out)),.bE,.bE]
 refine⟨_,.rt _,aj (aE 2 nd eJ) (aj (aE 3 nd eJ)
   (aj (ip (o:=.nx (S n)) (m:=n) 4 S nd rfl PassesOwn.leaving T.z_range (ae (aa 1 rfl) ao) ⟨by omega,by omega⟩ (Le.of ⟨rfl,rfl,rfl,rfl,trivial⟩) (by omega) (fun k hk=>?_) (by rw[Int.toNat_natCast];exact .all rfl)) (av (aV (aa 3 rfl)))))⟩
 have ok:=IP c k (by omega)
 have hl:=ok.len
 have hol:=ok.ol
 have dS:l4 (ls c k) < (ls c k).left.length:=IM (by omega)
 have ea:(ls c k).rest % (((ls c k).left.length:Nat):Int)=((l4 (ls c k):Nat):Int):=by
   have h0:=Int.emod_nonneg (ls c k).rest (show(((ls c k).left.length:Nat):Int)≠0 by omega)
   unfold l4;omega
 have ea1:((l4 (ls c k):Nat):Int)+1=((l4 (ls c k)+1:Nat):Int):=by omega
 have hb:0 < (((ls c k).left.length:Nat):Int)∧(((ls c k).left.length:Nat):Int).natAbs.log2 < 9000:=⟨by omega,by
   have:(((ls c k).left.length:Nat):Int).natAbs≤26:=by omega
   exact Nat.lt_of_le_of_lt (Nat.log2_le_self _) (by omega)⟩
 exact .nx (aj (aE 5 nd (bP (dj (aa 0 rfl) (oS T.z_len (aa 2 rfl) (by omega)) (by omega)) (congrArg Dt.int ea)))
   (aj (aE 0 nd (eZ (aa 0 rfl) (oS T.z_len (aa 2 rfl) (by omega)) hb))
   (aj (aE 3 nd (x4 (aa 3 rfl) (x5 (aa 2 rfl) (aa 5 rfl) dS (by omega)) (by rw[hol];show k+1≤2000;omega)))
   (av (aE 2 nd (x4 (Mf (aa 2 rfl) (aa 5 rfl) (Nat.le_of_lt dS) (by omega)) (EK (aa 2 rfl) (bP (bu (aa 5 rfl) ar) (congrArg Dt.int ea1)) dS (by omega)) (by rw[List.length_take,List.length_drop];omega))))))) (Le.of ⟨rfl,rfl,rfl,rfl,trivial⟩)
theorem ML (T:Txt K mg t):GF P w K mg base CX 1 "_law_text" 3 R6:=by
 refine⟨_,_,_,gx T.Qy C4 rfl fun cS A outer s H E G ds r hr hl hR=>?_,T.QB,T.Qz,T.QA⟩
 obtain⟨L,c,m,rfl,⟨hL0,hL⟩,⟨hc,Pa,hm⟩,rfl⟩:=hR
 have nd:=C4.nd
 have h0:=Int.emod_nonneg c (show m≠0 by omega)
 have h1:=Int.emod_lt_of_pos c Pa
 have hmb:0 < m∧m.natAbs.log2 < 9000:=⟨Pa,Nat.lt_of_le_of_lt (Nat.log2_le_self _) (by omega)⟩
 have hLb:0 < ((L.length:Nat):Int)∧((L.length:Nat):Int).natAbs.log2 < 9000:=⟨by omega,Nat.lt_of_le_of_lt (Nat.log2_le_self _) (by omega)⟩
 let S:Nat→List Slot:=fun k=>[.val (.int (ws L c m k).1),.val (.str (tx L)),.val (.int m),.val (.str (tx (ws L c m k).2)),.val (.int (1+c % m)),.bE]
 refine⟨_,.rt _,aj (aE 3 nd eJ) (aj (aE 4 nd (bu ar (dj (aa 0 rfl) (aa 2 rfl) Pa))) (aj (aE 0 nd (eZ (aa 0 rfl) (aa 2 rfl) hmb))
   (aj (ip (m:=(1+c % m).toNat) 5 S nd rfl PassesOwn.leaving T.z_range (ae (aa 4 rfl) ao) ⟨by omega,by omega⟩ (Le.of ⟨rfl,rfl,rfl,rfl,rfl,trivial⟩) (Nat.le_refl _) (fun k hk=>?_) (.all rfl)) (av (aV (aa 3 rfl))))))⟩
 have OZ:=B1 L c m k
 have h2:=Int.emod_nonneg (ws L c m k).1 (show((L.length:Nat):Int)≠0 by omega)
 have h3:=Int.emod_lt_of_pos (ws L c m k).1 (show(0:Int) < (L.length:Nat) by omega)
 have ea:(ws L c m k).1 % ((L.length:Nat):Int)=((((ws L c m k).1 % (L.length:Nat)).toNat:Nat):Int):=by omega
 exact .nx (aj (aE 3 nd (x4 (aa 3 rfl) (x5 (aa 1 rfl) (bP (dj (aa 0 rfl) (oS T.z_len (aa 1 rfl) (by omega)) (by omega)) (congrArg Dt.int ea)) (by omega) (by omega)) (by rw[OZ];show k+1≤2000;omega)))
   (av (aE 0 nd (eZ (aa 0 rfl) (oS T.z_len (aa 1 rfl) (by omega)) hLb)))) (Le.of ⟨rfl,rfl,rfl,rfl,rfl,trivial⟩)
end
def Dw:List Str:=["stroke","left","right","step","rest"]
def dG (c:Int):Str:=Dw.getD (c % 5).toNat ""
theorem E2:∀ x∈Dw,x∈mV:=by decide
theorem R7 (c:Int):dG c∈mV:=by
 have h0:=Int.emod_nonneg c (show(5:Int)≠0 by decide)
 have h1:=Int.emod_lt_of_pos c (show(0:Int) < 5 by decide)
 have hk:(c % 5).toNat < Dw.length:=by show _ < 5;omega
 refine E2 _ ?_
 unfold dG
 rw[List.getD_eq_getElem?_getD,List.getElem?_eq_getElem hk]
 exact List.getElem_mem hk
def vt (L:List Nat)(ns:List Int)(m:Int)(k:Nat):Row:=⟨L.getD k 0,dG (cn ns (3+k)),uw L (cn ns (3+k) / 5) m⟩
def uy (L:List Nat)(ns:List Int)(m:Int):List Row:=(List.range L.length).map (vt L ns m)
theorem B2 (L:List Nat)(ns:List Int)(m:Int):(uy L ns m).map (·.c)=L:=by
 unfold uy
 rw[List.map_map]
 refine List.ext_getElem (by simp) fun i h1 h2=>?_
 simp only[List.getElem_map,List.getElem_range,Function.comp]
 show L.getD i 0=L[i]
 rw[List.getD_eq_getElem?_getD,List.getElem?_eq_getElem h2];rfl
theorem IT {L:List Nat}(ns:List Int){m:Int}(hm:0 < m∧m≤8)(h0:0 < L.length)(h6:L.length≤6)(nd:L.Nodup)(sm:∀ x∈L,small x):cQ (uy L ns m):=by
 have hl:(uy L ns m).length=L.length:=by unfold uy;rw[List.length_map,List.length_range]
 have get:∀ r∈uy L ns m,∃ k,k < L.length∧r=vt L ns m k:=fun r hr=>by
   obtain⟨k,hk,e⟩:=List.mem_map.mp hr
   exact⟨k,List.mem_range.mp hk,e.symm⟩
 refine⟨by omega,by omega,by rw[B2];exact nd,fun r hr=>?_,fun r hr=>?_,fun r hr=>?_,fun r hr x hx=>?_⟩
 . obtain⟨k,hk,rfl⟩:=get r hr
   refine sm _ ?_
   show L.getD k 0∈L
   rw[List.getD_eq_getElem?_getD,List.getElem?_eq_getElem hk]
   exact List.getElem_mem hk
 . obtain⟨k,hk,rfl⟩:=get r hr
   exact R7 _
 . obtain⟨k,hk,rfl⟩:=get r hr
   have:=yj h0 (cn ns (3+k) / 5) m hm.1
   exact⟨this.1,by have:=this.2.1;show(uw _ _ _).length≤8;omega⟩
 . obtain⟨k,hk,rfl⟩:=get r hr
   rw[B2]
   exact(yj h0 (cn ns (3+k) / 5) m hm.1).2.2 x hx
def pZ (ns:List Int)(far:Int):Int:=if cn ns 1 % 8=6 then cn ns 1 / 8 % (far+1) else cn ns 1 / 8 % 13
def mW (ns:List Int)(far:Int):Int:=if cn ns 1 % 8=7 then 200 - cn ns 1 / 8 % 100 else pZ ns far
def fK (ns:List Int):Int:=if cn ns 1 % 8=7 then 1+cn ns 0 / 2 % 2 else 1+cn ns 0 / 2 % 6
def p0 (ns:List Int):Int:=if cn ns 1 % 8=7 then 2 else 8
def Dx (ns:List Int):List Nat:=ux (cn ns 0 / 12) (fK ns).toNat
def uz (ns:List Int):List Row:=uy (Dx ns) ns (p0 ns)
def rV (ns:List Int):List Nat:=uw (Dx ns) (cn ns 2) 8
def Dy (ns:List Int):Bool:=decide (cn ns 0 % 2=1)
theorem aaa (ns:List Int):4+2 * (cn ns 0 % 2)=wy (Dy ns):=by
 have:cn ns 0 % 2=0∨cn ns 0 % 2=1:=by omega
 unfold Dy
 rcases this with h | h <;> rw[h] <;> rfl
theorem uA (ns:List Int):1≤fK ns∧fK ns≤6:=by
 unfold fK
 split <;> omega
theorem Aq (ns:List Int):0 < p0 ns∧p0 ns≤8:=by
 unfold p0
 split <;> omega
theorem MN (ns:List Int){far:Int}(h0:0≤far)(h:far≤200):0≤mW ns far∧mW ns far≤200:=by
 have h1:=Int.emod_nonneg (cn ns 1 / 8) (show far+1≠0 by omega)
 have h2:=Int.emod_lt_of_pos (cn ns 1 / 8) (show(0:Int) < far+1 by omega)
 unfold mW pZ
 split
 . omega
 . split <;> omega
theorem B3 (ns:List Int):0 < (Dx ns).length∧(Dx ns).length≤6∧(Dx ns).Nodup∧∀ x∈Dx ns,small x:=by
 have hb:=uA ns
 have ok:=Ap (cn ns 0 / 12) (n:=(fK ns).toNat) (by omega)
 unfold Dx
 exact⟨by omega,by omega,ok.2.1,ok.2.2⟩
theorem R8 (ns:List Int):(Dx ns).length=(fK ns).toNat:=by
 have hb:=uA ns
 exact(Ap (cn ns 0 / 12) (n:=(fK ns).toNat) (by omega)).1
theorem aab (ns:List Int):cQ (uz ns):=let h:=B3 ns;IT ns (Aq ns) h.1 h.2.1 h.2.2.1 h.2.2.2
theorem aac (ns:List Int):kS (uz ns) (rV ns):=by
 have h:=B3 ns
 have w:=yj h.1 (cn ns 2) 8 (by decide)
 exact⟨aab ns,w.1,w.2.1,fun x hx=>by unfold uz;rw[B2];exact w.2.2 x hx⟩
def MO:Rl:=fun ds r=>∃ (ns:List Int) (far:Int),ds=[.lP ns,.int far]∧(0≤far∧far≤200)∧r=.ret (.tup [.int (wy (Dy ns)),.lst ((uz ns).map oR),.str (tx (rV ns)),.int (mW ns far)])
section
variable {P:Program}{w:World}{K:PySem.W.Frag}{mg:Str→Option Value}{base:Heap}{t:df}
theorem IU (T:Txt K mg t):GF P w K mg base CX 2 "_law_shape" 2 MO:=by
 refine⟨_,_,_,gx T.LU zP rfl fun cS A outer s H E G ds r hr hl hR=>?_,T.LX,T.LV,T.LW⟩
 obtain⟨ns,far,rfl,⟨hf0,hf⟩,rfl⟩:=hR
 have nd:=zP.nd
 have fC:=uv (P:=P) (w:=w) (base:=base) T
 have MP:=IS (P:=P) (w:=w) (base:=base) T
 have IV:=ML (P:=P) (w:=w) (base:=base) T
 have hM:=uA ns
 have hm:=Aq ns
 have hL:=B3 ns
 have hlen:=R8 ns
 have eM:fK ns=(((fK ns).toNat:Nat):Int):=by omega
 let c0:=cn ns 0
 let c1:=cn ns 1
 let L:=Dx ns
 let m:=p0 ns
 let D:Int→Int→Int→List Slot:=fun a b c=>[.val (.lP ns),.val (.int far),.val (.int c0),.val (.int (c1 % 8)),.val (.int a),.val (.int b),.val (.int c),.bE,.bE,.bE,.bE,.bE,.bE]
 let S:Nat→List Slot:=fun k=>[.val (.lP ns),.val (.int far),.val (.int c0),.val (.int (c1 % 8)),.val (.int (mW ns far)),.val (.int (fK ns)),.val (.int m),.val (.str (tx L)),.own (.lst (((List.range k).map (vt L ns m)).map oR)),.bE,.bE,.bE,.bE]
 have cl:∀ (j:Nat),j≤100→rT [.lP ns,.int j] (.ret (.int (cn ns j))):=fun j hj=>⟨ns,j,rfl,hj,rfl⟩
 refine⟨_,.rt _,aj (aE 2 nd (cR fC aF hr (ae (aa 0 rfl) (ae ar ao)) (cl 0 (by decide))))
   (aj (aE 3 nd (dj (cR fC aF hr (ae (aa 0 rfl) (ae ar ao)) (cl 1 (by decide))) ar (by decide)))
   (aj (aE 4 nd (dj (eZ (cR fC aF hr (ae (aa 0 rfl) (ae ar ao)) (cl 1 (by decide))) ar ⟨by decide,by decide +kernel⟩) ar (by decide)))
   (aj (aE 5 nd (bu ar (dj (eZ (aa 2 rfl) ar ⟨by decide,by decide +kernel⟩) ar (by decide))))
   (aj (aE 6 nd ar)
   (aj (dl1:=D (pZ ns far) (1+c0 / 2 % 6) 8) (dm (jS (aa 3 rfl) ar) (fun h=>?_) (fun h=>?_))
   (aj (dl1:=D (mW ns far) (fK ns) m) (dm (jS (aa 3 rfl) ar) (fun h=>?_) (fun h=>?_))
   (aj (aE 7 nd (d:=.str (tx L)) (cR MP aF hr (ae (eZ (aa 2 rfl) ar ⟨by decide,by decide +kernel⟩) (ae (bP (aa 5 rfl) (congrArg Dt.int eM)) ao)) ⟨c0 / 12,(fK ns).toNat,rfl,by omega,rfl⟩))
   (aj (ib 8 nd (jU ao (Nat.le_of_ble_eq_true rfl)))
   (aj (dl1:=S L.length) (ip (o:=.nx (S L.length)) (m:=L.length) 9 S nd rfl PassesOwn.leaving T.z_range (ae (bP (aa 5 rfl) (congrArg Dt.int eM)) ao) ⟨by omega,by omega⟩ (Le.of ⟨rfl,rfl,rfl,rfl,rfl,rfl,rfl,rfl,rfl,trivial⟩) (by show(Dx ns).length≤_;omega) (fun k hk=>?_) (by rw[Int.toNat_natCast,← hlen];exact .all rfl))
   (aj (aE 12 nd (d:=.str (tx (rV ns))) (cR IV aF hr (ae (cR fC aF hr (ae (aa 0 rfl) (ae ar ao)) (cl 2 (by decide))) (ae (aa 7 rfl) (ae ar ao))) ⟨L,cn ns 2,8,rfl,⟨hL.1,by show(Dx ns).length≤100;omega⟩,⟨Ao _ _,by decide,by decide⟩,rfl⟩))
   (sE (w:=.lst (((List.range L.length).map (vt L ns m)).map oR)) 8 (av (aV (d8 (ae (bP (bu ar (ff ar (dj (aa 2 rfl) ar (by decide)) (nG.ok (Or.inl ⟨by decide,by decide⟩)))) (congrArg Dt.int (aaa ns))) (ae (aa 8 rfl) (ae (aa 12 rfl) (ae (aa 4 rfl) ao)))) (Nat.le_of_ble_eq_true rfl)))))))))))))))⟩
 . have h:=of_decide_eq_true h
   have e:pZ ns far=c1 / 8 % (far+1):=if_pos h
   rw[e]
   exact av (aE 4 nd (dj (eZ (cR fC aF hr (ae (aa 0 rfl) (ae ar ao)) (cl 1 (by decide))) ar ⟨by decide,by decide +kernel⟩) (bu (aa 1 rfl) ar) (by omega)))
 . have h:=of_decide_eq_false h
   have e:pZ ns far=c1 / 8 % 13:=if_neg h
   rw[e]
   exact dk
 . have h:=of_decide_eq_true h
   have e1:mW ns far=200 - c1 / 8 % 100:=if_pos h
   have e2:fK ns=1+c0 / 2 % 2:=if_pos h
   have e3:m=2:=if_pos h
   rw[e1,e2,e3]
   exact aj (aE 4 nd (eD ar (dj (eZ (cR fC aF hr (ae (aa 0 rfl) (ae ar ao)) (cl 1 (by decide))) ar ⟨by decide,by decide +kernel⟩) ar (by decide))))
     (aj (aE 5 nd (bu ar (dj (eZ (aa 2 rfl) ar ⟨by decide,by decide +kernel⟩) ar (by decide)))) (av (aE 6 nd ar)))
 . have h:=of_decide_eq_false h
   have e1:mW ns far=pZ ns far:=if_neg h
   have e2:fK ns=1+c0 / 2 % 6:=if_neg h
   have e3:m=8:=if_neg h
   rw[e1,e2,e3]
   exact dk
 . have hk:k < (Dx ns).length:=hk
   have h0:=Int.emod_nonneg (cn ns (3+k)) (show(5:Int)≠0 by decide)
   have h1:=Int.emod_lt_of_pos (cn ns (3+k)) (show(0:Int) < 5 by decide)
   have hnn:=Ao ns (3+k)
   have e:((List.range (k+1)).map (vt L ns m)).map oR=((List.range k).map (vt L ns m)).map oR ++ [oR (vt L ns m k)]:=by
     rw[List.range_succ,List.map_append,List.map_append];rfl
   refine .nx (aj (aE 10 nd (cR fC aF hr (ae (aa 0 rfl) (ae (bP (bu ar (aa 9 rfl)) (congrArg Dt.int (show(3:Int)+(k:Int)=((3+k:Nat):Int) by omega))) ao)) (cl (3+k) (by omega))))
     (aj (aE 11 nd (d:=.str (dG (cn ns (3+k)))) (bV (d8 (ae eJ (ae eJ (ae eJ (ae eJ (ae eJ ao))))) (Nat.le_of_ble_eq_true rfl)) (dj (aa 10 rfl) ar (by decide)) (at_getD (L:=Dw) (n:=5) rfl h0 h1)))
     (av (pD (ds:=((List.range k).map (vt L ns m)).map oR) 8 (d:=oR (vt L ns m k)) (d8 (ae (x5 (aa 7 rfl) (aa 9 rfl) hk (by show(Dx ns).length≤2000;omega)) (ae (aa 11 rfl) (ae (cR IV aF hr (ae (eZ (aa 10 rfl) ar ⟨by decide,by decide +kernel⟩) (ae (aa 7 rfl) (ae (aa 6 rfl) ao))) ⟨L,cn ns (3+k) / 5,m,rfl,⟨hL.1,by show(Dx ns).length≤100;omega⟩,⟨Int.ediv_nonneg hnn (by decide),hm.1,by have:=hm.2;show p0 ns≤500;omega⟩,rfl⟩) ao))) (Nat.le_of_ble_eq_true rfl)) (by rw[List.length_map,List.length_map,List.length_range];exact Nat.lt_of_lt_of_le (show k < 2000 by omega) (by decide)))))) (Le.of ⟨rfl,rfl,rfl,rfl,rfl,rfl,rfl,rfl,?_,trivial⟩)
   show Slot.own (.lst (((List.range (k+1)).map (vt L ns m)).map oR))=_
   rw[e]
end
theorem IW (B:List Nat)(f g:Nat→Int):(B.map fun b=>f b+g b).sum=(B.map f).sum+(B.map g).sum:=by
 induction B with
 | nil=>rfl
 | cons b B ih=>rw[List.map_cons,List.sum_cons,ih,List.map_cons,List.sum_cons,List.map_cons,List.sum_cons];omega
theorem IY (B:List Nat):(B.map fun _=>(0:Int)).sum=0:=by
 induction B with
 | nil=>rfl
 | cons b B ih=>rw[List.map_cons,List.sum_cons,ih];rfl
theorem E3 (A B:List Nat)(f:Nat→Nat→Int):(A.map fun a=>(B.map fun b=>f a b).sum).sum=(B.map fun b=>(A.map fun a=>f a b).sum).sum:=by
 induction A with
 | nil=>exact(IY B).symm
 | cons a A ih=>
   rw[List.map_cons,List.sum_cons,ih,← IW]
   rfl
def gP (rows:List Row):Nat→Nat→List Nat
 | 0,c=>[c]
 | r+1,c=>(wordOf rows c).flatMap (gP rows r)
theorem ags (rows:List Row)(r c:Nat):lT rows (r+1) c=((wordOf rows c).map (lT rows r)).sum:=by
 unfold lT
 exact(E3 (wordOf rows c) (rows.map (·.c)) fun y x=>cT rows r y x).symm
theorem fZ {rows:List Row}(ok:cQ rows){c:Nat}(hc:c∈rows.map (·.c)):(∀ y∈wordOf rows c,y∈rows.map (·.c))∧0 < (wordOf rows c).length∧(wordOf rows c).length≤8:=by
 obtain⟨q,hq,_,_,ew⟩:=gH hc
 rw[ew]
 exact⟨ok.wo q hq,ok.wp q hq⟩
theorem uB {f:Nat→List Nat}{g:Nat→Int}:∀ {w:List Nat},(∀ y∈w,(((f y).length:Nat):Int)=g y)→(((w.flatMap f).length:Nat):Int)=(w.map g).sum
 | [],_=>rfl
 | y::w,h=>by
   rw[List.flatMap_cons,List.length_append,List.map_cons,List.sum_cons,← h y (by simp),← uB (f:=f) (g:=g) fun z hz=>h z (by simp[hz])]
   omega
theorem B4 {rows:List Row}(ok:cQ rows):∀ (r:Nat) {c:Nat},c∈rows.map (·.c)→(((gP rows r c).length:Nat):Int)=lT rows r c
 | 0,c,hc=>by rw[Z2 ok hc];rfl
 | r+1,c,hc=>by
   rw[ags]
   exact uB fun y hy=>B4 ok r ((fZ ok hc).1 y hy)
theorem IZ {rows:List Row}(ok:cQ rows):∀ (r:Nat) {c:Nat},c∈rows.map (·.c)→0 < (gP rows r c).length
 | 0,c,hc=>by show 0 < [c].length;simp
 | r+1,c,hc=>by
   obtain⟨h1,h2,_⟩:=fZ ok hc
   show 0 < ((wordOf rows c).flatMap (gP rows r)).length
   cases hw:wordOf rows c with
   | nil=>rw[hw] at h2;simp at h2
   | cons y w=>
     have:=IZ ok r (h1 y (by rw[hw];simp))
     rw[List.flatMap_cons,List.length_append];omega
abbrev Pc:=Nat×Nat
def q8 (p:Pc):Dt:=.tup [.int ((p.1:Nat):Int),.str (sg p.2)]
def flat (rows:List Row)(st:List Pc):List Nat:=st.flatMap fun p=>gP rows p.1 p.2
def wp (r:Nat)(w:List Nat):List Pc:=w.map fun c=>(r,c)
theorem Ar (rows:List Row)(a b:List Pc):flat rows (a ++ b)=flat rows a ++ flat rows b:=List.flatMap_append
theorem yk (rows:List Row)(r:Nat)(w:List Nat):flat rows (wp r w)=w.flatMap (gP rows r):=by unfold flat wp;rw[List.flatMap_map]
theorem aad (rows:List Row)(p:Pc):flat rows [p]=gP rows p.1 p.2:=by unfold flat;simp
theorem v5 (rows:List Row)(p:Pc)(st:List Pc):flat rows (p::st)=gP rows p.1 p.2 ++ flat rows st:=by unfold flat;rw[List.flatMap_cons]
structure PS where
 place:Nat
 st:List Pc
 bt:List Pc
def lK (rows:List Row)(b e:Nat)(s:PS):PS:=match s.st with
 | []=>s
 | p::st=>
   if s.place+(gP rows p.1 p.2).length≤b then ⟨s.place+(gP rows p.1 p.2).length,st,s.bt⟩
   else if b≤s.place∧s.place+(gP rows p.1 p.2).length≤e then ⟨s.place+(gP rows p.1 p.2).length,st,s.bt ++ [p]⟩
   else ⟨s.place,wp (p.1 - 1) (wordOf rows p.2) ++ st,s.bt⟩
def run (rows:List Row)(b e:Nat)(s:PS):Nat→PS
 | 0=>s
 | k+1=>lK rows b e (run rows b e s k)
theorem Ja (rows:List Row)(b e:Nat)(s:PS):∀ k,run rows b e s (k+1)=run rows b e (lK rows b e s) k
 | 0=>rfl
 | k+1=>by
   show lK rows b e (run rows b e s (k+1))=lK rows b e (run rows b e (lK rows b e s) k)
   rw[Ja rows b e s k]
structure SS (rows:List Row)(age b e:Nat)(W:List Nat)(s:PS):Prop where
 be:b≤e
 ew:e≤W.length
 pe:s.place≤e
 fl:flat rows s.st=W.drop s.place
 fb:flat rows s.bt=(W.take s.place).drop b
 mb:∀ p∈s.st,p.2∈rows.map (·.c)∧p.1≤age
 mt:∀ p∈s.bt,p.2∈rows.map (·.c)∧p.1≤age
def ins (b p q:Nat):Nat:=if p < b∧b < q then 1 else 0
theorem Jb (b p q:Nat):ins b p q≤1:=by unfold ins;split <;> omega
theorem Dz (b:Nat){p q r:Nat}(h1:p≤q)(h2:q≤r):ins b p q+ins b q r≤ins b p r:=by
 unfold ins
 split <;> split <;> split <;> omega
def mu (rows:List Row)(b e:Nat):Nat→List Pc→Nat
 | _,[]=>0
 | p,x::st=>1+8 * x.1 * (ins b p (p+(gP rows x.1 x.2).length)+ins e p (p+(gP rows x.1 x.2).length))+mu rows b e (p+(gP rows x.1 x.2).length) st
theorem Jc (rows:List Row)(b e:Nat):∀ (p:Nat) (st:List Pc),st.length≤mu rows b e p st
 | _,[]=>Nat.le_refl 0
 | p,x::st=>by
   have:=Jc rows b e (p+(gP rows x.1 x.2).length) st
   rw[mu,List.length_cons];omega
theorem Jd (rows:List Row)(b e r:Nat)(st:List Pc):∀ (p:Nat) (w:List Nat),mu rows b e p (wp r w ++ st)≤w.length+8 * r * (ins b p (p+(flat rows (wp r w)).length)+ins e p (p+(flat rows (wp r w)).length))+mu rows b e (p+(flat rows (wp r w)).length) st
 | p,[]=>by
   show mu rows b e p st≤_
   have:p+(flat rows (wp r [])).length=p:=rfl
   rw[this];omega
 | p,c::w=>by
   have ih:=Jd rows b e r st (p+(gP rows r c).length) w
   have el:p+(flat rows (wp r (c::w))).length=p+(gP rows r c).length+(flat rows (wp r w)).length:=by
     show p+(flat rows ((r,c)::wp r w)).length=_
     rw[v5,List.length_append];exact(Nat.add_assoc _ _ _).symm
   rw[el]
   have c1:=Dz b (Nat.le_add_right p (gP rows r c).length) (Nat.le_add_right (p+(gP rows r c).length) (flat rows (wp r w)).length)
   have c2:=Dz e (Nat.le_add_right p (gP rows r c).length) (Nat.le_add_right (p+(gP rows r c).length) (flat rows (wp r w)).length)
   have m:=Nat.mul_le_mul_left (8 * r) (Nat.add_le_add c1 c2)
   have m2:8 * r * (ins b p (p+(gP rows r c).length)+ins e p (p+(gP rows r c).length))+8 * r * (ins b (p+(gP rows r c).length) (p+(gP rows r c).length+(flat rows (wp r w)).length)+ins e (p+(gP rows r c).length) (p+(gP rows r c).length+(flat rows (wp r w)).length))≤8 * r * (ins b p (p+(gP rows r c).length+(flat rows (wp r w)).length)+ins e p (p+(gP rows r c).length+(flat rows (wp r w)).length)):=by
     rw[← Nat.mul_add]
     refine Nat.le_trans (Nat.mul_le_mul_left _ ?_) m
     omega
   show mu rows b e p ((r,c)::(wp r w ++ st))≤_
   rw[mu,List.length_cons]
   show 1+8 * r * (ins b p (p+(gP rows r c).length)+ins e p (p+(gP rows r c).length))+mu rows b e (p+(gP rows r c).length) (wp r w ++ st)≤_
   omega
theorem B5 {rows:List Row}(ok:cQ rows){age b e:Nat}{W:List Nat}{s:PS}(I:SS rows age b e W s)(hp:s.place < e):SS rows age b e W (lK rows b e s)∧mu rows b e (lK rows b e s).place (lK rows b e s).st < mu rows b e s.place s.st∧(lK rows b e s).bt.length+mu rows b e (lK rows b e s).place (lK rows b e s).st≤s.bt.length+mu rows b e s.place s.st∧∃ p st,s.st=p::st∧(¬ s.place+(gP rows p.1 p.2).length≤b→¬ (b≤s.place∧s.place+(gP rows p.1 p.2).length≤e)→0 < p.1):=by
 obtain⟨be,ew,pe,fl,fb,mb,mt⟩:=I
 obtain⟨place,st,bt⟩:=s
 simp only at pe fl fb mb mt hp ⊢
 cases st with
 | nil=>
   have:=congrArg List.length fl
   rw[List.length_drop] at this
   have z:(flat rows []).length=0:=rfl
   omega
 | cons p st=>
   rw[v5] at fl
   have aae:=IZ ok p.1 (mb p (by simp)).1
   have kG:∀ x∈st,x.2∈rows.map (·.c)∧x.1≤age:=fun x hx=>mb x (by simp[hx])
   have hlen:=congrArg List.length fl
   rw[List.length_drop,List.length_append] at hlen
   have fl2:flat rows st=W.drop (place+(gP rows p.1 p.2).length):=by
     rw[← List.drop_drop,← fl,List.drop_left]
   have ft:W.take (place+(gP rows p.1 p.2).length)=W.take place ++ gP rows p.1 p.2:=by
     rw[List.take_add,← fl,List.take_left]
   have zA:(¬ place+(gP rows p.1 p.2).length≤b→¬ (b≤place∧place+(gP rows p.1 p.2).length≤e)→0 < p.1):=fun h1 h2=>by
     rcases Nat.eq_zero_or_pos p.1 with z | z
     . rw[z] at h1 h2
       have e1:(gP rows 0 p.2).length=1:=rfl
       rw[e1] at h1 h2
       omega
     . exact z
   refine⟨?_,?_,?_,p,st,rfl,zA⟩
   . unfold lK
     simp only
     split
     . rename_i h
       refine⟨be,ew,by show place+_≤e;omega,fl2,?_,kG,mt⟩
       have n1:(W.take place).drop b=[]:=List.drop_eq_nil_of_le (by rw[List.length_take];omega)
       have n2:(W.take (place+(gP rows p.1 p.2).length)).drop b=[]:=List.drop_eq_nil_of_le (by rw[List.length_take];omega)
       show flat rows bt=(W.take (place+(gP rows p.1 p.2).length)).drop b
       rw[fb,n1,n2]
     . split
       . rename_i h1 h2
         refine⟨be,ew,h2.2,fl2,?_,kG,fun x hx=>?_⟩
         . show flat rows (bt ++ [p])=(W.take (place+(gP rows p.1 p.2).length)).drop b
           rw[Ar,aad,fb,ft,List.drop_append_of_le_length (by rw[List.length_take];omega)]
         . rcases List.mem_append.mp hx with hx | hx
           . exact mt x hx
           . have:x=p:=by simpa using hx
             rw[this];exact mb p (by simp)
       . rename_i h1 h2
         have hz:=zA h1 h2
         refine⟨be,ew,pe,?_,fb,fun x hx=>?_,mt⟩
         . show flat rows (wp (p.1 - 1) (wordOf rows p.2) ++ st)=_
           rw[Ar,yk,← fl]
           congr 1
           obtain⟨r,hr⟩:∃ r,p.1=r+1:=⟨p.1 - 1,by omega⟩
           rw[hr];rfl
         . rcases List.mem_append.mp hx with hx | hx
           . obtain⟨y,hy,rfl⟩:=List.mem_map.mp hx
             exact⟨(fZ ok (mb p (by simp)).1).1 y hy,by have:=(mb p (by simp)).2;show p.1 - 1≤age;omega⟩
           . exact kG x hx
   all_goals
     unfold lK
     simp only
     rw[mu]
     split
     . show _;simp only;omega
     . split
       . simp only[List.length_append,List.length_singleton];omega
       . rename_i h1 h2
         have hz:=zA h1 h2
         have hw8:=(fZ ok (mb p (by simp)).1).2.2
         have key:=Jd rows b e (p.1 - 1) st place (wordOf rows p.2)
         have ef:(flat rows (wp (p.1 - 1) (wordOf rows p.2))).length=(gP rows p.1 p.2).length:=by
           rw[yk]
           obtain⟨r,hr⟩:∃ r,p.1=r+1:=⟨p.1 - 1,by omega⟩
           rw[hr];rfl
         rw[ef] at key
         have hI:1≤ins b place (place+(gP rows p.1 p.2).length)+ins e place (place+(gP rows p.1 p.2).length):=by
           unfold ins
           split <;> split <;> omega
         generalize ins b place (place+(gP rows p.1 p.2).length)+ins e place (place+(gP rows p.1 p.2).length)=J at key hI ⊢
         have m:8+8 * (p.1 - 1) * J≤8 * p.1 * J:=by
           obtain⟨r,hr⟩:∃ r,p.1=r+1:=⟨p.1 - 1,by omega⟩
           rw[hr,Nat.add_sub_cancel,Nat.mul_add,Nat.add_mul]
           omega
         simp only
         omega
theorem B6 {rows:List Row}(ok:cQ rows){age b e:Nat}{W:List Nat}{s:PS}(I:SS rows age b e W s){n:Nat}(h:∀ k,k < n→(run rows b e s k).place < e):∀ k,k≤n→SS rows age b e W (run rows b e s k)∧(run rows b e s k).bt.length+mu rows b e (run rows b e s k).place (run rows b e s k).st≤s.bt.length+mu rows b e s.place s.st
 | 0,_=>⟨I,Nat.le_refl _⟩
 | k+1,hk=>by
   obtain⟨i1,i2⟩:=B6 ok I h k (by omega)
   obtain⟨j1,_,j3,_⟩:=B5 ok i1 (h k (by omega))
   exact⟨j1,Nat.le_trans j3 i2⟩
theorem As {rows:List Row}(ok:cQ rows){age b e:Nat}{W:List Nat}:∀ (m:Nat) {s:PS},SS rows age b e W s→mu rows b e s.place s.st≤m→∃ n,e≤(run rows b e s n).place∧∀ k,k < n→(run rows b e s k).place < e
 | m,s,I,hm=>by
   by_cases hp:s.place < e
   . obtain⟨j1,j2,_⟩:=B5 ok I hp
     cases m with
     | zero=>omega
     | succ m=>
       obtain⟨n,h1,h2⟩:=As ok m j1 (by omega)
       refine⟨n+1,by rw[Ja];exact h1,fun k hk=>?_⟩
       cases k with
       | zero=>exact hp
       | succ k=>rw[Ja];exact h2 k (by omega)
   . exact⟨0,by show e≤s.place;omega,fun k hk=>by omega⟩
def uC (rows:List Row)(w:List Nat)(age:Nat):List Nat:=w.flatMap (gP rows age)
def vv (w:List Nat)(age:Nat):PS:=⟨0,wp age w,[]⟩
theorem B7 {rows:List Row}{w:List Nat}(ok:kS rows w){age b e:Nat}(be:b≤e)(ew:e≤(uC rows w age).length):SS rows age b e (uC rows w age) (vv w age):=
 ⟨be,ew,Nat.zero_le _,yk rows age w,by show []=(List.take 0 _).drop b;simp,fun p hp=>by
   obtain⟨y,hy,rfl⟩:=List.mem_map.mp hp
   exact⟨ok.wm y hy,Nat.le_refl _⟩,fun p hp=>by cases hp⟩
theorem Je {rows:List Row}{w:List Nat}(ok:kS rows w){age b e:Nat}(ha:age≤200):mu rows b e (vv w age).place (vv w age).st≤4000:=by
 have key:=Jd rows b e age [] 0 w
 rw[List.append_nil] at key
 have w8:=ok.w8
 have i1:=Jb b 0 (0+(flat rows (wp age w)).length)
 have i2:=Jb e 0 (0+(flat rows (wp age w)).length)
 have m:8 * age * (ins b 0 (0+(flat rows (wp age w)).length)+ins e 0 (0+(flat rows (wp age w)).length))≤8 * 200 * 2:=Nat.mul_le_mul (by omega) (by omega)
 have z:mu rows b e (0+(flat rows (wp age w)).length) []=0:=rfl
 show mu rows b e 0 (wp age w)≤4000
 omega
theorem yl {rows:List Row}{w:List Nat}(ok:kS rows w)(age:Nat):(((uC rows w age).length:Nat):Int)=lnT rows w age:=uB fun y hy=>B4 ok.ok age (ok.wm y hy)
def R9:Rl:=fun ds r=>∃ (w:List Nat) (n:Nat),ds=[.str (tx w),.int ((n:Nat):Int)]∧w.length≤1000∧r=.own (.lst ((wp n w).reverse.map q8))
abbrev Sa:Stmt→Scope
 | .Return (some (.ListComp _ _ sc _)) _=>sc
 | _=>af (.Pass ⟨0,0,0,0⟩)
abbrev aaf:Scope:=Sa ((ai aZ).getD 0 (.Pass ⟨0,0,0,0⟩))
theorem NZ:g8 aaf (af aZ) jy ["letter","rounds"] ["letter"] [1]=true:=by decide +kernel
def Jf (t:df):Rl:=fun ds r=>∃ six rows w l ls N age b e n,ds=[.obj t.aw (t.fY six rows w l ls N),.int ((age:Nat):Int),.int ((b:Nat):Int),.int ((e:Nat):Int)]∧(kS rows w∧ls.map (·.2)=oX rows∧age < N∧N≤1000∧age≤200)∧(b≤e∧e≤(uC rows w age).length)∧(e≤(run rows b e (vv w age) n).place∧∀ k,k < n→(run rows b e (vv w age) k).place < e) ∧
 r=.own (.lst ((run rows b e (vv w age) n).bt.map q8))
section
variable {P:Program}{w:World}{K:PySem.W.Frag}{mg:Str→Option Value}{base:Heap}{t:df}
theorem MQ (T:Txt K mg t):GF P w K mg base CX 1 "waiting_pieces" 2 R9:=by
 refine⟨_,_,_,gx T.pR oh rfl fun cS A outer s H E G ds r hr hl hR=>?_,T.pU,T.pS,T.pT⟩
 obtain⟨wd,n,rfl,hw,rfl⟩:=hR
 have e1:(wd.reverse.map fun x=>Dt.str (sg x))=(Sg.signs (tx wd)).reverse:=by rw[← fz,List.map_reverse]
 have e2:((wd.reverse.filter fun _=>true).map fun x=>Dt.tup [.int ((n:Nat):Int),.str (sg x)])=(wp n wd).reverse.map q8:=by
   rw[List.filter_eq_self.mpr (fun _ _=>rfl)]
   unfold wp
   rw[← List.map_reverse,List.map_map];rfl
 exact⟨_,.ro _,av (iR (Gi (gO wd.reverse (fun x=>Dt.str (sg x)) (fun x=>Dt.tup [.int ((n:Nat):Int),.str (sg x)]) (fun x=>[.val (.str (sg x))]) (fun _=>true) rfl (d6 NZ) (K9 T.z_reversed (ae (aa 0 rfl) ao)) (ee (d6 NZ) rfl) (eO (Ex (by rw[fB];omega)) e1) (fun a _=>eK) (.nil fun _ _=>rfl)
   (fun a ha _ C fp s' H' G'=>d8 (ae (aa 1 rfl) (ae (aa 0 rfl) ao)) (Nat.le_of_ble_eq_true rfl)) (ql (by rw[List.length_reverse];omega))) (congrArg Own.lst e2)))⟩
theorem E4 (T:Txt K mg t):MF P w K mg base CX 4 t.aw "pieces" 4 (Jf t):=by
 refine⟨T.bF,_,_,_,gx T.qV jA rfl fun cS A outer s H E G ds r hr hl hR=>?_,T.jG,T.qW⟩
 obtain⟨six,rows,wd,l,ls,N,age,b,e,n,rfl,⟨ok,l8,hN,hN1,i8⟩,⟨rb,MR⟩,⟨hen,dS⟩,rfl⟩:=hR
 have Jg:=MQ (P:=P) (w:=w) (base:=base) T
 have uu:=ug (P:=P) (w:=w) (base:=base) T
 have nd:=jA.nd
 have hu:(A.deeper (envOfC "Growth.pieces" (af bA) s.heap.objs.size t.bO cS)).units+1 < cLine:=by have:=hr.units;omega
 have w8:=ok.w8
 let R:Nat→PS:=run rows b e (vv wd age)
 have PK:=B6 ok.ok (B7 ok rb MR) dS
 have h0:(vv wd age).bt.length+mu rows b e (vv wd age).place (vv wd age).st≤4000:=by
   have:=Je ok (b:=b) (e:=e) i8
   show 0+_≤_;omega
 have hsz:∀ k,k≤n→(R k).bt.length≤4000∧(R k).st.length≤4000:=fun k hk=>by
   have h1:=(PK k hk).2
   have h2:=Jc rows b e (run rows b e (vv wd age) k).place (run rows b e (vv wd age) k).st
   exact⟨by show(run rows b e (vv wd age) k).bt.length≤4000;omega,by show(run rows b e (vv wd age) k).st.length≤4000;omega⟩
 have szq:∀ {m:Nat},m≤8000→m < sizeLine:=fun h=>Nat.lt_of_le_of_lt h (by decide)
 let sf:Dt:=.obj t.aw (t.fY six rows wd l ls N)
 let S:Nat→List Slot:=fun k=>[.val sf,.val (.int ((age:Nat):Int)),.val (.int ((b:Nat):Int)),.val (.int ((e:Nat):Int)),.own (.lst ((R k).bt.map q8)),.own (.lst ((R k).st.reverse.map q8)),.val (.int (((R k).place:Nat):Int)),.bE,.bE,.bE]
 refine⟨_,.ro _,aj (ib 4 nd (jU ao (Nat.le_of_ble_eq_true rfl))) (aj (ib 5 nd (vJ Jg aF hr (ae (aP (fs:=t.fY six rows wd l ls N) (aa 0 rfl) T.bF T.na_Growth_seed rfl) (ae (aa 1 rfl) ao)) ⟨wd,age,rfl,by omega,rfl⟩))
   (aj (aE 6 nd ar) (aj (dl1:=S n) (Gw S n PassesOwn.leaving (Le.of ⟨rfl,rfl,rfl,rfl,rfl,rfl,rfl,trivial⟩) (fun k hk=>d5 (sA (aa 6 rfl) (aa 3 rfl)) (decide_eq_true ?c1)) (d5 (sA (aa 6 rfl) (aa 3 rfl)) (decide_eq_false ?c2)) (fun k hk=>?body)) (av (Kw 4)))))⟩
 case c1=>have:=dS k hk;show(((run rows b e (vv wd age) k).place:Nat):Int) < _;omega
 case c2=>show ¬ (((run rows b e (vv wd age) n).place:Nat):Int) < _;omega
 case body=>
   have hk':=dS k hk
   obtain⟨Ik,_⟩:=PK k (Nat.le_of_lt hk)
   obtain⟨_,_,_,p,st,es,zA⟩:=B5 ok.ok Ik hk'
   have eR:R (k+1)=lK rows b e (R k):=rfl
   obtain⟨Fd,yM⟩:=hsz k (Nat.le_of_lt hk)
   have JY:(R k).st=p::st:=es
   have Fi:=Ik.mb p (by rw[es];simp)
   have aae:p.1 < N:=by omega
   have hg:=B4 ok.ok p.1 Fi.1
   have agt:(R k).st.reverse.map q8=st.reverse.map q8 ++ [q8 p]:=by rw[JY,List.reverse_cons,List.map_append];rfl
   have akX:st.length≤4000:=by have:=congrArg List.length JY;rw[List.length_cons] at this;omega
   let q:Nat:=(R k).place+(gP rows p.1 p.2).length
   have eq:(((R k).place:Nat):Int)+lT rows p.1 p.2=((q:Nat):Int):=by rw[← hg];show _=(((R k).place+(gP rows p.1 p.2).length:Nat):Int);omega
   let U:List Slot:=[.val sf,.val (.int ((age:Nat):Int)),.val (.int ((b:Nat):Int)),.val (.int ((e:Nat):Int)),.own (.lst ((R k).bt.map q8)),.own (.lst (st.reverse.map q8)),.val (.int (((R k).place:Nat):Int)),.val (q8 p),.val (.int ((p.1:Nat):Int)),.val (.int ((q:Nat):Int))]
   have hS:S k=[.val sf,.val (.int ((age:Nat):Int)),.val (.int ((b:Nat):Int)),.val (.int ((e:Nat):Int)),.own (.lst ((R k).bt.map q8)),.own (.lst (st.reverse.map q8 ++ [q8 p])),.val (.int (((R k).place:Nat):Int)),.bE,.bE,.bE]:=by
     show [_,_,_,_,_,Slot.own (.lst ((R k).st.reverse.map q8)),_,_,_,_]=_
     rw[agt]
   rw[hS]
   refine .nx (dl':=[.val sf,.val (.int ((age:Nat):Int)),.val (.int ((b:Nat):Int)),.val (.int ((e:Nat):Int)),.own (.lst ((R (k+1)).bt.map q8)),.own (.lst ((R (k+1)).st.reverse.map q8)),.val (.int (((R (k+1)).place:Nat):Int)),.val (q8 p),.val (.int ((p.1:Nat):Int)),.val (.int ((q:Nat):Int))]) (aj (Qk (ds:=st.reverse.map q8) (d:=q8 p) 7 5 nd rfl) (aj (aE 8 nd (bV (aa 7 rfl) ar rfl)) (aj (dl1:=U) (aE 9 nd (bP (bu (aa 6 rfl) (iw hu (Bo (n:=N) (j:=1) (f:=yg rows) (aP (fs:=t.fY six rows wd l ls N) (aa 0 rfl) T.bF T.na_Growth_lengths rfl) (aa 8 rfl) (by rw[l8];rfl) aae hN1) (bV (aa 7 rfl) ar rfl) (by rw[NT];exact i5 Fi.1) (fun _ _=>rfl))) (congrArg Dt.int eq)))
     (av (dm (u:=decide (q≤b)) (d5 (nV (aa 9 rfl) (aa 2 rfl)) (decide_eq_decide.mpr (Int.ofNat_le (m:=q) (n:=b)))) (fun h=>?b1) (fun h=>av (dm (u:=decide (b≤(R k).place∧q≤e)) ?cc (fun h'=>?b2) (fun h'=>?b3)))))))) (Le.of ⟨rfl,rfl,rfl,rfl,rfl,rfl,rfl,trivial⟩)
   case b1=>
     have h:q≤b:=of_decide_eq_true h
     have e1:R (k+1)=⟨q,st,(R k).bt⟩:=by rw[eR];unfold lK;rw[JY];exact if_pos h
     rw[e1]
     exact av (aE 6 nd (aa 9 rfl))
   case cc=>
     by_cases h1:b≤(R k).place
     . by_cases h2:q≤e
       . rw[decide_eq_true (⟨h1,h2⟩:b≤(R k).place∧q≤e)]
         exact uM (pv (u:=true) (v:=true) (d5 (nV (aa 2 rfl) (aa 6 rfl)) (decide_eq_true (by omega))) fun _=>rq (d5 (nV (aa 9 rfl) (aa 3 rfl)) (decide_eq_true (by omega))))
       . rw[decide_eq_false (fun z:b≤(R k).place∧q≤e=>h2 z.2)]
         exact uM (pv (u:=true) (v:=false) (d5 (nV (aa 2 rfl) (aa 6 rfl)) (decide_eq_true (by omega))) fun _=>rq (d5 (nV (aa 9 rfl) (aa 3 rfl)) (decide_eq_false (by omega))))
     . rw[decide_eq_false (fun z:b≤(R k).place∧q≤e=>h1 z.1)]
       exact uM (pv (u:=false) (v:=false) (d5 (nV (aa 2 rfl) (aa 6 rfl)) (decide_eq_false (by omega))) fun z=>nomatch z)
   case b2=>
     have h:¬ q≤b:=of_decide_eq_false h
     have h':=of_decide_eq_true h'
     have e1:R (k+1)=⟨q,st,(R k).bt ++ [p]⟩:=by rw[eR];unfold lK;rw[JY];exact(if_neg h).trans (if_pos h')
     rw[e1]
     show jQ _ _ _ _ _ (.nx [_,_,_,_,.own (.lst (((R k).bt ++ [p]).map q8)),_,_,_,_,_])
     rw[List.map_append]
     exact aj (pD (ds:=(R k).bt.map q8) 4 (aa 7 rfl) (by rw[List.length_map];exact szq (by omega))) (av (aE 6 nd (aa 9 rfl)))
   case b3=>
     have h:¬ q≤b:=of_decide_eq_false h
     have h':=of_decide_eq_false h'
     have hz:=zA h h'
     have e1:R (k+1)=⟨(R k).place,wp (p.1 - 1) (wordOf rows p.2) ++ st,(R k).bt⟩:=by rw[eR];unfold lK;rw[JY];exact(if_neg h).trans (if_neg h')
     rw[e1]
     have hw:=fZ ok.ok Fi.1
     show jQ _ _ _ _ _ (.nx [_,_,_,_,_,.own (.lst ((wp (p.1 - 1) (wordOf rows p.2) ++ st).reverse.map q8)),_,_,_,_])
     rw[List.reverse_append,List.map_append]
     exact av (Ek (ds:=st.reverse.map q8) 5 (g7 (vJ Jg aF hr (ae (cE (fs:=t.vW six rows) (aP (fs:=t.fY six rows wd l ls N) (aa 0 rfl) T.bF T.na_Growth_rules rfl) uu aF hr (ae (bV (aa 7 rfl) ar rfl) ao) ⟨six,rows,p.2,rfl,ok.ok,Fi.1,rfl⟩) (ae (bP (eD (aa 8 rfl) ar) (congrArg Dt.int (show((p.1:Nat):Int) - 1=((p.1 - 1:Nat):Int) by omega))) ao)) ⟨wordOf rows p.2,p.1 - 1,rfl,by omega,rfl⟩)) (by
       rw[List.length_map,List.length_map,List.length_reverse,List.length_reverse]
       show st.length+((wordOf rows p.2).map fun c=>(p.1 - 1,c)).length≤_
       rw[List.length_map]
       exact Nat.le_of_lt (szq (by omega))))
end
def grow (rows:List Row)(w:List Nat):List Nat:=(w.map (wordOf rows)).flatten
theorem Jh (rows:List Row)(a b:List Nat):grow rows (a ++ b)=grow rows a ++ grow rows b:=by
 unfold grow;rw[List.map_append,List.flatten_append]
theorem ym (rows:List Row)(f:Nat→List Nat):∀ w:List Nat,grow rows (w.flatMap f)=w.flatMap fun y=>grow rows (f y)
 | []=>rfl
 | y::w=>by rw[List.flatMap_cons,List.flatMap_cons,Jh,ym rows f w]
theorem DA (rows:List Row):∀ (r c:Nat),grow rows (gP rows r c)=gP rows (r+1) c
 | 0,c=>by
   show [wordOf rows c].flatten=(wordOf rows c).flatMap fun y=>[y]
   simp
 | r+1,c=>by
   show grow rows ((wordOf rows c).flatMap (gP rows r))=_
   rw[ym]
   show _=(wordOf rows c).flatMap (gP rows (r+1))
   congr 1
   funext y
   exact DA rows r y
theorem N1 (rows:List Row)(w:List Nat)(n:Nat):grow rows (uC rows w n)=uC rows w (n+1):=by
 unfold uC
 rw[ym]
 congr 1
 funext y
 exact DA rows n y
theorem aag (rows:List Row)(w:List Nat):uC rows w 0=w:=by
 show w.flatMap (fun y=>[y])=w
 simp
theorem DB {rows:List Row}(ok:cQ rows){w:List Nat}(h:∀ x∈w,x∈rows.map (·.c)):∀ n,∀ x∈uC rows w n,x∈rows.map (·.c)
 | 0=>by rw[aag];exact h
 | n+1=>fun x hx=>by
   rw[← N1] at hx
   obtain⟨l,hl,hx⟩:=List.mem_flatten.mp hx
   obtain⟨y,hy,rfl⟩:=List.mem_map.mp hl
   exact(fZ ok (DB ok h n y hy)).1 x hx
theorem DC {rows:List Row}(ok:cQ rows):∀ {w:List Nat},(∀ x∈w,x∈rows.map (·.c))→w.length≤(grow rows w).length∧(grow rows w).length≤8 * w.length
 | [],_=>⟨Nat.zero_le _,Nat.zero_le _⟩
 | x::w,h=>by
   have ih:=DC ok (w:=w) fun y hy=>h y (List.mem_cons_of_mem _ hy)
   have hw:=fZ ok (h x (List.mem_cons_self ..))
   have e:(grow rows (x::w)).length=(wordOf rows x).length+(grow rows w).length:=by
     show((wordOf rows x::w.map (wordOf rows)).flatten).length=_
     rw[List.flatten_cons,List.length_append];rfl
   rw[e,List.length_cons];omega
theorem Ji {rows:List Row}(ok:cQ rows){w:List Nat}(h:∀ x∈w,x∈rows.map (·.c))(n:Nat):∀ k,(uC rows w n).length≤(uC rows w (n+k)).length
 | 0=>Nat.le_refl _
 | k+1=>Nat.le_trans (Ji ok h n k) (by rw[← Nat.add_assoc,← N1];exact(DC ok (DB ok h (n+k))).1)
theorem Sb {rows:List Row}(ok:cQ rows){w:List Nat}(h:∀ x∈w,x∈rows.map (·.c)){n m:Nat}(hm:n≤m):(uC rows w n).length≤(uC rows w m).length:=by
 have:=Ji ok h n (m - n)
 rwa [Nat.add_sub_cancel' hm] at this
abbrev B8 (t:df)(six:Bool)(rows:List Row)(w:List Nat)(l:Addr)(ls:gK)(n:Nat):Dt:=.obj t.aw (t.fY six rows w l ls n)
def agu (t:df):Rl:=fun ds r=>∃ six rows w l ls n age z,ds=[B8 t six rows w l ls n,.int ((age:Nat):Int),.int z]∧kS rows w∧ls.map (·.2)=oX rows∧age≤200∧(0≤z∧z≤((uC rows w age).length:Nat))∧r=.ret .dQ
def agv (t:df):Rl:=fun ds r=>∃ six rows w l ls n age,∃ b e:Nat,ds=[B8 t six rows w l ls n,.int ((age:Nat):Int),.int (b:Int),.int (e:Int)]∧kS rows w∧ls.map (·.2)=oX rows∧age≤200∧(b≤e∧e≤(uC rows w age).length)∧r=.ret (.uG l ls (age+1))
def cut (W:List Nat)(b e:Nat):List Nat:=(W.take e).drop b
section
variable {P:Program}{w:World}{K:PySem.W.Frag}{mg:Str→Option Value}{base:Heap}{t:df}
theorem aah (T:Txt K mg t):MF P w K mg base CX 7 t.aw "check_place" 3 (agu t):=by
 refine⟨T.bF,_,_,_,gx T.lI kK rfl fun cS A outer s H E G ds r hr hl hR=>?_,T.gU,T.lJ⟩
 obtain⟨six,rows,wd,l,ls,n,age,z,rfl,ok,l8,i8,hz,rfl⟩:=hR
 have DD:=Dv (P:=P) (w:=w) (base:=base) T
 have e:=yl ok age
 exact⟨_,.nx _,av (dm (u:=false) (uM (vF (u:=false) (v:=false) (d5 (sA (aa 2 rfl) ar) (decide_eq_false (by omega))) fun _=>(sx (d5 (zh (aa 2 rfl) (cE (fs:=t.fY six rows wd l ls n) (aa 0 rfl) DD aF hr (ae (aa 1 rfl) ao) ⟨six,rows,wd,l,ls,n,age,rfl,ok,l8,i8,rfl⟩)) (decide_eq_false (by omega)))))) (fun h=>nomatch h) (fun h=>dk))⟩
theorem aai (T:Txt K mg t):MF P w K mg base CX 8 t.aw "check_stretch" 4 (agv t):=by
 refine⟨T.bF,_,_,_,gx T.j6 jz rfl fun cS A outer s H E G ds r hr hl hR=>?_,T.fW,T.j7⟩
 obtain⟨six,rows,wd,l,ls,n,age,b,e,rfl,ok,l8,i8,⟨rb,MR⟩,rfl⟩:=hR
 have II:=An (P:=P) (w:=w) (base:=base) T
 have aaj:=aah (P:=P) (w:=w) (base:=base) T
 have e2:ls.length=2:=by have:=congrArg List.length l8;simpa [oX] using this
 exact⟨_,l1 (nm:=["tallies","lengths"]) (tl:=[.val (.int ((age:Nat):Int)),.val (.int (b:Int)),.val (.int (e:Int))]) (by rw[e2];exact Nat.le_refl 2),aj (n9 (m:=age+1) (tl:=[.val (.int ((age:Nat):Int)),.val (.int (b:Int)),.val (.int (e:Int))]) (cE (fs:=t.fY six rows wd l ls n) (aa 0 rfl) II aF hr (ae (aa 1 rfl) ao) ⟨six,rows,wd,l,ls,n,age,rfl,ok,l8,by omega,rfl⟩))
   (aj (nS (cE (fs:=t.fY six rows wd l ls (age+1)) (aa 0 rfl) aaj aF hr (ae (aa 1 rfl) (ae (aa 2 rfl) ao)) ⟨six,rows,wd,l,ls,_,age,b,rfl,ok,l8,i8,⟨by omega,by omega⟩,rfl⟩))
   (aj (dm (u:=false) (d5 (sA (aa 3 rfl) (aa 2 rfl)) (decide_eq_false (by omega))) (fun h=>nomatch h) (fun h=>dk))
   (av (nS (cE (fs:=t.fY six rows wd l ls (age+1)) (aa 0 rfl) aaj aF hr (ae (aa 1 rfl) (ae (aa 3 rfl) ao)) ⟨six,rows,wd,l,ls,_,age,e,rfl,ok,l8,i8,⟨by omega,by omega⟩,rfl⟩)))))⟩
end
theorem B9 (six:Bool)(w:Int)(p q:Int×Int):gX six w (ad p q)=gX six w p+gX six w q:=by
 unfold gX ad
 cases six
 . simp only[Bool.false_eq_true,if_false]
   split
   . rfl
   . split
     . rfl
     . split <;> omega
 . simp only[if_true]
   split
   . omega
   . split
     . omega
     . split
       . omega
       . split
         . omega
         . split <;> omega
theorem Au (six:Bool){w:Nat}(h:w < wn six)(b:Int)(p:Int×Int):gX six (((w:Int) - b) % wy six) p=gX six w (tn six (b % wy six).toNat p):=by
 have hw:=qm six
 have h0:=Int.emod_nonneg ((w:Int) - b) (Int.ne_of_gt (fJ six))
 have h1:=Int.emod_lt_of_pos ((w:Int) - b) (fJ six)
 have k:=Ih six h0 h1 b p
 rw[← k]
 congr 1
 cases six with
 | false=>show(((w:Int) - b) % 4+b) % 4=w;have:w < 4:=h;omega
 | true=>show(((w:Int) - b) % 6+b) % 6=w;have:w < 6:=h;omega
theorem uD (six:Bool)(ns:List Int)(f:Int){w:Nat}(h:w < wn six):(ke six ns f).getD w 0=ns.getD (((w:Int) - f) % wy six).toNat 0:=by
 unfold ke
 rw[List.getD_eq_getElem?_getD,List.getElem?_map,List.getElem?_range h];rfl
theorem yn (six:Bool)(w:Nat)(b:Int):(((w:Int) - b) % wy six).toNat < wn six∧((((w:Int) - b) % wy six).toNat:Int)=((w:Int) - b) % wy six:=by
 have hw:=qm six
 have h0:=Int.emod_nonneg ((w:Int) - b) (Int.ne_of_gt (fJ six))
 have h1:=Int.emod_lt_of_pos ((w:Int) - b) (fJ six)
 omega
theorem kh {f:Nat→Int}{n k:Nat}(h:k < n):((List.range n).map f).getD k 0=f k:=by
 rw[List.getD_eq_getElem?_getD,List.getElem?_map,List.getElem?_range h];rfl
def Sd (p q:Int):Int:=if q≤p then p else q
theorem gJ (six:Bool)(x y:Tr){w:Nat}(h:w < wn six):(jn six x y).reach.getD w 0=Sd (x.reach.getD w 0) (y.reach.getD (((w:Int) - x.turn) % wy six).toNat 0+gX six w x.shift):=by
 show((List.range (wn six)).map (vq six x y)).getD w 0=_
 rw[kh h]
 unfold vq Sd
 rw[uD six _ _ h]
theorem jI (six:Bool)(x y:Tr){w:Nat}(h:w < wn six):(jn six x y).cK.getD w 0=if y.reach.getD (((w:Int) - x.turn) % wy six).toNat 0+gX six w x.shift≤x.reach.getD w 0 then x.cK.getD w 0 else y.cK.getD (((w:Int) - x.turn) % wy six).toNat 0+x.many:=by
 show((List.range (wn six)).map (x6 six x y)).getD w 0=_
 rw[kh h]
 unfold x6
 rw[uD six _ _ h,uD six _ _ h]
theorem Jj (six:Bool):∀ (n:Nat) (p q:Int×Int),tn six n (ad p q)=ad (tn six n p) (tn six n q)
 | 0,p,q=>rfl
 | n+1,p,q=>by
   rw[tn,tn,tn,Jj six n]
   generalize tn six n p=a
   generalize tn six n q=b
   cases six
   . simp only[Pf.tl,ad,Bool.false_eq_true,if_false];refine Prod.ext ?_ ?_ <;> simp only <;> omega
   . simp only[Pf.tl,ad,if_true];refine Prod.ext ?_ ?_ <;> simp only <;> omega
theorem Jl (six:Bool)(a b:Int)(p:Int×Int):tn six (a % wy six).toNat (tn six (b % wy six).toNat p)=tn six (((a+b) % wy six) % wy six).toNat p:=by
 obtain⟨x,y⟩:=p
 cases six with
 | false=>
   have e:wy false=4:=rfl
   rw[e]
   have h:a % 4=0∨a % 4=1∨a % 4=2∨a % 4=3:=by omega
   have g:b % 4=0∨b % 4=1∨b % 4=2∨b % 4=3:=by omega
   have q:(a+b) % 4 % 4=(a % 4+b % 4) % 4:=by omega
   rw[q]
   rcases h with h | h | h | h <;> rcases g with g | g | g | g <;> rw[h,g] <;> simp[tn,Pf.tl]
 | true=>
   have e:wy true=6:=rfl
   rw[e]
   have h:a % 6=0∨a % 6=1∨a % 6=2∨a % 6=3∨a % 6=4∨a % 6=5:=by omega
   have g:b % 6=0∨b % 6=1∨b % 6=2∨b % 6=3∨b % 6=4∨b % 6=5:=by omega
   have q:(a+b) % 6 % 6=(a % 6+b % 6) % 6:=by omega
   rw[q]
   rcases h with h | h | h | h | h | h <;> rcases g with g | g | g | g | g | g <;> rw[h,g] <;> simp[tn,Pf.tl] <;> omega
theorem aak (six:Bool)(p q:Int×Int):cr (Pf.tl six p) (Pf.tl six q)=cr p q:=by
 unfold cr Pf.tl
 cases six
 . simp only[Bool.false_eq_true,if_false]
   have h1:-p.2 * q.1=-(p.2 * q.1):=Int.neg_mul _ _
   have h2:p.1 * -q.2=-(p.1 * q.2):=Int.mul_neg _ _
   omega
 . simp only[if_true]
   have h1:-p.2 * (q.1+q.2)=-(p.2 * q.1) - p.2 * q.2:=by rw[Int.neg_mul,Int.mul_add];omega
   have h2:(p.1+p.2) * -q.2=-(p.1 * q.2) - p.2 * q.2:=by rw[Int.mul_neg,Int.add_mul];omega
   omega
theorem N2 (six:Bool):∀ (n:Nat) (p q:Int×Int),cr (tn six n p) (tn six n q)=cr p q
 | 0,_,_=>rfl
 | n+1,p,q=>by rw[tn,tn,aak,N2 six n]
theorem MS (p q r:Int×Int):cr p (ad q r)=cr p q+cr p r:=by
 unfold cr ad
 simp only[Int.mul_add];omega
theorem MT (p q r:Int×Int):cr (ad p q) r=cr p r+cr q r:=by
 unfold cr ad
 simp only[Int.add_mul];omega
theorem Jm (p q r:Int×Int):ad p (ad q r)=ad (ad p q) r:=by
 unfold ad
 refine Prod.ext ?_ ?_ <;> simp only <;> omega
theorem list_eq {six:Bool}{a b:List Int}(ha:a.length=wn six)(hb:b.length=wn six)(h:∀ w,w < wn six→a.getD w 0=b.getD w 0):a=b:=by
 refine List.ext_getElem (by omega) fun i h1 h2=>?_
 have:=h i (by omega)
 rw[List.getD_eq_getElem?_getD,List.getD_eq_getElem?_getD,List.getElem?_eq_getElem h1,List.getElem?_eq_getElem h2] at this
 exact this
theorem p7 (six:Bool)(x y:Tr):(jn six x y).reach.length=wn six∧(jn six x y).cK.length=wn six:=by unfold jn;simp
theorem Jn (six:Bool)(x y z:Tr):jn six x (jn six y z)=jn six (jn six x y) z:=by
 have key:∀ w,w < wn six→∃ v u:Nat,v < wn six∧u < wn six∧(((w:Int) - x.turn) % wy six).toNat=v∧(((v:Int) - y.turn) % wy six).toNat=u∧(((w:Int) - (x.turn+y.turn) % wy six) % wy six).toNat=u∧gX six w (tn six (x.turn % wy six).toNat y.shift)=gX six v y.shift:=by
   intro w hw
   obtain⟨h1,h2⟩:=yn six w x.turn
   obtain⟨h3,h4⟩:=yn six (((w:Int) - x.turn) % wy six).toNat y.turn
   refine⟨_,_,h1,h3,rfl,rfl,?_,?_⟩
   . rw[h2]
     cases six with
     | false=>show(((w:Int) - (x.turn+y.turn) % 4) % 4).toNat=(((w - x.turn) % 4 - y.turn) % 4).toNat;congr 1;omega
     | true=>show(((w:Int) - (x.turn+y.turn) % 6) % 6).toNat=(((w - x.turn) % 6 - y.turn) % 6).toNat;congr 1;omega
   . rw[h2,Au six hw]
 have hr:(jn six x (jn six y z)).reach=(jn six (jn six x y) z).reach:=by
   refine list_eq (p7 _ _ _).1 (p7 _ _ _).1 fun w hw=>?_
   obtain⟨v,u,hv,hu,e1,e2,e3,e4⟩:=key w hw
   rw[gJ six _ _ hw,gJ six _ _ hw,gJ six _ _ hw,e1,gJ six _ _ hv,e2]
   show _=Sd _ (z.reach.getD (((w:Int) - (x.turn+y.turn) % wy six) % wy six).toNat 0+gX six w (ad x.shift (tn six (x.turn % wy six).toNat y.shift)))
   rw[e3,B9,e4]
   unfold Sd
   split <;> split <;> split <;> (try split) <;> omega
 have ht:(jn six x (jn six y z)).cK=(jn six (jn six x y) z).cK:=by
   refine list_eq (p7 _ _ _).2 (p7 _ _ _).2 fun w hw=>?_
   obtain⟨v,u,hv,hu,e1,e2,e3,e4⟩:=key w hw
   rw[jI six _ _ hw,jI six (jn six x y) _ hw,jI six x y hw,gJ six x y hw,e1,gJ six _ _ hv,jI six _ _ hv,e2]
   show _=if z.reach.getD (((w:Int) - (x.turn+y.turn) % wy six) % wy six).toNat 0+gX six w (ad x.shift (tn six (x.turn % wy six).toNat y.shift))≤_ then _ else z.cK.getD (((w:Int) - (x.turn+y.turn) % wy six) % wy six).toNat 0+(x.many+y.many)
   rw[e3,B9,e4]
   unfold Sd
   split <;> split <;> split <;> (try split) <;> (try split) <;> omega
 have e1:(jn six x (jn six y z)).turn=(jn six (jn six x y) z).turn:=by
   show(x.turn+(y.turn+z.turn) % wy six) % wy six=((x.turn+y.turn) % wy six+z.turn) % wy six
   rw[Int.add_emod_emod,Int.emod_add_emod,Int.add_assoc]
 have e2:(jn six x (jn six y z)).shift=(jn six (jn six x y) z).shift:=by
   show ad x.shift (tn six (x.turn % wy six).toNat (ad y.shift (tn six (y.turn % wy six).toNat z.shift)))=ad (ad x.shift (tn six (x.turn % wy six).toNat y.shift)) (tn six (((x.turn+y.turn) % wy six) % wy six).toNat z.shift)
   rw[Jj,Jl,Jm]
 have e3:(jn six x (jn six y z)).kR=(jn six (jn six x y) z).kR:=by
   show x.kR+(y.kR+z.kR+cr y.shift (tn six (y.turn % wy six).toNat z.shift))+cr x.shift (tn six (x.turn % wy six).toNat (ad y.shift (tn six (y.turn % wy six).toNat z.shift)))
     = x.kR+y.kR+cr x.shift (tn six (x.turn % wy six).toNat y.shift)+z.kR+cr (ad x.shift (tn six (x.turn % wy six).toNat y.shift)) (tn six (((x.turn+y.turn) % wy six) % wy six).toNat z.shift)
   have q:=N2 six (x.turn % wy six).toNat y.shift (tn six (y.turn % wy six).toNat z.shift)
   rw[Jl] at q
   rw[Jj,Jl,MS,MT,← q]
   omega
 have e4:(jn six x (jn six y z)).many=(jn six (jn six x y) z).many:=(Int.add_assoc _ _ _).symm
 have e5:(jn six x (jn six y z)).eE=(jn six (jn six x y) z).eE:=(Int.add_assoc _ _ _).symm
 generalize jn six x (jn six y z)=a at hr ht e1 e2 e3 e4 e5
 generalize jn six (jn six x y) z=b at hr ht e1 e2 e3 e4 e5
 cases a;cases b
 simp only at hr ht e1 e2 e3 e4 e5
 subst hr ht e1 e2 e3 e4 e5
 rfl
def ji (six:Bool)(xs:List Str)(k:Nat):Int×Int:=(cL six (xs.take k)).shift
theorem Jo (six:Bool)(xs:List Str):0≤(cL six xs).turn∧(cL six xs).turn < wy six:=by
 by_cases h:xs=[]
 . subst h;exact⟨Int.le_refl _,fJ six⟩
 . rw[← List.dropLast_concat_getLast h,iJ]
   exact⟨Int.emod_nonneg _ (Int.ne_of_gt (fJ six)),Int.emod_lt_of_pos _ (fJ six)⟩
def rec (six:Bool)(xs:List Str)(w:Int):Nat→Int×Int
 | 0=>(0,0)
 | j+1=>if (rec six xs w j).1 < gX six w (ji six xs j) then (gX six w (ji six xs j),j) else rec six xs w j
theorem Av (six:Bool)(xs:List Str)(d:Str)(w:Int):∀ j,j≤xs.length+1→rec six (xs ++ [d]) w j=rec six xs w j
 | 0,_=>rfl
 | j+1,h=>by
   rw[rec,rec,Av six xs d w j (by omega)]
   have e:ji six (xs ++ [d]) j=ji six xs j:=by
     unfold ji
     rw[List.take_append_of_le_length (by omega)]
   rw[e]
theorem uE (six:Bool)(w:Int):gX six w (0,0)=0:=by
 unfold gX
 cases six <;> simp
theorem yp (six:Bool){w:Nat}(hw:w < wn six):∀ (n:Nat) (xs:List Str),xs.length=n→rec six xs w (n+1)=((cL six xs).reach.getD w 0,(cL six xs).cK.getD w 0)∧gX six w (cL six xs).shift≤(cL six xs).reach.getD w 0:=by
 intro n
 induction n with
 | zero=>
   intro xs h
   have e:xs=[]:=List.eq_nil_of_length_eq_zero h
   subst e
   have e1:(cL six []).reach.getD w 0=0:=by
     show(List.replicate (wn six) (0:Int)).getD w 0=0
     rw[List.getD_eq_getElem?_getD,List.getElem?_replicate];split <;> rfl
   have e2:(cL six []).cK.getD w 0=0:=e1
   have e3:gX six w (ji six [] 0)=0:=uE six w
   have e4:gX six w (cL six []).shift=0:=uE six w
   rw[e1,e2,e4,rec,rec,e3]
   simp
 | succ n ih=>
   intro xs h
   have AG:xs≠[]:=fun e=>by rw[e] at h;cases h
   have e:=List.dropLast_concat_getLast AG
   have hl:xs.dropLast.length=n:=by rw[List.length_dropLast];omega
   generalize xs.getLast AG=d at e
   generalize xs.dropLast=ys at e hl
   subst e
   obtain⟨h1,h2⟩:=ih ys hl
   rw[rec,Av six ys d w (n+1) (by omega),h1]
   have es:ji six (ys ++ [d]) (n+1)=(cL six (ys ++ [d])).shift:=by
     unfold ji
     rw[List.take_of_length_le (by rw[List.length_append];simp;omega)]
   rw[es,iJ,gJ six _ _ hw,jI six _ _ hw]
   obtain⟨b1,b2⟩:=yn six w (cL six ys).turn
   have r1:(one six d).reach.getD (((w:Int) - (cL six ys).turn) % wy six).toNat 0=kf six d (((w:Int) - (cL six ys).turn) % wy six).toNat:=kh b1
   have t1:(one six d).cK.getD (((w:Int) - (cL six ys).turn) % wy six).toNat 0=if kf six d (((w:Int) - (cL six ys).turn) % wy six).toNat < 1 then kf six d (((w:Int) - (cL six ys).turn) % wy six).toNat else 1:=kh (f:=fun k=>if kf six d k < 1 then kf six d k else 1) b1
   rw[r1,t1]
   unfold kf
   rw[b2,Au six hw]
   have ec:gX six w (jn six (cL six ys) (one six d)).shift=gX six w (cL six ys).shift+gX six w (tn six ((cL six ys).turn % wy six).toNat (rN six d (0,0) 0).1):=B9 six w _ _
   rw[ec]
   have hm:=(Iq six n ys hl).1
   rw[hm]
   generalize gX six w (tn six ((cL six ys).turn % wy six).toNat (rN six d (0,0) 0).1)=D
   generalize gX six w (cL six ys).shift=B at h2 ⊢
   generalize (cL six ys).reach.getD w 0=A at h2 ⊢
   generalize (cL six ys).cK.getD w 0=U
   unfold Sd
   refine⟨?_,?_⟩
   . by_cases c1:D > 0
     . simp only[if_pos c1]
       by_cases c2:D+B≤A
       . simp only[if_pos c2]
         rw[if_neg (by omega)]
       . simp only[if_neg c2]
         rw[if_pos (by omega),if_neg (by omega)]
         refine Prod.ext ?_ ?_
         . show B+D=D+B;omega
         . show((n+1:Nat):Int)=1+n;omega
     . simp only[if_neg c1]
       rw[if_neg (by omega)]
       have c2:0+B≤A:=by omega
       simp only[if_pos c2]
   . by_cases c1:D > 0
     . simp only[if_pos c1];split <;> omega
     . simp only[if_neg c1];split <;> omega
theorem Se (six:Bool)(xs:List Str):jn six (cL six xs) (AF six)=cL six xs:=by
 have w:=Ip six _ xs rfl
 have tt:=Jo six xs
 have z:∀ k,(AF six).reach.getD k 0=0:=fun k=>by
   show(List.replicate (wn six) (0:Int)).getD k 0=0
   rw[List.getD_eq_getElem?_getD,List.getElem?_replicate];split <;> rfl
 have hr:(jn six (cL six xs) (AF six)).reach=(cL six xs).reach:=list_eq (p7 _ _ _).1 w.2.2.1 fun v hv=>by
   have:=(yp six hv _ xs rfl).2
   rw[gJ six _ _ hv,z]
   unfold Sd
   rw[if_pos (by omega)]
 have ht:(jn six (cL six xs) (AF six)).cK=(cL six xs).cK:=list_eq (p7 _ _ _).2 w.2.2.2 fun v hv=>by
   have:=(yp six hv _ xs rfl).2
   rw[jI six _ _ hv,z,if_pos (by omega)]
 have e1:(jn six (cL six xs) (AF six)).turn=(cL six xs).turn:=by
   show((cL six xs).turn+0) % wy six=_
   rw[Int.add_zero,Int.emod_eq_of_lt tt.1 tt.2]
 have e2:(jn six (cL six xs) (AF six)).shift=(cL six xs).shift:=by
   show ad (cL six xs).shift (tn six _ (0,0))=_
   rw[rR];unfold ad;simp
 have e3:(jn six (cL six xs) (AF six)).kR=(cL six xs).kR:=by
   show(cL six xs).kR+0+cr (cL six xs).shift (tn six _ (0,0))=_
   rw[rR];unfold cr;simp
 have e4:(jn six (cL six xs) (AF six)).many=(cL six xs).many:=Int.add_zero _
 have e5:(jn six (cL six xs) (AF six)).eE=(cL six xs).eE:=Int.add_zero _
 generalize jn six (cL six xs) (AF six)=a at hr ht e1 e2 e3 e4 e5 ⊢
 generalize cL six xs=b at hr ht e1 e2 e3 e4 e5 ⊢
 cases a;cases b
 simp only at hr ht e1 e2 e3 e4 e5
 subst hr ht e1 e2 e3 e4 e5
 rfl
theorem MU (six:Bool)(xs:List Str):∀ (n:Nat) (ys:List Str),ys.length=n→jn six (cL six xs) (cL six ys)=cL six (xs ++ ys):=by
 intro n
 induction n with
 | zero=>
   intro ys h
   have e:ys=[]:=List.eq_nil_of_length_eq_zero h
   subst e
   rw[List.append_nil]
   exact Se six xs
 | succ n ih=>
   intro ys h
   have AG:ys≠[]:=fun e=>by rw[e] at h;cases h
   have e:=List.dropLast_concat_getLast AG
   have hl:ys.dropLast.length=n:=by rw[List.length_dropLast];omega
   rw[← e,iJ,Jn,ih _ hl,← List.append_assoc,iJ]
def yq (rows:List Row)(w:List Nat):List Str:=w.map (ka rows)
theorem Jp {rows:List Row}(ok:cQ rows):∀ (r:Nat) {c:Nat},c∈rows.map (·.c)→(gP rows r c).length≤8 ^ r
 | 0,_,_=>Nat.le_refl _
 | r+1,c,h=>by
   obtain⟨q,hq,_,_,ew⟩:=gH h
   have hw:∀ y∈wordOf rows c,y∈rows.map (·.c):=fun y hy=>ok.wo q hq y (by rw[ew] at hy;exact hy)
   have hl:(wordOf rows c).length≤8:=by rw[ew];exact(ok.wp q hq).2
   have:∀ (w:List Nat),(∀ y∈w,y∈rows.map (·.c))→(w.flatMap (gP rows r)).length≤w.length * 8 ^ r:=by
     intro w
     induction w with
     | nil=>intro _;simp
     | cons a w ih=>
       intro h
       rw[List.flatMap_cons,List.length_append,List.length_cons,Nat.add_mul,Nat.one_mul]
       have h1:=Jp ok r (h a (by simp))
       have h2:=ih fun y hy=>h y (by simp[hy])
       omega
   have h3:=this _ hw
   have h4:(wordOf rows c).length * 8 ^ r≤8 * 8 ^ r:=Nat.mul_le_mul_right _ hl
   show((wordOf rows c).flatMap (gP rows r)).length≤8 ^ (r+1)
   rw[Nat.pow_succ];omega
theorem N3 {rows:List Row}{w:List Nat}(ok:kS rows w){age:Nat}(h:age≤200):(uC rows w age).length < 2 ^ 990:=by
 have:∀ (v:List Nat),(∀ y∈v,y∈rows.map (·.c))→(v.flatMap (gP rows age)).length≤v.length * 8 ^ age:=by
   intro v
   induction v with
   | nil=>intro _;simp
   | cons a v ih=>
     intro h
     rw[List.flatMap_cons,List.length_append,List.length_cons,Nat.add_mul,Nat.one_mul]
     have h1:=Jp ok.ok age (h a (by simp))
     have h2:=ih fun y hy=>h y (by simp[hy])
     omega
 have h1:=this w ok.wm
 have h2:w.length * 8 ^ age≤8 * 8 ^ 200:=Nat.mul_le_mul ok.w8 (Nat.pow_le_pow_right (by decide) h)
 have h3:8 * 8 ^ 200 < 2 ^ 990:=by decide +kernel
 exact Nat.lt_of_le_of_lt (Nat.le_trans h1 h2) h3
theorem agw {rows:List Row}(ok:cQ rows){r c:Nat}(h:c∈rows.map (·.c))(hr:r≤200):(gP rows r c).length < 2 ^ 990:=by
 have h1:=Jp ok r h
 have h2:8 ^ r≤8 ^ 200:=Nat.pow_le_pow_right (by decide) hr
 exact Nat.lt_of_le_of_lt (Nat.le_trans h1 h2) (by decide +kernel)
def MV (six:Bool)(rows:List Row)(i c:Nat):Tr:=cL six (yq rows (gP rows i c))
def df.nE (t:df)(six:Bool)(rows:List Row)(i:Nat):List (Key×FD):=(rows.map (·.c)).map fun c=>(.inr (sg c),.obj t.ay (t.trK six (MV six rows i c)))
theorem SU (t:df)(six:Bool)(rows:List Row)(i:Nat):kI (t.nE six rows i)=kd (rows.map (·.c)) fun c=>t.l2 six (MV six rows i c):=by unfold kI df.nE kd;rw[List.map_map];rfl
abbrev df.yr (t:df)(six:Bool)(rows:List Row)(w:List Nat)(l':Addr)(ls':gK)(n':Nat):List (Str×Dt):=SO "growth" t.aw (t.yh six rows w) ["tallies","lengths"] l' ls' n'
abbrev df.E5 (t:df)(six:Bool)(rows:List Row)(w:List Nat)(l':Addr)(ls':gK)(n':Nat)(l:Addr)(ls:gK)(n:Nat):List (Str×Dt):=qc (t.yr six rows w l' ls' n') ["tracks"] l ls n
abbrev df.drY (t:df)(six:Bool)(rows:List Row)(w:List Nat)(l':Addr)(ls':gK)(n':Nat)(l:Addr)(ls:gK)(n:Nat):List (Str×Dt):=l7 (t.yr six rows w l' ls' n') ["tracks"] l ls n
theorem Sf {l l':Addr}{ls':gK}{n':Nat}(h:l'≠l)(t:df)(six:Bool)(rows:List Row)(w:List Nat):ig l (t.yr six rows w l' ls' n')=true:=by
 have e:pJ l (.memo l' ls' 0 n')=true∧pJ l (.memo l' ls' 1 n')=true:=by
   unfold pJ
   simp[h]
 show((pJ l (t.yx six rows) && (pJ l (.str (tx w)) && (pJ l (.memo l' ls' 0 n') && (pJ l (.memo l' ls' 1 n') && true)))) && true)=true
 rw[BY,e.1,e.2];rfl
theorem Jq (six:Bool)(xs:List (List Str)){k:Nat}(h:k < xs.length):jn six (cL six (xs.take k).flatten) (cL six xs[k])=cL six (xs.take (k+1)).flatten:=by
 rw[MU six _ _ _ rfl,List.take_add_one,List.getElem?_eq_getElem h,List.flatten_append]
 simp
theorem Sh {rows:List Row}{w:List Nat}(ok:kS rows w){age b e:Nat}(i8:age≤200)(rb:b≤e)(MR:e≤(uC rows w age).length):∃ k bt,(e≤(run rows b e (vv w age) k).place∧∀ j,j < k→(run rows b e (vv w age) j).place < e)∧(run rows b e (vv w age) k).bt=bt∧flat rows bt=cut (uC rows w age) b e∧bt.length≤4000∧∀ p∈bt,p.2∈rows.map (·.c)∧p.1≤age:=by
 obtain⟨k,hk1,hk2⟩:=As ok.ok _ (B7 ok rb MR) (Nat.le_refl _)
 obtain⟨Ik,Jk⟩:=B6 ok.ok (B7 ok rb MR) hk2 k (Nat.le_refl _)
 have hmu:=Je ok (b:=b) (e:=e) i8
 have hp:(run rows b e (vv w age) k).place=e:=by have:=Ik.pe;omega
 refine⟨k,_,⟨hk1,hk2⟩,rfl,by rw[Ik.fb,hp];rfl,?_,Ik.mt⟩
 have:(vv w age).bt.length=0:=rfl
 omega
def E6 (t:df):Rl:=fun ds r=>∃ six rows w l ls n rest,∃ xs:List (List Str),ds=[.obj t.aD (("growth",B8 t six rows w l ls n)::rest),.lst (xs.map fun x=>t.l2 six (cL six x))]∧xs.flatten.length < 2 ^ 990∧r=.ret (t.l2 six (cL six xs.flatten))
def MW (t:df):Rl:=fun ds r=>∃ six rows w l ls n,ds=[B8 t six rows w l ls n]∧kS rows w∧r=.own (.pq t.aD (t.yr six rows w l ls n) [t.nE six rows] ["tracks"] 1)
structure Si (t:df)(six:Bool)(rows:List Row)(w:List Nat)(ls' ls:gK):Prop where
 ok:kS rows w
 gs:ls'.map (·.2)=oX rows
 ts:ls.map (·.2)=[t.nE six rows]
def MX (t:df):Rl:=fun ds r=>∃ six rows w l' ls' n' l ls n age,ds=[.obj t.aD (t.E5 six rows w l' ls' n' l ls n),.int ((age:Nat):Int)]∧Si t six rows w ls' ls∧age≤200∧r=.ret (.uG l ls (age+1))
def v7 (t:df):Rl:=fun ds r=>∃ six rows w l' ls' n' l ls n age,∃ b e:Nat,ds=[.obj t.aD (t.E5 six rows w l' ls' n' l ls n),.int ((age:Nat):Int),.int (b:Int),.int (e:Int)]∧Si t six rows w ls' ls∧age≤200∧(b≤e∧e≤(uC rows w age).length)∧r=.ret (t.l2 six (cL six (yq rows (cut (uC rows w age) b e))))
abbrev aam:Scope:=BZ ((ai bx).getD 2 (.Pass ⟨0,0,0,0⟩))
theorem N4:g8 aam (af bx) lh ["letter","rules"] ["letter"] [2]=true:=by decide +kernel
abbrev wBd:List Stmt:=Z3 ((ai aH).getD 1 (.Pass ⟨0,0,0,0⟩))
abbrev aan:Scope:=Am (wBd.getD 2 (.Pass ⟨0,0,0,0⟩))
theorem N5:g8 aan (af aH) hE ["younger","last"] ["younger"] [3]=true:=by decide +kernel
abbrev aao:Scope:=IH ((ai aM).getD 2 (.Pass ⟨0,0,0,0⟩))
theorem N6:g8 aao (af aM) iT ["rounds","letter","self"] ["rounds","letter"] [0]=true:=by decide +kernel
theorem Jr {rows:List Row}(ok:cQ rows){x:Nat}(h:x∈rows.map (·.c)):ka rows x∈mV:=by
 obtain⟨q,hq,_,e,_⟩:=gH h
 rw[e];exact ok.dd q hq
section
variable {P:Program}{w:World}{K:PySem.W.Frag}{mg:Str→Option Value}{base:Heap}{t:df}
theorem uF (T:Txt K mg t):MF P w K mg base CX 6 t.aD "join_all" 2 (E6 t):=by
 refine⟨T.cV,_,_,_,gx T.ny g9 rfl fun cS A outer s H E G ds r hr hl hR=>?_,T.ik,T.nz⟩
 obtain⟨six,rows,wd,l,ls,n,rest,xs,rfl,hx,rfl⟩:=hR
 have ye:=Af (P:=P) (w:=w) (base:=base) T
 have Aw:=yi (P:=P) (w:=w) (base:=base) T
 have Js:=Dl (P:=P) (w:=w) (base:=base) T
 have uo:=v3 (P:=P) (w:=w) (base:=base) T
 have nd:=g9.nd
 let D:Dt:=.obj t.aD (("growth",B8 t six rows wd l ls n)::rest)
 let tr:List Str→Dt:=fun x=>t.l2 six (cL six x)
 let S:Nat→List Slot:=fun k=>[.val D,.val (.lst (xs.map tr)),.val (t.l2 six (cL six (xs.take k).flatten)),.bE]
 have en:S (xs.map tr).length=[.val D,.val (.lst (xs.map tr)),.val (t.l2 six (cL six xs.flatten)),.bE]:=by
   show [_,_,Slot.val (t.l2 six (cL six (xs.take (xs.map tr).length).flatten)),_]=_
   rw[List.length_map,List.take_length]
 have hle:∀ k,(xs.take k).flatten.length < 2 ^ 990:=fun k=>by
   have e:=List.take_append_drop k xs
   rw[← e,List.flatten_append,List.length_append] at hx
   omega
 refine⟨_,.rt _,aj (aE 2 nd (cR ye aF hr (ae (d9 (fs:=t.vW six rows) (d9 (fs:=t.fY six rows wd l ls n) (aP (fs:=("growth",B8 t six rows wd l ls n)::rest) (aa 0 rfl) T.cV T.na_Drawing_growth rfl) Aw aF hr ⟨six,rows,wd,l,ls,n,rfl,rfl⟩) Js aF hr ⟨six,rows,rfl,rfl⟩) ao) ⟨six,rfl,rfl⟩))
   (aj (CA (m:=(xs.map tr).length) 3 S nd rfl PassesOwn.leaving (aa 1 rfl) (Le.of ⟨rfl,rfl,rfl,trivial⟩) (Nat.le_refl _) (fun k z hk hz=>?_) (.all rfl)) ?_)⟩
 . rw[List.length_map] at hk
   rw[List.getElem?_map,List.getElem?_eq_getElem hk] at hz
   cases hz
   have h1:xs[k].length < 2 ^ 990:=by
     have:=hle (k+1)
     rw[List.take_add_one,List.getElem?_eq_getElem hk,List.flatten_append,List.length_append] at this
     simp at this
     omega
   refine .nx (av (aE 2 nd (cE (fs:=t.iH six (cL six (xs.take k).flatten)) (jh (aa 2 rfl)) uo aF hr (ae (jh (x:=cL six xs[k]) (aa 3 rfl)) ao) ⟨six,_,cL six xs[k],rfl,⟨rS six (hle k),rS six h1⟩,rfl⟩))) (Le.of ⟨rfl,rfl,?_,trivial⟩)
   show Slot.val (t.l2 six (cL six (xs.take (k+1)).flatten))=_
   rw[Jq six xs hk]
 . rw[en]
   exact av (aV (aa 2 rfl))
theorem Jt (T:Txt K mg t):SG P w K mg base CX 8 "Drawing" t.aD 2 (MW t):=by
 refine⟨_,_,_,fnI T.tW ko rfl fun cS A outer s H E G z ds r hr hl hR=>?_,T.Bz,T.EG,T.tX⟩
 obtain⟨six,rows,wd,l,ls,n,rfl,ok,rfl⟩:=hR
 have eI:=gI (P:=P) (w:=w) (base:=base) T
 have Aw:=yi (P:=P) (w:=w) (base:=base) T
 have Js:=Dl (P:=P) (w:=w) (base:=base) T
 have Sk:=Ic (P:=P) (w:=w) (base:=base) T
 have agy:=Ah (P:=P) (w:=w) (base:=base) T
 have h6:=ok.ok.le
 let L:=rows.map (·.c)
 have hL:L.length≤6:=by show(rows.map (·.c)).length≤6;rw[List.length_map];exact h6
 have nd:=ko.nd
 have e1:((L.filter fun _=>true).map fun x=>Dt.tup [.str (sg x),t.l2 six (MV six rows 0 x)])=(kI (t.nE six rows 0)).map JL:=by
   rw[List.filter_eq_self.mpr (fun _ _=>rfl),SU]
   exact Aj L _
 have h7:∀ x∈L,x < 128:=fun x hx=>by
   obtain⟨r,hr,rfl⟩:=List.mem_map.mp hx
   have:=ok.ok.sm r hr
   unfold small at this;omega
 refine⟨_,.nxG (fs:=t.yr six rows wd l ls n) (gs:=[t.nE six rows]) (nm:=["tracks"]) (n:=1) rfl,aj (gM (aa 1 rfl) T.cV T.na_Drawing_growth) (aj (aE 2 nd (d9 (fs:=t.fY six rows wd l ls n) (aa 1 rfl) Aw aF hr ⟨six,rows,wd,l,ls,n,rfl,rfl⟩))
   (uR (f:=t.nE six rows) rfl T.cV T.na_Drawing_tracks ?_))⟩
 refine ju T.z_dict rfl (fX e1 (gO L (fun x=>Dt.str (sg x)) (fun x=>.tup [.str (sg x),t.l2 six (MV six rows 0 x)]) (fun x=>[.val (.str (sg x))]) (fun _=>true) rfl (d6 N4) (gR (d9 (fs:=t.vW six rows) (aa 2 rfl) eI aF hr ⟨six,rows,rfl,ok.ok,rfl⟩)) (ee (d6 N4) rfl) (eO (eG (gG h7)) (fz L)) (fun a _=>eK) (.nil fun _ _=>rfl)
     (fun a ha _ C fp s' H' G'=>d8 (ae (aa 0 rfl) (ae (cR agy aF hr (ae (d9 (fs:=t.vW six rows) (aa 1 rfl) Js aF hr ⟨six,rows,rfl,rfl⟩) (ae (g7 (jU (ae (cE (fs:=t.vW six rows) (aa 1 rfl) Sk aF hr (ae (aa 0 rfl) ao) ⟨six,rows,a,rfl,ok.ok,ha,rfl⟩) ao) (Nat.le_of_ble_eq_true rfl))) ao)) ⟨six,[ka rows a],rfl,fun d hd=>by
       have:d=ka rows a:=by simpa using hd
       rw[this];exact Jr ok.ok ha,by simp,rfl⟩) ao)) (Nat.le_of_ble_eq_true rfl)) (ql (by omega)))) (by rw[SU,oW];exact iq ok.ok.nd) (by rw[SU];show(List.map _ _).length≤_;rw[List.length_map,List.length_map];exact ql (by omega))
theorem Ju (T:Txt K mg t):MF P w K mg base CX 7 t.aD "deepen_to" 2 (MX t):=by
 refine⟨T.cV,_,_,_,gx T.mx gz rfl fun cS A outer s H E G ds r hr hl hR=>?_,T.gT,T.my⟩
 obtain⟨six,rows,wd,l',ls',n',l,ls,n,age,rfl,ok,i8,rfl⟩:=hR
 have l8:=ok.ts
 have MY:=ok.ok.ok
 have Aw:=yi (P:=P) (w:=w) (base:=base) T
 have eI:=gI (P:=P) (w:=w) (base:=base) T
 have uu:=ug (P:=P) (w:=w) (base:=base) T
 have Ca:=uF (P:=P) (w:=w) (base:=base) T
 have nd:=gz.nd
 have h6:=MY.le
 let L:=rows.map (·.c)
 have hL:L.length≤6:=by show(rows.map (·.c)).length≤6;rw[List.length_map];exact h6
 have h7:∀ x∈L,x < 128:=fun x hx=>by
   obtain⟨r,hr,rfl⟩:=List.mem_map.mp hx
   have:=MY.sm r hr
   unfold small at this;omega
 have hu:(A.deeper (envOfC "Drawing.deepen_to" (af aH) s.heap.objs.size t.aY cS)).units+1 < cLine:=by have:=hr.units;omega
 have e1:ls.length=1:=by have:=congrArg List.length l8;simpa using this
 have e2:ls'.length=2:=by have:=congrArg List.length ok.gs;simpa [oX] using this
 let tl:List Slot:=[.val (.int ((age:Nat):Int)),.val (t.yx six rows),.bE,.bE,.bE]
 refine⟨_,l1 (C:=t.aD) (fs:=t.yr six rows wd l' ls' n') (nm:=["tracks"]) (tl:=tl) (by rw[e1];exact Nat.le_refl 1),Ez (nm:=["tracks"]) (nm':=["tallies","lengths"]) (C:=t.aD) (C':=t.aw) (l:=l) (l':=l') (ls:=ls) (ls':=ls') (n:=n) (n':=n') (fs':=t.yh six rows wd) (g:="growth") 0 (by decide) (by decide) (by omega) (fun AG=>?_) rfl⟩
 have hs:=Sf (ls':=ls') (n':=n') AG t six rows wd
 have ht:n8 l tl=true:=by
   have:n8 l [.val (t.yx six rows),.bE,.bE,.bE]=true:=by
     unfold n8;rw[BY];rfl
   exact this
 refine aj (dl1:=yu t.aD (t.yr six rows wd l' ls' n') ["tracks"] l ls n tl) (aE 2 nd (d9 (fs:=t.fY six rows wd l' ls' n') (aP (fs:=t.E5 six rows wd l' ls' n' l ls n) (aa 0 rfl) T.cV T.na_Drawing_growth rfl) Aw aF hr ⟨six,rows,wd,l',ls',n',rfl,rfl⟩))
   (av (vO (age:=age) PassesOwn.leaving hs ht (by decide) (by omega) (fun N G hx=>?_) (fun N hN hNa G0 hA hB=>?_)))
 . exact d5 (nV (CY (N:=N) T.z_len hx (aP (fs:=t.drY six rows wd l' ls' n' l ls n) (aa 0 rfl) T.cV T.na_Drawing_tracks rfl) (by rw[e1];rfl)) (aa 1 rfl)) (decide_eq_decide.mpr (by omega))
 . let Dk:Nat→Dt:=fun c=>t.l2 six (MV six rows N c)
   let O:Dt:=.obj t.aD (t.drY six rows wd l' ls' n' l ls n)
   let S:Nat→List Slot:=fun k=>[.val O,.val (.int ((age:Nat):Int)),.val (t.yx six rows),.val (.eu (kI (t.nE six rows (N - 1)))),.own (.eB (kd (L.take k) Dk)),.bE]
   have eS:S L.length=[.val O,.val (.int ((age:Nat):Int)),.val (t.yx six rows),.val (.eu (kI (t.nE six rows (N - 1)))),.own (.eB (kI (t.nE six rows N))),.bE]:=by
     show [_,_,_,_,Slot.own (.eB (kd (L.take L.length) Dk)),_]=_
     rw[List.take_length,SU t six rows N]
   refine aj (aE 3 nd (zD (f:=t.nE six rows) (N:=N) aq (aP (fs:=t.drY six rows wd l' ls' n' l ls n) (aa 0 rfl) T.cV T.na_Drawing_tracks rfl) (fQ ar) (by rw[l8];rfl) (by rw[e1];rfl) hN)) (aj (ib 4 nd CS)
     (aj (dl1:=S L.length) (nY (o:=.nx (S L.length)) (m:=L.length) L (fun x=>Dt.str (sg x)) (fun x dl=>dl.set 5 (.val (.str (sg x)))) S rfl PassesOwn.leaving (gR (d9 (fs:=t.vW six rows) (aa 2 rfl) eI aF hr ⟨six,rows,rfl,MY,rfl⟩)) (eO (eG (gG h7)) (fz L)) (cD nd rfl (.inl rfl)) (fun a _=>wV) (Le.of ⟨rfl,rfl,rfl,rfl,rfl,trivial⟩) (Nat.le_refl _) (fun k a hk ha=>?_) (.all rfl)) ?_))
   . rw[List.getElem?_eq_getElem hk] at ha
     cases ha
     have hm:L[k]∈L:=List.getElem_mem hk
     obtain⟨q,hq,hc,_,ew⟩:=gH hm
     have hwp:=MY.wp q hq
     have Z6:∀ y∈wordOf rows L[k],y∈L:=fun y hy=>MY.wo q hq y (by rw[ew] at hy;exact hy)
     have OZ:(wordOf rows L[k]).length≤8:=by rw[ew];exact hwp.2
     have UI:(kd (L.take k) Dk).length < sizeLine:=by
       unfold kd
       rw[List.length_map,List.length_take];exact Nat.lt_of_lt_of_le (show min k L.length < 2000 by omega) (by decide)
     let xs:List (List Str):=(wordOf rows L[k]).map fun y=>yq rows (gP rows (N - 1) y)
     have e3:(((wordOf rows L[k]).filter fun _=>true).map fun y=>t.l2 six (MV six rows (N - 1) y))=xs.map fun x=>t.l2 six (cL six x):=by
       rw[List.filter_eq_self.mpr (fun _ _=>rfl),List.map_map];rfl
     have exs:xs.flatten=yq rows (gP rows N L[k]):=by
       obtain⟨M,rfl⟩:∃ M,N=M+1:=⟨N - 1,by omega⟩
       show((wordOf rows L[k]).map fun y=>yq rows (gP rows M y)).flatten=((wordOf rows L[k]).flatMap (gP rows M)).map (ka rows)
       rw[List.map_flatMap,List.flatMap_def];rfl
     have ed:Dk L[k]=t.l2 six (cL six xs.flatten):=by rw[exs];rfl
     have hb:xs.flatten.length < 2 ^ 990:=by
       rw[exs];unfold yq;rw[List.length_map];exact agw MY hm (by omega)
     refine .nx (av (CT (kds:=kd (L.take k) Dk) (d:=Dk L[k]) 4 hu (by rw[ed];exact cE (fs:=t.drY six rows wd l' ls' n' l ls n) (aa 0 rfl) Ca aF hr (ae (fX e3 (gO (wordOf rows L[k]) (fun x=>Dt.str (sg x)) (fun y=>t.l2 six (MV six rows (N - 1) y)) (fun x=>[.val (.str (sg x))]) (fun _=>true) rfl (d6 N5) (gR (cE (fs:=t.vW six rows) (aa 2 rfl) uu aF hr (ae (aa 5 rfl) ao) ⟨six,rows,L[k],rfl,MY,hm,rfl⟩)) (ee (d6 N5) rfl) (eO (eG (rL MY Z6)) (fz _)) (fun a _=>eK) (.nil fun _ _=>rfl)
       (fun y hy _ C fp s' H' G'=>iw hu (aa 1 rfl) (aa 0 rfl) (by rw[SU];exact i5 (Z6 y hy)) (fun _ _=>rfl)) (ql (by omega)))) ao) ⟨six,rows,wd,l',ls',n',_,xs,rfl,hb,rfl⟩) (aa 5 rfl) UI)) (Le.of ⟨rfl,rfl,rfl,rfl,?_,trivial⟩)
     show Slot.own (.eB (kd (L.take (k+1)) Dk))=Slot.own (.eB (sN (kd (L.take k) Dk) (.inr (sg L[k])) (Dk L[k])))
     rw[Iy MY.nd hk]
   . rw[eS]
     exact Cz (dl1:=.val (.obj t.aD (t.drY six rows wd l' ls' n' l ls n))::tl.set 3 (.own (.eB (kI (t.nE six rows N))))) (zJ (f:=t.nE six rows) (tl:=tl) 3 hs ht rfl l8 (by omega) T.cV T.na_Drawing_tracks hA hB) (Le.of ⟨rfl,rfl,rfl,rfl,trivial⟩)
theorem Cb (T:Txt K mg t):MF P w K mg base CX 9 t.aD "stretch" 4 (v7 t):=by
 refine⟨T.cV,_,_,_,gx T.oK nr rfl fun cS A outer s H E G ds r hr hl hR=>?_,T.iF,T.oM⟩
 obtain⟨six,rows,wd,l',ls',n',l,ls,n,age,b,e,rfl,ok,i8,⟨rb,MR⟩,rfl⟩:=hR
 have agz:=aai (P:=P) (w:=w) (base:=base) T
 have B0:=Ju (P:=P) (w:=w) (base:=base) T
 have Ca:=uF (P:=P) (w:=w) (base:=base) T
 have Jv:=E4 (P:=P) (w:=w) (base:=base) T
 have hu:(A.deeper (envOfC "Drawing.stretch" (af aM) s.heap.objs.size t.br cS)).units+1 < cLine:=by have:=hr.units;omega
 obtain⟨k,bt,⟨hk1,hk2⟩,hbt,hfl,hb4,hmt⟩:=Sh ok.ok i8 rb MR
 let xs:List (List Str):=bt.map fun p=>yq rows (gP rows p.1 p.2)
 have e3:((bt.filter fun _=>true).map fun p=>t.l2 six (MV six rows p.1 p.2))=xs.map fun x=>t.l2 six (cL six x):=by
   rw[List.filter_eq_self.mpr (fun _ _=>rfl),List.map_map];rfl
 have exs:xs.flatten=yq rows (cut (uC rows wd age) b e):=by
   rw[← hfl]
   show(bt.map fun p=>yq rows (gP rows p.1 p.2)).flatten=(bt.flatMap fun p=>gP rows p.1 p.2).map (ka rows)
   rw[List.map_flatMap,List.flatMap_def];rfl
 have hb:xs.flatten.length < 2 ^ 990:=by
   rw[exs];unfold yq cut
   rw[List.length_map,List.length_drop,List.length_take]
   have:=N3 ok.ok i8
   omega
 rw[← exs]
 refine⟨_,.rt _,aj (EC (m:=age+1) (tl:=[.val (.int ((age:Nat):Int)),.val (.int (b:Int)),.val (.int (e:Int))]) (cE (fs:=t.fY six rows wd l' ls' n') (aP (fs:=t.E5 six rows wd l' ls' n' l ls n) (aa 0 rfl) T.cV T.na_Drawing_growth rfl) agz aF hr (ae (aa 1 rfl) (ae (aa 2 rfl) (ae (aa 3 rfl) ao))) ⟨six,rows,wd,l',ls',n',age,b,e,rfl,ok.ok,ok.gs,i8,⟨rb,MR⟩,rfl⟩))
   (aj (n9 (m:=age+1) (fs:=t.yr six rows wd l' ls' (age+1)) (nm:=["tracks"]) (tl:=[.val (.int ((age:Nat):Int)),.val (.int (b:Int)),.val (.int (e:Int))]) (cE (fs:=t.E5 six rows wd l' ls' (age+1) l ls n) (aa 0 rfl) B0 aF hr (ae (aa 1 rfl) ao) ⟨six,rows,wd,l',ls',_,l,ls,n,age,rfl,ok,i8,rfl⟩))
   (av (aV (cE (fs:=t.E5 six rows wd l' ls' (age+1) l ls (age+1)) (aa 0 rfl) Ca aF hr (ae (fX e3 (gO bt q8 (fun p=>t.l2 six (MV six rows p.1 p.2)) (fun p=>[.val (.int ((p.1:Nat):Int)),.val (.str (sg p.2))]) (fun _=>true) rfl (d6 N6) (iN (g7 (Gi (sJ (fs:=t.fY six rows wd l' ls' (age+1)) (aP (fs:=t.E5 six rows wd l' ls' (age+1) l ls (age+1)) (aa 0 rfl) T.cV T.na_Drawing_growth rfl) (Pm Jv) aF hr (ae (aa 1 rfl) (ae (aa 2 rfl) (ae (aa 3 rfl) ao))) ⟨six,rows,wd,l',ls',age+1,age,b,e,k,rfl,⟨ok.ok,ok.gs,by omega,by omega,i8⟩,⟨rb,MR⟩,⟨hk1,hk2⟩,rfl⟩) (by rw[hbt])))) (GC rfl (d6 N6) rfl) jr (fun a _=>KG) (.nil fun _ _=>rfl)
     (fun p hp _ C fp s' H' G'=>?_) (Nat.le_trans hb4 (by decide)))) ao) ⟨six,rows,wd,l',ls',age+1,_,xs,rfl,hb,rfl⟩))))⟩
 obtain⟨m1,m2⟩:=hmt p hp
 exact iw hu (Bo (n:=age+1) (j:=0) (f:=t.nE six rows) (aP (fs:=t.E5 six rows wd l' ls' (age+1) l ls (age+1)) (aa 2 rfl) T.cV T.na_Drawing_tracks rfl) (aa 0 rfl) (by rw[ok.ts];rfl) (by omega) (by omega)) (aa 1 rfl) (by rw[SU];exact i5 m1) (fun _ _=>rfl)
end
def vw (ns:List Int)(k:Nat):Int:=(cn ns k % 10 ^ 59 * 10 ^ 59+cn ns (k+1) % 10 ^ 59) * 10 ^ 59+cn ns (k+2) % 10 ^ 59
def aaq:Rl:=fun ds r=>∃ (ns:List Int) (k:Nat),ds=[.lP ns,.int k]∧k≤90∧r=.ret (.int (vw ns k))
section
variable {P:Program}{w:World}{K:PySem.W.Frag}{mg:Str→Option Value}{base:Heap}{t:df}
theorem Sl (T:Txt K mg t):GF P w K mg base CX 2 "_law_big" 2 aaq:=by
 refine⟨_,_,_,gx T.Vo Ht rfl fun cS A outer s H E G ds r hr hl hR=>?_,T.Vr,T.Vp,T.Vq⟩
 obtain⟨ns,k,rfl,hk,rfl⟩:=hR
 have fC:=uv (P:=P) (w:=w) (base:=base) T
 have nd:=Ht.nd
 have cl:∀ (j:Nat),j≤100→rT [.lP ns,.int j] (.ret (.int (cn ns j))):=fun j hj=>⟨ns,j,rfl,hj,rfl⟩
 have fb:∀ z:Int,0≤z % 10 ^ 59∧z % 10 ^ 59 < 10 ^ 59:=fun z=>⟨Int.emod_nonneg _ (by decide),Int.emod_lt_of_pos _ (by decide)⟩
 have f59:(10 ^ 59:Int) < 2 ^ 200:=by decide
 have ak2:(10 ^ 59 * 10 ^ 59:Int) < 2 ^ 400:=by decide
 have h1:=fb (cn ns k)
 have h2:=fb (cn ns (k+1))
 exact⟨_,.rt _,aj (aE 2 nd (d:=.int (10 ^ 59)) (F3 ar ar ⟨by decide,by decide,by decide⟩))
   (aj (aE 3 nd (bu (ff (dj (cR fC aF hr (ae (aa 0 rfl) (ae (aa 1 rfl) ao)) (cl k (by omega))) (aa 2 rfl) (by decide)) (aa 2 rfl) (Dp (m:=200) (n:=200) (by omega) (by decide) (by decide))) (dj (cR fC aF hr (ae (aa 0 rfl) (ae (bP (bu (aa 1 rfl) ar) (congrArg Dt.int (show(k:Int)+1=((k+1:Nat):Int) by omega))) ao)) (cl (k+1) (by omega))) (aa 2 rfl) (by decide))))
   (av (aV (bu (ff (aa 3 rfl) (aa 2 rfl) (Dp (m:=401) (n:=200) (by omega) (by decide) (by decide))) (dj (cR fC aF hr (ae (aa 0 rfl) (ae (bP (bu (aa 1 rfl) ar) (congrArg Dt.int (show(k:Int)+2=((k+2:Nat):Int) by omega))) ao)) (cl (k+2) (by omega))) (aa 2 rfl) (by decide))))))⟩
end
section
variable {X:Cx}{G:Gr}{dl:List Slot}{a b c:Expr}{d1 d2 d3:Dt}{pos:Pos}{u v:Bool}{i j k:Int}
theorem Jw {op AN:CmpOp}{r r':R2}(ho:kT X (compareOp op) r)(AH:kT X (compareOp AN) r')(h1:A5 X.K r d1 d2 (.bl u))(h2:A5 X.K r' d2 d3 (.bl v))(ha:EE X G dl a d1)(hb:EE X G dl b d2)(hc:EE X G dl c d3)(hm:lastMarks [op,AN] [b,c]=false:=by with_unfolding_all rfl):EB X G dl (.Compare a [op,AN] [b,c] pos) (u && v):=
 T8 (FL ho AH ha hb hc hm) fun st H Q ⟨Hf,S,k⟩=>⟨Hf,S,fun x aA H1 g1 r1=>⟨aA,S.grow g1,fun y cU H2 g2 r2=>h1 x y cU H2 _ g2.sub (r1.mono g2.b8) r2 fun z fM H3 g3 r3=>by
   cases r3
   refine⟨u,rfl,?_⟩
   cases u with
   | false=>exact wC ⟨false,rfl,k fM H3 ((g1.trans g2).trans g3)⟩
   | true=>exact wD ⟨fM,((S.grow g1).grow g2).grow g3,fun w Ff H4 g4 r4=>h2 y w Ff H4 _ g4.sub (r2.mono (g3.b8.trans g4.b8)) r4 fun q rD H5 g5 r5=>by cases r5;exact⟨v,rfl,k rD H5 ((((g1.trans g2).trans g3).trans g4).trans g5)⟩⟩⟩⟩
theorem Jx (ha:EE X G dl a (.int i))(hb:EE X G dl b (.int j))(hc:EE X G dl c (.int k))(hm:lastMarks [.LtE,.LtE] [b,c]=false:=by with_unfolding_all rfl):EB X G dl (.Compare a [.LtE,.LtE] [b,c] pos) (decide (i≤j) && decide (j≤k)):=
 Jw yL yL (mH (g':=fun i j=>.bl (decide (i≤j))) fun _ _ _ _=>.bl _) (mH (g':=fun i j=>.bl (decide (i≤j))) fun _ _ _ _=>.bl _) ha hb hc hm
end
def alL (six:Bool)(p:Int×Int):List Dt:=if six then [.int (2 * p.1+p.2),.int (p.1+2 * p.2),.int (p.2 - p.1),.int (-2 * p.1 - p.2),.int (-p.1 - 2 * p.2),.int (p.1 - p.2)] else [.int p.1,.int p.2,.int (-p.1),.int (-p.2)]
theorem Jy (six:Bool)(p:Int×Int){z:Int}(h0:0≤z)(h1:z < wy six):jO (alL six p) z=some (.int (gX six z p)):=by
 cases six with
 | false=>exact ZU p h0 h1
 | true=>exact ZV p h0 h1
def Jz:Rl:=fun ds r=>∃ six p,ds=[.int (wy six),sp p]∧r=.own (.lst (alL six p))
section
variable {P:Program}{w:World}{K:PySem.W.Frag}{mg:Str→Option Value}{base:Heap}{t:df}
theorem E7 (T:Txt K mg t):GF P w K mg base CX 1 "_law_along" 2 Jz:=by
 refine⟨_,_,_,gx T.LY zQ rfl fun cS A outer s H E G ds r hr hl hR=>?_,T.rK,T.LZ,T.L5⟩
 obtain⟨six,p,rfl,rfl⟩:=hR
 have nd:=zQ.nd
 cases six with
 | false=>
   exact⟨_,.ro _,aj (CN 2 3 nd rfl (aa 1 rfl)) (nQ (dm (u:=true) (d5 (jS (aa 0 rfl) ar) (decide_eq_true rfl)) (fun h=>av (iR (jU (ae (aa 2 rfl) (ae (aa 3 rfl) (ae (fQ (aa 2 rfl)) (ae (fQ (aa 3 rfl)) ao)))) (Nat.le_of_ble_eq_true rfl)))) (fun h=>nomatch h)))⟩
 | true=>
   exact⟨_,.ro _,aj (CN 2 3 nd rfl (aa 1 rfl)) (aj (dm (u:=false) (d5 (jS (aa 0 rfl) ar) (decide_eq_false (by decide))) (fun h=>nomatch h) (fun h=>dk))
     (av (iR (jU (ae (bu (ff ar (aa 2 rfl) (nG.ok (Or.inl ⟨by decide,by decide⟩))) (aa 3 rfl)) (ae (bu (aa 2 rfl) (ff ar (aa 3 rfl) (nG.ok (Or.inl ⟨by decide,by decide⟩)))) (ae (eD (aa 3 rfl) (aa 2 rfl)) (ae (eD (ff (fQ ar) (aa 2 rfl) (nG.ok (Or.inl ⟨by decide,by decide⟩))) (aa 3 rfl)) (ae (eD (fQ (aa 2 rfl)) (ff ar (aa 3 rfl) (nG.ok (Or.inl ⟨by decide,by decide⟩)))) (ae (eD (aa 2 rfl) (aa 3 rfl)) ao)))))) (Nat.le_of_ble_eq_true rfl)))))⟩
end
theorem DE (six:Bool)(xs:List Str)(w:Int):∀ n,∃ r,∃ tn:Nat,rec six xs w (n+1)=(r,(tn:Int))∧tn≤n∧gX six w (ji six xs tn)=r∧(∀ k,k≤n→gX six w (ji six xs k)≤r)∧∀ k,k < tn→gX six w (ji six xs k) < r
 | 0=>by
   have e:gX six w (ji six xs 0)=0:=uE six w
   refine⟨0,0,?_,Nat.le_refl _,e,fun k hk=>?_,fun k hk=>absurd hk (Nat.not_lt_zero _)⟩
   . rw[rec,e,rec];rfl
   . have:k=0:=by omega
     subst this;omega
 | n+1=>by
   obtain⟨r,tn,e,h1,h2,h3,h4⟩:=DE six xs w n
   rw[rec,e]
   by_cases c:r < gX six w (ji six xs (n+1))
   . refine⟨_,n+1,if_pos c,Nat.le_refl _,rfl,fun k hk=>?_,fun k hk=>?_⟩
     . by_cases z:k=n+1
       . subst z;exact Int.le_refl _
       . have:=h3 k (by omega);omega
     . have:=h3 k (by omega);omega
   . refine⟨r,tn,if_neg c,by omega,h2,fun k hk=>?_,h4⟩
     by_cases z:k=n+1
     . subst z;omega
     . exact h3 k (by omega)
theorem JA {W:List Nat}{b e k:Nat}(h:b+k≤e):cut W b (b+k)=(cut W b e).take k:=by
 unfold cut
 rw[List.take_drop,List.take_take,Nat.min_eq_left h]
theorem JB (six:Bool)(rows:List Row){W:List Nat}{b e k:Nat}(h:b+k≤e):(cL six (yq rows (cut W b (b+k)))).shift=ji six (yq rows (cut W b e)) k:=by
 unfold ji yq
 rw[JA h,List.map_take]
theorem MZ {W:List Nat}{b e:Nat}(h:b≤e)(he:e≤W.length):(cut W b e).length=e - b:=by
 unfold cut;rw[List.length_drop,List.length_take];omega
theorem aar (six:Bool)(p:Int×Int):tn six ((0:Int) % wy six).toNat p=p:=by cases six <;> rfl
theorem N7 (six:Bool)(ns:List Int){w:Nat}(h:w < wn six):(ke six ns 0).getD w 0=ns.getD w 0:=by
 rw[uD six ns 0 h]
 have e:=qm six
 rw[Int.sub_zero,Int.emod_eq_of_lt (by omega) (by omega),Int.toNat_natCast]
theorem rW (six:Bool)(ns:List Int)(f:Int):(ke six ns f).length=wn six:=by unfold ke;simp
theorem N8 (six:Bool)(ns:List Int){w:Nat}(h:w < wn six)(f:Int):∃ v:Nat,((w:Int)+f) % wy six=(v:Int)∧v < wn six∧(ke six ns f).getD v 0=ns.getD w 0:=by
 have e:=qm six
 have p:=fJ six
 have h1:=Int.emod_nonneg ((w:Int)+f) (Int.ne_of_gt p)
 have h2:=Int.emod_lt_of_pos ((w:Int)+f) p
 refine⟨(((w:Int)+f) % wy six).toNat,by omega,by omega,?_⟩
 rw[uD six ns f (by omega)]
 have e2:((((((w:Int)+f) % wy six).toNat:Nat):Int) - f) % wy six=(w:Int):=by
   rw[Int.toNat_of_nonneg h1,Int.emod_sub_emod,Int.add_sub_cancel,Int.emod_eq_of_lt (by omega) (by omega)]
 rw[e2,Int.toNat_natCast]
section
variable {P:Program}{w:World}{K:PySem.W.Frag}{mg:Str→Option Value}{base:Heap}{t:df}
theorem Sm (T:Txt K mg t):gu P w K mg base CX 12 t.jD t.zT ["_law_script"] (IJ K):=by
 refine gx T.Vs Hu rfl fun cS A outer s H E G ds r hr hl hR=>?_
 obtain⟨ns,hlen,rfl,rfl⟩:=hR
 have fC:=uv (P:=P) (w:=w) (base:=base) T
 have DF:=IL (P:=P) (w:=w) (base:=base) T
 have JC:=Sl (P:=P) (w:=w) (base:=base) T
 have M0:=IU (P:=P) (w:=w) (base:=base) T
 have DG:=E7 (P:=P) (w:=w) (base:=base) T
 have M3:=HZ (P:=P) (w:=w) (base:=base) T
 have So:=IE (P:=P) (w:=w) (base:=base) T
 have agA:=Jt (P:=P) (w:=w) (base:=base) T
 have DD:=Dv (P:=P) (w:=w) (base:=base) T
 have M4:=Cb (P:=P) (w:=w) (base:=base) T
 have rQ:=EN (P:=P) (w:=w) (base:=base) T
 have JD:=ER (P:=P) (w:=w) (base:=base) T
 have JE:=ET (P:=P) (w:=w) (base:=base) T
 have yc:=Ad (P:=P) (w:=w) (base:=base) T
 have yd:=Ae (P:=P) (w:=w) (base:=base) T
 have nd:=Hu.nd
 let six:=Dy ns
 let rows:=uz ns
 let wd:=rV ns
 have JT:kS rows wd:=aac ns
 have ok:cQ rows:=JT.ok
 have hb:=MN ns (far:=16) (by decide) (by decide)
 obtain⟨age,i8⟩:∃ age:Nat,mW ns 16=((age:Nat):Int):=⟨(mW ns 16).toNat,by omega⟩
 have Nx:age≤200:=by omega
 obtain⟨yo,hyo,agB⟩:∃ yo:Nat,(if ((age:Nat):Int) - 1 > 0 then ((age:Nat):Int) - 1 else 0)=((yo:Nat):Int)∧yo≤age:=by
   split
   . exact⟨age - 1,by omega,by omega⟩
   . exact⟨0,rfl,by omega⟩
 obtain⟨JU,agC⟩:∃ c,c=cn ns 15:=⟨_,rfl⟩
 obtain⟨ag,hag,agD⟩:∃ ag:Nat,jO [Dt.int ((age:Nat):Int),.int ((yo:Nat):Int)] (JU / 101 % 2)=some (.int ((ag:Nat):Int))∧ag≤age:=by
   have:JU / 101 % 2=0∨JU / 101 % 2=1:=by omega
   rcases this with h | h <;> rw[h]
   . exact⟨age,rfl,Nat.le_refl _⟩
   . exact⟨yo,rfl,agB⟩
 obtain⟨W,hW⟩:∃ W:List Nat,W=uC rows wd age:=⟨_,rfl⟩
 obtain⟨sz,hsz⟩:∃ sz:Nat,sz=(uC rows wd ag).length:=⟨_,rfl⟩
 have esz:((sz:Nat):Int)=lnT rows wd ag:=by rw[hsz];exact yl JT ag
 have hsW:sz≤W.length:=by rw[hsz,hW];exact Sb ok JT.wm agD
 have md:∀ z:Int,∃ p:Nat,z % (((sz:Nat):Int)+1)=((p:Nat):Int)∧p≤sz:=fun z=>by
   have a:=Int.emod_nonneg z (show((sz:Nat):Int)+1≠0 by omega)
   have b:=Int.emod_lt_of_pos z (show(0:Int) < ((sz:Nat):Int)+1 by omega)
   generalize z % (((sz:Nat):Int)+1)=y at a b
   exact⟨y.toNat,by omega,by omega⟩
 obtain⟨p1,U4,agE⟩:=md (vw ns 9)
 obtain⟨p2,uJ,agF⟩:=md (vw ns 12)
 obtain⟨b,e,aas,rb,hes⟩:∃ b e:Nat,[((b:Nat):Int),((e:Nat):Int)].Perm [((p1:Nat):Int),((p2:Nat):Int)]∧b≤e∧e≤sz:=by
   by_cases h:p1≤p2
   . exact⟨p1,p2,.refl _,h,agF⟩
   . exact⟨p2,p1,.swap _ _ _,by omega,agE⟩
 have heW:e≤W.length:=by omega
 have wyp:=fJ six
 have ewn:=qm six
 obtain⟨wa,hwa,JF⟩:∃ wa:Nat,JU % wy six=((wa:Nat):Int)∧wa < wn six:=by
   have h1:=Int.emod_nonneg JU (Int.ne_of_gt wyp)
   have h2:=Int.emod_lt_of_pos JU wyp
   exact⟨(JU % wy six).toNat,by omega,by omega⟩
 have aau:((wa:Nat):Int) < wy six:=by omega
 obtain⟨xs,Mc⟩:∃ xs:List Str,xs=yq rows (cut W b e):=⟨_,rfl⟩
 have Ec:xs.length=e - b:=by rw[Mc];unfold yq;rw[List.length_map];exact MZ rb heW
 have wf:WF six (cL six xs):=rS six (by
   have:=N3 JT Nx
   rw[← hW] at this
   rw[Ec];omega)
 obtain⟨R,tt,agG,htl,hR1,hR2,hR3⟩:=DE six xs ((wa:Nat):Int) (e - b)
 have SM:=(yp six JF (e - b) xs Ec).1
 rw[agG] at SM
 obtain⟨hre,hto⟩:=Prod.mk.inj SM
 have aav:∀ k:Nat,k≤e - b→(cL six (yq rows (cut W b (b+k)))).shift=ji six xs k:=fun k hk=>by
   rw[Mc];exact JB six rows (by omega)
 have e0R:jO ((ke six (cL six xs).reach 0).map Dt.int) ((wa:Nat):Int)=some (.int R):=by
   rw[rO (by omega) (by rw[rW];omega),Int.toNat_natCast,N7 six _ JF,hre]
 have e0T:jO ((ke six (cL six xs).cK 0).map Dt.int) ((wa:Nat):Int)=some (.int ((tt:Nat):Int)):=by
   rw[rO (by omega) (by rw[rW];omega),Int.toNat_natCast,N7 six _ JF,hto]
 obtain⟨fi,hfi⟩:∃ fi,fi=(JU / 6 % 13 - 6) % wy six:=⟨_,rfl⟩
 obtain⟨v,hv,hvn,hvr⟩:=N8 six (cL six xs).reach JF fi
 have hvt:(ke six (cL six xs).cK fi).getD v 0=(cL six xs).cK.getD wa 0:=by
   obtain⟨v',h1,h2,h3⟩:=N8 six (cL six xs).cK JF fi
   have:v=v':=by omega
   rw[this];exact h3
 have eFR:jO ((ke six (cL six xs).reach fi).map Dt.int) ((v:Nat):Int)=some (.int R):=by
   rw[rO (by omega) (by rw[rW];omega),Int.toNat_natCast,hvr,hre]
 have eFT:jO ((ke six (cL six xs).cK fi).map Dt.int) ((v:Nat):Int)=some (.int ((tt:Nat):Int)):=by
   rw[rO (by omega) (by rw[rW];omega),Int.toNat_natCast,hvt,hto]
 have mdE:∀ z:Int,∃ p:Nat,z % (((e:Nat):Int) - ((b:Nat):Int)+1)=((p:Nat):Int)∧p≤e - b:=fun z=>by
   have a:=Int.emod_nonneg z (show((e:Nat):Int) - ((b:Nat):Int)+1≠0 by omega)
   have b:=Int.emod_lt_of_pos z (show(0:Int) < ((e:Nat):Int) - ((b:Nat):Int)+1 by omega)
   generalize z % (((e:Nat):Int) - _+1)=y at a b
   exact⟨y.toNat,by omega,by omega⟩
 obtain⟨pl,kH⟩:∃ pl:Nat→Nat,∀ k,vw ns (16+k) % (((e:Nat):Int) - ((b:Nat):Int)+1)=((pl k:Nat):Int)∧pl k≤e - b:=by
   refine⟨fun k=>(vw ns (16+k) % (((e:Nat):Int) - ((b:Nat):Int)+1)).toNat,fun k=>?_⟩
   obtain⟨p,h1,h2⟩:=mdE (vw ns (16+k))
   have h3:(vw ns (16+k) % (((e:Nat):Int) - ((b:Nat):Int)+1)).toNat=p:=by rw[h1];exact Int.toNat_natCast p
   show vw ns (16+k) % (((e:Nat):Int) - ((b:Nat):Int)+1)=(((vw ns (16+k) % (((e:Nat):Int) - ((b:Nat):Int)+1)).toNat:Nat):Int)∧(vw ns (16+k) % (((e:Nat):Int) - ((b:Nat):Int)+1)).toNat≤e - b
   rw[h3];exact⟨h1,h2⟩
 obtain⟨tm,htm,alj⟩:∃ tm:Nat,(if ((tt:Nat):Int) - 1 > 0 then ((tt:Nat):Int) - 1 else 0)=((tm:Nat):Int)∧tm≤e - b:=by
   split
   . exact⟨tt - 1,by omega,by omega⟩
   . exact⟨0,rfl,by omega⟩
 obtain⟨nn,hnn,OI⟩:∃ nn:Nat,(if (if ((ns.length:Nat):Int) - 16 < 4 then ((ns.length:Nat):Int) - 16 else 4) > 0 then (if ((ns.length:Nat):Int) - 16 < 4 then ((ns.length:Nat):Int) - 16 else 4) else 0)=((nn:Nat):Int)∧nn≤4:=by
   generalize ((ns.length:Nat):Int) - 16=z
   by_cases h1:z < 4
   . rw[if_pos h1]
     by_cases h2:z > 0
     . rw[if_pos h2];exact⟨z.toNat,by omega,by omega⟩
     . rw[if_neg h2];exact⟨0,rfl,by omega⟩
   . rw[if_neg h1,if_pos (by decide)];exact⟨4,rfl,by omega⟩
 let nD:Nat→Dt:=fun a=>.int ((a:Nat):Int)
 let L3:List Nat:=[tm,0,e - b]
 let AK:Nat→List Nat:=fun k=>L3 ++ (List.range k).map pl
 let as:List Nat:=if age < 25 then AK nn else [tm]
 have has:∀ a∈as,a≤e - b:=by
   intro a h
   show a≤e - b
   by_cases c:age < 25
   . have h:a∈AK nn:=by have e:as=AK nn:=if_pos c;rw[← e];exact h
     rcases List.mem_append.mp h with h | h
     . have:a=tm∨a=0∨a=e - b:=by simpa [L3] using h
       omega
     . obtain⟨k,_,rfl⟩:=List.mem_map.mp h
       exact(kH k).2
   . have h:a∈[tm]:=by have e:as=[tm]:=if_neg c;rw[← e];exact h
     have:a=tm:=by simpa using h
     omega
 have cl:rT [.lP ns,.int ((15:Nat):Int)] (.ret (.int JU)):=⟨ns,15,rfl,by decide,by rw[agC]⟩
 refine⟨_,.rt _,?_⟩
 refine aj (K8 1 2 3 4 nd rfl (bP (cR M0 aF hr (ae (aa 0 rfl) (ae ar ao)) ⟨ns,16,rfl,⟨by decide,by decide⟩,rfl⟩) (by rw[i8]))) ?_
 refine aj (aE 5 nd (d:=t.agl six rows wd 1) (Kv (zm So aF hr (ae (Ul (rB M3 aF hr (ae (aa 1 rfl) (ae (g7 (Kx T.z_list (aa 2 rfl))) ao)) ⟨six,rows,rfl,ok,rfl⟩)) (ae (aa 3 rfl) ao)) ⟨six,rows,wd,rfl,JT,rfl⟩))) ?_
 refine zF 5 fun l' ls' l8=>?_
 refine aj (aE 6 nd (d:=.uK t.aD (t.yr six rows wd l' ls' 1) [t.nE six rows] ["tracks"] 1) (Kv (zm agA aF hr (ae (aa 5 rfl) ao) ⟨six,rows,wd,l',ls',1,rfl,JT,rfl⟩))) ?_
 refine zF 6 fun l ls hts=>?_
 have dok:Si t six rows wd ls' ls:=⟨JT,l8,hts⟩
 let gE:Dt:=B8 t six rows wd l' ls' 1
 let dE:Dt:=.obj t.aD (t.E5 six rows wd l' ls' 1 l ls 1)
 let D:Slot→Slot→Slot→Slot→Slot→Slot→Slot→Slot→List Slot:=fun a7 a8 a9 a10 a11 a12 a13 a14=>[.val (.lP ns),.val (.int (wy six)),.val (.lst (rows.map oR)),.val (.str (tx wd)),.val (nD age),.val gE,.val dE,a7,a8,a9,a10,a11,a12,a13,a14,.bE,.bE,.bE,.bE,.bE,.bE]
 have stR:∀ k:Nat,k≤e - b→v7 t [dE,nD age,nD b,nD (b+k)] (.ret (t.l2 six (cL six (yq rows (cut W b (b+k)))))):=fun k hk=>by
   rw[hW] at heW ⊢
   exact⟨six,rows,wd,l',ls',1,l,ls,1,age,b,b+k,rfl,dok,Nx,⟨by omega,by omega⟩,rfl⟩
 show jQ _ _ _ (D .bE .bE .bE .bE .bE .bE .bE .bE) _ _
 refine aj (dl1:=D (.val (nD yo)) .bE .bE .bE .bE .bE .bE .bE) (aE 7 nd (bP (wQ T.z_max rfl (ae ar (ae (eD (aa 4 rfl) ar) ao))) (congrArg Dt.int hyo))) ?_
 refine aj (dl1:=D (.val (nD yo)) (.val (nD sz)) .bE .bE .bE .bE .bE .bE) (aE 8 nd (cE (fs:=t.fY six rows wd l' ls' 1) (aa 5 rfl) DD aF hr (ae (mZ (ds:=[nD age,nD yo]) (g7 (jU (ae (aa 4 rfl) (ae (aa 7 rfl) ao)) (Nat.le_of_ble_eq_true rfl))) (dj (eZ (cR fC aF hr (ae (aa 0 rfl) (ae ar ao)) cl) ar (by decide)) ar (by decide)) hag) ao) ⟨six,rows,wd,l',ls',1,ag,rfl,JT,l8,by omega,by show Res.ret (.int ((sz:Nat):Int))=_;rw[esz]⟩)) ?_
 refine aj (dl1:=D (.val (nD yo)) (.val (nD sz)) (.val (nD b)) (.val (nD e)) .bE .bE .bE .bE) (Hm 9 10 nd rfl (g7 (Ey (ns:=[((p1:Nat):Int),((p2:Nat):Int)]) (ns':=[((b:Nat):Int),((e:Nat):Int)]) T.z_sorted (g7 (jU (ae (bP (dj (cR JC aF hr (ae (aa 0 rfl) (ae ar ao)) ⟨ns,9,rfl,by decide,rfl⟩) (bu (aa 8 rfl) ar) (by omega)) (congrArg Dt.int U4)) (ae (bP (dj (cR JC aF hr (ae (aa 0 rfl) (ae ar ao)) ⟨ns,12,rfl,by decide,rfl⟩) (bu (aa 8 rfl) ar) (by omega)) (congrArg Dt.int uJ)) ao)) (Nat.le_of_ble_eq_true rfl))) (show 2 < 64 by decide) aas (by simpa using rb)))) ?_
 refine aj (dl1:=D (.val (nD yo)) (.val (nD sz)) (.val (nD b)) (.val (nD e)) (.val (nD wa)) .bE .bE .bE) (aE 11 nd (bP (dj (cR fC aF hr (ae (aa 0 rfl) (ae ar ao)) cl) (aa 1 rfl) wyp) (congrArg Dt.int hwa))) ?_
 refine aj (dl1:=D (.val (nD yo)) (.val (nD sz)) (.val (nD b)) (.val (nD e)) (.val (nD wa)) .bE .bE .bE) (dm (nV (aa 10 rfl) (cE (fs:=t.fY six rows wd l' ls' 1) (aa 5 rfl) DD aF hr (ae (aa 7 rfl) ao) ⟨six,rows,wd,l',ls',1,yo,rfl,JT,l8,by omega,rfl⟩)) (fun h=>?_) (fun h=>dk)) ?_
 . have h:=of_decide_eq_true h
   rw[← yl JT yo] at h
   exact av (nS (cE (fs:=t.E5 six rows wd l' ls' 1 l ls 1) (aa 6 rfl) M4 aF hr (ae (aa 7 rfl) (ae (aa 9 rfl) (ae (aa 10 rfl) ao))) ⟨six,rows,wd,l',ls',1,l,ls,1,yo,b,e,rfl,dok,by omega,⟨rb,by omega⟩,rfl⟩))
 let D2:Slot→Slot→Slot→List Slot:=D (.val (nD yo)) (.val (nD sz)) (.val (nD b)) (.val (nD e)) (.val (nD wa))
 refine aj (dl1:=D2 (.val (t.l2 six (cL six xs))) .bE .bE) (aE 12 nd (cE (fs:=t.E5 six rows wd l' ls' 1 l ls 1) (aa 6 rfl) M4 aF hr (ae (aa 4 rfl) (ae (aa 9 rfl) (ae (aa 10 rfl) ao))) (by
   rw[Mc,hW];rw[hW] at heW
   exact⟨six,rows,wd,l',ls',1,l,ls,1,age,b,e,rfl,dok,Nx,⟨rb,heW⟩,rfl⟩))) ?_
 refine aj (dl1:=D2 (.val (t.l2 six (cL six xs))) (.val (.int R)) .bE) (aE 13 nd (mZ (g7 (Gu (fs:=t.iH six (cL six xs)) (jh (aa 12 rfl)) JD aF hr ⟨six,_,0,rfl,wf,rfl⟩)) (aa 11 rfl) e0R)) ?_
 refine aj (dl1:=D2 (.val (t.l2 six (cL six xs))) (.val (.int R)) (.val (nD tt))) (aE 14 nd (mZ (g7 (Gu (fs:=t.iH six (cL six xs)) (jh (aa 12 rfl)) JE aF hr ⟨six,_,0,rfl,wf,rfl⟩)) (aa 11 rfl) e0T)) ?_
 refine aj (dm (u:=false) (uM (vF (u:=false) (v:=false) (wH (u:=true) (zf (cR DF aF hr (ae (aa 14 rfl) ao) ⟨_,rfl,rfl⟩))) fun _=>(vF (u:=false) (v:=false) (d5 (wH (Jx ar (aa 14 rfl) (eD (aa 10 rfl) (aa 9 rfl)))) (by rw[decide_eq_true (by omega),decide_eq_true (by omega)];rfl)) fun _=>(sx (wH (u:=true) (zf (cR DF aF hr (ae (aa 13 rfl) ao) ⟨_,rfl,rfl⟩))))))) (fun h=>nomatch h) (fun h=>dk)) ?_
 refine aj (dm (u:=false) (d5 (Pe (mZ (ds:=alL six (ji six xs tt)) (g7 (vJ DG aF hr (ae (aa 1 rfl) (ae (CH (fs:=t.iH six (cL six (yq rows (cut W b (b+tt))))) (jh (cE (fs:=t.E5 six rows wd l' ls' 1 l ls 1) (aa 6 rfl) M4 aF hr (ae (aa 4 rfl) (ae (aa 9 rfl) (ae (bP (bu (aa 9 rfl) (aa 14 rfl)) (congrArg Dt.int (show((b:Nat):Int)+((tt:Nat):Int)=((b+tt:Nat):Int) by omega))) ao))) (stR tt htl))) rQ aF hr ⟨six,_,0,rfl,by rw[aar,aav tt htl]⟩) ao)) ⟨six,ji six xs tt,rfl,rfl⟩)) (aa 11 rfl) (by rw[Jy six _ (by omega) aau])) (aa 13 rfl)) (by rw[hR1,decide_eq_true rfl];rfl)) (fun h=>nomatch h) (fun h=>dk)) ?_
 let D3:Slot→Slot→Slot→Slot→Slot→Slot→List Slot:=fun a15 a16 a17 a18 a19 a20=>[.val (.lP ns),.val (.int (wy six)),.val (.lst (rows.map oR)),.val (.str (tx wd)),.val (nD age),.val gE,.val dE,.val (nD yo),.val (nD sz),.val (nD b),.val (nD e),.val (nD wa),.val (t.l2 six (cL six xs)),.val (.int R),.val (nD tt),a15,a16,a17,a18,a19,a20]
 show jQ _ _ _ (D3 .bE .bE .bE .bE .bE .bE) _ _
 refine aj (dl1:=D3 (.own (.lst [nD tm])) .bE .bE .bE .bE .bE) (ib 15 nd (jU (ae (bP (wQ T.z_max rfl (ae ar (ae (eD (aa 14 rfl) ar) ao))) (congrArg Dt.int htm)) ao) (Nat.le_of_ble_eq_true rfl))) ?_
 let SA:Nat→List Slot:=fun k=>D3 (.own (.lst ((AK k).map nD))) .bE .bE .bE .bE .bE
 refine aj (dl1:=D3 (.own (.lst (as.map nD))) .bE .bE .bE .bE .bE) (dm (sA (aa 4 rfl) ar) (fun h=>?_) (fun h=>?_)) ?_
 . have h:=of_decide_eq_true h
   have eas:as=AK nn:=if_pos (by omega)
   rw[eas]
   refine sE (w:=.lst [nD tm]) 15 ?_
   show jQ _ _ _ (D3 (.val (.lst [nD tm])) .bE .bE .bE .bE .bE) _ _
   refine aj (dl1:=SA 0) (ib (w:=.lst ([nD tm] ++ [nD 0,nD (e - b)])) 15 nd (Pj (ds:=[nD tm]) (ds':=[nD 0,nD (e - b)]) (aa 15 rfl) (g7 (jU (ae ar (ae (bP (eD (aa 10 rfl) (aa 9 rfl)) (congrArg Dt.int (show((e:Nat):Int) - ((b:Nat):Int)=((e - b:Nat):Int) by omega))) ao)) (Nat.le_of_ble_eq_true rfl))) (show 1+2≤sizeLine by decide))) (av ?_)
   refine ip (o:=.nx (SA nn)) (m:=nn) 16 SA nd rfl PassesOwn.leaving T.z_range (ae (bP (wQ T.z_max rfl (ae ar (ae (Gk T.z_min rfl (ae ar (ae (eD (rA T.z_len (aa 0 rfl)) ar) ao))) ao))) (congrArg Dt.int hnn)) ao) ⟨by omega,by omega⟩ (Le.of ⟨rfl,rfl,rfl,rfl,rfl,rfl,rfl,rfl,rfl,rfl,rfl,rfl,rfl,rfl,rfl,rfl,trivial⟩) (by omega) (fun k hk=>?_) (by rw[Int.toNat_natCast];exact .all rfl)
   refine .nx (av (pD 15 (ds:=(AK k).map nD) (d:=nD (pl k)) (bP (dj (cR JC aF hr (ae (aa 0 rfl) (ae (bP (bu ar (aa 16 rfl)) (congrArg Dt.int (show(16:Int)+(k:Int)=((16+k:Nat):Int) by omega))) ao)) ⟨ns,16+k,rfl,by omega,rfl⟩) (bu (eD (aa 10 rfl) (aa 9 rfl)) ar) (by omega)) (congrArg Dt.int (kH k).1)) (by
     rw[List.length_map]
     show(L3 ++ (List.range k).map pl).length < _
     rw[List.length_append,List.length_map,List.length_range]
     exact Nat.lt_of_lt_of_le (show 3+k < 100 by omega) (by decide)))) (Le.of ⟨rfl,rfl,rfl,rfl,rfl,rfl,rfl,rfl,rfl,rfl,rfl,rfl,rfl,rfl,rfl,?_,trivial⟩)
   show Slot.own (.lst ((L3 ++ (List.range (k+1)).map pl).map nD))=Slot.own (.lst ((L3 ++ (List.range k).map pl).map nD ++ [nD (pl k)]))
   rw[List.range_succ,List.map_append,List.map_append,List.map_append]
   simp
 . have h:=of_decide_eq_false h
   have eas:as=[tm]:=if_neg (by omega)
   rw[eas]
   exact dk
 refine sE (w:=.lst (as.map nD)) 15 ?_
 let S:Nat→List Slot:=fun _=>D3 (.val (.lst (as.map nD))) .bE .bE .bE .bE .bE
 refine aj (dl1:=S as.length) (nY (o:=.nx (S as.length)) (m:=as.length) as nD (fun a dl=>dl.set 17 (.val (nD a))) S rfl PassesOwn.leaving (iN (aa 15 rfl)) jr (cD nd rfl (.inl rfl)) (fun a _=>wV) (Le.of ⟨rfl,rfl,rfl,rfl,rfl,rfl,rfl,rfl,rfl,rfl,rfl,rfl,rfl,rfl,rfl,rfl,trivial⟩) (Nat.le_refl _) (fun k a hk ha=>?_) (.all rfl)) ?_
 . have hm:a∈as:=by
     rw[List.getElem?_eq_getElem hk] at ha
     cases ha
     exact List.getElem_mem hk
   have SR:=has a hm
   let fa:Int:=gX six ((wa:Nat):Int) (ji six xs a)
   have h1:fa≤R:=hR2 a SR
   have h2:a < tt→fa < R:=hR3 a
   refine .nx (dl':=D3 (.val (.lst (as.map nD))) .bE (.val (nD a)) (.val (.int fa)) .bE .bE) (aj (aE 18 nd (mZ (ds:=alL six (ji six xs a)) (g7 (vJ DG aF hr (ae (aa 1 rfl) (ae (CH (fs:=t.iH six (cL six (yq rows (cut W b (b+a))))) (jh (cE (fs:=t.E5 six rows wd l' ls' 1 l ls 1) (aa 6 rfl) M4 aF hr (ae (aa 4 rfl) (ae (aa 9 rfl) (ae (bP (bu (aa 9 rfl) (aa 17 rfl)) (congrArg Dt.int (show((b:Nat):Int)+((a:Nat):Int)=((b+a:Nat):Int) by omega))) ao))) (stR a SR))) rQ aF hr ⟨six,_,0,rfl,by rw[aar,aav a SR]⟩) ao)) ⟨six,ji six xs a,rfl,rfl⟩)) (aa 11 rfl) (by rw[Jy six _ (by omega) aau])))
     (av (dm (u:=false) (d5 (uM (vF (u:=false) (d5 (zh (aa 18 rfl) (aa 13 rfl)) (decide_eq_false (by omega))) fun _=>(sx (uM (pv (sA (aa 17 rfl) (aa 14 rfl)) fun _=>(rq (jS (aa 18 rfl) (aa 13 rfl)))))))) (by
       by_cases c:a < tt
       . rw[decide_eq_false (show ¬ fa=R by have:=h2 c;omega)]
         simp
       . rw[decide_eq_false (show ¬ ((a:Nat):Int) < ((tt:Nat):Int) by omega)]
         rfl)) (fun h=>nomatch h) (fun h=>dk)))) (Le.of ⟨rfl,rfl,rfl,rfl,rfl,rfl,rfl,rfl,rfl,rfl,rfl,rfl,rfl,rfl,rfl,rfl,trivial⟩)
 refine aj (aE 19 nd (d:=.int (JU / 6 % 13 - 6)) (eD (dj (eZ (cR fC aF hr (ae (aa 0 rfl) (ae ar ao)) cl) ar (by decide)) ar (by decide)) ar)) ?_
 refine aj (dl1:=D3 (.val (.lst (as.map nD))) .bE .bE .bE (.val (.int fi)) .bE) (aE 19 nd (bP (dj (aa 19 rfl) (aa 1 rfl) wyp) (congrArg Dt.int hfi.symm))) ?_
 refine aj (dl1:=D3 (.val (.lst (as.map nD))) .bE .bE .bE (.val (.int fi)) (.val (nD v))) (aE 20 nd (bP (dj (bu (aa 11 rfl) (aa 19 rfl)) (aa 1 rfl) wyp) (congrArg Dt.int hv))) ?_
 exact av (aV (bP (sy (u:=true) (v:=true) (bP (Ba (mZ (g7 (sJ (fs:=t.iH six (cL six xs)) (jh (aa 12 rfl)) yc aF hr (ae (aa 19 rfl) ao) ⟨six,_,fi,rfl,wf,rfl⟩)) (aa 20 rfl) eFR) (aa 13 rfl)) (congrArg Dt.bl (decide_eq_true rfl))) fun _=>(nP (bP (Ba (mZ (g7 (sJ (fs:=t.iH six (cL six xs)) (jh (aa 12 rfl)) yd aF hr (ae (aa 19 rfl) ao) ⟨six,_,fi,rfl,wf,rfl⟩)) (aa 20 rfl) eFT) (aa 14 rfl)) (congrArg Dt.bl (decide_eq_true rfl))))) rfl))
end
end Pf
namespace PySem.W.Fast
def tw18054468062255165344:Unit:=()
def tw4034118765419948184:Unit:=()
def tw3830917575568014624:Unit:=()
def tw15810078568789357876:Unit:=()
def tw11829009894862206543:Unit:=()
def tw3024226519970632997:Unit:=()
def tw15768724874021973685:Unit:=()
def tw431393177538092006:Unit:=()
def tw566282544862857033:Unit:=()
def tw1106642796756173761:Unit:=()
def tw16606765033026014688:Unit:=()
def tw2057355376646543241:Unit:=()
def tw14816863556878349787:Unit:=()
def tw8225331969302836937:Unit:=()
def tw257572926584130196:Unit:=()
def tw12338197501379186602:Unit:=()
def tw9246612593732311498:Unit:=()
def tw5108038328077444045:Unit:=()
def tw16328110452141866320:Unit:=()
def tw4417736514417691985:Unit:=()
def tw1110160178219445224:Unit:=()
def tw1185705657379990630:Unit:=()
def tw9662739603556781348:Unit:=()
def tw14572742062291480978:Unit:=()
def tw21657664614535240:Unit:=()
def tw14455624613857292033:Unit:=()
def tw12537102092078791186:Unit:=()
def tw5806555115749845903:Unit:=()
def tw10190835656282067304:Unit:=()
def tw2382736552133604669:Unit:=()
def tw7181389029982092789:Unit:=()
def tw1604052691035175299:Unit:=()
def tw11356086315847843795:Unit:=()
def tw8287804834028245384:Unit:=()
def tw17082382110369573192:Unit:=()
def tw8142616356296845063:Unit:=()
def tw13196641673557946816:Unit:=()
def tw15426712372086983151:Unit:=()
def tw9663990550512742731:Unit:=()
def tw5141867604201087899:Unit:=()
def tw18235680912761960218:Unit:=()
def tw377082839205795366:Unit:=()
def tw10859718611986958475:Unit:=()
def tw16682715157905342656:Unit:=()
def tw5575251415602849511:Unit:=()
def tw14262039892564013633:Unit:=()
def tw1465953381325876558:Unit:=()
def tw13548330157156497166:Unit:=()
def tw424425783090068295:Unit:=()
def tw8957334933235775062:Unit:=()
def tw6756454919085070389:Unit:=()
def tw2029415270681195346:Unit:=()
def tw989338657861163579:Unit:=()
def tw595407882548444553:Unit:=()
def tw14801001374255745153:Unit:=()
def tw3877443673148584077:Unit:=()
def tw10468698339640072485:Unit:=()
def tw16812545845399373592:Unit:=()
def tw8470673465481586539:Unit:=()
def tw4367514074230011317:Unit:=()
def tw9717217829354500875:Unit:=()
def tw18431121622047701855:Unit:=()
def tw15267776302727253340:Unit:=()
def tw14970646607324669873:Unit:=()
def tw13692361546428913007:Unit:=()
def tw15258820150898631666:Unit:=()
def tw15824501090459541452:Unit:=()
def tw7048361593611452373:Unit:=()
def tw12512732087691959501:Unit:=()
def tw225873425403053171:Unit:=()
def tw2448915287690711696:Unit:=()
def tw4925411344437016603:Unit:=()
def tw3593796721381355883:Unit:=()
def tw8933637914260986927:Unit:=()
def tw2032607857205528703:Unit:=()
def tw14221044097258458461:Unit:=()
def tw5358292085162107842:Unit:=()
def tw4252338384077691706:Unit:=()
def tw4187390824333774242:Unit:=()
def tw375868492559173922:Unit:=()
def tw15973795750265313059:Unit:=()
def tw8036595417699846130:Unit:=()
def tw17092686256114374162:Unit:=()
def tw9937222277498552080:Unit:=()
def tw6693059911153302579:Unit:=()
def tw10089623101579977496:Unit:=()
def tw11283123900007919917:Unit:=()
def tw2364615596744553906:Unit:=()
def tw5063529535600505156:Unit:=()
def tw18390390878810503795:Unit:=()
def tw2307455054460514825:Unit:=()
def tw10296645951436208556:Unit:=()
def tw572100816681616825:Unit:=()
def tw7428294889157488632:Unit:=()
def tw3317784188769570399:Unit:=()
def tw14486698780583311820:Unit:=()
def tw16328629055884108904:Unit:=()
def tw8706305881229909932:Unit:=()
def tw13554417807089800467:Unit:=()
def tw8094310235967640805:Unit:=()
def tw9939453201484790503:Unit:=()
def tw9931605273318831560:Unit:=()
def tw917647819329486950:Unit:=()
def tw9688318170537151695:Unit:=()
def tw17372722292570632674:Unit:=()
def tw17475454833161898407:Unit:=()
def tw11196819687071771094:Unit:=()
def tw10787626374439069543:Unit:=()
def tw11039627624961109594:Unit:=()
def tw409474698510798336:Unit:=()
def tw8244865889730165357:Unit:=()
def tw15500555115625263671:Unit:=()
def tw10619624095499751383:Unit:=()
def tw9885304159556444008:Unit:=()
def tw1711118762487541779:Unit:=()
def tw1210392992104701339:Unit:=()
def tw7723863167219120405:Unit:=()
def tw11146513503145681210:Unit:=()
def tw710254288646853316:Unit:=()
def tw10525185802783021397:Unit:=()
def tw13258395573421536454:Unit:=()
def tw7029824679462019461:Unit:=()
def tw3038179804866361728:Unit:=()
def tw14200678130989091371:Unit:=()
def tw16746244440195443349:Unit:=()
def tw9960312429222257040:Unit:=()
def tw14194453352252394938:Unit:=()
def tw1183587272211185737:Unit:=()
def tw11227719516005422369:Unit:=()
def tw7567071872783372718:Unit:=()
def tw5551183746508519219:Unit:=()
def tw3389748820499209726:Unit:=()
def tw3097758858622437850:Unit:=()
def tw810885958539123678:Unit:=()
def tw17412594759052620660:Unit:=()
def tw583715684446881678:Unit:=()
def tw11889765758242727717:Unit:=()
def tw15297304741558589090:Unit:=()
def tw14916266872754253920:Unit:=()
def tw4442656081887796050:Unit:=()
def tw2806018370832013859:Unit:=()
def tw5663139275755936276:Unit:=()
def tw1008068689790744693:Unit:=()
def tw6314306535954933796:Unit:=()
def tw1096030460186485507:Unit:=()
def tw15519859678264803399:Unit:=()
def tw6672604814151602608:Unit:=()
def tw3085858963512414296:Unit:=()
def tw17899284390884667900:Unit:=()
def tw7743425308363904746:Unit:=()
def tw2297613629997713668:Unit:=()
def tw1998942477908987924:Unit:=()
def tw3008963705995320026:Unit:=()
def tw4128181668023358591:Unit:=()
def tw1857349454609185279:Unit:=()
def tw7255740608965567614:Unit:=()
def tw11291178594953351661:Unit:=()
def tw16852709521959699220:Unit:=()
def tw17033551044978588103:Unit:=()
def tw9044787651902427805:Unit:=()
def tw2972805496531371732:Unit:=()
def tw8361979428042381655:Unit:=()
def tw16444230845697015281:Unit:=()
def tw2839456728364735179:Unit:=()
def tw13664635681712709728:Unit:=()
end PySem.W.Fast
open PySem PySem.W PyProof.Rows
set_option maxRecDepth 100000 in
set_option maxHeartbeats 0 in
theorem PySem.Challenge.cw_strokegrow_k55_whole_reach_touched_holds : PySem.Challenge.rw_strokegrow_k55_whole_reach_touched.Holds := by
 w_on;o_law;k_head;(case hw=>w_witness2)
 k_fill
 refine L2.FZ (l:=PySem.Challenge.rw_strokegrow_k55_whole_reach_touched) (n:=63) (k:=16) (x:="_law_script") (CX:=Pf.CX) (sp:=fun K=>Pf.IJ K) rfl (by decide) rfl ⟨rfl,by decide,by decide⟩ (fun w h Y=>PySem.W.kIn_of Y) ?F ?S ?C
 case F=>
   intro w mg fa h KX G T1
   have T:∃ t,Pf.Txt (L2.KOf KX) mg t∧t.jD=fa:=by
     dsimp only [L2.KOf]
     obtain⟨t,T,e⟩:∃ t,Pf.Txt _ mg t∧t.jD=_:=by
       refine' Pf.QD KX G ?aQuarter ?pgQuarter ?hdQuarter ?poQuarter ?saQuarter ?kcQuarter ?aSixth ?pgSixth ?hdSixth ?poSixth ?saSixth ?kcSixth ?aRules ?pgRules ?hdRules ?poRules ?saRules ?kcRules ?aGrowth ?pgGrowth ?hdGrowth ?poGrowth ?saGrowth ?kcGrowth ?aTrack ?pgTrack ?hdTrack ?poTrack ?saTrack ?kcTrack ?aDrawing ?pgDrawing ?hdDrawing ?poDrawing ?saDrawing ?kcDrawing ?mkQuarter ?inQuarter ?mkSixth ?inSixth ?mkRules ?inRules ?fiRules ?mkGrowth ?inGrowth ?fiGrowth ?mkTrack ?inTrack ?fiTrack ?mkDrawing ?inDrawing ?fiDrawing ?na_Rules_drawer ?na_Rules_row_by_letter ?na_Growth_rules ?na_Growth_seed ?na_Growth_tallies ?na_Growth_lengths ?na_Track_drawer ?na_Track_deed_count ?na_Track_last_way ?na_Track_last_spot ?na_Track_stroke_count ?na_Track_reaches ?na_Track_touches ?na_Track_crosses ?na_Drawing_growth ?na_Drawing_tracks ?ag_DEEDS ?lg_DEEDS ?ag_GOING_DEEDS ?lg_GOING_DEEDS ?ag_MOST_ROWS ?ag_MOST_IN_WORD ?ag_LAST_ROUND ?y574 ?y575 ?y576 ?y577 ?y578 ?y579 ?y580 ?y581 ?y582 ?y583 ?y584 ?y585 ?y586 ?y587 ?y588 ?y589 ?y590 ?y591 ?y592 ?y593 ?y594 ?y595 ?y596 ?y597 ?y598 ?y599 ?y600 ?y601 ?y602 ?y603 ?y604 ?y605 ?y606 ?y607 ?y608 ?y609 ?y610 ?y611 ?y612 ?y613 ?y614 ?y615 ?y616 ?y617 ?y618 ?y619 ?y620 ?y621 ?y622 ?y623 ?y624 ?y625 ?y626 ?y627 ?y628 ?y629 ?y630 ?y631 ?y632 ?y633 ?y634 ?y635 ?y636 ?y637 ?y638 ?y639 ?y640 ?y641 ?y642 ?y643 ?y644 ?y645 ?y646 ?y647 ?y648 ?y649 ?y650 ?y651 ?y652 ?y653 ?y654 ?y655 ?y656 ?y657 ?y658 ?y659 ?y660 ?y661 ?y662 ?y663 ?y664 ?y665 ?y666 ?y667 ?y668 ?y669 ?y670 ?y671 ?y672 ?y673 ?y674 ?y675 ?y676 ?y677 ?y678 ?y679 ?y680 ?y681 ?y682 ?y683 ?y684 ?y685 ?y686 ?y687 ?y688 ?y689 ?y690 ?y691 ?y692 ?y693 ?y694 ?y695 ?y696 ?y697 ?y698 ?y699 ?y700 ?y701 ?y702 ?y703 ?y704 ?y705 ?y706 ?y707 ?y708 ?y709 ?y710 ?y711 ?y712 ?y713 ?y714 ?y715 ?y716 ?y717 ?y718 ?y719 ?y720 ?y721 ?y722 ?y723 ?y724 ?y725 ?y726 ?y727 ?y728 ?y729 ?y730 ?y731 ?y732 ?y733 ?y734 ?y735 ?y736 ?y737 ?y738 ?y739 ?y740 ?y741 ?y742 ?y743 ?y744 ?y745 ?y746 ?y747 ?y748 ?y749 ?y750 ?y751 ?y752 ?y753 ?y754 ?y755 ?y756 ?y757 ?y758 ?y759 ?y760 ?y761 ?y762 ?y763 ?y764 ?y765 ?y766 ?y767 ?y768 ?y769 ?y770 ?y771 ?y772 ?y773 ?y774 ?y775 ?y776 ?y777 ?y778 ?y779 ?y780 ?y781 ?y782 ?y783 ?y784 ?y785 ?y786 ?y787 ?y788 ?y789 ?y790 ?y791 ?y792 ?y793 ?y794 ?y795 ?y796 ?y797 ?y798 ?y799 ?y800 ?y801 ?y802 ?y803 ?y804 ?y805 ?y806 ?y807 ?y808 ?y809 ?y810 ?y811 ?y812 ?y813 ?y814 ?y815 ?y816 ?y817 ?y818 ?y819 ?y820 ?y821 ?y822 ?y823 ?y824 ?y825 ?y826 ?y827 ?y828 ?y829 ?y830 ?y831 ?y832 ?y833 ?y834 ?y835 ?y836 ?y837 ?y838 ?y839 ?y840 ?y841 ?y842 ?y843 ?y844 ?y845 ?y846 ?y847 ?y848 ?y849 ?y850 ?y851 ?y852 ?y853 ?y854 ?y855 ?y856 ?y857 ?y858 ?y859 ?y860 ?z_all ?z_bool ?z_dict ?z_enumerate ?z_int ?z_isinstance ?z_len ?z_list ?z_max ?z_min ?z_range ?z_reversed ?z_sorted ?z_sum ?z_tuple
       (case aQuarter=>k_is);(case pgQuarter=>k_is);(case hdQuarter=>k_is);(case poQuarter=>k_is);(case saQuarter=>k_is);(case kcQuarter=>k_is);(case aSixth=>k_is);(case pgSixth=>k_is);(case hdSixth=>k_is);(case poSixth=>k_is);(case saSixth=>k_is);(case kcSixth=>k_is);(case aRules=>k_is);(case pgRules=>k_is);(case hdRules=>k_is);(case poRules=>k_is);(case saRules=>k_is);(case kcRules=>k_is);(case aGrowth=>k_is);(case pgGrowth=>k_is);(case hdGrowth=>k_is);(case poGrowth=>k_is);(case saGrowth=>k_is);(case kcGrowth=>k_is);(case aTrack=>k_is);(case pgTrack=>k_is);(case hdTrack=>k_is);(case poTrack=>k_is);(case saTrack=>k_is);(case kcTrack=>k_is);(case aDrawing=>k_is);(case pgDrawing=>k_is);(case hdDrawing=>k_is);(case poDrawing=>k_is);(case saDrawing=>k_is);(case kcDrawing=>k_is);(case mkQuarter=>k_is);(case inQuarter=>k_is);(case mkSixth=>k_is);(case inSixth=>k_is);(case mkRules=>k_is);(case inRules=>k_is);(case fiRules=>k_is);(case mkGrowth=>k_is);(case inGrowth=>k_is);(case fiGrowth=>k_is);(case mkTrack=>k_is);(case inTrack=>k_is);(case fiTrack=>k_is);(case mkDrawing=>k_is);(case inDrawing=>k_is);(case fiDrawing=>k_is);(case na_Rules_drawer=>k_is);(case na_Rules_row_by_letter=>k_is);(case na_Growth_rules=>k_is);(case na_Growth_seed=>k_is);(case na_Growth_tallies=>k_is);(case na_Growth_lengths=>k_is);(case na_Track_drawer=>k_is);(case na_Track_deed_count=>k_is);(case na_Track_last_way=>k_is);(case na_Track_last_spot=>k_is);(case na_Track_stroke_count=>k_is);(case na_Track_reaches=>k_is);(case na_Track_touches=>k_is);(case na_Track_crosses=>k_is);(case na_Drawing_growth=>k_is);(case na_Drawing_tracks=>k_is);(case ag_DEEDS=>k_is);(case lg_DEEDS=>k_is);(case ag_GOING_DEEDS=>k_is);(case lg_GOING_DEEDS=>k_is);(case ag_MOST_ROWS=>k_is);(case ag_MOST_IN_WORD=>k_is);(case ag_LAST_ROUND=>k_is);(case y574=>k_is);(case y575=>k_is);(case y576=>k_is);(case y577=>k_is);(case y578=>k_is);(case y579=>k_is);(case y580=>k_is);(case y581=>k_is);(case y582=>k_is);(case y583=>k_is);(case y584=>k_is);(case y585=>k_is);(case y586=>k_is);(case y587=>k_is);(case y588=>k_is);(case y589=>k_is);(case y590=>k_is);(case y591=>k_is);(case y592=>k_is);(case y593=>k_is);(case y594=>k_is);(case y595=>k_is);(case y596=>k_is);(case y597=>k_is);(case y598=>k_is);(case y599=>k_is);(case y600=>k_is);(case y601=>k_is);(case y602=>k_is);(case y603=>k_is);(case y604=>k_is);(case y605=>k_is);(case y606=>k_is);(case y607=>k_is);(case y608=>k_is);(case y609=>k_is);(case y610=>k_is);(case y611=>k_is);(case y612=>k_is);(case y613=>k_is);(case y614=>k_is);(case y615=>k_is);(case y616=>k_is);(case y617=>k_is);(case y618=>k_is);(case y619=>k_is);(case y620=>k_is);(case y621=>k_is);(case y622=>k_is);(case y623=>k_is);(case y624=>k_is);(case y625=>k_is);(case y626=>k_is);(case y627=>k_is);(case y628=>k_is);(case y629=>k_is);(case y630=>k_is);(case y631=>k_is);(case y632=>k_is);(case y633=>k_is);(case y634=>k_is);(case y635=>k_is);(case y636=>k_is);(case y637=>k_is);(case y638=>k_is);(case y639=>k_is);(case y640=>k_is);(case y641=>k_is);(case y642=>k_is);(case y643=>k_is);(case y644=>k_is);(case y645=>k_is);(case y646=>k_is);(case y647=>k_is);(case y648=>k_is);(case y649=>k_is);(case y650=>k_is);(case y651=>k_is);(case y652=>k_is);(case y653=>k_is);(case y654=>k_is);(case y655=>k_is);(case y656=>k_is);(case y657=>k_is);(case y658=>k_is);(case y659=>k_is);(case y660=>k_is);(case y661=>k_is);(case y662=>k_is);(case y663=>k_is);(case y664=>k_is);(case y665=>k_is);(case y666=>k_is);(case y667=>k_is);(case y668=>k_is);(case y669=>k_is);(case y670=>k_is);(case y671=>k_is);(case y672=>k_is);(case y673=>k_is);(case y674=>k_is);(case y675=>k_is);(case y676=>k_is);(case y677=>k_is);(case y678=>k_is);(case y679=>k_is);(case y680=>k_is);(case y681=>k_is);(case y682=>k_is);(case y683=>k_is);(case y684=>k_is);(case y685=>k_is);(case y686=>k_is);(case y687=>k_is);(case y688=>k_is);(case y689=>k_is);(case y690=>k_is);(case y691=>k_is);(case y692=>k_is);(case y693=>k_is);(case y694=>k_is);(case y695=>k_is);(case y696=>k_is);(case y697=>k_is);(case y698=>k_is);(case y699=>k_is);(case y700=>k_is);(case y701=>k_is);(case y702=>k_is);(case y703=>k_is);(case y704=>k_is);(case y705=>k_is);(case y706=>k_is);(case y707=>k_is);(case y708=>k_is);(case y709=>k_is);(case y710=>k_is);(case y711=>k_is);(case y712=>k_is);(case y713=>k_is);(case y714=>k_is);(case y715=>k_is);(case y716=>k_is);(case y717=>k_is);(case y718=>k_is);(case y719=>k_is);(case y720=>k_is);(case y721=>k_is);(case y722=>k_is);(case y723=>k_is);(case y724=>k_is);(case y725=>k_is);(case y726=>k_is);(case y727=>k_is);(case y728=>k_is);(case y729=>k_is);(case y730=>k_is);(case y731=>k_is);(case y732=>k_is);(case y733=>k_is);(case y734=>k_is);(case y735=>k_is);(case y736=>k_is);(case y737=>k_is);(case y738=>k_is);(case y739=>k_is);(case y740=>k_is);(case y741=>k_is);(case y742=>k_is);(case y743=>k_is);(case y744=>k_is);(case y745=>k_is);(case y746=>k_is);(case y747=>k_is);(case y748=>k_is);(case y749=>k_is);(case y750=>k_is);(case y751=>k_is);(case y752=>k_is);(case y753=>k_is);(case y754=>k_is);(case y755=>k_is);(case y756=>k_is);(case y757=>k_is);(case y758=>k_is);(case y759=>k_is);(case y760=>k_is);(case y761=>k_is);(case y762=>k_is);(case y763=>k_is);(case y764=>k_is);(case y765=>k_is);(case y766=>k_is);(case y767=>k_is);(case y768=>k_is);(case y769=>k_is);(case y770=>k_is);(case y771=>k_is);(case y772=>k_is);(case y773=>k_is);(case y774=>k_is);(case y775=>k_is);(case y776=>k_is);(case y777=>k_is);(case y778=>k_is);(case y779=>k_is);(case y780=>k_is);(case y781=>k_is);(case y782=>k_is);(case y783=>k_is);(case y784=>k_is);(case y785=>k_is);(case y786=>k_is);(case y787=>k_is);(case y788=>k_is);(case y789=>k_is);(case y790=>k_is);(case y791=>k_is);(case y792=>k_is);(case y793=>k_is);(case y794=>k_is);(case y795=>k_is);(case y796=>k_is);(case y797=>k_is);(case y798=>k_is);(case y799=>k_is);(case y800=>k_is);(case y801=>k_is);(case y802=>k_is);(case y803=>k_is);(case y804=>k_is);(case y805=>k_is);(case y806=>k_is);(case y807=>k_is);(case y808=>k_is);(case y809=>k_is);(case y810=>k_is);(case y811=>k_is);(case y812=>k_is);(case y813=>k_is);(case y814=>k_is);(case y815=>k_is);(case y816=>k_is);(case y817=>k_is);(case y818=>k_is);(case y819=>k_is);(case y820=>k_is);(case y821=>k_is);(case y822=>k_is);(case y823=>k_is);(case y824=>k_is);(case y825=>k_is);(case y826=>k_is);(case y827=>k_is);(case y828=>k_is);(case y829=>k_is);(case y830=>k_is);(case y831=>k_is);(case y832=>k_is);(case y833=>k_is);(case y834=>k_is);(case y835=>k_is);(case y836=>k_is);(case y837=>k_is);(case y838=>k_is);(case y839=>k_is);(case y840=>k_is);(case y841=>k_is);(case y842=>k_is);(case y843=>k_is);(case y844=>k_is);(case y845=>k_is);(case y846=>k_is);(case y847=>k_is);(case y848=>k_is);(case y849=>k_is);(case y850=>k_is);(case y851=>k_is);(case y852=>k_is);(case y853=>k_is);(case y854=>k_is);(case y855=>k_is);(case y856=>k_is);(case y857=>k_is);(case y858=>k_is);(case y859=>k_is);(case y860=>k_is);(case z_all=>k_is);(case z_bool=>k_is);(case z_dict=>k_is);(case z_enumerate=>k_is);(case z_int=>k_is);(case z_isinstance=>k_is);(case z_len=>k_is);(case z_list=>k_is);(case z_max=>k_is);(case z_min=>k_is);(case z_range=>k_is);(case z_reversed=>k_is);(case z_sorted=>k_is);(case z_sum=>k_is);(case z_tuple=>k_is)
     refine⟨t,T,?_⟩
     have e0:=T1.symm.trans T.Vt
     cases e0
     rfl
   obtain⟨t,T,e⟩:=T
   subst e
   refine' ⟨t.zT,?b,fun base kb nb=>Pf.Sm T⟩
   exact T.QC
 case S=>exact fun K H a ns hl hO hS=>Pf.R5 hl hS
 case C=>exact fun H s e s' h=>h
