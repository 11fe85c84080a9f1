import PyProof.Rows.All
import Wide.All
import OpenK.AllK
import Wide.FinOn
import Lean
import PyProof.EqAt
import PyProof.EqKinds
import PyProof.TupleCall
import PyProof.WalksEnum
import PyProof.EnumMake
import PyProof.ZipIter
import PyProof.ReprStr
import PyProof.StrBlockG
import PyProof.StrWalks
import PyProof.FString5
import PyProof.ConsumeWalk
import PyProof.SumAny
import PyProof.StrCalls2
import KE.KDictList
import PyProof.Draws
import PyProof.StrBlock2
import PyProof.DictIter
import PyProof.ExcInit
import PyProof.ExcClass3
import PyProof.FString
import PyProof.FitsInt
import PyProof.StrLawsRepr
import PyProof.Rows.Range3
import PyProof.StrCalls
import PyProof.ListRange
import PyProof.AttrMissHeap
import KE.KDictOf
import PyProof.StrCalls3
import PyProof.FactsAll.dict_2
import PyProof.MeetsIn
import PyProof.Cells
import KE.KDictSum
import PyProof.DictWalks
import KE.KRevIter
import PyProof.FactsAll.subtypes_3
import PyProof.Rows.SortWalk
import KE.KSortedM
import PyProof.Rows.SortStr
import PyProof.MinMaxWalk
import PyProof.WalkInts
import PyProof.SeqI3
import PyProof.Rows.CallKwBuiltin
import KE.KUnpack
import PyProof.Rows.SeqMore2
import PySem.Challenge.RW_strokegrow_k26_tracks_as_drawn
theorem jpp (h:True:=by rfl):True:=h
def jp:Lean.Syntax:=jpp._auto_1
theorem z8p (h:True:=by decide):True:=h
def z8:Lean.Syntax:=z8p._auto_1
theorem xzp (h:True:=by intro _;rfl):True:=h
def xz:Lean.Syntax:=xzp._auto_1
theorem xFp (h:True:=by first | exact HS rfl | exact HR rfl):True:=h
def xF:Lean.Syntax:=xFp._auto_1
theorem xIp (h:True:=by first | exact .inl rfl | exact .inr rfl | assumption):True:=h
def xI:Lean.Syntax:=xIp._auto_1
theorem xLp (h:True:=by first | exact HS rfl | exact HR (HS rfl) | exact HR (HR rfl)):True:=h
def xL:Lean.Syntax:=xLp._auto_1
theorem xRp (h:True:=by first | exact .inl rfl | exact .inr rfl):True:=h
def xR:Lean.Syntax:=xRp._auto_1
theorem xXp (h:True:=by intro _ _;rfl):True:=h
def xX:Lean.Syntax:=xXp._auto_1
theorem AA3 {a b:Nat}(h:autoParam (Nat.ble a b=true) jp):a<=b:=Nat.le_of_ble_eq_true h
set_option Elab.async false
set_option linter.all false
set_option maxRecDepth 100000
section
set_option genSizeOf false
set_option genInjectivity false
open List renaming getElem?_set_self→k0, getElem?_set_ne→k2, length_map→k3, getElem?_map→k5, range→th, getD_eq_getElem?_getD→Bn, getElem?_eq_none→Cp, getElem?_eq_getElem→DT, replicate→FH, getElem?_eq_some_iff→Hx, size_toArray→Hz, mem_cons_of_mem→HB, mem_append_right→HF, getElem?_append_left→HN, replicate_succ→HQ, mem_cons_self→HU, map_cons→HV, getElem?_range→HW, length_range→HX, getElem?_replicate→HY, getElem?_cons_succ→HZ, getElem?_append_right→Ia, flatten_cons→Ib, lookup_cons→Ie, append_nil→Ii, dropLast_concat_getLast→Ij, mem_cons→Im, length_append→Ip, length_cons→Ir, eq_nil_of_length_eq_zero→Iu, lookup→IB, take_add_one→ID, length_take→IG, take_length→IH, all_cons→II, length_dropLast→IJ, nodup_cons→IL, map_append→IM, filterMap_cons→IP
open Exists renaming elim→k1
open Bool renaming false_ne_true→FJ, false_eq_true→Ic, and_eq_true→Io, eq_iff_iff→IK
open PySem.Heap renaming lt_size→Gv, get?_push_of_some→Hm, get?_push_size→HP, size_push→IQ
open Nat renaming le_refl→Hr, lt_of_lt_of_le→HA, ne_of_lt→HM, le_trans→Ik, le_of_lt→Il, le_of_ble_eq_true→Iv, zero_le→Iw, lt_irrefl→Iy, lt_of_le_of_lt→IA, lt_succ_self→IE
open Or renaming inr→HR, inl→HS
open Int renaming emod_lt_of_pos→Ig, toNat_natCast→Ih, emod_nonneg→Iq, ne_of_gt→IC
open Option renaming isSome_iff_exists→Iz
theorem zn {α:Sort u}{p q r:α->Prop}(h:∃ x,p x∧q x)(f:∀ x,p x->q x->r x):∃ x,p x∧r x:=Exists.elim h fun x h=>⟨x,h.1,f x h.1 h.2⟩
namespace L2
open PySem PySem.Spec PyProof.Rows
noncomputable abbrev Key:=Sum Int Str
noncomputable def x4:Key->Value->Bool
 | .inl k,v=>Value.isInt k v
 | .inr x,v=>Value.isStrOf x v
noncomputable def Cu (w:World):Key->Int
 | .inl k=>hashInt k
 | .inr x=>hashStr w x
theorem bG:∀ {k:Key} {v:Value},x4 k v=true->(∃ i t,k=Sum.inl i/\v=Value.int i t)\/(∃ x t,k=Sum.inr x/\v=Value.str x t)
 | .inl i,v,h=>by
   obtain⟨t,e⟩:=Value.isInt_shape (k:=i) (v:=v) h;exact .inl ⟨i,t,rfl,e⟩
 | .inr x,v,h=>by
   obtain⟨t,e⟩:=Value.isStrOf_shape (x:=x) (v:=v) h;exact .inr ⟨x,t,rfl,e⟩
theorem yy (a b:Int):decide ((Sum.inl a:Key)=Sum.inl b)=(a == b):=by
 by_cases e:a=b
 . subst e;simp
 . have h:¬ (Sum.inl a:Key)=Sum.inl b:=fun q=>e (Sum.inl.inj q)
   rw[decide_eq_false h];exact(beq_eq_false_iff_ne.mpr e).symm
theorem yz (a b:Str):decide ((Sum.inr a:Key)=Sum.inr b)=decide (a=b):=by
 by_cases e:a=b
 . subst e;simp
 . have h:¬ (Sum.inr a:Key)=Sum.inr b:=fun q=>e (Sum.inr.inj q)
   rw[decide_eq_false h,decide_eq_false e]
theorem yA (a:Int)(b:Str):decide ((Sum.inl a:Key)=Sum.inr b)=false:=decide_eq_false (fun q=>nomatch q)
theorem yB (a:Str)(b:Int):decide ((Sum.inr a:Key)=Sum.inl b)=false:=decide_eq_false (fun q=>nomatch q)
noncomputable def j8 (prog:Program)(w:World):PySem.KeyKind prog w Key where
 is:=x4
 hash:=Cu w
 inj:=fun v a b ha hb=>by
   rcases bG ha with⟨i,t,rfl,rfl⟩ | ⟨x,t,rfl,rfl⟩
   . rcases bG hb with⟨j,u,rfl,e⟩ | ⟨y,u,rfl,e⟩
     . injection e with e1 _;rw[e1]
     . exact nomatch e
   . rcases bG hb with⟨j,u,rfl,e⟩ | ⟨y,u,rfl,e⟩
     . exact nomatch e
     . injection e with e1 _;rw[e1]
 byValue:=fun k v h=>by
   rcases bG h with⟨i,t,rfl,rfl⟩ | ⟨x,t,rfl,rfl⟩ <;> rfl
 pyHash:=fun hv h=>by
   rcases bG hv with⟨i,t,rfl,rfl⟩ | ⟨x,t,rfl,rfl⟩
   . exact wpAny_pyHash_int h
   . exact wpAny_pyHash_str h
 eqBool:=fun hu hv h=>by
   rcases bG hu with⟨i,t,rfl,rfl⟩ | ⟨x,t,rfl,rfl⟩
   . rcases bG hv with⟨j,u,rfl,rfl⟩ | ⟨y,u,rfl,rfl⟩
     . rw[yy] at h;exact wpAny_eqBool_int h
     . rw[yA] at h;exact SeqAt.EqAt.int_str i t y u _ _ _ _ h
   . rcases bG hv with⟨j,u,rfl,rfl⟩ | ⟨y,u,rfl,rfl⟩
     . rw[yB] at h;exact SeqAt.EqAt.str_int x t j u _ _ _ _ h
     . rw[yz] at h;exact wpAny_eqBool_str h
 «strs»:=fun k x t v h=>by
   rcases bG h with⟨i,u,rfl,e⟩ | ⟨y,u,rfl,e⟩
   . exact nomatch e
   . injection e with e1 _
     subst e1;cases v <;> rfl
set_option genInjectivity true in
inductive V where
 | b4 | bl (b:Bool) | int (i:Int) | str (x:Str) | sY (b:Array UInt8) | yC (b:UInt64) | ref (a:Addr) | ty (n:String)
 deriving DecidableEq
def RelV:V->Value->Prop
 | .b4,u=>u=Value.none
 | .bl b,u=>u=Value.bool b
 | .int i,u=>∃ t,u=Value.int i t
 | .str x,u=>∃ t,u=Value.str x t
 | .sY b,u=>∃ t,u=Value.bytes b t
 | .yC b,u=>∃ t,u=Value.float b t
 | .ref a,u=>u=Value.ref a
 | .ty n,u=>u=Value.type n
abbrev Vals:List V->List Value->Prop:=Paired RelV
theorem Vals.length {xs:List V}{us:List Value}(r:Vals xs us):xs.length=us.length:=Paired.length r
theorem Vals.get:∀ {xs:List V} {us:List Value} {i:Nat} {x:V},Vals xs us->xs[i]?=some x->∃ u,us[i]?=some u/\RelV x u
 | _,_,_,_,.nil,e=>by simp at e
 | _,_,0,_,.cons r _,e=>by simp at e;subst e;exact⟨_,rfl,r⟩
 | _,_,i+1,x,.cons _ t,e=>by
   obtain⟨u,h1,h2⟩:=Vals.get (i:=i) (x:=x) t (by simpa using e);exact⟨u,by simpa using h1,h2⟩
theorem Vals.set {x:V}{u:Value}(r:RelV x u):∀ {xs:List V} {us:List Value} (i:Nat),Vals xs us->Vals (xs.set i x) (us.set i u)
 | _,_,_,.nil=>.nil
 | _,_,0,.cons _ t=>.cons r t
 | _,_,i+1,.cons q t=>.cons q (Vals.set r i t)
theorem Vals.append:∀ {xs ys:List V} {us ws:List Value},Vals xs us->Vals ys ws->Vals (xs ++ ys) (us ++ ws)
 | _,_,_,_,.nil,s=>s
 | _,_,_,_,.cons r t,s=>.cons r (Vals.append t s)
def l6:Option V->Option Value->Prop
 | some v,some u=>RelV v u
 | none,none=>True
 | _,_=>False
def KV {κ:Type}:List (κ×V)->List (κ×Value)->Prop:=Paired fun(p:κ×V) (q:κ×Value)=>p.1=q.1/\RelV p.2 q.2
noncomputable def kV:Key->V
 | .inl i=>.int i
 | .inr x=>.str x
inductive FD where
 | int (i:Int)
 | jO (iu:List (Key×Int))
 | lst (ns:List Int)
 | tup (K:W.Frag) (ns:List Int)
 | obj (C:Addr) (fs:List (Str×FD))
noncomputable abbrev oo:=List (Addr×(Nat->List (Key×FD)))
set_option genInjectivity true in
inductive HO where
   | lst (xs:List V)
   | tup (xs:List V)
   | dK (kvs:List (Key×V)) | dT (kvs:List (List Key×V))
   | set (S:Int->Bool) (n:Nat)
   | ins (C dx:Addr) (fs:List (Str×V))
   | own (x:Addr)
   | xd (fs:List (Str×V))
   | met (f x:Addr)
   | Cv (lo hi:Int)
   | bH (o:Obj) (u:HO)
   | yD (ps:Array Value)
   | ext (φ:Heap->Prop)
   | memo (ls:oo)
 | jP (ls:oo) (ns:List Nat)
   | part (p:Addr)
   | kd (tg:Option (Addr×Nat)) (o:Obj) (kvs:List (Key×V))
   | kx (o:Obj) (u:HO)
noncomputable abbrev Hp:=Addr->Option HO
noncomputable def upd (H:Hp)(a:Addr)(o:HO):Hp:=fun b=>if b=a then some o else H b
theorem au {H:Hp}{a:Addr}{o:HO}:upd H a o a=some o:=by unfold upd;rw[if_pos rfl]
theorem ar {H:Hp}{a b:Addr}{o:HO}(h:b≠a):upd H a o b=H b:=by unfold upd;rw[if_neg h]
theorem aJ {H:Hp}{a b:Addr}{o:HO}(h:H a=some o)(h':H b=none):a≠b:=by
 intro e;subst e;rw[h] at h';cases h'
def js:Option HO->Prop
 | some (.memo _)=>True
 | some (.jP _ _)=>True
 | some (.part _)=>True
 | _=>False
def Kept:HO->Prop
 | .kd _ _ _=>True
 | .kx _ _=>True
 | .tup _=>True
 | _=>False
def TupAt (K:W.Frag)(H:Hp)(a:Addr)(xs:List V):Prop:=
 H a=some (.tup xs) \/
   ∃ (o:Obj) (aF:Array Value) (n:Nat),K.lookup a=some o/\o.cls=.type "tuple"/\o.data=.seq aF n/\aF.size<=sizeLine/\Vals xs aF.toList
mutual
inductive Fz (H:Hp):V->FD->Prop
 | int (i:Int):Fz H (.int i) (.int i)
 | jO {a:Addr} {tg:Option (Addr×Nat)} {o:Obj} {iu:List (Key×Int)}:H a=some (.kd tg o (iu.map fun kd=>(kd.1,V.int kd.2)))->Fz H (.ref a) (.jO iu)
 | lst {a:Addr} {o:Obj} {ns:List Int}:H a=some (.kx o (.lst (ns.map V.int)))->Fz H (.ref a) (.lst ns)
 | tup {a:Addr} {K:W.Frag} {ns:List Int}:TupAt K H a (ns.map V.int)->Fz H (.ref a) (.tup K ns)
 | obj {a C dx:Addr} {o:Obj} {fv:List (Str×V)} {fs:List (Str×FD)}:H a=some (.kx o (.ins C dx fv))->wk H fv fs->Fz H (.ref a) (.obj C fs)
inductive wk (H:Hp):List (Str×V)->List (Str×FD)->Prop
 | nil:wk H [] []
 | cons {k:Str} {v:V} {d:FD} {vs:List (Str×V)} {ds:List (Str×FD)}:Fz H v d->wk H vs ds->wk H ((k,v)::vs) ((k,d)::ds)
end
inductive wm (H:Hp):List (Key×V)->List (Key×FD)->Prop
 | nil:wm H [] []
 | cons {k:Key} {v:V} {d:FD} {kvs:List (Key×V)} {iu:List (Key×FD)}:Fz H v d->wm H kvs iu->wm H ((k,v)::kvs) ((k,d)::iu)
def yE (H:Hp)(p:Addr)(i:Nat)(aF:List Value)(fd:List (Key×FD)):Prop:=∃ q o kvs,aF[i]?=some (.ref q)/\H q=some (.kd (some (p,i)) o kvs)/\wm H kvs fd
def qp (H:Hp)(h:Heap)(p:Addr)(f:Nat->List (Key×FD))(n:Nat):Prop:=∃ aF c,h.get? p=some { cls:=.type "list",data:=.seq (aF:List Value).toArray c}/\aF.length=n/\∀ i,i < n->yE H p i aF (f i)
def kR (H:Hp)(h:Heap)(a:Addr)(ls:oo)(ns:List Nat):Prop:=(∃ f,ls[0]?=some (a,f))/\ls.length=ns.length/\(∀ (j:Nat) (p:Addr) (f:Nat->List (Key×FD)),ls[j]?=some (p,f)->(p=a\/H p=some (.part a)))/\(ls.map (·.1)).Nodup/\(∀ n∈ns,n<=10000)/\∀ (j:Nat) (p:Addr) (f:Nat->List (Key×FD)) (n:Nat),ls[j]?=some (p,f)->ns[j]?=some n->qp H h p f n
section
variable (P:Program)(w:World)
def bI (H:Hp)(h:Heap)(a:Addr):HO->Prop
 | .lst xs=>xs.length<=sizeLine/\∃ (aF:List Value) (n:Nat),Vals xs aF/\h.get? a=some { cls:=.type "list",data:=.seq aF.toArray n}
 | .tup xs=>xs.length<=sizeLine/\∃ aF:List Value,Vals xs aF/\IsTup h a aF.toArray
 | .dK kvs=>kvs.length<=sizeLine/\(a == sysModules)=false/\∃ vs,KV kvs vs/\h.DictOf (j8 P w) a vs
 | .dT kvs=>kvs.length<=sizeLine/\(a == sysModules)=false/\∃ xs:List (List Key×Addr×Value),
     Paired (fun(p:List Key×V) (q:List Key×Addr×Value)=>p.1=q.1/\H q.2.1=some (.tup (p.1.map kV))/\RelV p.2 q.2.2) kvs xs /\
     ∃ o es ep,h.get? a=some o/\o.ExactDict/\o.data=.dict es ep/\es.toList=xs.map (entryOfKey (tupleKind (j8 P w)))/\(xs.map (·.1)).Nodup
 | .set S n=>h.SetOf (intKind P w) a S n
 | .ins C dx fs=>H dx=some (.own a)/\fs.length<=1000/\dx≠a/\h.get? a=some (W.instObj C dx) /\
     ∃ mA,h.Ns1 dx mA/\(∀ f,l6 (fs.lookup f) (mA f))/\PySem.Within mA (fs.map (·.1))
 | .own _=>∃ o,h.get? a=some o
 | .xd fs=>∃ mA,h.Ns1 a mA/\∀ f,l6 (fs.lookup f) (mA f)
 | .Cv lo hi=>∃ t u v,h.get? a=some { cls:=.type "range",data:=.fields #[.int lo t,.int hi u,.int 1 v]}
 | .bH o u=>h.get? a=some o/\bI H h a u
 | .yD ps=>h.get? a=some { cls:=.none,data:=.fields ps}
 | .met f x=>h.get? a=some (W.methodObj (.ref f) (.ref x))
 | .ext φ=>φ h/\(∃ o,h.get? a=some o)/\∀ h1 h2:Heap,φ h1->(∀ o,h1.get? a=some o->h2.get? a=some o)->φ h2
 | .memo ls=>(∃ o,h.get? a=some o)/\∃ n,0 < n/\kR H h a ls (FH ls.length n)
 | .jP ls ns=>(∃ o,h.get? a=some o)/\kR H h a ls ns
 | .part _=>∃ o,h.get? a=some o
 | .kd tg o kvs=>h.get? a=some o/\(kvs.length<=sizeLine/\(a == sysModules)=false/\∃ vs,KV kvs vs/\h.DictOf (j8 P w) a vs) /\
     ∀ p i,tg=some (p,i)->js (H p)/\∃ aF c,h.get? p=some { cls:=.type "list",data:=.seq (aF:List Value).toArray c}/\aF[i]?=some (.ref a)
 | .kx o u=>h.get? a=some o/\bI H h a u
def jQ (H:Hp)(h:Heap):Prop:=∀ a o,H a=some o->bI P w H h a o
end
section
variable {P:Program}{w:World}{H H':Hp}{h h':Heap}{a:Addr}{o:HO}
theorem bI.lt (x:bI P w H h a o):a < h.objs.size:=by
 cases o with
 | lst xs=>obtain⟨_,_,_,_,e⟩:=x;exact Gv e
 | tup xs=>obtain⟨_,_,_,p⟩:=x;exact p.lt
 | dK kvs=>obtain⟨_,_,_,_,o,_,_,e,_⟩:=x;exact Gv e
 | dT kvs=>obtain⟨_,_,_,_,o,_,_,e,_⟩:=x;exact Gv e
 | set S n=>obtain⟨o,_,_,_,e,_⟩:=x;exact Gv e
 | ins C dx fs=>obtain⟨_,_,_,e,_⟩:=x;exact Gv e
 | own y=>obtain⟨_,e⟩:=x;exact Gv e
 | xd fs=>obtain⟨_,⟨_,_,_,e,_⟩,_⟩:=x;exact Gv e
 | Cv lo hi=>obtain⟨_,_,_,e⟩:=x;exact Gv e
 | bH ob u=>obtain⟨e,_⟩:=x;exact Gv e
 | yD ps=>exact Gv (show h.get? a=some _ from x)
 | met f y=>exact Gv (show h.get? a=some _ from x)
 | ext φ=>obtain⟨_,⟨_,e⟩,_⟩:=x;exact Gv e
 | memo ls=>obtain⟨⟨_,e⟩,_⟩:=x;exact Gv e
 | jP ls ns=>obtain⟨⟨_,e⟩,_⟩:=x;exact Gv e
 | part y=>obtain⟨_,e⟩:=x;exact Gv e
 | kd tg ob kvs=>exact Gv x.1
 | kx ob u=>exact Gv x.1
theorem Paired.Az {α β:Type}{F G:α->β->Prop}:∀ {l₁:List α} {l₂:List β},Paired F l₁ l₂->(∀ a b,F a b->G a b)->Paired G l₁ l₂
 | _,_,.nil,_=>.nil
 | _,_,.cons r t,f=>.cons (f _ _ r) (Paired.Az t f)
structure Kp (H H':Hp):Prop where
 st:∀ b u,H b=some u->Kept u->H' b=some u
 mem:∀ b,js (H b)->js (H' b)
 part:∀ b x,H b=some (.part x)->H' b=some (.part x)
theorem Kp.kd (kp:Kp H H')(b:Addr)(tg:Option (Addr×Nat))(o:Obj)(kvs:List (Key×V))(e:H b=some (.kd tg o kvs)):H' b=some (.kd tg o kvs):=kp.st b _ e trivial
theorem Kp.refl:Kp H H:=⟨fun _ _ e _=>e,fun _ e=>e,fun _ _ e=>e⟩
theorem Kp.of (s:∀ b u,H b=some u->H' b=some u):Kp H H':=⟨fun _ _ e _=>s _ _ e,fun b e=>by
 cases q:H b with
 | none=>rw[q] at e;exact e.elim
 | some u=>rw[s b u q,<- q];exact e,fun _ _ e=>s _ _ e⟩
theorem TupAt.kp {K:W.Frag}{xs:List V}(k:∀ b u,H b=some u->Kept u->H' b=some u)(h:TupAt K H a xs):TupAt K H' a xs:=h.imp (fun e=>k _ _ e trivial) id
mutual
theorem Fz.st (k:∀ b u,H b=some u->Kept u->H' b=some u):∀ {v:V} {d:FD},Fz H v d->Fz H' v d
 | _,_,.int i=>.int i
 | _,_,.jO e=>.jO (k _ _ e trivial)
 | _,_,.lst e=>.lst (k _ _ e trivial)
 | _,_,.tup e=>.tup (e.kp k)
 | _,_,.obj e f=>.obj (k _ _ e trivial) (wk.st k f)
theorem wk.st (k:∀ b u,H b=some u->Kept u->H' b=some u):∀ {v:List (Str×V)} {d:List (Str×FD)},wk H v d->wk H' v d
 | _,_,.nil=>.nil
 | _,_,.cons h t=>.cons (Fz.st k h) (wk.st k t)
end
theorem Fz.kp (kp:Kp H H'){v:V}{d:FD}(h:Fz H v d):Fz H' v d:=h.st kp.st
theorem wm.kp (kp:Kp H H'):∀ {kvs:List (Key×V)} {iu:List (Key×FD)},wm H kvs iu->wm H' kvs iu
 | _,_,.nil=>.nil
 | _,_,.cons h t=>.cons (h.kp kp) (wm.kp kp t)
theorem qp.kp {p:Addr}{f:Nat->List (Key×FD)}{n:Nat}(kp:Kp H H')(x:qp H h p f n)(k:∀ u,h.get? p=some u->h'.get? p=some u):qp H' h' p f n:=by
 obtain⟨aF,c,e,hl,hi⟩:=x;exact⟨aF,c,k _ e,hl,fun i hn=>let ⟨q,o,kvs,h1,h2,h3⟩:=hi i hn;⟨q,o,kvs,h1,kp.kd _ _ _ _ h2,h3.kp kp⟩⟩
theorem kR.kp {ls:oo}{ns:List Nat}(kp:Kp H H')(x:kR H h a ls ns)(k:∀ b u,b=a\/H b=some (.part a)->h.get? b=some u->h'.get? b=some u):kR H' h' a ls ns:=by
 obtain⟨h1,h2,h3,h4,h5,h6⟩:=x;exact⟨h1,h2,fun j p f e=>(h3 j p f e).imp id fun z=>kp.part _ _ z,h4,h5,fun j p f n e1 e2=>(h6 j p f n e1 e2).kp kp fun u e=>k p u (h3 j p f e1) e⟩
def Ed (h:Heap)(p:Addr)(i:Nat)(c:Addr):Prop:=∃ aF n,h.get? p=some { cls:=.type "list",data:=.seq (aF:List Value).toArray n}/\aF[i]?=some (.ref c)
theorem bI.AA (x:bI P w H h a o)(k:∀ b u,(b=a\/H b=some (.own a)\/H b=some (.part a))->h.get? b=some u->h'.get? b=some u)(ho:∀ b,H b=some (.own a)->H' b=some (.own a))(ht:∀ b xs,H b=some (.tup xs)->H' b=some (.tup xs))(kp:Kp H H')(hl:∀ p i c,js (H p)->Ed h p i c->Ed h' p i c):bI P w H' h' a o:=by
 induction o with
 | lst xs=>obtain⟨z,aF,n,r,e⟩:=x;exact⟨z,aF,n,r,k _ _ (.inl rfl) e⟩
 | tup xs=>obtain⟨z,aF,r,ob,e,c⟩:=x;exact⟨z,aF,r,ob,k _ _ (.inl rfl) e,c⟩
 | dK kvs=>obtain⟨z,y,vs,r,ob,es,ep,e,c⟩:=x;exact⟨z,y,vs,r,ob,es,ep,k _ _ (.inl rfl) e,c⟩
 | dT kvs=>
   obtain⟨z,y,xs,r,ob,es,ep,e,c⟩:=x;exact⟨z,y,xs,Paired.Az r fun p q z=>⟨z.1,ht _ _ z.2.1,z.2.2⟩,ob,es,ep,k _ _ (.inl rfl) e,c⟩
 | set S n=>obtain⟨ob,es,ep,t,e,c⟩:=x;exact⟨ob,es,ep,t,k _ _ (.inl rfl) e,c⟩
 | ins C dx fs=>
   obtain⟨d,z,ne,e,mA,⟨od,es,ep,e2,c⟩,r⟩:=x;exact⟨ho _ d,z,ne,k _ _ (.inl rfl) e,mA,⟨od,es,ep,k _ _ (.inr (.inl d)) e2,c⟩,r⟩
 | own y=>obtain⟨ob,e⟩:=x;exact⟨ob,k _ _ (.inl rfl) e⟩
 | xd fs=>obtain⟨mA,⟨od,es,ep,e,c⟩,r⟩:=x;exact⟨mA,⟨od,es,ep,k _ _ (.inl rfl) e,c⟩,r⟩
 | Cv lo hi=>obtain⟨t,u,v,e⟩:=x;exact⟨t,u,v,k _ _ (.inl rfl) e⟩
 | bH ob u ih=>obtain⟨e,q⟩:=x;exact⟨k _ _ (.inl rfl) e,ih q⟩
 | yD ps=>
   have e:h.get? a=some { cls:=.none,data:=.fields ps}:=x;show h'.get? a=some { cls:=.none,data:=.fields ps};exact k a _ (.inl rfl) e
 | met f y=>
   have e:h.get? a=some (W.methodObj (.ref f) (.ref y)):=x;show h'.get? a=some (W.methodObj (.ref f) (.ref y));exact k a _ (.inl rfl) e
 | ext φ=>obtain⟨p,⟨o,e⟩,st⟩:=x;exact⟨st _ _ p fun o q=>k _ _ (.inl rfl) q,⟨o,k _ _ (.inl rfl) e⟩,st⟩
 | memo ls=>
   obtain⟨⟨o,e⟩,n,hn,q⟩:=x;refine⟨⟨o,k _ _ (.inl rfl) e⟩,n,hn,q.kp kp fun b u hb=>k b u ?_⟩;rcases hb with z | z
   . exact .inl z
   . exact .inr (.inr z)
 | jP ls ns=>
   obtain⟨⟨o,e⟩,q⟩:=x;refine⟨⟨o,k _ _ (.inl rfl) e⟩,q.kp kp fun b u hb=>k b u ?_⟩;rcases hb with z | z
   . exact .inl z
   . exact .inr (.inr z)
 | part y=>obtain⟨o,e⟩:=x;exact⟨o,k _ _ (.inl rfl) e⟩
 | kd tg ob kvs=>
   obtain⟨e,⟨z,y,vs,r,Fs,es,ep,e',c⟩,q⟩:=x;refine⟨k _ _ (.inl rfl) e,⟨z,y,vs,r,Fs,es,ep,k _ _ (.inl rfl) e',c⟩,fun p i ht=>?_⟩;obtain⟨q1,q2⟩:=q p i ht;exact⟨kp.mem _ q1,hl p i _ q1 q2⟩
 | kx ob u ih=>obtain⟨e,q⟩:=x;exact⟨k _ _ (.inl rfl) e,ih q⟩
theorem bI.tq (x:bI P w H h a o)(k:∀ b u,(b=a\/H b=some (.own a)\/js (H b))->h.get? b=some u->h'.get? b=some u)(ho:∀ b,H b=some (.own a)->H' b=some (.own a))(ht:∀ b xs,H b=some (.tup xs)->H' b=some (.tup xs))(kp:Kp H H'):bI P w H' h' a o:=
 x.AA (fun b u hb=>k b u (by
   rcases hb with z | z | z
   . exact .inl z
   . exact .inr (.inl z)
   . exact .inr (.inr (by rw[z];trivial)))) ho ht kp fun p i c hm ⟨aF,n,e,q⟩=>⟨aF,n,k p _ (.inr (.inr hm)) e,q⟩
theorem jQ.lt (x:jQ P w H h)(e:H a=some o):a < h.objs.size:=(x a o e).lt
theorem jQ.fresh (x:jQ P w H h)(e:h.objs.size<=a):H a=none:=by
 cases q:H a with
 | none=>rfl
 | some u=>exact absurd (HA (x.lt q) e) (Iy _)
theorem jQ.kept (x:jQ P w H h)(k:∀ b u,h.get? b=some u->h'.get? b=some u):jQ P w H h':=fun a o e=>
 (x a o e).tq (fun b u _ q=>k b u q) (fun _ q=>q) (fun _ _ q=>q) .refl
theorem jQ.laid (x:jQ P w H h)(k:∀ b u,h.get? b=some u->h'.get? b=some u)(hp:h.objs.size<=a)(new:bI P w (upd H a o) h' a o):jQ P w (upd H a o) h':=fun b u e=>by
 have hn:=x.fresh hp;by_cases hb:b=a
 . subst hb;rw[au] at e;cases e;exact new
 . rw[ar hb] at e
   exact(x b u e).tq (fun c v _ q=>k c v q) (fun c q=>by rw[ar (aJ q hn)];exact q) (fun c xs q=>by rw[ar (aJ q hn)];exact q) (.of fun c u q=>by rw[ar (aJ q hn)];exact q)
end
def Rd (H:Hp)(a:Addr)(u:HO):Prop:=H a=some u\/(∃ o,H a=some (.bH o u))\/(∃ tg o kvs,H a=some (.kd tg o kvs)/\u=.dK kvs)\/∃ o,H a=some (.kx o u)
theorem Rd.of {H:Hp}{a:Addr}{u:HO}(h:H a=some u):Rd H a u:=.inl h
theorem Rd.ok {P:Program}{w:World}{H:Hp}{h:Heap}{a:Addr}{u:HO}(r:Rd H a u)(x:jQ P w H h):bI P w H h a u:=by
 rcases r with r | ⟨o,r⟩ | ⟨tg,o,kvs,r,rfl⟩ | ⟨o,r⟩
 . exact x a u r
 . obtain⟨_,q⟩:=x a _ r
   exact q
 . obtain⟨_,q,_⟩:=x a _ r
   exact q
 . obtain⟨_,q⟩:=x a _ r
   exact q
def AB:Option HO->Prop
 | some (.lst _)=>True
 | some (.dK _)=>True
 | some (.dT _)=>True
 | some (.set _ _)=>True
 | some (.ins _ _ _)=>True
 | some (.ext _)=>True
 | _=>False
section
variable {P:Program}{w:World}{H:Hp}{h h':Heap}{x e:Addr}{o':HO}
theorem jQ.write (ok:jQ P w H h)(mu:AB (H x))(he:e=x\/H e=some (.own x))(k:∀ b u,b≠e->h.get? b=some u->h'.get? b=some u)(An:∃ u,h'.get? e=some u)(new:bI P w (upd H x o') h' x o'):jQ P w (upd H x o') h':=fun b u q=>by
 have mT:∀ c y,H c=some (.own y)->c≠x:=fun c y r z=>by subst z;rw[r] at mu;exact mu
 have Cw:∀ c xs,H c=some (.tup xs)->c≠x:=fun c xs r z=>by subst z;rw[r] at mu;exact mu
 by_cases hb:b=x
 . subst hb;rw[au] at q;cases q;exact new
 . rw[ar hb] at q
   by_cases wq:b=e
   . have q':H b=some (.own x):=by
       rcases he with z | z
       . exact absurd (wq.trans z) hb
       . rw[wq];exact z
     rw[q] at q';cases q';obtain⟨v,hv⟩:=An;exact⟨v,by rw[wq];exact hv⟩
   . have Ee:∀ c u,H c=some u->¬ AB (some u)->c≠x:=fun c u r nm z=>by subst z;rw[r] at mu;exact nm mu
     have Ef:∀ c,js (H c)->c≠x:=fun c r z=>by
       subst z;cases qq:H c with
       | none=>rw[qq] at r;exact r
       | some u=>rw[qq] at r mu;cases u <;> first | exact mu | exact r
     refine(ok b u q).tq (fun c v hc r=>k c v ?_ r) (fun c r=>by rw[ar (mT c b r)];exact r) (fun c xs r=>by rw[ar (Cw c xs r)];exact r) ⟨fun c u r kq=>by rw[ar (Ee c _ r (by cases u <;> first | exact(show False from kq).elim | exact fun z=>z))];exact r,fun c r=>by rw[ar (Ef c r)];exact r,fun c y r=>by rw[ar (Ee c _ r fun z=>z)];exact r⟩;rcases hc with rfl | hc | hc
     . exact wq
     . rintro rfl
       rcases he with z | z
       . exact mT c b hc z
       . rw[hc] at z;cases z;exact hb rfl
     . rintro rfl
       rcases he with z | z
       . exact Ef c hc z
       . rw[z] at hc;exact hc
end
structure Un (fs ex:List Addr)(H H':Hp)(h h':Heap):Prop where
 keep:∀ b o,h.get? b=some o->H b=none->b ∉ fs->b ∉ ex->h'.get? b=some o
 slot:∀ b o,h.get? b=some o->H b=none->b∈fs->b ∉ ex->∃ sl,h'.get? b=some { o with slots:=sl}
 free:∀ b o,h.get? b=some o->H b=none->b ∉ ex->H' b=none
 there:∀ b o,h.get? b=some o->b ∉ ex->∃ o',h'.get? b=some o'
 ot:∀ b xs,H b=some (.tup xs)->H' b=some (.tup xs)
 mU:∀ b o u,H b=some (.bH o u)->H' b=some (.bH o u)
 ou:∀ b ps,H b=some (.yD ps)->∃ more,H' b=some (.yD (ps ++ more))
section
variable {fs ex:List Addr}{H H1:Hp}{h h1 h':Heap}{a x e:Addr}{o:HO}
theorem Un.any (u:Un fs ex H H1 h h1){b:Addr}{ob:Obj}(q:h.get? b=some ob)(n:H b=none)(hx:b ∉ ex):∃ sl,h1.get? b=some { ob with slots:=sl}:=by
 by_cases hb:b∈fs
 . exact u.slot b ob q n hb hx
 . exact⟨ob.slots,u.keep b ob q n hb hx⟩
theorem Un.kept (k:∀ b u,h.get? b=some u->h'.get? b=some u):Un fs ex H H h h':=
 ⟨fun b ob q _ _ _=>k b ob q,fun b ob q _ _ _=>⟨ob.slots,k b ob q⟩,fun _ _ _ n _=>n,fun b ob q _=>⟨ob,k b ob q⟩,fun _ _ q=>q,fun _ _ _ q=>q,fun _ ps q=>⟨#[],by rw[q];simp⟩⟩
theorem Un.refl:Un fs ex H H h h:=Un.kept fun _ _ q=>q
theorem Un.laid (k:∀ b u,h.get? b=some u->h'.get? b=some u)(hp:h.objs.size<=a)(hn:H a=none):Un fs ex H (upd H a o) h h' where
 keep:=fun b u q _ _ _=>k b u q
 slot:=fun b u q _ _ _=>⟨u.slots,k b u q⟩
 free:=fun b u q n _=>by rw[ar (HM (HA (Gv q) hp))];exact n
 there:=fun b u q _=>⟨u,k b u q⟩
 ot:=fun b xs q=>by rw[ar (aJ q hn)];exact q
 mU:=fun b u xs q=>by rw[ar (aJ q hn)];exact q
 ou:=fun b ps q=>⟨#[],by rw[ar (aJ q hn),q];simp⟩
theorem Un.write (mu:AB (H x))(he:e=x\/H e=some (.own x))(k:∀ b u,b≠e->h.get? b=some u->h'.get? b=some u)(An:∃ u,h'.get? e=some u):Un fs ex H (upd H x o) h h':=by
 have hx:∀ b,H b=none->b≠x:=fun b n z=>by subst z;rw[n] at mu;exact mu
 have hb:∀ b,H b=none->b≠e:=fun b n z=>by
   subst z;rcases he with r | r
   . exact hx b n r
   . rw[n] at r;cases r
 have hm:∀ b u,H b=some u->¬ AB (some u)->b≠x:=fun b u q nm z=>by subst z;rw[q] at mu;exact nm mu
 refine⟨fun b u q n _ _=>k b u (hb b n) q,fun b u q n _ _=>⟨u.slots,k b u (hb b n) q⟩,fun b u q n _=>by rw[ar (hx b n)];exact n,fun b u q _=>?_,
   fun b xs q=>by rw[ar (hm b _ q fun z=>z)];exact q,fun b u xs q=>by rw[ar (hm b _ q fun z=>z)];exact q,fun b ps q=>⟨#[],by rw[ar (hm b _ q fun z=>z),q];simp⟩⟩
 by_cases wq:b=e
 . subst wq;exact An
 . exact⟨u,k b u wq q⟩
end
noncomputable def bx (h:Heap)(H:Hp):List Addr:=(th h.objs.size).filter fun a=>(H a).isSome
noncomputable def mV (h:Heap)(H:Hp):Heap:=PySem.W.hideAll h (bx h H)
theorem rF (h:Heap)(H:Hp):(mV h H).objs.size=h.objs.size:=W.hideAll_size _ _
theorem tw {h:Heap}{H:Hp}{b:Addr}{o:Obj}(e:h.get? b=some o)(n:H b=none):(mV h H).get? b=some o:=
 W.hideAll_get _ e fun hm=>by
   have q:(H b).isSome=true:=(List.mem_filter.mp hm).2;rw[n] at q;simp at q
theorem wt {h:Heap}{H:Hp}{b:Addr}{o:Obj}(e:(mV h H).get? b=some o):h.get? b=some o/\H b=none:=by
 have e':h.get? b=some o:=W.of_hideAll (bx h H) e;refine⟨e',?_⟩;cases q:H b with
 | none=>rfl
 | some x=>
   have hm:b∈bx h H:=List.mem_filter.mpr ⟨List.mem_range.mpr (Gv e'),by simp[q]⟩;have z:(mV h H).get? b=none:=W.hideAll_none (bx h H) hm;rw[z] at e;cases e
noncomputable def wu (g h:Heap)(L:Addr):List (Addr×Obj):=(th h.objs.size).filterMap fun a=>if a=L\/(g.get? a).isSome=true then none else (h.get? a).map fun o=>(a,o)
noncomputable def rest (g h:Heap)(L d:Addr):List (Addr×Obj):=(wu g h L).filter fun p=>decide (p.1≠d)
structure Mod (K:W.Frag)(mg:Str->Option Value)(base:Heap):Prop where
 AD:K.In base
 glob:base.Ns mainGlobals mg
 blt:∃ mb,base.Ns builtinsNs mb/\∀ x:Str,x≠"__name__"->mb x=bootBuiltins x
 nolimit:base.NoLimit
structure Cx where
 prog:Program
 w:World
 K:W.Frag
 mg:Str->Option Value
 base:Heap
 A:Around
 N:List Str
 s₀:Shared
 H₀:Hp
 env:Env
 outer:List Env
 stack:List Env
 ex:List Addr
 fn:Str->Bool
 calm:Bool
 pn:List (Addr×Obj)
 xe:Value->Shared->Prop
noncomputable def tx (l:List Env):List Addr:=l.filterMap (·.frame)
noncomputable abbrev Cx.fs (X:Cx):List Addr:=tx X.outer
def sZ (sc:Scope)(x:Str):Prop:=sc.names.lookup x=some .local\/sc.names.lookup x=some .cell\/sc.names.lookup x=some .free
def Loc (sc:Scope)(x:Str):Prop:=sc.names.lookup x=some .local\/sc.names.lookup x=some .cell
def Look (env:Env)(h:Heap)(m:Str->Option Value)(x:Str)(u:Value):Prop:=
 (env.kindOf x=some .local/\m x=some u)\/((env.kindOf x=some .cell\/env.kindOf x=some .free)/\∃ c,env.cells.lookup x=some c/\h.IsCell c (some u))
structure Cx.Ok (X:Cx):Prop where
 mod:Mod X.K X.mg X.base
 kind:X.env.scope.kind=.function
 glob:X.env.globals=mainGlobals
 blt:X.env.builtins=builtinsNs
 above:X.s₀.heap.objs.size<=X.env.locals
 inj:∀ x y c,X.env.cells.lookup x=some c->X.env.cells.lookup y=some c->x=y
 has:∀ x,(X.env.kindOf x=some .cell\/X.env.kindOf x=some .free)->∃ c,X.env.cells.lookup x=some c
 Cd:∀ x c,X.fn x=true->X.env.cells.lookup x=some c->X.s₀.heap.objs.size<=c
 hd:X.calm=true->X.A.handled=none
 frames:X.A.frames=some X.stack
 Cz:X.stack=X.outer\/(X.stack=X.env::X.outer/\X.env.frame=some X.env.locals)
 CA:∀ b∈X.ex,b≠X.env.locals/\∀ x c,X.env.cells.lookup x=some c->c≠b
 bs:∀ b o,X.base.get? b=some o->X.s₀.heap.get? b=some o/\X.H₀ b=none
 x5:X.base.objs.size<=X.s₀.heap.objs.size
 wz:∀ b o,X.base.get? b=some o->b ∉ X.ex
 wA:∀ b∈X.ex,b ∉ X.fs
 kS:X.s₀.heap.FunFrames X.base X.outer
 Ao:∀ b∈X.fs,X.H₀ b=none
structure Inv (X:Cx)(pins:List (Addr×Obj))(σ:List (Option V))(H:Hp)(s:Shared):Prop where
 ok:X.Ok
 os:s.os=X.s₀.os
 bare:AllBare s.gens
 base:Un X.fs X.ex X.H₀ H X.s₀.heap s.heap
 loc:∃ m,s.heap.Ns X.env.locals m/\∀ (i:Nat) (x:Str) (v:V),X.N[i]?=some x->σ[i]?=some (some v)->sZ X.env.scope x->∃ u,RelV v u/\Look X.env s.heap m x u
 cell:∀ x c,X.env.cells.lookup x=some c->∃ v,s.heap.IsCell c v
 free:H X.env.locals=none
 jR:∀ x c,X.env.cells.lookup x=some c->H c=none
 pin:∀ p∈X.pn ++ pins,s.heap.get? p.1=some p.2/\H p.1=none/\p.1≠X.env.locals/\p.1 ∉ X.fs/\∀ v,p.2.data≠.cell v
 cL:jQ X.prog X.w H s.heap
 len:σ.length=X.N.length
section
variable {X:Cx}{pins:List (Addr×Obj)}{σ:List (Option V)}{H H':Hp}{s:Shared}{h':Heap}
theorem Cx.Ok.AE (ok:X.Ok){b:Addr}{o:Obj}(e:X.base.get? b=some o):b ∉ X.fs:=fun hb=>by
 have:=(ok.kS.mem hb).1;rw[e] at this;cases this
theorem Inv.bs (I:Inv X pins σ H s):∀ b o,X.base.get? b=some o->s.heap.get? b=some o/\H b=none:=fun b o e=>
 ⟨I.base.keep b o (I.ok.bs b o e).1 (I.ok.bs b o e).2 (I.ok.AE e) (I.ok.wz b o e),I.base.free b o (I.ok.bs b o e).1 (I.ok.bs b o e).2 (I.ok.wz b o e)⟩
theorem Inv.bk (I:Inv X pins σ H s):∀ b o,X.base.get? b=some o->s.heap.get? b=some o:=fun b o e=>(I.bs b o e).1
theorem Inv.mod (I:Inv X pins σ H s):Mod X.K X.mg X.base:=I.ok.mod
theorem Inv.fO (I:Inv X pins σ H s):X.K.In s.heap:=I.ok.mod.AD.keeps I.bk
theorem Inv.lt (I:Inv X pins σ H s):X.env.locals < s.heap.objs.size:=let ⟨_,hn,_⟩:=I.loc;hn.lt
theorem Inv.sz (I:Inv X pins σ H s):X.s₀.heap.objs.size<=s.heap.objs.size:=Ik I.ok.above (Il I.lt)
theorem Inv.CB (I:Inv X pins σ H s){a:Addr}(h:s.heap.objs.size<=a):a ∉ X.fs:=fun hb=>by
 obtain⟨_,o,ho,_⟩:=I.ok.kS.mem hb;exact absurd (HA (Gv ho) (Ik I.sz h)) (Iy _)
theorem Inv.v5 (I:Inv X pins σ H s):∀ x c,X.env.cells.lookup x=some c->c≠X.env.locals:=fun x c e z=>by
 obtain⟨v,o,ho,hd⟩:=I.cell x c e;obtain⟨m,⟨o',es,ep,yF,CC,_⟩,_⟩:=I.loc;rw[z,yF] at ho;cases ho;rw[CC] at hd;cases hd
theorem Inv.kS (I:Inv X pins σ H s):s.heap.FunFrames X.base X.outer:=by
 have all:∀ (l:List Env),(∀ b∈tx l,b∈X.fs)->X.s₀.heap.FunFrames X.base l->s.heap.FunFrames X.base l:=by
   intro l
   induction l with
   | nil=>intro _ _;trivial
   | cons env r ih=>
     intro hs hl;obtain⟨hk,⟨L,o,hf,hn,ho,hd⟩,hr⟩:=hl;have hL:L∈X.fs:=hs L (by unfold tx;rw[IP,hf];exact HU);obtain⟨sl,e⟩:=I.base.slot L o ho (I.ok.Ao L hL) hL fun z=>I.ok.wA L z hL
     exact⟨hk,⟨L,_,hf,hn,e,hd⟩,ih (fun b hb=>hs b (by unfold tx;rw[IP,hf];exact HB _ hb)) hr⟩
 exact all X.outer (fun _ hb=>hb) I.ok.kS
theorem Inv.stack (I:Inv X pins σ H s):s.heap.FunFrames X.base X.stack:=by
 rcases I.ok.Cz with e | ⟨e,hf⟩
 . rw[e];exact I.kS
 . rw[e]
   obtain⟨m,hn,_⟩:=I.loc;refine .cons (by rw[I.ok.kind];decide) hf hn ?_ I.kS;exact Heap.get?_none_of_le (Ik I.ok.x5 I.ok.above)
theorem Inv.pE (I:Inv X pins σ H s):∀ b∈tx X.stack,b∈X.env.locals::X.fs:=fun b hb=>by
 rcases I.ok.Cz with e | ⟨e,hf⟩
 . rw[e] at hb;exact HB _ hb
 . rw[e] at hb
   unfold tx at hb;rw[IP,hf] at hb;exact hb
theorem Inv.qr (I:Inv X pins σ H s):∀ b∈tx X.stack,H b=none:=fun b hb=>by
 rcases Im.mp (I.pE b hb) with e | hb
 . rw[e];exact I.free
 . obtain⟨_,o,ho,_⟩:=I.ok.kS.mem hb
   exact I.base.free b o ho (I.ok.Ao b hb) fun z=>I.ok.wA b z hb
theorem Inv.step {g':Array GenState}{t':Nat}{d':Drawn}{ch:List Addr}(I:Inv X pins σ H s)(v7:∀ b∈ch,(b∈X.ex\/X.s₀.heap.objs.size<=b)/\b≠X.env.locals/\(∀ x c,X.env.cells.lookup x=some c->c≠b)/\∀ p∈X.pn ++ pins,p.1≠b)(keep:∀ b o,b≠X.env.locals->b ∉ X.fs->b ∉ ch->s.heap.get? b=some o->H b=none->h'.get? b=some o)(slot:∀ b o,b≠X.env.locals->b∈X.fs->b ∉ ch->s.heap.get? b=some o->H b=none->∃ sl,h'.get? b=some { o with slots:=sl})(free:∀ b o,b ∉ ch->s.heap.get? b=some o->H b=none->H' b=none)(there:∀ b o,b ∉ ch->s.heap.get? b=some o->∃ o',h'.get? b=some o')(ot:∀ b xs,H b=some (.tup xs)->H' b=some (.tup xs))(mU:∀ b o u,H b=some (.bH o u)->H' b=some (.bH o u))(ou:∀ b ps,H b=some (.yD ps)->∃ more,H' b=some (.yD (ps ++ more)))(ns:∀ m,s.heap.Ns X.env.locals m->h'.Ns X.env.locals m)(cL:jQ X.prog X.w H' h')(hg:AllBare g'):Inv X pins σ H' { s with heap:=h',gens:=g',drawn:=d',toks:=t'}:=by
 have Eg:∀ b o,X.s₀.heap.get? b=some o->b≠X.env.locals:=fun b o e=>HM (HA (Gv e) I.ok.above)
 have Ce:∀ b o,X.s₀.heap.get? b=some o->b ∉ X.ex->b ∉ ch:=fun b o e hx hb=>by
   rcases (v7 b hb).1 with z | z
   . exact hx z
   . exact absurd (HA (Gv e) z) (Iy _)
 have cellK:∀ x c,X.env.cells.lookup x=some c->∀ v,s.heap.IsCell c v->h'.IsCell c v:=fun x c e v ⟨o,ho,hd⟩=>by
   have AF:c ∉ ch:=fun z=>(v7 c z).2.2.1 x c e rfl
   by_cases hc:c∈X.fs
   . obtain⟨sl,q⟩:=slot c o (I.v5 x c e) hc AF ho (I.jR x c e)
     exact⟨_,q,hd⟩
   . exact⟨o,keep c o (I.v5 x c e) hc AF ho (I.jR x c e),hd⟩
 refine⟨I.ok,I.os,hg,⟨fun b o e n hb hx=>?_,fun b o e n hb hx=>?_,fun b o e n hx=>?_,fun b o e hx=>?_,fun b xs e=>ot b xs (I.base.ot b xs e),fun b o xs e=>mU b o xs (I.base.mU b o xs e),fun b ps e=>?_⟩,?_,fun x c e=>?_,?_,fun x c e=>?_,fun p hp=>?_,cL,I.len⟩
 . exact keep b o (Eg b o e) hb (Ce b o e hx) (I.base.keep b o e n hb hx) (I.base.free b o e n hx)
 . obtain⟨sl,e1⟩:=I.base.slot b o e n hb hx
   obtain⟨Ft,e2⟩:=slot b _ (Eg b o e) hb (Ce b o e hx) e1 (I.base.free b o e n hx);exact⟨Ft,e2⟩
 . obtain⟨o',e1⟩:=I.base.there b o e hx
   exact free b o' (Ce b o e hx) e1 (I.base.free b o e n hx)
 . obtain⟨o',e1⟩:=I.base.there b o e hx
   exact there b o' (Ce b o e hx) e1
 . obtain⟨m1,e1⟩:=I.base.ou b ps e
   obtain⟨m2,e2⟩:=ou b _ e1;exact⟨m1 ++ m2,by rw[e2,Array.append_assoc]⟩
 . obtain⟨m,hn,hl⟩:=I.loc
   refine⟨m,ns m hn,fun i x v e1 e2 e3=>?_⟩;obtain⟨u,r,l⟩:=hl i x v e1 e2 e3;refine⟨u,r,?_⟩;rcases l with l | ⟨k,c,e,z⟩
   . exact .inl l
   . exact .inr ⟨k,c,e,cellK x c e _ z⟩
 . obtain⟨v,z⟩:=I.cell x c e
   exact⟨v,cellK x c e v z⟩
 . obtain⟨m,⟨o,_,_,ho,_⟩,_⟩:=I.loc
   exact free _ o (fun z=>(v7 _ z).2.1 rfl) ho I.free
 . obtain⟨v,o,ho,hd⟩:=I.cell x c e
   exact free c o (fun z=>(v7 c z).2.2.1 x c e rfl) ho (I.jR x c e)
 . obtain⟨e,n,ne,nf,d⟩:=I.pin p hp
   have AF:p.1 ∉ ch:=fun z=>(v7 p.1 z).2.2.2 p hp rfl
   exact⟨keep p.1 p.2 ne nf AF e n,free p.1 p.2 AF e n,ne,nf,d⟩
theorem Inv.un {t':Nat}(I:Inv X pins σ H s)(u:Un X.fs [] H H' s.heap h')(cL:jQ X.prog X.w H' h'):Inv X pins σ H' { s with heap:=h',toks:=t'}:=by
 obtain⟨m,⟨o,es,ep,ho,r⟩,_⟩:=id I.loc;obtain⟨sl,hL⟩:=u.any ho I.free (by simp);exact I.step (g':=s.gens) (d':=s.drawn) (ch:=[]) (fun _ z=>nomatch z) (fun b o _ hb _ e n=>u.keep b o e n hb (by simp)) (fun b o _ hb _ e n=>u.slot b o e n hb (by simp)) (fun b o _ e n=>u.free b o e n (by simp)) (fun b o _ e=>u.there b o e (by simp)) u.ot u.mU u.ou (fun m' hm=>by
   obtain⟨o',CD,CF,yF,r'⟩:=hm;rw[ho] at yF;cases yF;exact⟨_,CD,CF,hL,r'⟩) cL I.bare
theorem Inv.call {g':Array GenState}{t':Nat}{d':Drawn}{ch:List Addr}(I:Inv X pins σ H s)(u:Un (tx X.stack) ch H H' s.heap h')(cL:jQ X.prog X.w H' h')(hg:AllBare g')(v7:∀ b∈ch,(b∈X.ex\/X.s₀.heap.objs.size<=b)/\b≠X.env.locals/\(∀ x c,X.env.cells.lookup x=some c->c≠b)/\∀ p∈X.pn ++ pins,p.1≠b):Inv X pins σ H' { s with heap:=h',gens:=g',drawn:=d',toks:=t'}:=by
 obtain⟨m,⟨o,es,ep,ho,r⟩,_⟩:=id I.loc;obtain⟨sl,hL⟩:=u.any ho I.free fun z=>(v7 _ z).2.1 rfl
 exact I.step (ch:=ch) v7 (fun b o hL hb hc e n=>u.keep b o e n (fun z=>(Im.mp (I.pE b z)).elim hL hb) hc) (fun b o _ _ hc e n=>u.any e n hc) (fun b o hc e n=>u.free b o e n hc) (fun b o hc e=>u.there b o e hc) u.ot u.mU u.ou (fun m' hm=>by
   obtain⟨o',CD,CF,yF,r'⟩:=hm;rw[ho] at yF;cases yF;exact⟨_,CD,CF,hL,r'⟩) cL hg
theorem Inv.turned {t':Nat}{it:Addr}(I:Inv X pins σ H s)(k:∀ b o,b≠it->s.heap.get? b=some o->h'.get? b=some o)(hn:H it=none)(hL:it≠X.env.locals)(h1:it∈X.ex\/X.s₀.heap.objs.size<=it)(h2:∀ x c,X.env.cells.lookup x=some c->c≠it)(h3:∀ p∈X.pn ++ pins,p.1≠it):Inv X pins σ H { s with heap:=h',toks:=t'}:=by
 have Eh:∀ b u,H b=some u->b≠it:=fun b u e z=>by rw[z,hn] at e;cases e
 refine I.step (g':=s.gens) (d':=s.drawn) (ch:=[it]) (fun b hb=>?_) (fun b o _ _ hc e _=>k b o (fun z=>hc (by simp[z])) e) (fun b o _ _ hc e _=>⟨o.slots,k b o (fun z=>hc (by simp[z])) e⟩) (fun _ _ _ _ n=>n)
   (fun b o hc e=>⟨o,k b o (fun z=>hc (by simp[z])) e⟩) (fun _ _ e=>e) (fun _ _ _ e=>e) (fun b ps e=>⟨#[],by rw[e];simp⟩) (fun m hm=>?_) (fun b u e=>?_) I.bare
 . have e:b=it:=by simpa using hb
   subst e;exact⟨h1,hL,h2,h3⟩
 . obtain⟨o,es,ep,ho,r⟩:=hm
   exact⟨o,es,ep,k _ o (Ne.symm hL) ho,r⟩
 . refine(I.cL b u e).tq (fun c v hc q=>k c v ?_ q) (fun _ q=>q) (fun _ _ q=>q) .refl
   rcases hc with z | z | z
   . rw[z];exact Eh b u e
   . exact Eh c _ z
   . exact fun z'=>by rw[z',hn] at z;exact z
theorem Inv.tok (I:Inv X pins σ H s)(t:Nat):Inv X pins σ H { s with toks:=t}:=I.un (h':=s.heap) (t':=t) Un.refl I.cL
theorem Inv.kept {t':Nat}(I:Inv X pins σ H s)(k:∀ b u,s.heap.get? b=some u->h'.get? b=some u):Inv X pins σ H { s with heap:=h',toks:=t'}:=I.un (Un.kept k) (I.cL.kept k)
theorem Inv.laid {a:Addr}{o:HO}{t':Nat}(I:Inv X pins σ H s)(k:∀ b u,s.heap.get? b=some u->h'.get? b=some u)(hp:s.heap.objs.size<=a)(new:bI X.prog X.w (upd H a o) h' a o):Inv X pins σ (upd H a o) { s with heap:=h',toks:=t'}:=I.un (Un.laid k hp (I.cL.fresh hp)) (I.cL.laid k hp new)
theorem Inv.write {x e:Addr}{o:HO}{t':Nat}(I:Inv X pins σ H s)(mu:AB (H x))(he:e=x\/H e=some (.own x))(k:∀ b u,b≠e->s.heap.get? b=some u->h'.get? b=some u)(An:∃ u,h'.get? e=some u)(new:bI X.prog X.w (upd H x o) h' x o):Inv X pins σ (upd H x o) { s with heap:=h',toks:=t'}:=I.un (Un.write mu he k An) (I.cL.write mu he k An new)
theorem Inv.qs {x6:List (Addr×Obj)}(I:Inv X pins σ H s)(h:∀ p∈x6,s.heap.get? p.1=some p.2/\H p.1=none/\p.1≠X.env.locals/\p.1 ∉ X.fs/\∀ v,p.2.data≠.cell v):Inv X x6 σ H s:=
 ⟨I.ok,I.os,I.bare,I.base,I.loc,I.cell,I.free,I.jR,fun p hp=>(List.mem_append.mp hp).elim (fun z=>I.pin p (List.mem_append_left _ z)) (h p),I.cL,I.len⟩
theorem ow {N:List Str}(hN:N.Nodup){i j:Nat}{x:Str}(a:N[i]?=some x)(b:N[j]?=some x):i=j:=by
 obtain⟨h1,e1⟩:=Hx.mp a;obtain⟨h2,e2⟩:=Hx.mp b;exact(List.getElem_inj hN).mp (e1.trans e2.symm)
theorem mC {M:Model}{A:Around}{E:Value->Shared->Prop}{i:Nat}{x:Str}{v:V}{u:Value}{Q:Unit->Shared->Prop}(I:Inv X pins σ H s)(hN:X.N.Nodup)(hi:X.N[i]?=some x)(hx:Loc X.env.scope x)(r:RelV v u)(h:∀ s',Inv X pins (σ.set i (some v)) H s'->(∃ a,Heap.SameBut a s.heap s'.heap/\(a=X.env.locals\/X.env.cells.lookup x=some a))->Q () s')(hf:autoParam (X.fn x=true\/X.env.scope.names.lookup x=some .local) xI):wpAny M A (storeName X.env x u) Q E s:=by
 obtain⟨m,hn,hl⟩:=id I.loc;have CG:(X.env.scope.kind == .class || (X.env.scope.kind == .module && X.env.locals != X.env.globals))=false:=by rw[I.ok.kind];rfl
 have Ei:i < σ.length:=by rw[I.len];exact(Hx.mp hi).1
 have v5:=I.v5;have tracked:∀ {a:Addr} {h':Heap},(∃ o,s.heap.get? a=some o/\H a=none)->Heap.SameBut a s.heap h'->jQ X.prog X.w H h':=fun {a h'} ha hs b ob e=>by
   obtain⟨_,_,tE⟩:=ha;refine(I.cL b ob e).tq (fun c w' hc q=>(hs.2 c ?_).trans q) (fun _ q=>q) (fun _ _ q=>q) .refl
   rintro rfl
   rcases hc with rfl | hc | hc
   . rw[tE] at e;cases e
   . rw[tE] at hc;cases hc
   . rw[tE] at hc;exact hc
 rcases hx with hk | hk
 . refine wpAny_storeName_local hk hn (fun h' Cf hs=>?_) CG
   obtain⟨oL,_,_,Fu,_⟩:=id hn;refine h _ ⟨I.ok,I.os,I.bare,⟨fun b o e n hb hx=>?_,fun b o e n hb hx=>?_,I.base.free,fun b o e hx=>?_,I.base.ot,I.base.mU,I.base.ou⟩,⟨_,Cf,fun j y v' e1 e2 e3=>?_⟩,fun y c e=>?_,I.free,I.jR,fun p hp=>?_,tracked ⟨oL,Fu,I.free⟩ hs,by simpa using I.len⟩ ⟨_,hs,.inl rfl⟩
   . exact(hs.2 b (HM (HA (Gv e) I.ok.above))).trans (I.base.keep b o e n hb hx)
   . obtain⟨sl,e1⟩:=I.base.slot b o e n hb hx
     exact⟨sl,(hs.2 b (HM (HA (Gv e) I.ok.above))).trans e1⟩
   . obtain⟨o',e1⟩:=I.base.there b o e hx
     exact⟨o',(hs.2 b (HM (HA (Gv e) I.ok.above))).trans e1⟩
   . by_cases hj:j=i
     . subst hj
       rw[hi] at e1;cases e1;rw[k0 Ei] at e2;cases e2;exact⟨u,r,.inl ⟨hk,by simp⟩⟩
     . rw[k2 (Ne.symm hj)] at e2
       obtain⟨u',r',q⟩:=hl j y v' e1 e2 e3;refine⟨u',r',?_⟩;rcases q with⟨k,e⟩ | ⟨k,c,e,z⟩
       . refine .inl ⟨k,?_⟩
         have:y≠x:=fun e=>hj (ow hN e1 (e ▸ hi))
         simp[this,e]
       . exact .inr ⟨k,c,e,z.sameBut hs (v5 y c e)⟩
   . obtain⟨w',z⟩:=I.cell y c e
     exact⟨w',z.sameBut hs (v5 y c e)⟩
   . obtain⟨e,n,ne,nf,d⟩:=I.pin p hp
     exact⟨(hs.2 p.1 ne).trans e,n,ne,nf,d⟩
 . have CH:X.fn x=true:=by
     rcases hf with z | z
     . exact z
     . rw[z] at hk;cases hk
   obtain⟨c,hc⟩:=I.ok.has x (.inl hk);obtain⟨w',z⟩:=I.cell x c hc;refine wpAny_storeName_cell I.ok.kind hk hc z (fun h' AG hs=>?_);obtain⟨oc,Ap,CI⟩:=id z;refine h { s with heap:=h'} ⟨I.ok,I.os,I.bare,⟨fun b o e n hb hx=>?_,fun b o e n hb hx=>?_,I.base.free,fun b o e hx=>?_,I.base.ot,I.base.mU,I.base.ou⟩,⟨m,hn.sameBut hs (Ne.symm (v5 x c hc)),fun j y v' e1 e2 e3=>?_⟩,fun y c' e=>?_,I.free,I.jR,fun p hp=>?_,tracked ⟨oc,Ap,I.jR x c hc⟩ hs,by simpa using I.len⟩ ⟨c,hs,.inr hc⟩
   . exact(hs.2 b (HM (HA (Gv e) (I.ok.Cd x c CH hc)))).trans (I.base.keep b o e n hb hx)
   . obtain⟨sl,e1⟩:=I.base.slot b o e n hb hx
     exact⟨sl,(hs.2 b (HM (HA (Gv e) (I.ok.Cd x c CH hc)))).trans e1⟩
   . obtain⟨o',e1⟩:=I.base.there b o e hx
     exact⟨o',(hs.2 b (HM (HA (Gv e) (I.ok.Cd x c CH hc)))).trans e1⟩
   . by_cases hj:j=i
     . subst hj
       rw[hi] at e1;cases e1;rw[k0 Ei] at e2;cases e2;exact⟨u,r,.inr ⟨.inl hk,c,hc,AG⟩⟩
     . rw[k2 (Ne.symm hj)] at e2
       obtain⟨u',r',q⟩:=hl j y v' e1 e2 e3;refine⟨u',r',?_⟩;rcases q with q | ⟨k,c',e,z'⟩
       . exact .inl q
       . refine .inr ⟨k,c',e,z'.sameBut hs ?_⟩
         rintro rfl
         exact hj (ow hN e1 (I.ok.inj _ _ _ e hc ▸ hi))
   . by_cases Ej:c'=c
     . subst Ej;exact⟨_,AG⟩
     . obtain⟨w2,z2⟩:=I.cell y c' e
       exact⟨w2,z2.sameBut hs Ej⟩
   . obtain⟨e,n,ne,nf,d⟩:=I.pin p hp
     refine⟨(hs.2 p.1 ?_).trans e,n,ne,nf,d⟩;intro q;rw[q,Ap] at e;have q':oc=p.2:=Option.some.inj e;exact d w' (by rw[<- q'];exact CI)
theorem oy {M:Model}{A:Around}{E:Value->Shared->Prop}{i:Nat}{x:Str}{v:V}{u:Value}{Q:Unit->Shared->Prop}(I:Inv X pins σ H s)(hN:X.N.Nodup)(hi:X.N[i]?=some x)(hx:Loc X.env.scope x)(r:RelV v u)(h:∀ s',Inv X pins (σ.set i (some v)) H s'->Q () s')(hf:autoParam (X.fn x=true\/X.env.scope.names.lookup x=some .local) xI):wpAny M A (storeName X.env x u) Q E s:=
 mC I hN hi hx r (fun s' I' _=>h s' I') hf
theorem Inv.AH {s':Shared}{ch:List Addr}(I:Inv X pins σ H s)(ho:s'.os=s.os)(u:Un (tx X.stack) ch H H' s.heap s'.heap)(cL:jQ X.prog X.w H' s'.heap)(hg:AllBare s'.gens)(v7:∀ b∈ch,(b∈X.ex\/X.s₀.heap.objs.size<=b)/\b≠X.env.locals/\(∀ x c,X.env.cells.lookup x=some c->c≠b)/\∀ p∈X.pn ++ pins,p.1≠b):Inv X pins σ H' s':=by
 obtain⟨h',g',d',t',o'⟩:=s';have e:o'=s.os:=ho;subst e;exact I.call (g':=g') (t':=t') (d':=d') u cL hg v7
end
abbrev XK:=Value->Option Addr->Hp->Prop
noncomputable abbrev St:=List (Option V)
abbrev VK:=V->Hp->Prop
abbrev TE:=St->Hp->VK->Prop
abbrev TT:=St->Hp->(Bool->Hp->Prop)->Prop
abbrev TA:=St->Hp->(List V->Hp->Prop)->Prop
structure Ends where
 nx:St->Hp->Prop
 rt:VK
 bk:St->Hp->Prop:=fun _ _=>False
 ct:St->Hp->Prop:=fun _ _=>False
abbrev TS:=Ends->St->Hp->Prop
def EP (X:Cx)(pins:List (Addr×Obj))(σ:St)(Q:VK)(u:Value)(s':Shared):Prop:=∃ v H',Inv X pins σ H' s'/\RelV v u/\Q v H'
def TP (X:Cx)(pins:List (Addr×Obj))(σ:St)(Q:Bool->Hp->Prop)(b:Bool)(s':Shared):Prop:=∃ H',Inv X pins σ H' s'/\Q b H'
def AP (X:Cx)(pins:List (Addr×Obj))(σ:St)(Q:List V->Hp->Prop)(us:List Value)(s':Shared):Prop:=∃ vs H',Inv X pins σ H' s'/\Vals vs us/\Q vs H'
def SP (X:Cx)(pins:List (Addr×Obj))(D:Ends)(f:Flow)(s':Shared):Prop:=
 match f with
 | .next=>∃ σ' H',Inv X pins σ' H' s'/\D.nx σ' H'
 | .brk=>∃ σ' H',Inv X pins σ' H' s'/\D.bk σ' H'
 | .cont=>∃ σ' H',Inv X pins σ' H' s'/\D.ct σ' H'
 | .ret u=>∃ v σ' H',Inv X pins σ' H' s'/\RelV v u/\D.rt v H'
def PE (X:Cx)(e:Expr)(t:TE):Prop:=
 ∀ (pins:List (Addr×Obj)) (s:Shared) (σ:St) (H:Hp) (Q:VK),Inv X pins σ H s->t σ H Q->wpAny (model X.prog X.w) X.A (eval e X.env) (EP X pins σ Q) X.xe s
def PT (X:Cx)(e:Expr)(t:TT):Prop:=
 ∀ (pins:List (Addr×Obj)) (s:Shared) (σ:St) (H:Hp) (Q:Bool->Hp->Prop),Inv X pins σ H s->t σ H Q->wpAny (model X.prog X.w) X.A (isTrue e X.env (eval e X.env)) (TP X pins σ Q) X.xe s
def PW (X:Cx)(e:Expr)(t:TT):Prop:=
 ∀ (whole:Sem Value) (pins:List (Addr×Obj)) (s:Shared) (σ:St) (H:Hp) (Q:Bool->Hp->Prop),Inv X pins σ H s->t σ H Q->wpAny (model X.prog X.w) X.A (isTrue e X.env whole) (TP X pins σ Q) X.xe s
theorem PW.pt {X:Cx}{e:Expr}{t:TT}(h:PW X e t):PT X e t:=h _
def PA (X:Cx)(es:List Expr)(t:TA):Prop:=
 ∀ (pos:Pos) (pins:List (Addr×Obj)) (s:Shared) (σ:St) (H:Hp) (Q:List V->Hp->Prop),Inv X pins σ H s->t σ H Q->wpAny (model X.prog X.w) X.A (spliced (backTo pos (starEach es X.env))) (AP X pins σ Q) X.xe s
def PS (X:Cx)(st:Stmt)(t:TS):Prop:=
 ∀ (pins:List (Addr×Obj)) (s:Shared) (σ:St) (H:Hp) (D:Ends),Inv X pins σ H s->t D σ H->wpAny (model X.prog X.w) X.A (exec st X.env) (SP X pins D) X.xe s
def j9 (X:Cx)(st:List Stmt)(t:TS):Prop:=
 ∀ (pins:List (Addr×Obj)) (s:Shared) (σ:St) (H:Hp) (D:Ends),Inv X pins σ H s->t D σ H->wpAny (model X.prog X.w) X.A (execs st X.env) (SP X pins D) X.xe s
theorem da {α:Type}{t:Sem α}{Q Q':α->Shared->Prop}{M:Model}{A:Around}{E:Value->Shared->Prop}{s:Shared}(h:wpAny M A t Q E s)(hQ:∀ a s,Q a s->Q' a s):wpAny M A t Q' E s:=wpAny_mono h hQ fun _ _ x=>x
section
variable {X:Cx}
def CJ (i:Nat):TE:=fun σ H Q=>∃ v,σ[i]?=some (some v)/\Q v H
def tC (v:V):TE:=fun _ H Q=>Q v H
theorem kT {i:Nat}{x:Str}{pos:Pos}(hN:X.N[i]?=some x)(hv:sZ X.env.scope x)(hd:autoParam ((x == ("__debug__":Str))=false) z8)(gX:autoParam ((x == ("__classdict__":Str))=false) z8):PE X (.Name x pos) (CJ i):=by
 intro pins s σ H Q I h;obtain⟨v,e,h⟩:=h;obtain⟨m,hn,hl⟩:=I.loc;obtain⟨u,r,l⟩:=hl i x v hN e hv;have fin:EP X pins σ Q u s:=⟨v,H,I,r,h⟩
 rcases l with⟨hk,hm⟩ | ⟨hk,c,hc,x8⟩
 . exact wpAny_Name (wpAny_loadName_local I.ok.kind hk hn hm fin) hd
 . rcases hk with hk | hk
   . exact wpAny_Name (wpAny_loadName_cell I.ok.kind hk hc x8 fin) hd
   . exact wpAny_Name (wpAny_loadName_free I.ok.kind hk hc x8 fin gX) hd
theorem pF {i j pos}:PE X (.Constant (.int i) j pos) (tC (.int i)):=fun _ _ _ H _ I h=>wpAny_Constant_int ⟨.int i,H,I.tok _,⟨_,rfl⟩,h⟩
theorem AI {b j pos}:PE X (.Constant (.bool b) j pos) (tC (.bl b)):=fun _ _ _ H _ I h=>Constant_bool ⟨.bl b,H,I,rfl,h⟩
theorem yG {x j pos}:PE X (.Constant (.str x) j pos) (tC (.str x)):=fun _ _ _ H _ I h=>Calls.Constant_str ⟨.str x,H,I.tok _,⟨_,rfl⟩,h⟩
def Gl (X:Cx)(x:Str):Prop:=X.env.kindOf x=some .globalImplicit
theorem ka {E:Value->Shared->Prop}{pins:List (Addr×Obj)}{s:Shared}{σ:St}{H:Hp}{x:Str}{u:Value}{pos:Pos}{Q:Value->Shared->Prop}(I:Inv X pins σ H s)(hg:Gl X x)(hm:X.mg x=some u)(h:Q u s)(hd:autoParam ((x == ("__debug__":Str))=false) z8):wpAny (model X.prog X.w) X.A (eval (.Name x pos) X.env) Q E s:=
 Calls.Name_function_global I.ok.kind hg (Calls.loadGlobal_global (by rw[I.ok.glob];exact I.mod.glob.keeps I.bk) hm h) hd
theorem kU {E:Value->Shared->Prop}{pins:List (Addr×Obj)}{s:Shared}{σ:St}{H:Hp}{x:Str}{u:Value}{pos:Pos}{Q:Value->Shared->Prop}(I:Inv X pins σ H s)(hg:Gl X x)(hm:X.mg x=none)(hv:bootBuiltins x=some u)(h:Q u s)(hn:autoParam (x≠"__name__") z8)(hd:autoParam ((x == ("__debug__":Str))=false) z8):wpAny (model X.prog X.w) X.A (eval (.Name x pos) X.env) Q E s:=by
 obtain⟨mb,h1,h2⟩:=I.mod.blt;exact Calls.Name_function_global I.ok.kind hg (Calls.loadGlobal_builtin (by rw[I.ok.glob];exact I.mod.glob.keeps I.bk) hm (by rw[I.ok.blt];exact h1.keeps I.bk) ((h2 x hn).trans hv) h) hd
theorem wB {x:Str}{v:V}{u:Value}{pos:Pos}(hg:Gl X x)(hm:X.mg x=some u)(r:RelV v u)(hd:autoParam ((x == ("__debug__":Str))=false) z8):PE X (.Name x pos) (tC v):=
 fun _ _ _ H _ I h=>ka I hg hm ⟨v,H,I,r,h⟩ hd
theorem wC {x:Str}{v:V}{u:Value}{pos:Pos}(hg:Gl X x)(hm:X.mg x=none)(hv:bootBuiltins x=some u)(r:RelV v u)(hn:autoParam (x≠"__name__") z8)(hd:autoParam ((x == ("__debug__":Str))=false) z8):PE X (.Name x pos) (tC v):=
 fun _ _ _ H _ I h=>kU I hg hm hv ⟨v,H,I,r,h⟩ hn hd
variable {a b:Expr}{ta tb:TE}{pos:Pos}
def tB (t:TE):TT:=fun σ H Q=>t σ H fun x H1=>∃ c,x=.bl c/\Q c H1
theorem yH {e:Expr}{t:TE}(h:PE X e t)(he:autoParam (∀ whole,isTrue e X.env whole=(do let v <- whole;standAt e.pos;holding [v] (truthy v))) xz):PT X e (tB t):=by
 intro pins s σ H Q I hw;refine isTrue_plain (da (h pins s σ H _ I hw) fun v s1 ⟨x,H1,I1,r1,q1⟩=>?_) (he _);obtain⟨d,rfl,q⟩:=q1;cases r1;exact wpAny_truthy_bool ⟨H1,I1,q⟩
variable {tA Cg:TT}{rest:List Expr}
def CK (t u:TT):TT:=fun σ H Q=>t σ H fun c H1=>if c=true then u σ H1 Q else Q false H1
def Fv (t u:TT):TT:=fun σ H Q=>t σ H fun c H1=>if c=true then Q true H1 else u σ H1 Q
def CL (t:TT):TT:=fun σ H Q=>t σ H fun c H1=>Q (!c) H1
theorem pw_and1 (ha:PT X a tA):PW X (.BoolOp .And [a] pos) tA:=by
 intro wh pins s σ H Q I h;refine isTrue_and (da (ha pins s σ H Q I h) fun c s1 e=>?_);cases c with
 | true=>exact isTrue_and_nil e
 | false=>exact e
theorem pw_or1 (ha:PT X a tA):PW X (.BoolOp .Or [a] pos) tA:=by
 intro wh pins s σ H Q I h;refine isTrue_or (da (ha pins s σ H Q I h) fun c s1 e=>?_);cases c with
 | false=>exact isTrue_or_nil e
 | true=>exact e
theorem pw_and (ha:PT X a tA)(hb:PW X (.BoolOp .And (b::rest) pos) Cg):PW X (.BoolOp .And (a::b::rest) pos) (CK tA Cg):=by
 intro wh pins s σ H Q I h;refine isTrue_and (da (ha pins s σ H _ I h) fun c s1 ⟨H1,I1,q1⟩=>?_);cases c with
 | true=>exact hb wh pins s1 σ H1 Q I1 q1
 | false=>exact⟨H1,I1,q1⟩
theorem pw_or (ha:PT X a tA)(hb:PW X (.BoolOp .Or (b::rest) pos) Cg):PW X (.BoolOp .Or (a::b::rest) pos) (Fv tA Cg):=by
 intro wh pins s σ H Q I h;refine isTrue_or (da (ha pins s σ H _ I h) fun c s1 ⟨H1,I1,q1⟩=>?_);cases c with
 | true=>exact⟨H1,I1,q1⟩
 | false=>exact hb wh pins s1 σ H1 Q I1 q1
theorem yI (ha:PT X a tA):PT X (.UnaryOp .Not a pos) (CL tA):=by
 intro pins s σ H Q I h;exact isTrue_not (ha pins s σ H (fun c H1=>Q (!c) H1) I h)
def AJ (ta tb:TE):TE:=fun σ H Q=>ta σ H fun x H1=>∃ c,x=.bl c/\if c=true then tb σ H1 Q else Q (.bl false) H1
def AK (ta:TE):TE:=fun σ H Q=>ta σ H fun x H1=>∃ c,x=.bl c/\Q (.bl (!c)) H1
theorem yJ {op}{t:TE}(h:PE X a t):PE X (.BoolOp op [a] pos) t:=fun pins s σ H Q I hw=>BoolOp_one (h pins s σ H Q I hw)
theorem tF (ha:PE X a ta)(hb:PE X (.BoolOp .And (b::rest) pos) tb):PE X (.BoolOp .And (a::b::rest) pos) (AJ ta tb):=by
 intro pins s σ H Q I h;refine BoolOp_and (da (ha pins s σ H _ I h) fun v s1 ⟨x,H1,I1,r1,q1⟩=>?_);obtain⟨c,rfl,q1⟩:=q1;cases r1;refine wpAny_truthy_bool ?_;cases c with
 | true=>exact hb pins s1 σ H1 Q I1 q1
 | false=>exact⟨.bl false,H1,I1,rfl,q1⟩
theorem yK (ha:PE X a ta):PE X (.UnaryOp .Not a pos) (AK ta):=by
 intro pins s σ H Q I h;refine UnaryOp_ (da (ha pins s σ H _ I h) fun v s1 ⟨x,H1,I1,r1,q1⟩=>?_);obtain⟨c,rfl,q1⟩:=q1;cases r1;exact not_of (wpAny_truthy_bool ⟨.bl (!c),H1,I1,rfl,q1⟩)
def Fw (t:TT)(ta tb:TE):TE:=fun σ H Q=>t σ H fun c H1=>if c=true then ta σ H1 Q else tb σ H1 Q
theorem oA {c:Expr}(hc:PT X c tA)(ha:PE X a ta)(hb:PE X b tb):PE X (.IfExp c a b pos) (Fw tA ta tb):=by
 intro pins s σ H Q I h;refine wpAny_IfExp (da (hc pins s σ H _ I h) fun d s1 ⟨H1,I1,q1⟩=>?_);cases d with
 | true=>exact ha pins s1 σ H1 Q I1 q1
 | false=>exact hb pins s1 σ H1 Q I1 q1
end
def jW (K:PySem.W.Frag)(H:Hp)(a:Addr)(xs:List V):Prop:=
 Rd H a (.lst xs) \/
   ∃ (o:Obj) (aF:Array Value) (n:Nat),K.lookup a=some o/\o.cls=.type "list"/\o.dict=none/\o.data=.seq aF n/\aF.size<=sizeLine/\Vals xs aF.toList
abbrev pG (K:PySem.W.Frag)(H:Hp)(a:Addr)(xs:List V):Prop:=TupAt K H a xs
noncomputable def CM:Value->Option V
 | .none=>some .b4
 | .bool b=>some (.bl b)
 | .int i _=>some (.int i)
 | .str x _=>some (.str x)
 | .bytes b _=>some (.sY b)
 | .float b _=>some (.yC b)
 | .ref a=>some (.ref a)
 | .type n=>some (.ty n)
 | _=>none
theorem RelV.abs {x:V}{u:Value}(r:RelV x u):CM u=some x:=by
 cases x with
 | b4=>cases r;rfl
 | bl _=>cases r;rfl
 | int _=>obtain⟨t,rfl⟩:=r;rfl
 | str _=>obtain⟨t,rfl⟩:=r;rfl
 | sY _=>obtain⟨t,rfl⟩:=r;rfl
 | yC _=>obtain⟨t,rfl⟩:=r;rfl
 | ref _=>cases r;rfl
 | ty _=>cases r;rfl
theorem RelV.inj {x y:V}{u:Value}(r:RelV x u)(q:RelV y u):x=y:=Option.some.inj (r.abs.symm.trans q.abs)
theorem Vals.inj:∀ {xs ys:List V} {us:List Value},Vals xs us->Vals ys us->xs=ys
 | _,_,_,.nil,.nil=>rfl
 | _,_,_,.cons r t,.cons r' t'=>by rw[r.inj r',Vals.inj t t']
section
variable {X:Cx}{pins:List (Addr×Obj)}{σ:St}{H:Hp}{s:Shared}{a:Addr}{xs ys:List V}
theorem jW.of {K:W.Frag}(h:H a=some (.lst xs)):jW K H a xs:=.inl (.inl h)
theorem pG.of {K:W.Frag}(h:H a=some (.tup xs)):pG K H a xs:=.inl h
theorem Inv.list (I:Inv X pins σ H s)(h:jW X.K H a xs):∃ aF:List Value,Vals xs aF/\PlainL s.heap a aF.toArray/\xs.length<=sizeLine:=by
 rcases h with h | ⟨o,aF,n,hk,hc,hd,hs,hz,r⟩
 . obtain⟨z,aF,n,r,e⟩:=h.ok I.cL
   exact⟨aF,r,⟨_,n,e,rfl,rfl,rfl⟩,z⟩
 . refine⟨aF.toList,r,⟨o,n,I.fO a o hk,hc,hd,by simpa using hs⟩,?_⟩
   have e:=r.length;simp only[Array.length_toList] at e;omega
theorem Inv.tuple (I:Inv X pins σ H s)(h:pG X.K H a xs):∃ aF:List Value,Vals xs aF/\IsTup s.heap a aF.toArray/\xs.length<=sizeLine:=by
 rcases h with h | ⟨o,aF,n,hk,hc,hs,hz,r⟩
 . obtain⟨z,aF,r,p⟩:=(show bI X.prog X.w H s.heap a (.tup xs) from I.cL a _ h)
   exact⟨aF,r,p,z⟩
 . refine⟨aF.toList,r,⟨o,I.fO a o hk,hc,n,by simpa using hs⟩,?_⟩
   have e:=r.length;simp only[Array.length_toList] at e;omega
theorem Inv.tG (I:Inv X pins σ H s)(h:jW X.K H a xs)(h':jW X.K H a ys):xs=ys:=by
 obtain⟨aF,r,⟨o,n,e,_,_,d⟩,_⟩:=I.list h;obtain⟨its',r',⟨o',n',e',_,_,d'⟩,_⟩:=I.list h';rw[e] at e';cases e';rw[d] at d';injection d' with d1 _
 have:aF=its':=by simpa using congrArg Array.toList d1
 subst this;exact r.inj r'
end
section
variable {X:Cx}{st:Stmt}{rest:List Stmt}{t u:TS}{e:Expr}{te:TE}{pos:Pos}
def AL:TS:=fun D σ H=>D.nx σ H
def CN (t u:TS):TS:=fun D σ H=>t { D with nx:=u D} σ H
theorem qt:j9 X [] AL:=fun _ _ σ H _ I h=>wpAny_execs_nil ⟨σ,H,I,h⟩
theorem dR (h1:PS X st t)(h2:j9 X rest u):j9 X (st::rest) (CN t u):=by
 intro pins s σ H D I h;refine wpAny_execs_cons (da (h1 pins s σ H { D with nx:=u D} I h) fun f s1 q=>?_);cases f with
 | next=>
   obtain⟨σ',H',I',q⟩:=q;exact h2 pins s1 σ' H' D I' q
 | ret v=>exact q
 | brk=>exact q
 | cont=>exact q
theorem qu (h1:PS X st t):j9 X [st] t:=by
 intro pins s σ H D I h;refine wpAny_execs_cons (da (h1 pins s σ H D I h) fun f s1 q=>?_);cases f with
 | next=>exact wpAny_execs_nil q
 | ret v=>exact q
 | brk=>exact q
 | cont=>exact q
theorem Inv.quiet {pins:List (Addr×Obj)}{σ:St}{H:Hp}{s:Shared}(I:Inv X pins σ H s):interactive X.env=false:=by simp[interactive,I.ok.kind]
def AM (te:TE):TS:=fun D σ H=>te σ H fun _ H1=>D.nx σ H1
theorem ke (he:PE X e te)(hs:autoParam (swapsWith e none pos.line X.env=pure false) jp):PS X (.Expr e pos) (AM te):=by
 intro pins s σ H D I h;exact wpAny_Expr_any (da (he pins s σ H _ I h) fun v s1 ⟨x,H1,I1,r1,q1⟩=>⟨σ,H1,I1,q1⟩) I.quiet hs
def CO (te:TE):TS:=fun D σ H=>te σ H D.rt
theorem pH (he:PE X e te):PS X (.Return (some e) pos) (CO te):=by
 intro pins s σ H D I h;exact wpAny_Return_some (da (he pins s σ H _ I h) fun v s1 ⟨x,H1,I1,r1,q1⟩=>⟨x,σ,H1,I1,r1,q1⟩)
def CP (c:TT)(t u:TS):TS:=fun D σ H=>c σ H fun b H1=>if b=true then t D σ H1 else u D σ H1
theorem tH {c:Expr}{a b:List Stmt}{tc:TT}(hc:PT X c tc)(ha:j9 X a t)(hb:j9 X b u):PS X (.If c a b pos) (CP tc t u):=by
 intro pins s σ H D I h;refine wpAny_If (da (hc pins s σ H _ I h) fun d s1 ⟨H1,I1,q1⟩=>?_);cases d with
 | true=>exact ha pins s1 σ H1 D I1 q1
 | false=>exact hb pins s1 σ H1 D I1 q1
def yL:TS:=fun _ _ _=>False
theorem gY {sts:List Stmt}:j9 X sts yL:=fun _ _ _ _ _ _ h=>h.elim
end
abbrev TG:=V->St->Hp->(St->Hp->Prop)->Prop
abbrev yM:=List V->St->Hp->(St->Hp->Prop)->Prop
def PG (X:Cx)(target:Expr)(t:TG):Prop:=
 ∀ (pins:List (Addr×Obj)) (s:Shared) (σ:St) (H:Hp) (v:V) (u:Value) (Q:St->Hp->Prop),Inv X pins σ H s->RelV v u->t v σ H Q ->
   wpAny (model X.prog X.w) X.A (assign target X.env u) (fun _ s'=>∃ σ' H',Inv X pins σ' H' s'/\Q σ' H') X.xe s
def Ci (X:Cx)(ts:List Expr)(t:yM):Prop:=
 ∀ (pins:List (Addr×Obj)) (s:Shared) (σ:St) (H:Hp) (vs:List V) (us:List Value) (Q:St->Hp->Prop),Inv X pins σ H s->Vals vs us->t vs σ H Q ->
   wpAny (model X.prog X.w) X.A (assignInOrder ((assignEach ts X.env).map (·.2)) us) (fun _ s'=>∃ σ' H',Inv X pins σ' H' s'/\Q σ' H') X.xe s
abbrev yN:=V->V->V->Hp->(Hp->Prop)->Prop
def AN (X:Cx)(t:yN):Prop:=
 ∀ (pins:List (Addr×Obj)) (s:Shared) (σ:St) (H:Hp) (o i v:V) (ov iv u:Value) (Q:Hp->Prop),Inv X pins σ H s->RelV o ov->RelV i iv->RelV v u->t o i v H Q ->
   wpAny (model X.prog X.w) X.A (setItem ov iv u) (fun _ s'=>∃ H',Inv X pins σ H' s'/\Q H') X.xe s
section
variable {X:Cx}{pos:Pos}
def x9 (i:Nat):TG:=fun v σ H Q=>Q (σ.set i (some v)) H
theorem fP {i:Nat}{x:Str}(hN:X.N.Nodup)(hi:X.N[i]?=some x)(hx:Loc X.env.scope x)(hf:autoParam (X.fn x=true\/X.env.scope.names.lookup x=some .local) xI):PG X (.Name x pos) (x9 i):=by
 intro pins s σ H v u Q I r h;exact wpAny_assign_Name (oy I hN hi hx r (fun s' I'=>⟨_,H,I',h⟩) hf)
def CQ:yM:=fun vs σ H Q=>vs=[]/\Q σ H
def AO (t:TG)(u:yM):yM:=fun vs σ H Q=>∃ v r,vs=v::r/\t v σ H fun σ' H'=>u r σ' H' Q
theorem qv:Ci X [] CQ:=by
 intro pins s σ H vs us Q I r h;obtain⟨e,h⟩:=h;subst e;cases r;exact assignInOrder_nil ⟨σ,H,I,h⟩
theorem iU {e:Expr}{es:List Expr}{t:TG}{u:yM}(h1:PG X e t)(h2:Ci X es u)(hs:autoParam ((assignEach (e::es) X.env).map (·.2)=assign e X.env::(assignEach es X.env).map (·.2)) jp):Ci X (e::es) (AO t u):=by
 intro pins s σ H vs us Q I r h;obtain⟨v,vr,e1,h⟩:=h;subst e1;cases r with
 | cons r rr=>
   rw[hs];refine assignInOrder_cons (da (h1 pins s σ H _ _ _ I r h) fun _ s1 ⟨σ1,H1,I1,q1⟩=>?_);exact h2 pins s1 σ1 H1 _ _ Q I1 rr q1
def CS (K:W.Frag)(n:Nat)(t:yM):TG:=fun v σ H Q=>∃ a xs,v=.ref a/\pG K H a xs/\xs.length=n/\t xs σ H Q
theorem tJ {es:List Expr}{k:Nat}{t:yM}{n:Nat}(hc:X.calm=true)(h:Ci X es t)(hn:autoParam ((assignEach es X.env).length=n) jp)(iV:autoParam ((assignEach es X.env).findIdx? (·.1)=none) jp):PG X (.Tuple es k pos) (CS X.K n t):=by
 intro pins s σ H v u Q I r hw;obtain⟨a,xs,e1,hq,hl,hw⟩:=hw;subst e1;cases r;obtain⟨aF,rv,ht,hz⟩:=I.tuple hq;refine assign_Tuple_tuple (I.ok.hd hc) ht (by simp[hn,<- hl,rv.length]) iV fun h' hx=>?_
 have I1:Inv X pins σ H { s with heap:=h'}:=I.kept (t':=s.toks) fun b o e=>hx b o (HM (Gv e)) e
 exact h pins _ σ H xs _ Q I1 (by simpa using rv) hw
def CT (to ti:TE)(t:yN):TG:=fun v σ H Q=>to σ H fun o H1=>ti σ H1 fun i H2=>t o i v H2 fun H3=>Q σ H3
theorem tK {o i:Expr}{to ti:TE}{t:yN}(ho:PE X o to)(hi:PE X i ti)(hs:AN X t)
   (ha:autoParam (∀ v,assign (.Subscript o i pos) X.env v=(do
     let ov <- holding [v] (eval o X.env);let iv <- holding [v,ov] (eval i X.env)
     standAt pos
     holding [v,ov,iv] (setItem ov iv v)
     release [v,ov,iv] [])) xz):PG X (.Subscript o i pos) (CT to ti t):=by
 intro pins s σ H v u Q I r h;rw[ha];refine wpAny_bind (wpAny_holding (da (ho pins s σ H _ I h) fun ov s1 ⟨x,H1,I1,r1,q1⟩=>?_));refine wpAny_bind (wpAny_holding (da (hi pins s1 σ H1 _ I1 q1) fun iv s2 ⟨y,H2,I2,r2,q2⟩=>?_));refine wpAny_bind (wpAny_standAt (wpAny_bind (wpAny_holding (da (hs pins s2 σ H2 x y v ov iv u _ I2 r1 r2 r q2) fun _ s3 ⟨H3,I3,q3⟩=>?_))));exact wpAny_release ⟨σ,H3,I3,q3⟩
def AQ (te:TE)(g:TG):TS:=fun D σ H=>te σ H fun x H1=>g x σ H1 D.nx
theorem mW {tg e:Expr}{te:TE}{g:TG}(he:PE X e te)(hg:PG X tg g)(hs:autoParam (swapsWithSole [tg] e pos.line X.env=pure false) jp)(hw:autoParam (swappedStores [tg] e X.env=pure none) jp)(h1:autoParam ((assignEach [tg] X.env).map (·.2)=[assign tg X.env]) jp):PS X (.Assign [tg] e pos) (AQ te g):=by
 intro pins s σ H D I h;refine wpAny_Assign_stores (da (he pins s σ H _ I h) fun v s1 ⟨x,H1,I1,r1,q1⟩=>?_) hs hw;rw[h1];exact da (hg pins s1 σ H1 x v _ I1 r1 q1) fun _ s2 q=>q
theorem pI {i:Nat}{x:Str}{e:Expr}{te:TE}{pos':Pos}(hN:X.N.Nodup)(hi:X.N[i]?=some x)(hx:Loc X.env.scope x)(he:PE X e te)(hs:autoParam (swapsWith e (some (.Name x pos')) pos.line X.env=pure false) jp)(hf:autoParam (X.fn x=true\/X.env.scope.names.lookup x=some .local) xI):PS X (.Assign [.Name x pos'] e pos) (AQ te (x9 i)):=by
 intro pins s σ H D I h;refine wpAny_Assign_Name (da (he pins s σ H _ I h) fun v s1 ⟨y,H1,I1,r1,q1⟩=>?_) hs;exact oy I1 hN hi hx r1 (fun s2 I2=>⟨_,H1,I2,q1⟩) hf
end
structure It where
 go:Nat->Hp->Prop
 yO:Nat->Hp->V->Hp->Prop
 stop:Nat->Hp->Prop
def kW (X:Cx)(pins:List (Addr×Obj))(H:Hp)(b:Addr):Prop:=
 H b=none/\b≠X.env.locals/\b ∉ X.fs/\(b∈X.ex\/X.s₀.heap.objs.size<=b)/\(∀ x c,X.env.cells.lookup x=some c->c≠b)/\∀ p∈X.pn ++ pins,p.1≠b
theorem Inv.yP {X:Cx}{pins:List (Addr×Obj)}{σ:St}{H H':Hp}{s:Shared}{b:Addr}(I:Inv X pins σ H s)(hb:s.heap.objs.size<=b)(hn:H' b=none):kW X pins H' b:=by
 refine⟨hn,Nat.ne_of_gt (HA I.lt hb),I.CB hb,.inr (Ik I.sz hb),fun x c e z=>?_,fun p hp z=>?_⟩
 . obtain⟨v,q⟩:=I.cell x c e
   exact absurd (HA q.lt (by rw[z];exact hb)) (Iy _)
 . exact absurd (HA (Gv (I.pin p hp).1) (by rw[z];exact hb)) (Iy _)
structure Turn (P:Program)(w:World)(K:W.Frag)(tg:Expr)(J:It)(fp:List Addr)(it:Addr)(tn:Nat->Heap->Prop):Prop where
 mem:it∈fp
 obj:∀ i h,tn i h->∀ b∈fp,∃ o,h.get? b=some o/\∀ v,o.data≠.cell v
 keep:∀ i h h',tn i h->(∀ b∈fp,∀ o,h.get? b=some o->h'.get? b=some o)->tn i h'
 item:∀ (X:Cx),X.prog=P->X.w=w->X.K=K->X.calm=true->∀ (i:Nat) (pins:List (Addr×Obj)) (s:Shared) (σ:St) (H:Hp) (E:Value->Shared->Prop),Inv X pins σ H s->(∀ b∈fp,kW X pins H b)->tn i s.heap->J.go i H ->
   wpAny (model P w) X.A (pyNext (.ref it)) (fun r s1=>∃ u,r=some u /\
     wpAny (model P w) X.A (letOwnedTupleGo tg (.ref it) u) (fun _ s2=>∃ x H',Inv X pins σ H' s2/\RelV x u/\J.yO i H x H'/\tn (i+1) s2.heap/\∀ b∈fp,H' b=none) E s1) E s
 done:∀ (X:Cx),X.prog=P->X.w=w->X.K=K->X.calm=true->∀ (i:Nat) (pins:List (Addr×Obj)) (s:Shared) (σ:St) (H:Hp) (E:Value->Shared->Prop),Inv X pins σ H s->(∀ b∈fp,kW X pins H b)->tn i s.heap->J.stop i H ->
   wpAny (model P w) X.A (pyNext (.ref it)) (fun r s1=>r=none/\Inv X pins σ H s1) E s
 self:∀ (A:Around) (i:Nat) (s:Shared) (Q:Value->Shared->Prop) (E:Value->Shared->Prop),tn i s.heap->Q (.ref it) s->wpAny (model P w) A (pyIter (.ref it)) Q E s
abbrev TI:=St->Hp->(It->Hp->Prop)->Prop
def Ek (X:Cx)(pins:List (Addr×Obj))(σ:St)(tg:Expr)(R:It->Hp->Prop)(Cj:Value)(s2:Shared):Prop:=
 ∃ (it:Addr) (fp:List Addr) (tn:Nat->Heap->Prop) (J:It) (H':Hp),Cj=.ref it/\Inv X pins σ H' s2/\Turn X.prog X.w X.K tg J fp it tn/\tn 0 s2.heap/\(∀ b∈fp,kW X pins H' b)/\R J H'
def PI (X:Cx)(tg iter:Expr)(wi:TI):Prop:=
 ∀ (pins:List (Addr×Obj)) (s:Shared) (σ:St) (H:Hp) (R:It->Hp->Prop),Inv X pins σ H s->wi σ H R ->
   wpAny (model X.prog X.w) X.A (eval iter X.env) (fun v s1=>wpAny (model X.prog X.w) X.A (pyIter v) (Ek X pins σ tg R) X.xe s1) X.xe s
theorem ya {M:Model}{A:Around}{E:Value->Shared->Prop}{s:Shared}{tg:Expr}{it:Addr}{u:Value}{o:Obj}{n:String}{vs:Array Value}{Q:Unit->Shared->Prop}(ho:s.heap.get? it=some o)(hc:o.cls=.type n)(hd:o.data=.fields vs)(hn:["enumerate","zip","dict_itemiterator","dict_reverseitemiterator","odict_iterator","itertools.zip_longest","itertools.pairwise"].contains n=false)(hQ:Q () s):wpAny M A (letOwnedTupleGo tg (.ref it) u) Q E s:=by
 unfold letOwnedTupleGo;cases tg <;> first
   | exact wpAny_pure hQ
   | (cases u <;> first
       | exact wpAny_pure hQ
       | (refine wpAny_bind (wpAny_load ho ?_)
          rw[hc,hd];show wpAny M A (if (["enumerate","zip","dict_itemiterator","dict_reverseitemiterator","odict_iterator","itertools.zip_longest","itertools.pairwise"].contains n && vs[0]? == some (rawInt _))=true then _ else _) Q E s;rw[if_neg (by intro h;rw[hn,Bool.false_and] at h;cases h)];exact wpAny_pure hQ))
noncomputable def AR (K:W.Frag)(a:Addr):It:=
 ⟨fun i H=>∃ xs x,jW K H a xs/\xs[i]?=some x,fun i H x H'=>H'=H/\∀ xs,jW K H a xs->xs[i]?=some x,fun i H=>∃ xs,jW K H a xs/\xs.length<=i⟩
noncomputable def yb (lo:Int)(n:Nat):It:=⟨fun i _=>i < n,fun i H x H'=>H'=H/\x=.int (lo+i),fun i _=>n<=i⟩
theorem rG {P:Program}{w:World}{K:W.Frag}{tg:Expr}(a it:Addr):Turn P w K tg (AR K a) [it] it (fun i h=>h.IsListIter it a i) where
 mem:=by simp
 obj:=fun i h st b hb=>by
   have e:b=it:=by simpa using hb
   subst e;obtain⟨o,e,c,d⟩:=st;exact⟨o,e,fun v z=>by rw[d] at z;cases z⟩
 keep:=fun i h h' st k=>st.at fun o e=>k it (by simp) o e
 item:=by
   intro X hP hw hK hc i pins s σ H E I hf st hg;subst hP hw hK;obtain⟨xs,x,hq,hx⟩:=hg;obtain⟨aF,rv,p,hz⟩:=I.list hq;obtain⟨u,hu,ru⟩:=rv.get hx;obtain⟨f0,f1,f2,f3,f4,f5⟩:=hf it (by simp);refine wpAny_pyNext_list_item st p.isList (x:=u) (by simpa using hu) fun h' oq sb=>?_
   have I1:Inv X pins σ H { s with heap:=h'}:=I.turned (t':=s.toks) (fun b o hb e=>(sb.2 b hb).trans e) f0 f1 f3 f4 f5;obtain⟨o,e,c,d⟩:=id oq;exact⟨u,rfl,ya (s:={ s with heap:=h'}) e c d (by decide) ⟨x,H,I1,ru,⟨rfl,fun ys hy=>by rw[I.tG hy hq];exact hx⟩,oq,fun b hb=>(hf b hb).1⟩⟩
 done:=by
   intro X hP hw hK hc i pins s σ H E I hf st hg;subst hP hw hK;obtain⟨xs,hq,hx⟩:=hg;obtain⟨aF,rv,p,hz⟩:=I.list hq;obtain⟨f0,f1,f2,f3,f4,f5⟩:=hf it (by simp);have hl:=rv.length;exact wpAny_pyNext_list_end (I.ok.hd hc) st p.isList (by simp;omega) fun h' eb=>⟨rfl,I.turned (t':=s.toks) (fun b o hb e=>eb b o hb e) f0 f1 f3 f4 f5⟩
 self:=fun _ _ _ _ _ st h=>wpAny_pyIter_listiter st h
theorem pJ {P:Program}{w:World}{K:PySem.W.Frag}{tg:Expr}(it:Addr)(lo:Int)(n:Nat):Turn P w K tg (yb lo n) [it] it (fun i h=>IsRangeIter h it (lo+(i:Nat) * 1) ((n:Int) - (i:Nat)) 1) where
 mem:=by simp
 obj:=fun i h st b hb=>by
   have e:b=it:=by simpa using hb
   subst e;exact⟨_,st,fun v z=>by
     have z':Data.fields _=Data.cell v:=z;cases z'⟩
 keep:=fun i h h' st k=>k it (by simp) _ st
 item:=by
   intro X hP hw hK hc i pins s σ H E I hf st hg;subst hP hw hK;obtain⟨f0,f1,f2,f3,f4,f5⟩:=hf it (by simp);have W:=Walks.range (prog:=X.prog) (w:=X.w) (I.ok.hd hc) it lo 1 n;refine W.item i s _ _ hg st fun v h' tk hv oq kk=>?_
   obtain⟨t,rfl⟩:=hv;have I1:Inv X pins σ H { s with heap:=h',toks:=tk}:=I.turned (fun b o hb e=>kk b o (by simpa using hb) e) f0 f1 f3 f4 f5;refine⟨_,rfl,ya (s:={ s with heap:=h',toks:=tk}) (n:="range_iterator") oq rfl rfl (by decide) ⟨.int (lo+i),H,I1,⟨t,?_⟩,⟨rfl,rfl⟩,oq,fun b hb=>(hf b hb).1⟩⟩;rw[Int.mul_one]
 done:=by
   intro X hP hw hK hc i pins s σ H E I hf st hg;subst hP hw hK;obtain⟨f0,f1,f2,f3,f4,f5⟩:=hf it (by simp);exact wpAny_pyNext_range_end (I.ok.hd hc) st (by have:n<=i:=hg;omega) fun h' eb=>⟨rfl,I.turned (t':=s.toks) (fun b o hb e=>eb b o hb e) f0 f1 f3 f4 f5⟩
 self:=fun _ _ _ _ _ st h=>wpAny_pyIter_rangeiter st h
section
variable {X:Cx}{tg:Expr}
def yc (K:W.Frag)(tl:TE):TI:=fun σ H R=>tl σ H fun x H1=>∃ a,x=.ref a/\(∃ xs,jW K H1 a xs)/\R (AR K a) H1
theorem mX {l:Expr}{tl:TE}(hl:PE X l tl):PI X tg l (yc X.K tl):=by
 intro pins s σ H R I h;refine da (hl pins s σ H _ I h) fun v s1 ⟨x,H1,I1,r1,q1⟩=>?_
 obtain⟨a,e,⟨xs,hq⟩,q⟩:=q1;subst e;cases r1;obtain⟨aF,rv,p,hz⟩:=I1.list hq;refine wpAny_pyIter_list p.isList ?_;refine⟨s1.heap.objs.size,[s1.heap.objs.size],_,_,H1,rfl,I1.kept (t':=s1.toks) fun b o e=>Hm _ e,rG a _,⟨_,HP _ rfl,rfl,rfl⟩,fun b hb=>?_,q⟩;have e:b=s1.heap.objs.size:=by simpa using hb
 subst e;exact I1.yP (Hr _) (I1.cL.fresh (Hr _))
theorem oB {pins:List (Addr×Obj)}{σ:St}{H:Hp}{s:Shared}{R:It->Hp->Prop}{E:Value->Shared->Prop}{lo hi:Int}{t u v:Tok}{tk:Nat}(I:Inv X pins σ H s)(h1:-(2 ^ 62)<=lo)(h2:lo < 2 ^ 62)(h3:-(2 ^ 62)<=hi)(h4:hi < 2 ^ 62)(q:R (yb lo (hi - lo).toNat) H):wpAny (model X.prog X.w) X.A (pyIter (.ref s.heap.objs.size)) (Ek X pins σ tg R) E { s with heap:=s.heap.push { cls:=.type "range",data:=.fields #[.int lo t,.int hi u,.int 1 v]},toks:=tk}:=by
 refine wpAny_pyIter_range (IsRange.new ..) (small_one h1 h2 h3 h4) ?_;have I1:Inv X pins σ H { s with heap:=s.heap.push { cls:=.type "range",data:=.fields #[.int lo t,.int hi u,.int 1 v]},toks:=tk}:=I.kept fun b o e=>Hm _ e
 refine⟨(s.heap.push { cls:=.type "range",data:=.fields #[.int lo t,.int hi u,.int 1 v]}).objs.size,[(s.heap.push { cls:=.type "range",data:=.fields #[.int lo t,.int hi u,.int 1 v]}).objs.size],_,_,H,rfl,
   I1.kept (t':=tk) fun b o e=>Hm _ e,pJ _ lo (hi - lo).toNat,?_,fun b hb=>?_,q⟩
 . have e1:lo+((0:Nat):Int) * 1=lo:=by simp
   have e2:(((hi - lo).toNat:Nat):Int) - ((0:Nat):Int)=Builtin.Range.rangeSize lo hi 1:=by rw[rangeSize_one];split <;> omega
   show IsRangeIter _ _ (lo+((0:Nat):Int) * 1) ((((hi - lo).toNat:Nat):Int) - ((0:Nat):Int)) 1;rw[e1,e2];exact HP _ rfl
 . have e:b=(s.heap.push { cls:=.type "range",data:=.fields #[.int lo t,.int hi u,.int 1 v]}).objs.size:=by simpa using hb
   subst e;exact I1.yP (Hr _) (I1.cL.fresh (Hr _))
def yd (ta:TA):TI:=fun σ H R=>ta σ H fun vs H1=>∃ j:Int,vs=[.int j]/\-(2 ^ 62)<=j/\j < 2 ^ 62/\R (yb 0 j.toNat) H1
def ye (ta:TA):TI:=fun σ H R=>ta σ H fun vs H1=>∃ i j:Int,vs=[.int i,.int j]/\(-(2 ^ 62)<=i/\i < 2 ^ 62/\-(2 ^ 62)<=j/\j < 2 ^ 62)/\R (yb i (j - i).toNat) H1
theorem jt {a:Expr}{ta:TA}{p pos:Pos}(hg:Gl X "range")(hm:X.mg "range"=none)(ha:PA X [a] ta)(hs:autoParam (starEach [a] X.env=[(false,eval a X.env)]) jp):PI X tg (.Call (.Name "range" p) [a] [] pos) (yd ta):=by
 intro pins s σ H R I h;refine Call_ (kU I hg hm boot_range (PyProof.Rows.callWith_type1 (da (ha pos pins s σ H _ I h) fun us s1 ⟨vs,H1,I1,r1,q1⟩=>?_) hs rfl));obtain⟨j,e,q1,q2,q⟩:=q1;subst e;cases r1 with
 | cons r rr=>
   cases rr;obtain⟨t,rfl⟩:=r;exact call_range_1 (oB I1 (by omega) (by omega) q1 q2 (by simpa using q))
theorem rH {a b:Expr}{ta:TA}{p pos:Pos}(hg:Gl X "range")(hm:X.mg "range"=none)(ha:PA X [a,b] ta)(hs:autoParam (starEach [a,b] X.env=[(false,eval a X.env),(false,eval b X.env)]) jp)(AS:autoParam (starEach [b] X.env=[(false,eval b X.env)]) jp):PI X tg (.Call (.Name "range" p) [a,b] [] pos) (ye ta):=by
 intro pins s σ H R I h;refine Call_ (kU I hg hm boot_range (PyProof.Rows.callWith_type1 (da (ha pos pins s σ H _ I h) fun us s1 ⟨vs,H1,I1,r1,q1⟩=>?_) (by rw[hs,AS]) (by rw[AS];rfl)));obtain⟨i,j,e,⟨q1,q2,q3,q4⟩,q⟩:=q1;subst e;cases r1 with
 | cons r rr=>
   cases rr with
   | cons r' rr=>
     cases rr;obtain⟨t,rfl⟩:=r;obtain⟨t',rfl⟩:=r';exact call_range_2 (oB I1 q1 q2 q3 q4 q)
def CU (wi:TI)(g:TG)(tb:TS):TS:=fun D σ H=>wi σ H fun J H1=>∃ W:Nat->Nat->St->Hp->Prop,(∃ m,W 0 m σ H1)/\∀ i m σ H,W i m σ H ->
 (J.stop i H/\D.nx σ H)\/(J.go i H/\∃ N:St->Hp->Prop,(∀ σ' H',N σ' H'->∃ m',m' < m/\W (i+1) m' σ' H')/\∀ x H',J.yO i H x H'->g x σ H' fun σ2 H2=>tb { D with nx:=N,ct:=N,bk:=D.nx} σ2 H2)
noncomputable def mY (fp:List Addr)(h:Heap):List (Addr×Obj):=fp.filterMap fun b=>(h.get? b).map fun o=>(b,o)
theorem fQ {fp:List Addr}{h:Heap}{b:Addr}{o:Obj}(hb:b∈fp)(e:h.get? b=some o):(b,o)∈mY fp h:=List.mem_filterMap.mpr ⟨b,hb,by rw[e];rfl⟩
theorem rJ {fp:List Addr}{h:Heap}{p:Addr×Obj}(hp:p∈mY fp h):p.1∈fp/\h.get? p.1=some p.2:=by
 obtain⟨b,hb,e⟩:=List.mem_filterMap.mp hp;cases q:h.get? b with
 | none=>rw[q] at e;cases e
 | some o=>
   rw[q] at e;have e':(b,o)=p:=Option.some.inj e;subst e';exact⟨hb,q⟩
theorem Inv.pinned {pins:List (Addr×Obj)}{σ:St}{H:Hp}{s:Shared}{fp:List Addr}(I:Inv X pins σ H s)(hf:∀ b∈fp,kW X pins H b)(ho:∀ b∈fp,∃ o,s.heap.get? b=some o/\∀ v,o.data≠.cell v):Inv X (pins ++ mY fp s.heap) σ H s:=
 I.qs fun p hp=>(List.mem_append.mp hp).elim (fun z=>I.pin p (HF _ z)) fun z=>by
   obtain⟨hb,e⟩:=rJ z;obtain⟨f0,f1,f2,_⟩:=hf p.1 hb;obtain⟨o,e',d⟩:=ho p.1 hb;rw[e] at e';cases e';exact⟨e,f0,f1,f2,d⟩
theorem Inv.iW {pins pl:List (Addr×Obj)}{σ:St}{H:Hp}{s:Shared}(I:Inv X (pins ++ pl) σ H s):Inv X pins σ H s:=I.qs fun p hp=>I.pin p (HF _ (List.mem_append_left _ hp))
theorem tL {iter:Expr}{body:List Stmt}{wi:TI}{g:TG}{tb:TS}{pos:Pos}(hp:PassesOwn (model X.prog X.w) X.A X.env X.xe)(hc:X.calm=true)(hi:PI X tg iter wi)(hg:PG X tg g)(hb:j9 X body tb)(hs:autoParam (∀ x,foldedSetIterable iter X.env x=pure x) xz):PS X (.For tg iter body [] pos) (CU wi g tb):=by
 intro pins s σ H D I h;refine wpAny_For (da (hi pins s σ H _ I h) fun v s1 h1=>da h1 fun Cj s2 h2=>?_) hs;obtain⟨it,fp,tn,J,H2,e,I2,T,AU,f2,W,⟨m0,w0⟩,turn⟩:=h2;subst e;have pK:∀ {H':Hp},(∀ b∈fp,H' b=none)->∀ b∈fp,kW X pins H' b:=fun hn b hb=>⟨hn b hb,(f2 b hb).2⟩
 refine codeAny_forLoop_any (fun n s'=>∃ i σ' H',Inv X pins σ' H' s'/\tn i s'.heap/\(∀ b∈fp,H' b=none)/\W i n σ' H') ?_ m0 ⟨0,σ,H2,I2,AU,fun b hb=>(f2 b hb).1,w0⟩
 rintro n s3 ⟨i,σ3,H3,I3,El,Em,w3⟩
 rcases turn i n σ3 H3 w3 with⟨stop,qn⟩ | ⟨go,N,hN,step⟩
 . refine wpAny_passesOwn hp (da (T.done X rfl rfl rfl hc i pins s3 σ3 H3 X.xe I3 (pK Em) El stop) fun r s4 ⟨hr,I4⟩=>?_)
   subst hr;exact wpAny_execs_nil ⟨σ3,H3,I4,qn⟩
 . refine wpAny_passesOwn hp (da (T.item X rfl rfl rfl hc i pins s3 σ3 H3 X.xe I3 (pK Em) El go) fun r s4 ⟨u,hr,h4⟩=>?_)
   subst hr;refine wpAny_passesOwn hp (da h4 fun _ s5 ⟨x,H5,I5,r5,y5,Aq,Ck⟩=>?_);have Fx:=I5.pinned (pK Ck) (T.obj _ _ Aq);refine wpAny_passesOwn hp (da (hg _ s5 σ3 H5 x u _ Fx r5 (step x H5 y5)) fun _ s6 ⟨σ6,H6,I6,q6⟩=>?_);refine wpAny_passesOwn hp (da (hb _ s6 σ6 H6 _ I6 q6) fun f s7 q7=>?_);have again:∀ {σ7:St} {H7:Hp},Inv X (pins ++ mY fp s5.heap) σ7 H7 s7->N σ7 H7->∃ m,m < n/\∃ i σ' H',Inv X pins σ' H' s7/\tn i s7.heap/\(∀ b∈fp,H' b=none)/\W i m σ' H':=fun {σ7 H7} I7 n7=>by
     obtain⟨m',hm,w7⟩:=hN σ7 H7 n7;refine⟨m',hm,i+1,σ7,H7,I7.iW,T.keep _ _ _ Aq fun b hb o e=>(I7.pin (b,o) (HF _ (HF _ (fQ hb e)))).1,fun b hb=>?_,w7⟩;obtain⟨o,e,d⟩:=T.obj _ _ Aq b hb;exact(I7.pin (b,o) (HF _ (HF _ (fQ hb e)))).2.1
   cases f with
   | next=>obtain⟨σ7,H7,I7,n7⟩:=q7;exact again I7 n7
   | cont=>obtain⟨σ7,H7,I7,n7⟩:=q7;exact again I7 n7
   | brk=>obtain⟨σ7,H7,I7,q7⟩:=q7;exact⟨σ7,H7,I7.iW,q7⟩
   | ret v=>obtain⟨x7,σ7,H7,I7,r7,q7⟩:=q7;exact⟨x7,σ7,H7,I7.iW,r7,q7⟩
end
theorem tM {K:PySem.W.Frag}{a:Addr}{xs:List V}{g:TG}{tb:TS}{D:Ends}{σ:St}{H:Hp}(Pv:Nat->St->Hp->Prop)(h0:Pv 0 σ H)(hl:∀ i σ H,i<=xs.length->Pv i σ H->jW K H a xs)(hs:∀ i x σ H,xs[i]?=some x->Pv i σ H->g x σ H fun σ2 H2=>tb { D with nx:=Pv (i+1),ct:=Pv (i+1),bk:=D.nx} σ2 H2)(hd:∀ σ H,Pv xs.length σ H->D.nx σ H):∃ W:Nat->Nat->St->Hp->Prop,(∃ m,W 0 m σ H)/\∀ i m σ H,W i m σ H->((AR K a).stop i H/\D.nx σ H)\/((AR K a).go i H/\∃ N:St->Hp->Prop,(∀ σ' H',N σ' H'->∃ m',m' < m/\W (i+1) m' σ' H')/\∀ x H',(AR K a).yO i H x H'->g x σ H' fun σ2 H2=>tb { D with nx:=N,ct:=N,bk:=D.nx} σ2 H2):=by
 refine⟨fun i m σ H=>m=xs.length - i/\i<=xs.length/\Pv i σ H,⟨xs.length,by simp,Iw _,h0⟩,?_⟩
 rintro i m σ H ⟨rfl,hi,p⟩
 have q:=hl i σ H hi p;by_cases iT:i < xs.length
 . refine .inr ⟨⟨xs,xs[i],q,by simp[iT]⟩,Pv (i+1),fun σ' H' p'=>⟨xs.length - (i+1),by omega,rfl,iT,p'⟩,fun x H' y=>?_⟩
   obtain⟨e,y⟩:=y;subst e;exact hs i x σ _ (y xs q) p
 . have e:i=xs.length:=by omega
   subst e;exact .inl ⟨⟨xs,q,Hr _⟩,hd σ H p⟩
theorem rK {lo:Int}{n:Nat}{g:TG}{tb:TS}{D:Ends}{σ:St}{H:Hp}(Pv:Nat->St->Hp->Prop)(h0:Pv 0 σ H)(hs:∀ i σ H,i < n->Pv i σ H->g (.int (lo+i)) σ H fun σ2 H2=>tb { D with nx:=Pv (i+1),ct:=Pv (i+1),bk:=D.nx} σ2 H2)(hd:∀ σ H,Pv n σ H->D.nx σ H):∃ W:Nat->Nat->St->Hp->Prop,(∃ m,W 0 m σ H)/\∀ i m σ H,W i m σ H->((yb lo n).stop i H/\D.nx σ H)\/((yb lo n).go i H/\∃ N:St->Hp->Prop,(∀ σ' H',N σ' H'->∃ m',m' < m/\W (i+1) m' σ' H')/\∀ x H',(yb lo n).yO i H x H'->g x σ H' fun σ2 H2=>tb { D with nx:=N,ct:=N,bk:=D.nx} σ2 H2):=by
 refine⟨fun i m σ H=>m=n - i/\i<=n/\Pv i σ H,⟨n,by simp,Iw _,h0⟩,?_⟩
 rintro i m σ H ⟨rfl,hi,p⟩
 by_cases iT:i < n
 . refine .inr ⟨iT,Pv (i+1),fun σ' H' p'=>⟨n - (i+1),by omega,rfl,iT,p'⟩,fun x H' y=>?_⟩
   obtain⟨e,y⟩:=y;subst e y;exact hs i σ _ iT p
 . have e:i=n:=by omega
   subst e;exact .inl ⟨Hr _,hd σ H p⟩
abbrev R2:=V->V->Hp->VK->Prop
def ju (X:Cx)(f:Value->Value->Sem Value)(r:R2):Prop:=
 ∀ (pins:List (Addr×Obj)) (s:Shared) (σ:St) (H:Hp) (x y:V) (v u:Value) (Q:VK),Inv X pins σ H s->RelV x v->RelV y u->r x y H Q ->
   wpAny (model X.prog X.w) X.A (f v u) (EP X pins σ Q) X.xe s
def CV (X:Cx)(f:Value->Sem Value)(r:V->Hp->VK->Prop):Prop:=
 ∀ (pins:List (Addr×Obj)) (s:Shared) (σ:St) (H:Hp) (x:V) (v:Value) (Q:VK),Inv X pins σ H s->RelV x v->r x H Q ->
   wpAny (model X.prog X.w) X.A (f v) (EP X pins σ Q) X.xe s
def kX (X:Cx)(f:Value)(r:List V->Hp->VK->Prop):Prop:=
 ∀ (pins:List (Addr×Obj)) (s:Shared) (σ:St) (H:Hp) (xs:List V) (us:List Value) (Q:VK),Inv X pins σ H s->Vals xs us->r xs H Q ->
   wpAny (model X.prog X.w) X.A (call f us) (EP X pins σ Q) X.xe s
def AV (r:R2)(ta tb:TE):TE:=fun σ H Q=>ta σ H fun x H1=>tb σ H1 fun y H2=>r x y H2 Q
def Fy (r:V->Hp->VK->Prop)(ta:TE):TE:=fun σ H Q=>ta σ H fun x H1=>r x H1 Q
def rI (C:Int->Int->Prop)(g:Int->Int->V):R2:=fun x y H Q=>∃ i j,x=.int i/\y=.int j/\C i j/\Q (g i j) H
def yf (g:Int->Int->V):R2:=fun x y H Q=>∃ i j,x=.int i/\y=.int j/\Q (g i j) H
def rU (g:Int->V):V->Hp->VK->Prop:=fun x H Q=>∃ i,x=.int i/\Q (g i) H
section
variable {X:Cx}{a b:Expr}{ta tb:TE}{pos:Pos}
theorem yQ (ha:PE X a ta)(hb:PE X b tb){pins:List (Addr×Obj)}{s:Shared}{σ:St}{H:Hp}{R:V->V->Hp->Prop}(I:Inv X pins σ H s)(h:ta σ H fun x H1=>tb σ H1 fun y H2=>R x y H2){Q:Value->Shared->Prop}{f:Value->Value->Sem Value}(hf:∀ v u s2 x y H2,Inv X pins σ H2 s2->RelV x v->RelV y u->R x y H2->wpAny (model X.prog X.w) X.A (f v u) Q X.xe s2):wpAny (model X.prog X.w) X.A (eval a X.env) (fun v s₁=>wpAny (model X.prog X.w) X.A (eval b X.env) (fun u s₂=>wpAny (model X.prog X.w) X.A (f v u) Q X.xe s₂) X.xe s₁) X.xe s:=by
 refine da (ha pins s σ H _ I h) fun v s1 ⟨x,H1,I1,r1,q1⟩=>?_
 refine da (hb pins s1 σ H1 _ I1 q1) fun u s2 ⟨y,H2,I2,r2,q2⟩=>?_
 exact hf v u s2 x y H2 I2 r1 r2 q2
theorem tN {op:Operator}{r:R2}(ho:ju X (binaryOp op) r)(ha:PE X a ta)(hb:PE X b tb):PE X (.BinOp a op b pos) (AV r ta tb):=by
 intro pins s σ H Q I h;exact wpAny_BinOp (yQ ha hb I h fun v u s2 x y H2 I2 rx ry q=>ho pins s2 σ H2 x y v u Q I2 rx ry q)
theorem AW {op:UnaryOp}{r:V->Hp->VK->Prop}(ho:CV X (unaryOp op) r)(ha:PE X a ta):PE X (.UnaryOp op a pos) (Fy r ta):=by
 intro pins s σ H Q I h;exact UnaryOp_ (da (ha pins s σ H _ I h) fun v s1 ⟨x,H1,I1,r1,q1⟩=>ho pins s1 σ H1 x v Q I1 r1 q1)
theorem Cm {f:Value->Value->Sem Value}{C:Int->Int->Prop}{g:Int->Int->Int}(rule:∀ (i j:Int) (t u:Tok) (s:Shared) (Q:Value->Shared->Prop) (E:Value->Shared->Prop),C i j->Q (.int (g i j) s.toks) { s with toks:=s.toks+1}->wpAny (model X.prog X.w) X.A (f (.int i t) (.int j u)) Q E s):ju X f (rI C fun i j=>.int (g i j)):=by
 intro pins s σ H x y v u Q I rx ry h;obtain⟨i,j,rfl,rfl,hc,q⟩:=h;obtain⟨t,rfl⟩:=rx;obtain⟨t',rfl⟩:=ry;exact rule i j t t' s _ _ hc ⟨.int (g i j),H,I.tok _,⟨_,rfl⟩,q⟩
theorem AX {f:Value->Value->Sem Value}{g:Int->Int->Int}(rule:∀ (i j:Int) (t u:Tok) (s:Shared) (Q:Value->Shared->Prop) (E:Value->Shared->Prop),Q (.int (g i j) s.toks) { s with toks:=s.toks+1}->wpAny (model X.prog X.w) X.A (f (.int i t) (.int j u)) Q E s):ju X f (yf fun i j=>.int (g i j)):=by
 intro pins s σ H x y v u Q I rx ry h;obtain⟨i,j,rfl,rfl,q⟩:=h;obtain⟨t,rfl⟩:=rx;obtain⟨t',rfl⟩:=ry;exact rule i j t t' s _ _ ⟨.int (g i j),H,I.tok _,⟨_,rfl⟩,q⟩
theorem yR {f:Value->Value->Sem Value}{g:Int->Int->Bool}(rule:∀ (i j:Int) (t u:Tok) (s:Shared) (Q:Value->Shared->Prop) (E:Value->Shared->Prop),Q (.bool (g i j)) s->wpAny (model X.prog X.w) X.A (f (.int i t) (.int j u)) Q E s):ju X f (yf fun i j=>.bl (g i j)):=by
 intro pins s σ H x y v u Q I rx ry h;obtain⟨i,j,rfl,rfl,q⟩:=h;obtain⟨t,rfl⟩:=rx;obtain⟨t',rfl⟩:=ry;exact rule i j t t' s _ _ ⟨.bl (g i j),H,I,rfl,q⟩
def AY (i j:Int):Prop:=0<=j/\j<=1000000/\i.natAbs < 2 ^ 64
def iF (i j:Int):Prop:=(-(2 ^ 64) < i/\i < 2 ^ 64)\/(-(2 ^ 64) < j/\j < 2 ^ 64)
theorem iF.ok {i j:Int}(h:iF i j):IntMulOk i j:=by
 rcases h with⟨h1,h2⟩ | ⟨h1,h2⟩
 . exact .of_left (intBits_le_64 h1 h2)
 . exact .of_right (intBits_le_64 h1 h2)
theorem yS:ju X (binaryOp .Add) (yf fun i j=>.int (i+j)):=AX fun _ _ _ _ _ _ _ q=>add_int q
theorem yT:ju X (binaryOp .Sub) (yf fun i j=>.int (i - j)):=AX fun _ _ _ _ _ _ _ q=>sub_int q
theorem yU:ju X (binaryOp .Mod) (rI (fun _ j=>0 < j) fun i j=>.int (i % j)):=Cm fun i j _ _ _ _ _ hc q=>by
 have h1:(0:Int) < j:=hc;exact mod_int' (by omega) (by rw[Int.fmod_eq_emod_of_nonneg i (by omega)];exact q)
theorem yV:ju X (binaryOp .Pow) (rI AY fun i j=>.int (i ^ j.toNat)):=Cm fun _ _ _ _ _ _ _ hc q=>pow_int_small hc.1 hc.2.1 hc.2.2 q
theorem FA {f:Value->Sem Value}{g:Int->Int}(rule:∀ (i:Int) (t:Tok) (s:Shared) (Q:Value->Shared->Prop) (E:Value->Shared->Prop),Q (.int (g i) s.toks) { s with toks:=s.toks+1}->wpAny (model X.prog X.w) X.A (f (.int i t)) Q E s):CV X f (rU fun i=>.int (g i)):=by
 intro pins s σ H x v Q I rx h;obtain⟨i,rfl,q⟩:=h;obtain⟨t,rfl⟩:=rx;exact rule i t s _ _ ⟨.int (g i),H,I.tok _,⟨_,rfl⟩,q⟩
theorem yW:CV X (unaryOp .USub) (rU fun i=>.int (-i)):=FA fun _ _ _ _ _ q=>neg_int q
end
noncomputable def wD:V->V->Bool
 | .b4,.b4=>true | .b4,.int _=>true | .int _,.b4=>true | .b4,.bl _=>true | .bl _,.b4=>true | .b4,.str _=>true | .str _,.b4=>true
 | .int _,.int _=>true | .bl _,.bl _=>true | .str _,.str _=>true | .sY _,.sY _=>true
 | .int _,.str _=>true | .str _,.int _=>true | .bl _,.str _=>true | .str _,.bl _=>true
 | _,_=>false
def FC:R2:=fun x y H Q=>wD x y=true/\Q (.bl (decide (x=y))) H
def FE:R2:=fun x y H Q=>wD x y=true/\Q (.bl (!decide (x=y))) H
theorem iX {i j:Int}:decide (V.int i=V.int j)=(i == j):=by
 rw[IK];simp
theorem tP {i j:Bool}:decide (V.bl i=V.bl j)=(i == j):=by
 rw[IK];simp
theorem kf {i j:Str}:decide (V.str i=V.str j)=(i == j):=by
 rw[IK];simp
theorem qw {i j:Array UInt8}:decide (V.sY i=V.sY j)=(i.toList == j.toList):=by
 rw[IK];cases i;cases j;simp
section
variable {X:Cx}{a b c:Expr}{ta tb:TE}{pos:Pos}
theorem aO {pins:List (Addr×Obj)}{σ:St}{H:Hp}{s:Shared}{Q:VK}{k k':Bool}(I:Inv X pins σ H s)(q:Q (.bl k) H)(e:k=k'):EP X pins σ Q (.bool k') s:=by
 subst e;exact⟨.bl k,H,I,rfl,q⟩
theorem yg:ju X (compareOp .Eq) FC:=by
 intro pins s σ H x y v u Q I rx ry h;obtain⟨hs,q⟩:=h;cases x with
 | b4=>
   cases rx;cases y with
   | b4=>cases ry;exact PySem.EqNone.eq_none_none (aO I q (by simp))
   | bl j=>cases ry;exact PySem.EqNone.eq_none_bool (aO I q (by simp))
   | int j=>obtain⟨t',rfl⟩:=ry;exact PySem.EqNone.eq_none_int (aO I q (by simp))
   | str j=>obtain⟨t',rfl⟩:=ry;exact PySem.EqNone.eq_none_str (aO I q (by simp))
   | _=>exact absurd (show false=true from hs) FJ
 | bl i=>
   cases rx;cases y with
   | b4=>cases ry;exact PySem.EqNone.eq_bool_none (aO I q (by simp))
   | bl j=>cases ry;exact eq_bool (aO I q tP)
   | str j=>obtain⟨t',rfl⟩:=ry;exact PySem.EqMixed.eq_bool_str (aO I q (by simp))
   | _=>exact absurd (show false=true from hs) FJ
 | int i=>
   obtain⟨t,rfl⟩:=rx;cases y with
   | b4=>cases ry;exact PySem.EqNone.eq_int_none (aO I q (by simp))
   | int j=>obtain⟨t',rfl⟩:=ry;exact eq_int (aO I q iX)
   | str j=>obtain⟨t',rfl⟩:=ry;exact PySem.EqMixed.eq_int_str (aO I q (by simp))
   | _=>exact absurd (show false=true from hs) FJ
 | str i=>
   obtain⟨t,rfl⟩:=rx;cases y with
   | b4=>cases ry;exact PySem.EqNone.eq_str_none (aO I q (by simp))
   | bl j=>cases ry;exact PySem.EqMixed.eq_str_bool (aO I q (by simp))
   | int j=>obtain⟨t',rfl⟩:=ry;exact PySem.EqMixed.eq_str_int (aO I q (by simp))
   | str j=>obtain⟨t',rfl⟩:=ry;exact eq_str (aO I q kf)
   | _=>exact absurd (show false=true from hs) FJ
 | sY i=>
   obtain⟨t,rfl⟩:=rx;cases y with
   | sY j=>obtain⟨t',rfl⟩:=ry;exact W.eq_bytes (aO I q qw)
   | _=>exact absurd (show false=true from hs) FJ
 | _=>cases y <;> exact absurd (show false=true from hs) FJ
theorem AZ:ju X (compareOp .NotEq) FE:=by
 intro pins s σ H x y v u Q I rx ry h;obtain⟨hs,q⟩:=h;cases x with
 | b4=>
   cases rx;cases y with
   | b4=>cases ry;exact PySem.EqNone.ne_none_none (aO I q (by simp))
   | bl j=>cases ry;exact PySem.EqNone.ne_none_bool (aO I q (by simp))
   | int j=>obtain⟨t',rfl⟩:=ry;exact PySem.EqNone.ne_none_int (aO I q (by simp))
   | str j=>obtain⟨t',rfl⟩:=ry;exact PySem.EqNone.ne_none_str (aO I q (by simp))
   | _=>exact absurd (show false=true from hs) FJ
 | bl i=>
   cases rx;cases y with
   | b4=>cases ry;exact PySem.EqNone.ne_bool_none (aO I q (by simp))
   | bl j=>cases ry;exact ne_bool (aO I q (congrArg not tP))
   | str j=>obtain⟨t',rfl⟩:=ry;exact PySem.EqMixed.ne_bool_str (aO I q (by simp))
   | _=>exact absurd (show false=true from hs) FJ
 | int i=>
   obtain⟨t,rfl⟩:=rx;cases y with
   | b4=>cases ry;exact PySem.EqNone.ne_int_none (aO I q (by simp))
   | int j=>obtain⟨t',rfl⟩:=ry;exact ne_int (aO I q (congrArg not iX))
   | str j=>obtain⟨t',rfl⟩:=ry;exact PySem.EqMixed.ne_int_str (aO I q (by simp))
   | _=>exact absurd (show false=true from hs) FJ
 | str i=>
   obtain⟨t,rfl⟩:=rx;cases y with
   | b4=>cases ry;exact PySem.EqNone.ne_str_none (aO I q (by simp))
   | bl j=>cases ry;exact PySem.EqMixed.ne_str_bool (aO I q (by simp))
   | int j=>obtain⟨t',rfl⟩:=ry;exact PySem.EqMixed.ne_str_int (aO I q (by simp))
   | str j=>obtain⟨t',rfl⟩:=ry;exact ne_str (aO I q (congrArg not kf))
   | _=>exact absurd (show false=true from hs) FJ
 | sY i=>
   obtain⟨t,rfl⟩:=rx;cases y with
   | sY j=>obtain⟨t',rfl⟩:=ry;exact W.ne_bytes (aO I q (congrArg not qw))
   | _=>exact absurd (show false=true from hs) FJ
 | _=>cases y <;> exact absurd (show false=true from hs) FJ
theorem A0:ju X (compareOp .Lt) (yf fun i j=>.bl (decide (i < j))):=yR fun _ _ _ _ _ _ _ q=>lt_int q
theorem A2:ju X (compareOp .Gt) (yf fun i j=>.bl (decide (j < i))):=yR fun _ _ _ _ _ _ _ q=>gt_int q
theorem A3:ju X (compareOp .GtE) (yf fun i j=>.bl (decide (j<=i))):=yR fun _ _ _ _ _ _ _ q=>ge_int q
theorem gM (b:Expr){op:CmpOp}(h:autoParam (op≠.In) z8)(h2:autoParam (op≠.NotIn) z8):behindInMarks op b=false:=by
 have e1:(op == CmpOp.In)=false:=by cases op <;> first | rfl | exact absurd rfl h
 have e2:(op == CmpOp.NotIn)=false:=by cases op <;> first | rfl | exact absurd rfl h2
 cases b <;> simp[behindInMarks,e1,e2]
theorem wF {op:CmpOp}{r:R2}(ho:ju X (compareOp op) r)(ha:PE X a ta)(hb:PE X b tb)(hm:behindInMarks op b=false):PE X (.Compare a [op] [b] pos) (AV r ta tb):=by
 intro pins s σ H Q I h;exact wpAny_Compare1 (yQ ha hb I h fun v u s2 x y H2 I2 rx ry q=>ho pins s2 σ H2 x y v u Q I2 rx ry q) hm
def A4 (t:TE):TT:=fun σ H Q=>t σ H fun x H'=>∃ k,x=.bl k/\Q k H'
theorem wG {op:CmpOp}{r:R2}(ho:ju X (compareOp op) r)(ha:PE X a ta)(hb:PE X b tb)(hm:behindInMarks op b=false):PT X (.Compare a [op] [b] pos) (A4 (AV r ta tb)):=by
 intro pins s σ H Q I h;refine wpAny_isTrue_Compare1 (da (ha pins s σ H _ I h) fun v s1 ⟨x,H1,I1,r1,q1⟩=>da (hb pins s1 σ H1 _ I1 q1) fun u s2 ⟨y,H2,I2,r2,q2⟩=>
   da (ho pins s2 σ H2 x y v u _ I2 r1 r2 q2) fun c s3 ⟨z,H3,I3,r3,k,e,q3⟩=>?_) hm
 subst e;cases r3;exact wpAny_truthy_bool ⟨H3,I3,q3⟩
theorem mZ:(sizeLine:Nat) < 2 ^ 63:=by rw[sizeLine_eq];decide
theorem vals1 {x:V}{us:List Value}(r:Vals [x] us):∃ u,us=[u]/\RelV x u:=by
 cases r with
 | cons r1 r2=>cases r2;exact⟨_,rfl,r1⟩
theorem vals2 {x y:V}{us:List Value}(r:Vals [x,y] us):∃ u w',us=[u,w']/\RelV x u/\RelV y w':=by
 cases r with
 | cons r1 r2=>
   cases r2 with
   | cons r3 r4=>cases r4;exact⟨_,_,rfl,r1,r3⟩
theorem rL (hc:X.calm=true):kX X (.builtin "max") (fun xs H Q=>∃ i j,xs=[.int i,.int j]/\Q (.int (if j > i then j else i)) H):=by
 intro pins s σ H xs us Q I r h;obtain⟨i,j,rfl,q⟩:=h;obtain⟨u,w',rfl,⟨t,rfl⟩,⟨t',rfl⟩⟩:=vals2 r;refine max_two_ints (I.ok.hd hc) fun h' tk k=>⟨_,H,I.kept k,?_,q⟩
 by_cases hj:j > i
 . rw[if_pos hj,if_pos hj];exact⟨_,rfl⟩
 . rw[if_neg hj,if_neg hj];exact⟨_,rfl⟩
theorem rM (hc:X.calm=true):kX X (.builtin "min") (fun xs H Q=>∃ i j,xs=[.int i,.int j]/\Q (.int (if j < i then j else i)) H):=by
 intro pins s σ H xs us Q I r h;obtain⟨i,j,rfl,q⟩:=h;obtain⟨u,w',rfl,⟨t,rfl⟩,⟨t',rfl⟩⟩:=vals2 r;refine min_two_ints (I.ok.hd hc) fun h' tk k=>⟨_,H,I.kept k,?_,q⟩
 by_cases hj:j < i
 . rw[if_pos hj,if_pos hj];exact⟨_,rfl⟩
 . rw[if_neg hj,if_neg hj];exact⟨_,rfl⟩
end
structure pL (h:Heap)(x dx C:Addr)(mA:Str->Option Value):Prop where
 obj:h.get? x=some (W.instObj C dx)
 ns:h.Ns1 dx mA
 ne:dx≠x
theorem rN {h:Heap}{dx:Addr}{mA:Str->Option Value}(n:h.Ns1 dx mA):∃ od,h.get? dx=some od/\∀ name,W.lookIn name od=some (mA name):=by
 obtain⟨o,es,ep,ho,hd,hk,_,hm⟩:=n;refine⟨o,ho,fun name=>?_⟩;have e:=hm name;unfold nsFind findBy at e;rw[<- Array.find?_toList] at e;unfold W.lookIn;rw[hd];dsimp only
 split
 . rename_i y q
   rw[q] at e;exact congrArg some e
 . rename_i q
   rw[q] at e;have a:es.toList.any (·.refKey)=false:=by
     rw[List.any_eq_false];intro y hy;obtain⟨z,t,CW⟩:=hk y (Array.mem_toList_iff.mp hy);simp[DictEntry.refKey,CW]
   have a':¬ es.toList.any (·.refKey)=true:=by rw[a];exact FJ
   rw[if_neg a'];exact congrArg some e
theorem pL.look {h:Heap}{x dx C:Addr}{mA:Str->Option Value}(I:pL h x dx C mA):∃ od,W.InstAt h x (W.instObj C dx) C (some od)/\∀ name,W.lookIn name od=some (mA name):=
 let ⟨od,ho,hl⟩:=rN I.ns
 ⟨od,⟨I.obj,rfl,rfl,ho⟩,hl⟩
section
variable {prog:Program}{w:World}{A:Around}{E:Value->Shared->Prop}{s:Shared}{K:W.Frag}{x dx C f:Addr}{mA:Str->Option Value}{name:Str}{v:Value}
theorem get_map {expr:Bool}{Q:Value->Shared->Prop}(X:K.In s.heap)(I:pL s.heap x dx C mA)(hg:W.plainGet K C name=true)(hh:W.hasDictIn K C=true)(ha:W.findIn K (.ref C) name=some none)(hv:mA name=some v)(yX:W.handedIn v=true)(h:Q v { s with toks:=s.toks+1}):wpAny (model prog w) A (getAttr (.ref x) name expr) Q E s:=by
 obtain⟨od,J,hl⟩:=I.look;exact W.get_value X J (W.plainGet_of hg).1 (W.findObj_own hh ha rfl (by rw[hl,hv])) yX h
theorem tQ {pl:Sem Bool}{Q:Value×List Value->Shared->Prop}(X:K.In s.heap)(I:pL s.heap x dx C mA)(hg:W.plainGet K C name=true)(hf:W.findIn K (.ref C) name=some (some (.ref f)))(ht:W.isFn K (.ref f)=true)(hv:mA name=none)(h:Q (.ref f,[.ref x]) s):wpAny (model prog w) A (getMethod (.ref x) name pl) Q E s:=by
 obtain⟨od,J,hl⟩:=I.look;exact W.method_fn X J (W.plainGet_of hg).1 (W.plainGet_of hg).2 hf (beq_iff_eq.mp ht) (by show(W.lookIn name od).map (·.isSome)=some false;rw[hl,hv];rfl) h
theorem wH {ns:List Str}{Q:Unit->Shared->Prop}(X:K.In s.heap)(I:pL s.heap x dx C mA)
   (hs:W.findIn K (.ref C) "__setattr__"=some (some (.builtin "object.__setattr__"))) (hp:W.plainOver K C=true) (ht:W.takerIn K C name=some none) (hh:W.hasDictIn K C=true)
   (hw:PySem.Within mA ns) (En:ns.length<=sizeLine)
   (h:∀ h',pL h' x dx C (fun y=>if y=name then some v else mA y)->Heap.SameBut dx s.heap h'->Q () { s with heap:=h',toks:=s.toks+2}) :
   wpAny (model prog w) A (setAttr (.ref x) name v) Q E s:=by
 obtain⟨od,J,hl⟩:=I.look;refine W.set_plain X J hs (W.osa_open (s:={ s with toks:=s.toks+1}) (r:=none) X J hp ht fun b=>?_);obtain⟨cd,hc,CC⟩:=W.any_some hh;have hx:s.heap.get? x=some ⟨.ref C,some dx,.plain,#[]⟩:=I.obj;refine wpAny_bind (wpAny_pure (wpAny_bind (wpAny_bind (wpAny_loadPart hx (wpAny_bind (W.Looks.here (s:={ s with toks:=s.toks+1}) (W.looks_clsIn X hc) ?_))))));rw[CC];refine wpAny_pure (a:=some dx) (wpAny_bind (wpAny_pure (wpAny_bind ?_)));refine wpAny_nsSet1 (s:={ s with toks:=s.toks+1}) I.ns fun h' Ar AS=>?_
 obtain⟨oD,Hn,Ho,FF,FG,wI⟩:=Ar.count (PySem.Within.cons name v hw);refine wpAny_bind (wpAny_lookBehind FF (by rw[FG];exact pastItsLine_dict (Ik wI (by rw[Ir];omega))) ?_);exact wpAny_pure (h _ ⟨(AS.2 _ (Ne.symm I.ne)).trans I.obj,Ar,I.ne⟩ AS)
theorem tR {R:Result->Shared->Prop}{vs:List Value}{kw:List (Str×Value)}(X:K.In s.heap)(hm:W.makesIn K C=true)(hi:W.findIn K (.ref C) "__init__"=some (some (.ref f)))(hf:W.typeIn K (.ref f)=some (.type "function"))(h:codeAny (model prog w) (A.under (.builtin "type.__call__" ⟨.ref C::vs,kw⟩)) (.call (.ref f) ⟨.ref (s.heap.objs.size+1)::vs,kw⟩) (W.InitBack (s.heap.objs.size+1) R) { s with heap:=(s.heap.push W.emptyDict).push (W.instObj C s.heap.objs.size)}):codeAny (model prog w) A (.call (.ref C) ⟨vs,kw⟩) R s:=by
 obtain⟨hh,g,d,t,os⟩:=s;exact W.make_core (W.makes_of X hm) (W.looks_findIn X hi) (fun self=>W.bind_fn X self hf) (.inl rfl) h
theorem rO {R:Result->Shared->Prop}(X:K.In s.heap)(hm:W.makesIn K C=true)(hi:W.findIn K (.ref C) "__init__"=some (some (.builtin "object.__init__")))(hb:∀ self,W.Looks (model prog w) s.heap (bindSpecial (.builtin "object.__init__") self) (.builtin "object.__init__",[self]))(h:codeAny (model prog w) (A.under (.builtin "type.__call__" ⟨[.ref C],[]⟩)) (.call (.builtin "object.__init__") ⟨[.ref (s.heap.objs.size+1)],[]⟩) (W.InitBack (s.heap.objs.size+1) R) { s with heap:=(s.heap.push W.emptyDict).push (W.instObj C s.heap.objs.size)}):codeAny (model prog w) A (.call (.ref C) ⟨[],[]⟩) R s:=by
 obtain⟨hh,g,d,t,os⟩:=s;exact W.make_core (W.makes_of X hm) (W.looks_findIn X hi) hb (.inr ⟨rfl,rfl⟩) h
end
noncomputable def gH (f:Str)(v:V):List (Str×V)->List (Str×V)
 | []=>[(f,v)]
 | (g,x)::r=>if g=f then (g,v)::r else (g,x)::gH f v r
theorem jS (f g:Str)(v:V):∀ fs:List (Str×V),(gH f v fs).lookup g=if g=f then some v else fs.lookup g
 | []=>by
   show IB g [(f,v)]=_;by_cases h:g=f
   . have hb:(g == f)=true:=beq_iff_eq.mpr h
     simp only[IB,hb,if_pos h]
   . have hb:(g == f)=false:=beq_eq_false_iff_ne.mpr h
     simp only[IB,hb,if_neg h]
 | (k,x)::r=>by
   have ih:=jS f g v r;rw[show gH f v ((k,x)::r)=(if k=f then (k,v)::r else (k,x)::gH f v r) from rfl];by_cases hk:k=f
   . rw[if_pos hk]
     by_cases h:g=k
     . have hb:(g == k)=true:=beq_iff_eq.mpr h
       simp only[IB,hb,if_pos (h.trans hk)]
     . have hb:(g == k)=false:=beq_eq_false_iff_ne.mpr h
       simp only[IB,hb,if_neg (fun e:g=f=>h (e.trans hk.symm))]
   . rw[if_neg hk]
     by_cases h:g=k
     . have hb:(g == k)=true:=beq_iff_eq.mpr h
       simp only[IB,hb,if_neg (fun e:g=f=>hk (h.symm.trans e))]
     . have hb:(g == k)=false:=beq_eq_false_iff_ne.mpr h
       simp only[IB,hb];exact ih
theorem jv (f:Str)(v:V):∀ fs:List (Str×V),f∈(gH f v fs).map (·.1)/\∀ g,g∈fs.map (·.1)->g∈(gH f v fs).map (·.1)
 | []=>⟨by simp[gH],fun g h=>by simp at h⟩
 | (k,x)::r=>by
   obtain⟨i1,i2⟩:=jv f v r;rw[show gH f v ((k,x)::r)=(if k=f then (k,v)::r else (k,x)::gH f v r) from rfl];by_cases hk:k=f
   . rw[if_pos hk]
     subst hk;exact⟨by simp,fun g h=>by simpa using h⟩
   . rw[if_neg hk]
     refine⟨?_,fun g h=>?_⟩
     . rw[HV]
       exact HB _ i1
     . rw[HV] at h ⊢
       rcases Im.mp h with e | e
       . exact Im.mpr (.inl e)
       . exact HB _ (i2 g e)
theorem jT (f:Str)(v:V):∀ fs:List (Str×V),(gH f v fs).length<=fs.length+1
 | []=>by simp[gH]
 | (k,x)::r=>by
   have ih:=jT f v r;rw[show gH f v ((k,x)::r)=(if k=f then (k,v)::r else (k,x)::gH f v r) from rfl];by_cases hk:k=f
   . rw[if_pos hk,Ir,Ir];omega
   . rw[if_neg hk,Ir,Ir];omega
theorem l6.some_of {v:V}{o:Option Value}(r:l6 (some v) o):∃ u,o=some u/\RelV v u:=by
 cases o with
 | none=>exact(show False from r).elim
 | some u=>exact⟨u,rfl,r⟩
theorem l6.none_of {o:Option Value}(r:l6 none o):o=none:=by
 cases o with
 | none=>rfl
 | some u=>exact(show False from r).elim
theorem rP {v:V}{u:Value}(r:RelV v u):W.handedIn u=true:=by
 cases v with
 | b4=>cases (show u=Value.none from r);rfl
 | bl b=>cases (show u=Value.bool b from r);rfl
 | int i=>obtain⟨t,e⟩:=(show ∃ t,u=Value.int i t from r);cases e;rfl
 | str x=>obtain⟨t,e⟩:=(show ∃ t,u=Value.str x t from r);cases e;rfl
 | sY b=>obtain⟨t,e⟩:=(show ∃ t,u=Value.bytes b t from r);cases e;rfl
 | yC b=>obtain⟨t,e⟩:=(show ∃ t,u=Value.float b t from r);cases e;rfl
 | ref a=>cases (show u=Value.ref a from r);rfl
 | ty n=>cases (show u=Value.type n from r);rfl
section
variable {P:Program}{w:World}{H:Hp}{h:Heap}{a C dx:Addr}{fs:List (Str×V)}
theorem kg (cL:jQ P w H h)(e:Rd H a (.ins C dx fs)):∃ mA,pL h a dx C mA/\(∀ f,l6 (fs.lookup f) (mA f))/\PySem.Within mA (fs.map (·.1))/\fs.length<=1000/\H dx=some (.own a):=by
 obtain⟨d,z,ne,ob,mA,n,r,q⟩:=(show bI P w H h a (.ins C dx fs) from e.ok cL)
 exact⟨mA,⟨ob,n,ne⟩,r,q,z,d⟩
end
structure mD (K:W.Frag)(C:Addr):Prop where
 pg:W.plainGet K C Str.empty=true
 hd:W.hasDictIn K C=true
 po:W.plainOver K C=true
 sa:W.findIn K (.ref C) "__setattr__"=some (some (.builtin "object.__setattr__"))
theorem mD.get {K:W.Frag}{C:Addr}(c:mD K C)(f:Str):W.plainGet K C f=true:=c.pg
def cM (K:W.Frag)(C:Addr)(f:Str):Prop:=W.findIn K (.ref C) f=some none
theorem cM.A5 {K:W.Frag}{C:Addr}{f:Str}(n:cM K C f):W.takerIn K C f=some none:=by
 unfold W.takerIn;rw[show W.findIn K (.ref C) f=some none from n];rfl
structure Hq (K:W.Frag)(C:Addr)(f:Str)(v:V)(u:Value):Prop where
 at_:W.findIn K (.ref C) f=some (some u)
 rel:RelV v u
 get:W.specialIn K u "__get__"=some none
 cp:W.copiedNames.contains f=false
structure Meth (K:W.Frag)(C:Addr)(m:Str)(f:Addr):Prop where
 at_:W.findIn K (.ref C) m=some (some (.ref f))
 fn:W.isFn K (.ref f)=true
 kp:W.keepIn K (.ref f)=true
section
variable {X:Cx}{pins:List (Addr×Obj)}{σ:St}{H:Hp}{s:Shared}{a C dx:Addr}{fs:List (Str×V)}{f:Str}{v:V}{A:Around}{E:Value->Shared->Prop}
theorem pM {b:Bool}{Q:Value->Shared->Prop}(I:Inv X pins σ H s)(e:Rd H a (.ins C dx fs))(c:mD X.K C)(n:cM X.K C f)(l:fs.lookup f=some v)(h:∀ u s',Inv X pins σ H s'->RelV v u->Q u s'):wpAny (model X.prog X.w) A (getAttr (.ref a) f b) Q E s:=by
 obtain⟨mA,O,r,_,_,_⟩:=kg I.cL e;obtain⟨u,hu,ru⟩:=l6.some_of (v:=v) (o:=mA f) (by rw[<- l];exact r f);exact get_map I.fO O (c.get f) c.hd n hu (rP ru) (h u _ (I.tok _) ru)
theorem kY {m:Str}{g:Addr}{pl:Sem Bool}{Q:Value×List Value->Shared->Prop}(I:Inv X pins σ H s)(e:Rd H a (.ins C dx fs))(c:mD X.K C)(k:Meth X.K C m g)(l:fs.lookup m=none)(h:Q (.ref g,[.ref a]) s):wpAny (model X.prog X.w) A (getMethod (.ref a) m pl) Q E s:=by
 obtain⟨mA,O,r,_,_,_⟩:=kg I.cL e;have hn:mA m=none:=l6.none_of (by rw[<- l];exact r m);exact tQ I.fO O (c.get m) k.at_ k.fn hn h
theorem pN {y:V}{u:Value}{Q:Unit->Shared->Prop}(I:Inv X pins σ H s)(e:H a=some (.ins C dx fs))(c:mD X.K C)(n:cM X.K C f)(hl:fs.length < 1000)(ry:RelV y u)(h:∀ s',Inv X pins σ (upd H a (.ins C dx (gH f y fs))) s'->Q () s'):wpAny (model X.prog X.w) A (setAttr (.ref a) f u) Q E s:=by
 obtain⟨mA,O,r,wi,_,ho⟩:=kg I.cL (.of e);have hz:(fs.map (·.1)).length<=sizeLine:=by rw[k3,sizeLine_eq];omega
 refine wH I.fO O c.sa c.po n.A5 c.hd wi hz fun h' O' sb=>h _ ?_
 have hd:∃ o,h'.get? dx=some o:=let ⟨o,_,_,e',_⟩:=O'.ns;⟨o,e'⟩;refine I.write (x:=a) (e:=dx) (by rw[e];exact True.intro) (.inr ho) (fun b q hb z=>(sb.2 b hb).trans z) hd ?_;refine⟨by rw[ar O.ne];exact ho,?_,O.ne,O'.obj,_,O'.ns,fun g=>?_,fun g hg=>?_⟩
 . have:=jT f y fs;omega
 . show l6 ((gH f y fs).lookup g) (if g=f then some u else mA g)
   rw[jS];by_cases q:g=f
   . rw[if_pos q,if_pos q];exact ry
   . rw[if_neg q,if_neg q];exact r g
 . by_cases q:g=f
   . rw[q];exact(jv f y fs).1
   . refine(jv f y fs).2 g (wi g fun z=>hg ?_)
     show(if g=f then some u else mA g)=none;rw[if_neg q];exact z
theorem Inv.made (I:Inv X pins σ H s):Inv X pins σ (upd (upd H s.heap.objs.size (.own (s.heap.objs.size+1))) (s.heap.objs.size+1) (.ins C s.heap.objs.size [])) { s with heap:=(s.heap.push W.emptyDict).push (W.instObj C s.heap.objs.size)}:=by
 have e1:(s.heap.push W.emptyDict).get? s.heap.objs.size=some W.emptyDict:=HP s.heap rfl;have e2:((s.heap.push W.emptyDict).push (W.instObj C s.heap.objs.size)).get? (s.heap.objs.size+1)=some (W.instObj C s.heap.objs.size):=by
   have:=HP (s.heap.push W.emptyDict) (o:=W.instObj C s.heap.objs.size) rfl
   rwa [IQ] at this
 have e3:(s.heap.push W.emptyDict).Ns s.heap.objs.size (fun _=>none):=⟨W.emptyDict,#[],_,e1,rfl,(fun e he=>absurd he (by simp)),fun _=>rfl⟩
 have I1:=I.laid (a:=s.heap.objs.size) (o:=.own (s.heap.objs.size+1)) (h':=s.heap.push W.emptyDict) (t':=s.toks) (fun b u q=>Hm _ q) (Hr _) ⟨_,e1⟩;refine I1.laid (a:=s.heap.objs.size+1) (o:=.ins C s.heap.objs.size []) (t':=s.toks) (fun b u q=>Hm _ q) (Nat.le_of_eq (IQ _ _)) ?_;have ne:s.heap.objs.size≠s.heap.objs.size+1:=HM (IE _);refine⟨by rw[ar ne,au],Iw _,ne,e2,fun _=>none,(Heap.Ns1.of_empty e3).at fun o q=>Hm _ q,fun _=>True.intro,fun y hy=>absurd rfl hy⟩
theorem wJ {prog:Program}{w:World}{env:Env}{e:Expr}{f:Str}{pos:Pos}{s:Shared}{Q:Value->Shared->Prop}(hb:attributeBase e f env (eval e env)=eval e env)(h:wpAny (model prog w) A (eval e env) (fun o s₁=>wpAny (model prog w) A (getAttr o f true) Q E s₁) E s):wpAny (model prog w) A (eval (.Attribute e f pos) env) Q E s:=
 Attribute_any_ h (by rw[arm_eval_Attribute,hb])
end
def CY (K:PySem.W.Frag)(ta:TE)(f:Str):TE:=fun σ H Q=>ta σ H fun x H1=>∃ a C dx fs v,x=.ref a/\Rd H1 a (.ins C dx fs)/\mD K C/\cM K C f/\fs.lookup f=some v/\Q v H1
def CZ (K:PySem.W.Frag)(ta tv:TE)(f:Str):TS:=fun D σ H=>tv σ H fun y H1=>ta σ H1 fun x H2=>∃ a C dx fs,x=.ref a/\H2 a=some (.ins C dx fs)/\mD K C/\cM K C f/\fs.length < 1000 /\
 D.nx σ (upd H2 a (.ins C dx (gH f y fs)))
section
variable {X:Cx}{o e value:Expr}{f:Str}{pos pos':Pos}{ta tv:TE}
theorem yY (he:PE X e ta)(hb:attributeBase e f X.env (eval e X.env)=eval e X.env):PE X (.Attribute e f pos) (CY X.K ta f):=by
 intro pins s σ H Q I h;refine wJ hb (da (he pins s σ H _ I h) fun u s1 ⟨x,H1,I1,rx,a,C,dx,fs,v,ex,ea,c,n,l,q⟩=>?_);subst ex;obtain rfl:u=Value.ref a:=rx;exact pM I1 ea c n l fun u' s2 I2 ru=>⟨v,H1,I2,ru,q⟩
theorem yZ (ha:PE X o ta)(hv:PE X value tv)(hs:swapsWith value (some (.Attribute o f pos')) pos.line X.env=pure false):PS X (.Assign [.Attribute o f pos'] value pos) (CZ X.K ta tv f):=by
 intro pins s σ H D I h;refine plainObj_wpAny_Assign_Attribute (da (hv pins s σ H _ I h) fun u s1 ⟨y,H1,I1,ry,q⟩=>da (ha pins s1 σ H1 _ I1 q) fun ov s2 ⟨x,H2,I2,rx,a,C,dx,fs,ex,ea,c,n,l,q2⟩=>?_) hs;subst ex;obtain rfl:ov=Value.ref a:=rx;exact pN I2 ea c n l ry fun s3 I3=>⟨σ,_,I3,q2⟩
end
section
variable {X:Cx}{pins:List (Addr×Obj)}{σ:St}{H:Hp}{s:Shared}{A:Around}{E:Value->Shared->Prop}{Q:Value->Shared->Prop}{c:Value}{b:Bool}
inductive jX (K:W.Frag)(H:Hp):V->Value->Prop where
 | b4:jX K H .b4 (.type "NoneType")
 | bl (x:Bool):jX K H (.bl x) (.type "bool")
 | int (i:Int):jX K H (.int i) (.type "int")
 | str (x:Str):jX K H (.str x) (.type "str")
 | yC (x:UInt64):jX K H (.yC x) (.type "float")
 | lst {a:Addr} {xs:List V} (e:H a=some (.lst xs)):jX K H (.ref a) (.type "list")
 | bH {a:Addr} {o:Obj} {xs:List V} (e:H a=some (.bH o (.lst xs))):jX K H (.ref a) (.type "list")
 | tup {a:Addr} {xs:List V} (e:H a=some (.tup xs)):jX K H (.ref a) (.type "tuple")
 | dK {a:Addr} {kvs:List (Key×V)} (e:H a=some (.dK kvs)):jX K H (.ref a) (.type "dict")
 | dT {a:Addr} {kvs:List (List Key×V)} (e:H a=some (.dT kvs)):jX K H (.ref a) (.type "dict")
 | ins {a C dx:Addr} {fs:List (Str×V)} (e:Rd H a (.ins C dx fs)) (cl:mD K C) (ha:W.findIn K (.ref C) "__class__"=some (some (.builtin "object.__class__")))
     (hn:W.specialIn K (.builtin "object.__class__") "__get__"=some (some (.builtin "getset_descriptor.__get__"))) (za:W.takesIn K (.builtin "object.__class__")=some true)
     (hm:W.mroIn K C (.type "object")=some true):jX K H (.ref a) (.ref C)
theorem jw {x:V}{u t:Value}(I:Inv X pins σ H s)(rx:RelV x u)(ty:jX X.K H x t)(e:W.kitOne X.K t c=some b)(h:∀ tk,Q (.bool b) { s with toks:=tk}):wpAny (model X.prog X.w) A (call (.builtin "isinstance") [u,c]) Q E s:=by
 cases ty with
 | b4=>cases (show u=Value.none from rx);exact W.kia_one W.kitx_none I.fO True.intro e (fun z=>nomatch z) h
 | bl y=>cases (show u=Value.bool y from rx);exact W.kia_one W.kitx_bool I.fO True.intro e (fun z=>nomatch z) h
 | int i=>obtain⟨t,q⟩:=(show ∃ t,u=Value.int i t from rx);cases q;exact W.kia_one W.kitx_int I.fO True.intro e (fun z=>nomatch z) h
 | str y=>obtain⟨t,q⟩:=(show ∃ t,u=Value.str y t from rx);cases q;exact W.kia_one W.kitx_str I.fO True.intro e (fun z=>nomatch z) h
 | yC y=>obtain⟨t,q⟩:=(show ∃ t,u=Value.float y t from rx);cases q;exact W.kia_one W.kitx_float I.fO True.intro e (fun z=>nomatch z) h
 | @lst a xs ea=>
   cases (show u=Value.ref a from rx);obtain⟨_,_,n,_,h1⟩:=(show bI X.prog X.w H s.heap a (.lst xs) from I.cL a _ ea)
   exact W.kia_one W.kitx_list I.fO ⟨_,h1,rfl⟩ e (fun z=>nomatch z) h
 | @bH a ob xs ea=>
   cases (show u=Value.ref a from rx);obtain⟨_,_,_,n,_,h1⟩:=(show bI X.prog X.w H s.heap a (.bH ob (.lst xs)) from I.cL a _ ea)
   exact W.kia_one W.kitx_list I.fO ⟨_,h1,rfl⟩ e (fun z=>nomatch z) h
 | @tup a xs ea=>
   cases (show u=Value.ref a from rx);obtain⟨_,_,_,p⟩:=(show bI X.prog X.w H s.heap a (.tup xs) from I.cL a _ ea)
   obtain⟨o,h1,h2,_⟩:=p;exact W.kia_one W.kitx_tuple I.fO ⟨o,h1,h2⟩ e (fun z=>nomatch z) h
 | @dK a kvs ea=>
   cases (show u=Value.ref a from rx);obtain⟨_,_,vs,_,p⟩:=(show bI X.prog X.w H s.heap a (.dK kvs) from I.cL a _ ea)
   obtain⟨o,es,ep,h1,h2,_⟩:=p;exact W.kia_one W.kitx_dict I.fO ⟨o,h1,h2.1⟩ e (fun z=>nomatch z) h
 | @dT a kvs ea=>
   cases (show u=Value.ref a from rx);obtain⟨_,_,xs,_,o,es,ep,h1,h2,_⟩:=(show bI X.prog X.w H s.heap a (.dT kvs) from I.cL a _ ea)
   exact W.kia_one W.kitx_dict I.fO ⟨o,h1,h2.1⟩ e (fun z=>nomatch z) h
 | @ins a C dx fs ea cl ha hn za hm=>
   cases (show u=Value.ref a from rx);obtain⟨mA,O,_⟩:=kg I.cL ea;obtain⟨od,J,_⟩:=O.look;exact W.kia_one (W.kitx_own (cl.get _) cl.hd ha hn za hm) I.fO J e (fun z=>nomatch z) h
end
structure b5 (k:Nat)(A:Around):Prop where
 hd:A.handled=none
 dp:A.depth+3 * k+5 < recursionLimit
 un:A.units+16 * k+200 < cLine
theorem b5.mono {j k:Nat}{A:Around}(r:b5 k A)(h:j<=k):b5 j A:=⟨r.hd,by have:=r.dp;omega,by have:=r.un;omega⟩
theorem b5.deeper {k:Nat}{A:Around}(r:b5 (k+1) A)(env:Env):b5 k (A.deeper env):=
 ⟨r.hd,by have:=r.dp;show A.depth+1+3 * k+5 < _;omega,by have:=r.un;show A.units+3+16 * k+200 < _;omega⟩
theorem pO {A:Around}{C:Addr}{us:List Value}{kw:List (Str×Value)}:(A.under (.builtin "type.__call__" ⟨.ref C::us,kw⟩)).depth=A.depth+1:=by
 first | rfl | simp[Around.under,Code.weight,Code.isCreation,Code.isGuard,Code.isCaller,Code.frames,Code.isFrame,guardIds]
theorem pP {A:Around}{C:Addr}{us:List Value}{kw:List (Str×Value)}:(A.under (.builtin "type.__call__" ⟨.ref C::us,kw⟩)).units=A.units+1:=by
 first | rfl | simp[Around.under,Code.cUnits,Code.frames,Code.isFrame]
theorem b5.make {k:Nat}{A:Around}(r:b5 (k+1) A)(C:Addr)(us:List Value)(kw:List (Str×Value)):b5 k (A.under (.builtin "type.__call__" ⟨.ref C::us,kw⟩)):=
 ⟨r.hd,by have:=r.dp;rw[pO];omega,by have:=r.un;rw[pP];omega⟩
theorem b5.depth {k:Nat}{A:Around}(r:b5 k A):A.depth < recursionLimit:=by have:=r.dp;omega
theorem b5.units {k:Nat}{A:Around}(r:b5 k A):A.units+64 < cLine:=by have:=r.un;omega
def A6:TA:=fun _ H Q=>Q [] H
def A7 (ta:TE)(tr:TA):TA:=fun σ H Q=>ta σ H fun x H1=>tr σ H1 fun xs H2=>Q (x::xs) H2
section
variable {X:Cx}{e:Expr}{es:List Expr}{te:TE}{t:TA}{pos:Pos}
theorem tS:PA X [] A6:=fun _ _ _ _ H Q I h=>Calls.spliced_nil ⟨[],H,I,.nil,h⟩
theorem eX (ha:PE X e te)(hr:PA X es t)(hs:autoParam (starEach (e::es) X.env=(false,eval e X.env)::starEach es X.env) jp):PA X (e::es) (A7 te t):=by
 intro pos pins s σ H Q I h;rw[hs];show wpAny _ _ (spliced ((false,eval e X.env)::backTo pos (starEach es X.env))) _ _ s;refine Calls.spliced_cons (da (ha pins s σ H _ I h) fun u s1 ⟨x,H1,I1,r1,q1⟩=>?_);exact da (hr pos pins s1 σ H1 _ I1 q1) fun us s2 ⟨xs,H2,I2,r2,q2⟩=>⟨x::xs,H2,I2,.cons r1 r2,q2⟩
def C0 (t:TA):TE:=fun σ H Q=>t σ H fun xs H1=>xs.length<=sizeLine/\∀ p,H1 p=none->Q (.ref p) (upd H1 p (.tup xs))
def C1 (t:TA):TE:=fun σ H Q=>t σ H fun xs H1=>xs.length<=sizeLine/\∀ p,H1 p=none->Q (.ref p) (upd H1 p (.lst xs))
theorem tT {x1}(h:PA X es t):PE X (.Tuple es x1 pos) (C0 t):=by
 intro pins s σ H Q I hq;refine wpAny_Tuple_spliced (da (h pos pins s σ H _ I hq) fun us s1 ⟨xs,H1,I1,r,z,q⟩=>⟨by rw[<- r.length];exact z,?_⟩);have hf:H1 s1.heap.objs.size=none:=I1.cL.fresh (Hr _);refine⟨.ref s1.heap.objs.size,upd H1 s1.heap.objs.size (.tup xs),I1.laid (t':=s1.toks) (fun b u e=>Hm _ e) (Hr _) ?_,rfl,q _ hf⟩;exact⟨z,us,r,⟨_,HP _ rfl,rfl,_,rfl⟩⟩
theorem tU (h:PA X es t):PE X (.List es pos) (C1 t):=by
 intro pins s σ H Q I hq;refine wpAny_List_spliced (da (h pos pins s σ H _ I hq) fun us s1 ⟨xs,H1,I1,r,z,q⟩=>⟨by rw[<- r.length];exact z,?_⟩);have hf:H1 s1.heap.objs.size=none:=I1.cL.fresh (Hr _);refine⟨.ref s1.heap.objs.size,upd H1 s1.heap.objs.size (.lst xs),I1.laid (t':=s1.toks) (fun b u e=>Hm _ e) (Hr _) ?_,rfl,q _ hf⟩;exact⟨z,us,0,r,HP _ rfl⟩
end
abbrev Sp:=List V->Hp->VK->XK->Prop
abbrev jr:=List Env->Hp->Shared->XK->Value->Shared->Prop
structure oC (P:Program)(w:World)(K:W.Frag)(mg:Str->Option Value)(base:Heap)(A:Around)(outer:List Env)(s:Shared)(H:Hp):Prop where
 frames:A.frames=some outer
 mod:Mod K mg base
 bs:∀ b o,base.get? b=some o->s.heap.get? b=some o/\H b=none
 x5:base.objs.size<=s.heap.objs.size
 kS:s.heap.FunFrames base outer
 Ao:∀ b∈tx outer,H b=none
 cL:jQ P w H s.heap
 bare:AllBare s.gens
def CE (outer:List Env)(P:Program)(w:World)(H:Hp)(s:Shared)(Q:VK)(u:Value)(s':Shared):Prop:=
 ∃ v H',s'.os=s.os/\AllBare s'.gens/\Un (tx outer) [] H H' s.heap s'.heap/\jQ P w H' s'.heap/\RelV v u/\Q v H'
def CR (CX:jr)(outer:List Env)(P:Program)(w:World)(H:Hp)(s:Shared)(Q:VK)(E:XK)(r:Result)(s':Shared):Prop:=
 match r with
 | .ok (.ret u)=>CE outer P w H s Q u s'
 | .ok _=>False
 | .error e=>CX outer H s E e s'
structure dA (P:Program)(w:World)(K:W.Frag)(mg:Str->Option Value)(base:Heap)(CX:jr)(k:Nat)(f:Addr)(fd:FuncData)(ps:List Str)(sp:Sp):Prop where
 len:∀ vs H Q E,sp vs H Q E->vs.length=ps.length
 run:∀ (A:Around) (outer:List Env) (s:Shared) (H:Hp) (args:Args) (us:List Value) (vs:List V) (Q:VK) (E:XK),b5 k A->oC P w K mg base A outer s H->BindsTo s fd args (ps.zip us)->Vals vs us->sp vs H Q E ->
   codeAny (model P w) A (.call (.ref f) args) (CR CX outer P w H s Q E) s
theorem oC.make {P:Program}{w:World}{K:W.Frag}{mg:Str->Option Value}{base:Heap}{A:Around}{outer:List Env}{s:Shared}{H:Hp}(e:oC P w K mg base A outer s H)(C:Addr)(us:List Value)(kw:List (Str×Value)):oC P w K mg base (A.under (.builtin "type.__call__" ⟨.ref C::us,kw⟩)) outer s H:=⟨by first | exact e.frames | (simpa [Around.under,Code.envs,Code.isFrame,pushEnvs] using e.frames),e.mod,e.bs,e.x5,e.kS,e.Ao,e.cL,e.bare⟩
section
variable {X:Cx}{pins:List (Addr×Obj)}{σ:St}{H:Hp}{s s':Shared}
theorem Inv.A8 (I:Inv X pins σ H s):oC X.prog X.w X.K X.mg X.base X.A X.stack s H:=
 ⟨I.ok.frames,I.ok.mod,I.bs,Ik I.ok.x5 I.sz,I.stack,I.qr,I.cL,I.bare⟩
theorem Inv.after {Q:VK}{u:Value}(I:Inv X pins σ H s)(h:CE X.stack X.prog X.w H s Q u s'):EP X pins σ Q u s':=by
 obtain⟨v,H',os,bare,un,cL,r,q⟩:=h;obtain⟨hh,g,d,t,FI⟩:=s';obtain rfl:FI=s.os:=os;exact⟨v,H',I.call (h':=hh) (g':=g) (d':=d) (t':=t) (ch:=[]) un cL bare (fun b z=>absurd z (by simp)),r,q⟩
end
def A9 (sp:Sp)(dvs:List V)(E:XK)(t:TA):TE:=fun σ H Q=>t σ H fun vs H1=>sp (vs ++ dvs) H1 Q E
def yh (C:Addr)(m:Str)(sp:Sp)(dvs:List V)(E:XK)(ta:TE)(t:TA):TE:=fun σ H Q=>ta σ H fun x H1=>∃ a dx fs,x=.ref a/\Rd H1 a (.ins C dx fs)/\fs.lookup m=none /\
 t σ H1 fun vs H2=>sp (x::(vs ++ dvs)) H2 Q E
def Ba (C:Addr)(sp:Sp)(dvs:List V)(E:XK)(t:TA):TE:=fun σ H Q=>t σ H fun vs H1=>∀ x dx,H1 x=none->H1 dx=none->dx≠x ->
 sp (.ref x::(vs ++ dvs)) (upd (upd H1 dx (.own x)) x (.ins C dx [])) (fun v H2=>v=.b4/\Q (.ref x) H2) E
def Binds (K:PySem.W.Frag)(fd:FuncData)(ps:List Str)(ds:List Value):Prop:=
 ∀ (s:Shared) (us:List Value),K.In s.heap->(us ++ ds).length=ps.length->BindsTo s fd ⟨us,[]⟩ (ps.zip (us ++ ds))
theorem Binds.all {K:W.Frag}{fd:FuncData}{ps:List Str}(h:∀ us:List Value,us.length=ps.length->bindArgs fd ⟨us,[]⟩=pure (ps.zip us)):Binds K fd ps []:=fun s us _ hl=>by
 rw[Ii] at hl ⊢;exact .of_eq (h us hl)
def Passes (CX:jr)(X:Cx)(E:XK):Prop:=∀ (pins:List (Addr×Obj)) (σ:St) (H:Hp) (s:Shared) (e:Value) (s':Shared),Inv X pins σ H s->CX X.stack H s E e s'->X.xe e s'
section
variable {X:Cx}{CX:jr}{k:Nat}{f C:Addr}{fd:FuncData}{ps:List Str}{sp:Sp}{dvs:List V}{ds:List Value}{E:XK}{x m:Str}{p pos apos:Pos}{e o:Expr}{es:List Expr}{ta:TE}{t:TA}
theorem pQ {pins:List (Addr×Obj)}{σ:St}{H:Hp}{s:Shared}{Q:VK}{us:List Value}{vs:List V}(F:dA X.prog X.w X.K X.mg X.base CX k f fd ps sp)(hr:b5 k X.A)(hb:Binds X.K fd ps ds)(hd:Vals dvs ds)(hx:Passes CX X E)(I:Inv X pins σ H s)(r:Vals vs us)(h:sp (vs ++ dvs) H Q E):wpAny (model X.prog X.w) X.A (call (.ref f) us) (EP X pins σ Q) X.xe s:=by
 have r2:Vals (vs ++ dvs) (us ++ ds):=r.append hd;have hl:(us ++ ds).length=ps.length:=by rw[<- r2.length];exact F.len _ _ _ _ h
 refine wpAny_call (codeAny_mono (F.run X.A X.stack s H ⟨us,[]⟩ (us ++ ds) (vs ++ dvs) Q E hr I.A8 (hb s us I.fO hl) r2 h) fun r s' hq=>?_);cases r with
 | error e=>exact hx pins σ H s e s' I hq
 | ok fl=>
   cases fl with
   | ret u=>exact I.after hq
   | next=>exact False.elim hq
   | brk=>exact False.elim hq
   | cont=>exact False.elim hq
theorem qx (F:dA X.prog X.w X.K X.mg X.base CX k f fd ps sp)(hr:b5 k X.A)(hg:Gl X x)(hm:X.mg x=some (.ref f))(hk:W.keepIn X.K (.ref f)=true)(hb:Binds X.K fd ps ds)(hd:Vals dvs ds)(hx:Passes CX X E)(ha:PA X (e::es) t)(iG:autoParam ((x == ("__debug__":Str))=false) z8)(he:autoParam (starEach (e::es) X.env=(false,eval e X.env)::starEach es X.env) jp)(iw:autoParam ((backTo pos (starEach es X.env)).any (·.1)=false) jp):PE X (.Call (.Name x p) (e::es) [] pos) (A9 sp dvs E t):=by
 intro pins s σ H Q I h;refine wpAny_Call_Name_kw (ka I hg hm ?_ iG);refine W.callWith_K (h₀:=X.base) I.ok.mod.AD hk (da (ha pos pins s σ H _ I h) fun us s1 ⟨vs,H1,I1,r,q⟩=>⟨I1.fO,?_⟩) he iw;exact pQ F hr hb hd hx I1 r q
theorem qy {pl:Sem Bool}(he:PE X o ta)(c:mD X.K C)(hm:Meth X.K C m f)(F:dA X.prog X.w X.K X.mg X.base CX k f fd ps sp)(hr:b5 k X.A)(hb:Binds X.K fd ps ds)(hd:Vals dvs ds)(hx:Passes CX X E)(ha:PA X (e::es) t)
   (iV:autoParam (starEach (e::es) X.env=(false,eval e X.env)::starEach es X.env) jp) (iw:autoParam ((backTo pos (starEach es X.env)).any (·.1)=false) jp)
   (ht:autoParam (eval (.Call (.Attribute o m apos) (e::es) [] pos) X.env=(do
     let ov <- eval o X.env
     standAt apos.atName
     let (f,first) <- holding [ov] (getMethod ov m pl)
     callWith pos f first (backTo pos (starEach (e::es) X.env)) (backToKw pos (keywordEach [] X.env)))) jp) :
   PE X (.Call (.Attribute o m apos) (e::es) [] pos) (yh C m sp dvs E ta t):=by
 intro pins s σ H Q I h;refine W.methodCall_KW (pl:=pl) (da (he pins s σ H _ I h) fun u s1 ⟨x,H1,I1,rx,a,dx,fs,ex,ea,l,q⟩=>?_) ht;subst ex;obtain rfl:u=Value.ref a:=rx;refine kY I1 ea c hm l ?_;refine W.callWith_K (first:=[.ref a]) (h₀:=X.base) I.ok.mod.AD hm.kp (da (ha pos pins s1 σ H1 _ I1 q) fun us s2 ⟨vs,H2,I2,r,q2⟩=>⟨I2.fO,?_⟩) iV iw;exact pQ (us:=.ref a::us) (vs:=.ref a::vs) F hr hb hd hx I2 (.cons rfl r) q2
theorem kZ {pl:Sem Bool}(he:PE X o ta)(c:mD X.K C)(hm:Meth X.K C m f)(F:dA X.prog X.w X.K X.mg X.base CX k f fd ps sp)(hr:b5 k X.A)(hb:Binds X.K fd ps ds)(hd:Vals dvs ds)(hx:Passes CX X E)
   (ht:autoParam (eval (.Call (.Attribute o m apos) [] [] pos) X.env=(do
     let ov <- eval o X.env
     standAt apos.atName
     let (f,first) <- holding [ov] (getMethod ov m pl)
     callWith pos f first (backTo pos (starEach [] X.env)) (backToKw pos (keywordEach [] X.env)))) jp) :
   PE X (.Call (.Attribute o m apos) [] [] pos) (yh C m sp dvs E ta A6):=by
 intro pins s σ H Q I h;refine W.methodCall_KW (pl:=pl) (da (he pins s σ H _ I h) fun u s1 ⟨x,H1,I1,rx,a,dx,fs,ex,ea,l,q⟩=>?_) ht;subst ex;obtain rfl:u=Value.ref a:=rx;refine kY I1 ea c hm l ?_;exact W.callWith_K0 (first:=[.ref a]) I1.fO hm.kp (pQ (us:=[.ref a]) (vs:=[.ref a]) F hr hb hd hx I1 (.cons rfl .nil) q)
structure Mk (K:W.Frag)(C f:Addr):Prop where
 makes:W.makesIn K C=true
 init:W.findIn K (.ref C) "__init__"=some (some (.ref f))
 fn:W.isFn K (.ref f)=true
 kp:W.keepIn K (.ref C)=true
theorem tV {pins:List (Addr×Obj)}{σ:St}{H:Hp}{s:Shared}{Q:VK}{us:List Value}{vs:List V}(M:Mk X.K C f)(F:dA X.prog X.w X.K X.mg X.base CX k f fd ps sp)(hr:b5 (k+1) X.A)(hb:Binds X.K fd ps ds)(hd:Vals dvs ds)(hx:Passes CX X E)(I:Inv X pins σ H s)(r:Vals vs us)(h:∀ x dx,H x=none->H dx=none->dx≠x->sp (.ref x::(vs ++ dvs)) (upd (upd H dx (.own x)) x (.ins C dx [])) (fun v H2=>v=.b4/\Q (.ref x) H2) E):wpAny (model X.prog X.w) X.A (call (.ref C) us) (EP X pins σ Q) X.xe s:=by
 have hq:=h (s.heap.objs.size+1) s.heap.objs.size (I.cL.fresh (Nat.le_succ _)) (I.cL.fresh (Hr _)) (HM (IE _));have I2:=Inv.made (C:=C) I;have r2:Vals (V.ref (s.heap.objs.size+1)::(vs ++ dvs)) (Value.ref (s.heap.objs.size+1)::(us ++ ds)):=.cons rfl (r.append hd);have hl:(Value.ref (s.heap.objs.size+1)::us ++ ds).length=ps.length:=by
   have e:=r2.length;rw[F.len _ _ _ _ hq] at e;exact e.symm
 refine wpAny_call (tR (f:=f) I.fO M.makes M.init (beq_iff_eq.mp M.fn) (codeAny_mono (F.run _ X.stack _ _ ⟨Value.ref (s.heap.objs.size+1)::us,[]⟩ (Value.ref (s.heap.objs.size+1)::(us ++ ds)) _ _ E (hr.make C us [])
   (I2.A8.make C us []) (hb _ (Value.ref (s.heap.objs.size+1)::us) I2.fO hl) r2 hq) fun r s' Bb=>?_))
 cases r with
 | error e=>exact hx pins σ _ _ e s' I2 Bb
 | ok fl=>
   cases fl with
   | ret u=>
     obtain⟨v,H',I3,rv,ev,q3⟩:=I2.after Bb;subst ev;exact⟨rv,⟨V.ref (s.heap.objs.size+1),H',I3,rfl,q3⟩⟩
   | next=>exact False.elim Bb
   | brk=>exact False.elim Bb
   | cont=>exact False.elim Bb
theorem wK (M:Mk X.K C f)(F:dA X.prog X.w X.K X.mg X.base CX k f fd ps sp)(hr:b5 (k+1) X.A)(hg:Gl X x)(hm:X.mg x=some (.ref C))(hb:Binds X.K fd ps ds)(hd:Vals dvs ds)(hx:Passes CX X E)(ha:PA X (e::es) t)(iG:autoParam ((x == ("__debug__":Str))=false) z8)(he:autoParam (starEach (e::es) X.env=(false,eval e X.env)::starEach es X.env) jp)(iw:autoParam ((backTo pos (starEach es X.env)).any (·.1)=false) jp):PE X (.Call (.Name x p) (e::es) [] pos) (Ba C sp dvs E t):=by
 intro pins s σ H Q I h;refine wpAny_Call_Name_kw (ka I hg hm ?_ iG);refine W.callWith_K (h₀:=X.base) I.ok.mod.AD M.kp (da (ha pos pins s σ H _ I h) fun us s1 ⟨vs,H1,I1,r,q⟩=>⟨I1.fO,?_⟩) he iw;exact tV M F hr hb hd hx I1 r q
end
section
variable {fd:FuncData}{ps ks:List Str}
structure C2 (K:W.Frag)(fd:FuncData)(ps ks:List Str)(g:List Value->List Value->List Value)(gV:List V->List V->List V):Prop where
 to:∀ (s:Shared) (us ws:List Value),K.In s.heap->(g us ws).length=ps.length->BindsTo s fd ⟨us,ks.zip ws⟩ (ps.zip (g us ws))
 rel:∀ {vs:List V} {us:List Value} {zs:List V} {ws:List Value},Vals vs us->Vals zs ws->Vals (gV vs zs) (g us ws)
end
structure aq (N P:List Str)(sc:Scope):Prop where
 kind:sc.kind=.function
 co:sc.isCoroutine=false
 gen:sc.isGenerator=false
 nd:N.Nodup
 pre:N.take P.length=P
 par:∀ x∈P,sc.names.lookup x=some .local\/sc.names.lookup x=some .cell
 zb:∀ y∈sc.names,y.2≠.free
theorem mE {kindOf:Str->Option NameKind}{x:Str}:∀ {binds:List (Str×Value)} {m:Str->Option Value},(∀ v,(x,v) ∉ binds)->bindL kindOf binds m x=m x
 | [],_,_=>rfl
 | (n,v)::r,m,h=>by
   unfold bindL;rw[mE fun w hw=>h w (HB _ hw)]
   split
   . have:x≠n:=by rintro rfl;exact h v HU
     simp[this]
   . rfl
theorem mF {kindOf:Str->Option NameKind}{x:Str}:∀ {binds:List (Str×Value)} {m:Str->Option Value},(∀ v,(x,v) ∉ binds)->bindC kindOf binds m x=m x
 | [],_,_=>rfl
 | (n,v)::r,m,h=>by
   unfold bindC;rw[mF fun w hw=>h w (HB _ hw)]
   split
   . rfl
   . have:x≠n:=by rintro rfl;exact h v HU
     simp[this]
theorem mG {kindOf:Str->Option NameKind}{x:Str}{v:Value}:∀ {P:List Str} {vs:List Value} {i:Nat} {m:Str->Option Value},P.Nodup->P[i]?=some x->vs[i]?=some v->kindOf x=some .local->bindL kindOf (P.zip vs) m x=some v
 | [],_,_,_,_,h,_,_=>by simp at h
 | _::_,[],_,_,_,_,h,_=>by simp at h
 | p::P,w::vs,0,m,nd,h1,h2,hk=>by
   simp at h1 h2;subst h1;subst h2;show bindL kindOf ((p,w)::P.zip vs) m p=_;unfold bindL;rw[mE fun v hv=>(IL.mp nd).1 (List.of_mem_zip hv).1,if_pos hk];simp
 | p::P,w::vs,i+1,m,nd,h1,h2,hk=>by
   show bindL kindOf ((p,w)::P.zip vs) m x=_;unfold bindL;exact mG (i:=i) (IL.mp nd).2 (by simpa using h1) (by simpa using h2) hk
theorem mH {kindOf:Str->Option NameKind}{x:Str}{v:Value}:∀ {P:List Str} {vs:List Value} {i:Nat} {m:Str->Option Value},P.Nodup->P[i]?=some x->vs[i]?=some v->kindOf x≠some .local->bindC kindOf (P.zip vs) m x=some v
 | [],_,_,_,_,h,_,_=>by simp at h
 | _::_,[],_,_,_,_,h,_=>by simp at h
 | p::P,w::vs,0,m,nd,h1,h2,hk=>by
   simp at h1 h2;subst h1;subst h2;show bindC kindOf ((p,w)::P.zip vs) m p=_;unfold bindC;rw[mF fun v hv=>(IL.mp nd).1 (List.of_mem_zip hv).1,if_neg hk];simp
 | p::P,w::vs,i+1,m,nd,h1,h2,hk=>by
   show bindC kindOf ((p,w)::P.zip vs) m x=_;unfold bindC;exact mH (i:=i) (IL.mp nd).2 (by simpa using h1) (by simpa using h2) hk
noncomputable def start (N:List Str)(vs:List V):St:=vs.map some ++ FH (N.length - vs.length) none
noncomputable def oE (CX:jr)(P:Program)(w:World)(K:W.Frag)(mg:Str->Option Value)(base:Heap)(N:List Str)(qual:Str)(scope:Scope)(f:Addr)(cd:Value)(A:Around)(outer:List Env)(s:Shared)(H:Hp)(E:XK):Cx where
 prog:=P
 w:=w
 K:=K
 mg:=mg
 base:=base
 A:=A.deeper (envOfC qual scope s.heap.objs.size f cd)
 N:=N
 s₀:=s
 H₀:=H
 env:=envOfC qual scope s.heap.objs.size f cd
 outer:=outer
 stack:=envOfC qual scope s.heap.objs.size f cd::outer
 ex:=[]
 calm:=true
 fn:=fun _=>true
 pn:=[]
 xe:=fun e s'=>wpAny (model P w) (A.deeper (envOfC qual scope s.heap.objs.size f cd)) (leaving (envOfC qual scope s.heap.objs.size f cd) e) (fun _ Bc=>CX outer H s E e Bc) (fun e' Bc=>CX outer H s E e' Bc) s'
theorem oF {sc:Scope}{n:Nat}{x:Str}(h:sc.names.lookup x=some .cell):∃ c,(cellsFrom n sc.names []).lookup x=some c:=by
 have q:=W.cellsFrom_some sc.names n [] (.inl h);exact Iz.mp q
theorem rQ {CX:jr}{P:Program}{w:World}{K:W.Frag}{mg:Str->Option Value}{base:Heap}{N ps:List Str}{qual:Str}{scope:Scope}{f:Addr}{cd:Value}{A:Around}{outer:List Env}{s s1:Shared}{H:Hp}{E:XK}{us:List Value}{vs:List V}(S:aq N ps scope)(hd:A.handled=none)(e0:oC P w K mg base A outer s H)(hl:vs.length=ps.length)(r:Vals vs us)(x:InCallC s s.heap.objs.size (bindL (envOfC qual scope s.heap.objs.size f cd).kindOf (ps.zip us) fun _=>none) (cellsFrom (s.heap.objs.size+1) scope.names []) (bindC (envOfC qual scope s.heap.objs.size f cd).kindOf (ps.zip us) fun _=>none) s1):Inv (oE CX P w K mg base N qual scope f cd A outer s H E) [] (start N vs) H s1:=by
 have iw:ps.length<=N.length:=by have:=congrArg List.length S.pre;rw[IG] at this;omega
 obtain⟨h1,tk,rfl,hk⟩:=x.done;have Bd:∀ b:Addr,b ∉ (oE CX P w K mg base N qual scope f cd A outer s H E).ex:=fun b z=>absurd (show b∈([]:List Addr) from z) (by simp)
 refine⟨⟨e0.mod,S.kind,rfl,rfl,Hr _,fun y z c h1 h2=>?_,fun y hy=>?_,fun y c _ h=>?_,fun _=>hd,Around.frames_deeper e0.frames,.inr ⟨rfl,rfl⟩,fun b z=>absurd z (Bd b),e0.bs,e0.x5,fun b _ _=>Bd b,fun b z=>absurd z (Bd b),e0.kS,e0.Ao⟩,
   rfl,e0.bare,Un.kept hk,⟨_,x.toInCall.ns,fun i y v h1 h2 h3=>?_⟩,fun y c h=>⟨_,x.cell y c h⟩,e0.cL.fresh (Hr _),fun y c h=>?_,fun p hp=>absurd (show p∈([]:List (Addr×Obj)) from hp) (by simp),e0.cL.kept hk,?_⟩
 . exact name_of_addr x.apart (PySem.mem_of_lookup h1) (PySem.mem_of_lookup h2)
 . have hy:scope.names.lookup y=some .cell\/scope.names.lookup y=some .free:=hy
   rcases hy with hy | hy
   . exact oF hy
   . exact absurd rfl (S.zb _ (PySem.mem_of_lookup hy))
 . exact Il (x.above y c (PySem.mem_of_lookup h))
 . have hi:i < vs.length:=by
     unfold start at h2;by_cases hi:i < vs.length
     . exact hi
     . rw[Ia (by simpa using hi)] at h2
       rw[HY] at h2
       split at h2 <;> cases h2
   have ha:vs[i]?=some v:=by
     unfold start at h2;rw[HN (by simpa using hi),k5] at h2;cases e:vs[i]? with
     | none=>rw[e] at h2;cases h2
     | some a=>rw[e] at h2;cases h2;rfl
   obtain⟨u,hu,rv⟩:=r.get ha;have hp:ps[i]?=some y:=by
     rw[<- S.pre,List.getElem?_take_of_lt (by omega)];exact h1
   have Eo:ps.Nodup:=by rw[<- S.pre];exact S.nd.sublist (List.take_sublist _ _)
   refine⟨u,rv,?_⟩;rcases S.par y (List.mem_of_getElem? hp) with k | k
   . exact .inl ⟨k,mG Eo hp hu k⟩
   . obtain⟨c,e⟩:=oF (n:=s.heap.objs.size+1) k
     refine .inr ⟨.inl k,c,e,?_⟩;have q:=x.cell y c e;rw[mH Eo hp hu (by show scope.names.lookup y≠_;rw[k];decide)] at q;exact q
 . exact e0.cL.fresh (Il (x.above y c (PySem.mem_of_lookup h)))
 . unfold start
   show _=N.length;rw[Ip,k3,List.length_replicate];omega
theorem qz {CX:jr}{P:Program}{w:World}{K:W.Frag}{mg:Str->Option Value}{base:Heap}{k:Nat}{f:Addr}{name qual:Str}{params:Arguments}{body:List Stmt}{scope:Scope}{dV kV doc pm bh ct oc:Value}{an od:Option Addr}{l7:Array (Option Value)}{N ps:List Str}{sp:Sp}(lk:K.lookup f=some ⟨oc,od,.func (W.fnOf name qual params body scope dV kV doc pm an bh ct),l7⟩)(gX:W.codeIn K bh qual=true)(S:aq N ps scope)(len:∀ vs H Q E,sp vs H Q E->vs.length=ps.length)(k4:∀ (A:Around) (outer:List Env) (s:Shared) (H:Hp) (vs:List V) (Q:VK) (E:XK),b5 k (A.deeper (envOfC qual scope s.heap.objs.size f bh))->sp vs H Q E->∃ t,j9 (oE CX P w K mg base N qual scope f bh A outer s H E) body t/\t { nx:=fun _ H'=>Q .b4 H',rt:=Q} (start N vs) H):dA P w K mg base CX (k+1) f (W.fnOf name qual params body scope dV kV doc pm an bh ct) ps sp:=by
 refine⟨len,fun A outer s H args us vs Q E hr e0 hb r yi=>?_⟩;have hl:=len _ _ _ _ yi;have KX:K.In s.heap:=e0.mod.AD.keeps fun b o e=>(e0.bs b o e).1
 have lim:s.heap.NoLimit:=e0.mod.nolimit.keeps fun b o e=>(e0.bs b o e).1
 have Be:∀ y∈ps.zip us,scope.names.lookup y.1=some .local\/(scope.names.lookup y.1=some .cell/\((cellsFrom (s.heap.objs.size+1) scope.names []).lookup y.1).isSome=true):=fun⟨n,v⟩ hy=>by
   rcases S.par n (List.of_mem_zip hy).1 with q | q
   . exact .inl q
   . exact .inr ⟨q,W.cellsFrom_some _ _ _ (.inl q)⟩
 refine codeAny_call_function hr.depth (KX _ _ lk) rfl S.co S.gen rfl (W.codeRec_of KX gX) (hb _ _ _ _ ?_);refine wpAny_newFunctionEnv_cells S.kind Be fun env he s1 x=>?_
 subst he;refine⟨lim.keeps x.toInCall.keep,codeAny_func ?_⟩;obtain⟨t,ht,hq⟩:=k4 A outer s H vs Q E (hr.deeper _) yi;have I:Inv (oE CX P w K mg base N qual scope f bh A outer s H E) [] (start N vs) H s1:=rQ S hr.hd e0 hl r x;refine wpAny_mono (ht [] s1 (start N vs) H _ I hq) (fun fl s' hs=>?_) fun e s' hs=>hs
 have fin:∀ {σ':St} {H':Hp} {v:V} {u:Value},Inv (oE CX P w K mg base N qual scope f bh A outer s H E) [] σ' H' s'->RelV v u->Q v H'->CE outer P w H s Q u s':=
   fun {σ' H' v u} J rv q=>⟨v,H',J.os,J.bare,J.base,J.cL,rv,q⟩
 cases fl with
 | ret u=>
   obtain⟨v,σ',H',J,rv,q⟩:=hs;exact fin J rv q
 | next=>
   obtain⟨σ',H',J,q⟩:=hs;exact fin (v:=V.b4) (u:=Value.none) J rfl q
 | brk=>
   obtain⟨_,_,_,q⟩:=hs;exact False.elim q
 | cont=>
   obtain⟨_,_,_,q⟩:=hs;exact False.elim q
section
variable {X:Cx}{x:Str}{p pos:Pos}{e:Expr}{es:List Expr}{t:TA}{id T:String}{r:List V->Hp->VK->Prop}
def Ep (r:List V->Hp->VK->Prop)(t:TA):TE:=fun σ H Q=>t σ H fun vs H1=>r vs H1 Q
theorem fw (hc:kX X (.builtin id) r)(hg:Gl X x)(hm:X.mg x=none)(hv:bootBuiltins x=some (.builtin id))(ha:PA X (e::es) t)(hn:autoParam (x≠"__name__") z8)(iG:autoParam ((x == ("__debug__":Str))=false) z8)(he:autoParam (starEach (e::es) X.env=(false,eval e X.env)::starEach es X.env) jp)(iw:autoParam ((backTo pos (starEach es X.env)).any (·.1)=false) jp):PE X (.Call (.Name x p) (e::es) [] pos) (Ep r t):=by
 intro pins s σ H Q I h;refine wpAny_Call_Name_kw (kU I hg hm hv ?_ hn iG);exact PyProof.Rows.callWith_builtin1 (da (ha pos pins s σ H _ I h) fun us s1 ⟨vs,H1,I1,r1,q1⟩=>hc pins s1 σ H1 vs us Q I1 r1 q1) he iw
theorem rR (hc:kX X (.type T) r)(hg:Gl X x)(hm:X.mg x=none)(hv:bootBuiltins x=some (.type T))(ha:PA X (e::es) t)(hn:autoParam (x≠"__name__") z8)(iG:autoParam ((x == ("__debug__":Str))=false) z8)(he:autoParam (starEach (e::es) X.env=(false,eval e X.env)::starEach es X.env) jp)(iw:autoParam ((backTo pos (starEach es X.env)).any (·.1)=false) jp):PE X (.Call (.Name x p) (e::es) [] pos) (Ep r t):=by
 intro pins s σ H Q I h;refine wpAny_Call_Name_kw (kU I hg hm hv ?_ hn iG);exact PyProof.Rows.callWith_type1 (da (ha pos pins s σ H _ I h) fun us s1 ⟨vs,H1,I1,r1,q1⟩=>hc pins s1 σ H1 vs us Q I1 r1 q1) he iw
end
end L2
namespace HT
open PySem PyProof.Rows
section
variable {prog:Program}{w:World}{A:Around}{E:Value->Shared->Prop}{s:Shared}
theorem wL {t b:Addr}{vs ws:List Value}{Q:Value->Shared->Prop}(ht:IsTup s.heap t vs.toArray)(hb:IsTup s.heap b ws.toArray)(hv:vs≠[])(h1:ws=[]->Q (.ref t) s)(h2:ws≠[]->Q (.ref s.heap.objs.size) { s with heap:=s.heap.push { cls:=.type "tuple",data:=.seq (vs ++ ws).toArray}})(En:vs.length+ws.length<=sizeLine):wpAny (model prog w) A (binaryOp .Add (.ref t) (.ref b)) Q E s:=by
 obtain⟨⟨cls,dd,data,sl⟩,ho,hc,n,hd⟩:=id ht;obtain⟨⟨FK,Er,data2,Es⟩,Cn,Et,n2,hd2⟩:=id hb;simp only at hc hd Et hd2;subst hc hd Et hd2;have e:vs.toArray ++ ws.toArray=(vs ++ ws).toArray:=by simp
 by_cases hw:ws=[]
 . exact concat_meets ⟨_,ho,rfl⟩ ⟨_,Cn,rfl⟩ noFill_tuple_add seq_tuple_add PySem.F.slot_tuple_add PySem.F.entry_tuple_add (PySem.F.args_tuple_add_2 _ _)
     (tuple_addW1 t b vs.toArray ws.toArray n n2 dd Er sl Es (by simpa using hv) (by simp[hw])) ⟨ho,Cn,h1 hw⟩
 . refine concat_meets ⟨_,ho,rfl⟩ ⟨_,Cn,rfl⟩ noFill_tuple_add seq_tuple_add PySem.F.slot_tuple_add PySem.F.entry_tuple_add (PySem.F.args_tuple_add_2 _ _)
     (tuple_addW2 t b vs.toArray ws.toArray n n2 dd Er sl Es (by simpa using hv) (by simpa using hw) (by rw[Hz,Hz];exact En)) ⟨ho,Cn,?_⟩
   rw[e];exact h2 hw
end
end HT
namespace L2
open PySem PySem.Spec PyProof.Rows
abbrev TO:=St->Hp->(Option Int->Hp->Prop)->Prop
section
variable {X:Cx}{p2:Pos}
def Bf (K:W.Frag):R2:=fun x y H Q=>∃ a b xs ys,x=.ref a/\y=.ref b/\pG K H a xs/\pG K H b ys/\xs≠[]/\xs.length+ys.length<=sizeLine /\
 (ys=[]->Q (.ref a) H)/\(ys≠[]->∀ p,H p=none->Q (.ref p) (upd H p (.tup (xs ++ ys))))
theorem Vals.m3 {xs:List V}{us:List Value}(r:Vals xs us):us=[] ↔ xs=[]:=by
 cases r with
 | nil=>simp
 | cons _ _=>simp
theorem wM:ju X (binaryOp .Add) (Bf X.K):=by
 intro pins s σ H x y v u Q I rx ry h;obtain⟨a,b,xs,ys,rfl,rfl,ha,hb,hx,hz,q1,q2⟩:=h;cases rx;cases ry;obtain⟨aF,r1,p1,_⟩:=I.tuple ha;obtain⟨FL,r2,p2,_⟩:=I.tuple hb;refine HT.wL p1 p2 (fun z=>hx (r1.m3.mp z)) (fun z=>⟨.ref a,H,I,rfl,q1 (r2.m3.mp z)⟩) (fun z=>?_) (by rw[<- r1.length,<- r2.length];exact hz);refine⟨.ref s.heap.objs.size,_,I.laid (t':=s.toks) (o:=.tup (xs ++ ys)) (fun b ob q=>Hm _ q) (Hr _) ?_,rfl,q2 (fun w=>z (r2.m3.mpr w)) _ (I.cL.fresh (Hr _))⟩;exact⟨by rw[Ip];exact hz,_,r1.append r2,IsTup.new _ _⟩
end
noncomputable def l3 (n:Nat)(i:Int):Option Nat:=if 0<=i then (if i < n then some i.toNat else none) else if -(n:Int)<=i then some (i+n).toNat else none
noncomputable def fR {α:Type}(xs:List α)(i:Int):Option α:=(l3 xs.length i).bind fun j=>xs[j]?
theorem qA {n:Nat}{i:Int}{j:Nat}(h:l3 n i=some j):seqIndex? i n=some j/\j < n/\-(n:Int)<=i/\i < n:=by
 unfold l3 at h;by_cases h0:0<=i
 . rw[if_pos h0] at h
   by_cases h1:i < n
   . rw[if_pos h1] at h
     have e:i.toNat=j:=Option.some.inj h;exact⟨by rw[seqIndex_of h0 h1,e],by omega,by omega,h1⟩
   . rw[if_neg h1] at h;cases h
 . rw[if_neg h0] at h
   by_cases h1:-(n:Int)<=i
   . rw[if_pos h1] at h
     have e:(i+n).toNat=j:=Option.some.inj h;exact⟨by rw[seqIndex_neg (by omega) h1,e],by omega,h1,by omega⟩
   . rw[if_neg h1] at h;cases h
theorem qB {α:Type}{xs:List α}{i:Int}{v:α}(h:fR xs i=some v):∃ j,seqIndex? i xs.length=some j/\xs[j]?=some v/\j < xs.length/\-(xs.length:Int)<=i/\i < xs.length:=by
 unfold fR at h;cases e:l3 xs.length i with
 | none=>rw[e] at h;cases h
 | some j=>
   rw[e] at h;obtain⟨h1,h2,h3,h4⟩:=qA e;exact⟨j,h1,h,h2,h3,h4⟩
theorem iY {α:Type}{xs:List α}{j:Nat}{v:α}(h:xs[j]?=some v):fR xs (j:Int)=some v:=by
 have hj:j < xs.length:=(Hx.mp h).1;have e:l3 xs.length (j:Int)=some j:=by
   unfold l3;rw[if_pos (by omega),if_pos (by omega)];simp
 unfold fR;rw[e];exact h
theorem k6 {α:Type}(xs:List α)(v:α):fR (xs ++ [v]) (-1)=some v:=by
 have hl:(xs ++ [v]).length=xs.length+1:=by simp
 have e:l3 (xs ++ [v]).length (-1)=some xs.length:=by
   unfold l3;rw[hl,if_neg (by decide),if_pos (by omega)]
   congr 1
   omega
 unfold fR;rw[e];show(xs ++ [v])[xs.length]?=some v;simp
def iZ (b:Expr):Prop:=∀ o i,subscripted b false o i=operate [o,i] (getItem o i)
def C3 (X:Cx)(r:R2):Prop:=
 ∀ (value slice:Expr) (pins:List (Addr×Obj)) (s:Shared) (σ:St) (H:Hp) (x y:V) (v u:Value) (Q:VK),Inv X pins σ H s->RelV x v->RelV y u->r x y H Q ->
   subscripted slice false v u=operate [v,u] (getItem v u)->wpAny (model X.prog X.w) X.A (subscriptTail value slice v u) (EP X pins σ Q) X.xe s
def C4 (X:Cx)(id:String)(r:V->List V->Hp->VK->Prop):Prop:=
 ∀ (pins:List (Addr×Obj)) (s:Shared) (σ:St) (H:Hp) (x:V) (xs:List V) (v:Value) (us:List Value) (Q:VK),Inv X pins σ H s->RelV x v->Vals xs us->r x xs H Q ->
   wpAny (model X.prog X.w) X.A (call (.builtin id) (v::us)) (EP X pins σ Q) X.xe s
section
variable {X:Cx}{a b:Expr}{ta tb:TE}{pos:Pos}
theorem mI {r:R2}(hr:C3 X r)(ha:PE X a ta)(hb:PE X b tb)(hs:iZ b):PE X (.Subscript a b pos) (AV r ta tb):=by
 intro pins s σ H Q I h;exact Subscript_ (yQ ha hb I h fun v u s2 x y H2 I2 rx ry q=>hr a b pins s2 σ H2 x y v u Q I2 rx ry q (hs _ _))
def C5 (K:W.Frag):R2:=fun x y H Q=>∃ p xs i v,x=.ref p/\y=.int i/\jW K H p xs/\fR xs i=some v/\Q v H
def C6 (K:W.Frag):R2:=fun x y H Q=>∃ p xs i v,x=.ref p/\y=.int i/\pG K H p xs/\fR xs i=some v/\Q v H
theorem m4:C3 X (C5 X.K):=by
 intro value slice pins s σ H x y v u Q I rx ry h hs;obtain⟨p,xs,i,z,rfl,rfl,hq,he,q⟩:=h;cases rx;obtain⟨t,rfl⟩:=ry;obtain⟨aF,r,pl,hz⟩:=I.list hq;obtain⟨j,h1,h2,h3,h4,h5⟩:=qB he;obtain⟨w,ew,C7⟩:=r.get h2;have hl:=r.length;have hn:=mZ;have fin:EP X pins σ Q w s:=⟨z,H,I,C7,q⟩
 by_cases h0:0<=i
 . have hj:i.toNat=j:=by
     rw[seqIndex_of h0 h5] at h1;exact Option.some.inj h1
   exact item_listR pl.isList h0 (by omega) (by rw[hj];simpa using ew) fin hs
 . have hj:(i+(aF.toArray.size:Int)).toNat=j:=by
     rw[seqIndex_neg (by omega) h4] at h1;rw[Hz,<- hl];exact Option.some.inj h1
   exact subscriptTail_builtinR (x:=w) pl.isList.typeIs slot_list_getitem.lookup
     (wpAny_getItem_list_neg (Q:=fun r s'=>r=w/\EP X pins σ Q r s') pl.isList (by omega) (by rw[Hz] <;> omega) (by omega) (by rw[hj];simpa using ew) ⟨rfl,fin⟩) hs
theorem pR:C3 X (C6 X.K):=by
 intro value slice pins s σ H x y v u Q I rx ry h hs;obtain⟨p,xs,i,z,rfl,rfl,hq,he,q⟩:=h;cases rx;obtain⟨t,rfl⟩:=ry;obtain⟨aF,r,pl,hz⟩:=I.tuple hq;obtain⟨j,h1,h2,h3,h4,h5⟩:=qB he;obtain⟨w,ew,C7⟩:=r.get h2;have hl:=r.length;have hn:=mZ;have fin:EP X pins σ Q w s:=⟨z,H,I,C7,q⟩
 exact subscriptTail_builtinR (x:=w) pl.typeIs slot_tuple_getitem.lookup
   (getItem_tuple (j:=j) (Q:=fun r s'=>r=w/\EP X pins σ Q r s') pl (by omega) (by omega) (by rw[Hz,<- hl];exact h1) (by simpa using ew) ⟨rfl,fin⟩) hs
theorem pS (aF:List Value)(n j:Nat)(u:Value):Obj.mapSeq (·.setIfInBounds j u) { cls:=.type "list",data:=.seq aF.toArray n}={ cls:=.type "list",data:=.seq (aF.set j u).toArray n}:=by
 simp[Obj.mapSeq]
theorem Inv.lst {pins:List (Addr×Obj)}{σ:St}{H:Hp}{s:Shared}{p:Addr}{xs:List V}(I:Inv X pins σ H s)(h:H p=some (.lst xs)):∃ (aF:List Value) (n:Nat),Vals xs aF/\s.heap.get? p=some { cls:=.type "list",data:=.seq aF.toArray n}/\xs.length<=sizeLine:=by
 obtain⟨z,aF,n,r,e⟩:=I.cL p _ h;exact⟨aF,n,r,e,z⟩
theorem Inv.zc {pins:List (Addr×Obj)}{σ:St}{H:Hp}{s:Shared}{p:Addr}{xs ys:List V}{aF its':List Value}{n n':Nat}{f:Obj->Obj}(I:Inv X pins σ H s)(h:H p=some (.lst xs))(ho:s.heap.get? p=some { cls:=.type "list",data:=.seq aF.toArray n})(hf:f { cls:=.type "list",data:=.seq aF.toArray n}={ cls:=.type "list",data:=.seq its'.toArray n'})(r:Vals ys its')(hz:ys.length<=sizeLine)(t:Nat):Inv X pins σ (upd H p (.lst ys)) { s with heap:=s.heap.update p f,toks:=t}:=by
 have e:(s.heap.update p f).get? p=some { cls:=.type "list",data:=.seq its'.toArray n'}:=by
   rw[Heap.get?_update_self f ho (by rw[hf] <;> rfl),hf]
 refine I.write (x:=p) (e:=p) (by rw[h];trivial) (.inl rfl) (fun b u hb q=>(Heap.get?_update_other _ _ (Ne.symm hb)).trans q) ⟨_,e⟩ ?_;exact⟨hz,its',n',r,e⟩
def Bg:V->V->V->Hp->(Hp->Prop)->Prop:=fun o i v H Q=>∃ p xs k j,o=.ref p/\i=.int k/\H p=some (.lst xs)/\l3 xs.length k=some j/\Q (upd H p (.lst (xs.set j v)))
theorem set_list:AN X Bg:=by
 intro pins s σ H o i v ov iv u Q I ro ri rv h;obtain⟨p,xs,k,j,rfl,rfl,hp,hj,q⟩:=h;cases ro;obtain⟨t,rfl⟩:=ri;obtain⟨aF,n,r,ho,hz⟩:=I.lst hp;obtain⟨h1,h2,h3,h4⟩:=qA hj;have hl:=r.length;have hn:=mZ;have I':Inv X pins σ (upd H p (.lst (xs.set j v))) { s with heap:=s.heap.update p (Obj.mapSeq (·.setIfInBounds j u))}:=
   I.zc hp ho (pS aF n j u) (r.set rv j) (by rw[List.length_set];exact hz) s.toks
 by_cases h0:0<=k
 . have hk:k.toNat=j:=by
     rw[seqIndex_of h0 h4] at h1;exact Option.some.inj h1
   exact W.ki_setAt ho h0 (by omega) (by rw[Hz,<- hl];exact h4) (by rw[hk];exact⟨_,I',q⟩)
 . have hk:(k+(aF.toArray.size:Int)).toNat=j:=by
     rw[seqIndex_neg (by omega) h3] at h1;rw[Hz,<- hl];exact Option.some.inj h1
   exact W.ki_setBack ho (by omega) (by rw[Hz,<- hl];exact h3) (by omega) (by rw[hk];exact⟨_,I',q⟩)
noncomputable def i0:V->Bool
 | .b4=>true
 | .bl _=>true
 | .int _=>true
 | .str _=>true
 | _=>false
noncomputable def v8:V->V->Bool
 | .b4,.b4=>true
 | .bl a,.bl b=>a == b
 | .bl a,.int b=>(if a then 1 else 0) == b
 | .int a,.bl b=>a == (if b then 1 else 0)
 | .int a,.int b=>a == b
 | .str a,.str b=>a == b
 | _,_=>false
theorem zd {A:Around}{s:Shared}{y x:V}{u v:Value}(ry:RelV y u)(rx:RelV x v)(fy:i0 y=true)(fx:i0 x=true):SeqAt.EqAt A s u v (v8 y x):=by
 cases y with
 | b4=>
   cases ry;cases x with
   | b4=>cases rx;exact SeqAt.EqAt.same _
   | bl b=>cases rx;exact SeqAt.EqAt.none_bool b
   | int b=>obtain⟨t,rfl⟩:=rx;exact SeqAt.EqAt.none_int b t
   | str b=>obtain⟨t,rfl⟩:=rx;exact SeqAt.EqAt.none_str b t
   | _=>exact absurd (show false=true from fx) FJ
 | bl a=>
   cases ry;cases x with
   | b4=>cases rx;exact SeqAt.EqAt.bool_none a
   | bl b=>cases rx;exact SeqAt.EqAt.bool_bool a b
   | int b=>obtain⟨t,rfl⟩:=rx;exact SeqAt.EqAt.bool_int a b t
   | str b=>obtain⟨t,rfl⟩:=rx;exact SeqAt.EqAt.bool_str a b t
   | _=>exact absurd (show false=true from fx) FJ
 | int a=>
   obtain⟨t',rfl⟩:=ry;cases x with
   | b4=>cases rx;exact SeqAt.EqAt.int_none a t'
   | bl b=>cases rx;exact SeqAt.EqAt.int_bool a t' b
   | int b=>obtain⟨t,rfl⟩:=rx;exact SeqAt.EqAt.int_int a t' b t
   | str b=>obtain⟨t,rfl⟩:=rx;exact SeqAt.EqAt.int_str a t' b t
   | _=>exact absurd (show false=true from fx) FJ
 | str a=>
   obtain⟨t',rfl⟩:=ry;cases x with
   | b4=>cases rx;exact SeqAt.EqAt.str_none a t'
   | bl b=>cases rx;exact SeqAt.EqAt.str_bool a t' b
   | int b=>obtain⟨t,rfl⟩:=rx;exact SeqAt.EqAt.str_int a t' b t
   | str b=>obtain⟨t,rfl⟩:=rx;exact SeqAt.EqAt.str_str a t' b t
   | _=>exact absurd (show false=true from fx) FJ
 | _=>exact absurd (show false=true from fy) FJ
noncomputable def pT (x:V)(u:Value):Bool:=match u with
 | .none=>v8 .b4 x
 | .bool b=>v8 (.bl b) x
 | .int i _=>v8 (.int i) x
 | .str z _=>v8 (.str z) x
 | _=>false
theorem tW {x y:V}{u:Value}(r:RelV y u)(f:i0 y=true):pT x u=v8 y x:=by
 cases y with
 | b4=>cases r;rfl
 | bl b=>cases r;rfl
 | int i=>obtain⟨t,rfl⟩:=r;rfl
 | str z=>obtain⟨t,rfl⟩:=r;rfl
 | _=>exact absurd (show false=true from f) FJ
theorem i3 {x:V}:∀ {xs:List V} {us:List Value},Vals xs us->xs.all i0=true->us.any (pT x)=xs.any fun y=>v8 y x
 | _,_,.nil,_=>rfl
 | y::xs,u::us,.cons r t,f=>by
   rw[II,Io] at f;rw[List.any_cons,List.any_cons,tW r f.1,i3 t f.2]
theorem gN {A:Around}{s:Shared}{x:V}{v:Value}(rx:RelV x v)(fx:i0 x=true):∀ {xs:List V} {us:List Value},Vals xs us->xs.all i0=true->∀ u∈us,SeqAt.EqAt A s u v (pT x u)
 | _,_,.nil,_=>fun u hu=>by cases hu
 | y::xs,u::us,.cons r t,f=>fun u' hu=>by
   rw[II,Io] at f;rcases Im.mp hu with rfl | hu
   . rw[tW r f.1];exact zd r rx f.1 fx
   . exact gN rx fx t f.2 u' hu
noncomputable def Bh (x:V)(xs:List V):Bool:=xs.any fun y=>v8 y x
def C8 (K:W.Frag)(neg:Bool):R2:=fun x y H Q=>∃ p xs,y=.ref p/\(jW K H p xs\/pG K H p xs)/\i0 x=true/\xs.all i0=true/\Q (.bl (if neg then !Bh x xs else Bh x xs)) H
theorem rS:ju X (compareOp .In) (C8 X.K false):=by
 intro pins s σ H x y v u Q I rx ry h;obtain⟨p,xs,rfl,hq,fx,fs,q⟩:=h;cases ry;rcases hq with hq | hq
 . obtain⟨aF,r,pl,hz⟩:=I.list hq
   refine SeqAt.in_listAt (pT x) pl.isList (fun w hw=>gN rx fx r fs w (by simpa using hw)) ⟨.bl _,H,I,rfl,?_⟩;rw[show aF.toArray.any (pT x)=aF.any (pT x) by simp,i3 r fs];exact q
 . obtain⟨aF,r,pl,hz⟩:=I.tuple hq
   refine SeqAt.in_tupleAt (pT x) pl (fun w hw=>gN rx fx r fs w (by simpa using hw)) ⟨.bl _,H,I,rfl,?_⟩;rw[show aF.toArray.any (pT x)=aF.any (pT x) by simp,i3 r fs];exact q
theorem m7:ju X (compareOp .NotIn) (C8 X.K true):=by
 intro pins s σ H x y v u Q I rx ry h;obtain⟨p,xs,rfl,hq,fx,fs,q⟩:=h;cases ry;rcases hq with hq | hq
 . obtain⟨aF,r,pl,hz⟩:=I.list hq
   refine SeqAt.notIn_listAt (pT x) pl.isList (fun w hw=>gN rx fx r fs w (by simpa using hw)) ⟨.bl _,H,I,rfl,?_⟩;rw[show aF.toArray.any (pT x)=aF.any (pT x) by simp,i3 r fs];exact q
 . obtain⟨aF,r,pl,hz⟩:=I.tuple hq
   refine SeqAt.notIn_tupleAt (pT x) pl (fun w hw=>gN rx fx r fs w (by simpa using hw)) ⟨.bl _,H,I,rfl,?_⟩;rw[show aF.toArray.any (pT x)=aF.any (pT x) by simp,i3 r fs];exact q
theorem fS:kX X (.builtin "len") (fun xs H Q=>∃ p ys,xs=[.ref p]/\(jW X.K H p ys\/pG X.K H p ys)/\Q (.int ys.length) H):=by
 intro pins s σ H xs us Q I r h;obtain⟨p,ys,rfl,hq,q⟩:=h;obtain⟨u,rfl,rx⟩:=vals1 r;cases rx;have hn:=mZ;rcases hq with hq | hq
 . obtain⟨aF,r',pl,hz⟩:=I.list hq
   have hlen:=r'.length;exact Calls.call_len_list pl.isList (by simp only[Hz] <;> omega) ⟨.int ys.length,H,I.tok _,⟨s.toks+1,by rw[Hz,hlen]⟩,q⟩
 . obtain⟨aF,r',pl,hz⟩:=I.tuple hq
   have hlen:=r'.length;exact len_tuple pl (by simp only[Hz] <;> omega) ⟨.int ys.length,H,I.tok _,⟨s.toks+1,by rw[Hz,hlen]⟩,q⟩
theorem m8:kX X (.type "list") (fun xs H Q=>∃ p ys,xs=[.ref p]/\(jW X.K H p ys\/pG X.K H p ys)/\∀ l,H l=none->Q (.ref l) (upd H l (.lst ys))):=by
 intro pins s σ H xs us Q I r h;obtain⟨p,ys,rfl,hq,q⟩:=h;obtain⟨u,rfl,rx⟩:=vals1 r;cases rx;have fin:∀ (aF:List Value),Vals ys aF->ys.length<=sizeLine->∀ (h':Heap) (c':Nat),(∀ b o',s.heap.get? b=some o'->h'.get? b=some o') ->
     h'.get? s.heap.objs.size=some { cls:=.type "list",dict:=none,data:=.seq aF.toArray c',slots:=#[]}->EP X pins σ Q (.ref s.heap.objs.size) { s with heap:=h'}:=fun aF r' hz h' c' kp e=>
   ⟨.ref s.heap.objs.size,_,I.laid (t':=s.toks) kp (Hr _) (show bI X.prog X.w _ h' _ (.lst ys) from⟨hz,aF,c',r',e⟩),rfl,q _ (I.cL.fresh (Hr _))⟩
 rcases hq with hq | hq
 . obtain⟨aF,r',pl,hz⟩:=I.list hq
   have hlen:=r'.length;obtain⟨o,ho,hc,n,hd⟩:=pl.isList;exact call_list_seq p (.inl rfl) ho hc hd (fun h' c' kp e=>fin aF r' hz h' c' kp e) (by simp only[Hz] <;> omega)
 . obtain⟨aF,r',pl,hz⟩:=I.tuple hq
   have hlen:=r'.length;obtain⟨o,ho,hc,n,hd⟩:=pl;exact call_list_seq p (.inr rfl) ho hc hd (fun h' c' kp e=>fin aF r' hz h' c' kp e) (by simp only[Hz] <;> omega)
def C9 (K:W.Frag)(T:String)(x:V)(H:Hp):Prop:=match x with
 | .str _=>T="str"
 | .int _=>T="int"
 | .ref p=>(T="list"/\∃ xs,jW K H p xs)\/(T="tuple"/\∃ o,K.lookup p=some o/\o.cls=.type "tuple"/\o.dict=none) \/
     (T="dict"/\((∃ kvs,H p=some (.dK kvs))\/(∃ kvs,H p=some (.dT kvs))\/∃ tg o kvs,H p=some (.kd tg o kvs)))\/(T="set"/\∃ S n,H p=some (.set S n)) \/
     (T="list"/\∃ (a:Addr) (ls:oo) (ns:List Nat) (j:Nat) (f:Nat->List (Key×FD)) (N:Nat),H a=some (.jP ls ns)/\ls[j]?=some (p,f)/\ns[j]?=some N)
 | _=>False
theorem tX {pins:List (Addr×Obj)}{σ:St}{H:Hp}{s:Shared}{T:String}{x:V}{v:Value}(I:Inv X pins σ H s)(r:RelV x v)(ty:C9 X.K T x H):s.TypeIs v T/\∀ a,v=.ref a->∃ ob,s.heap.get? a=some ob/\ob.dict=none:=by
 cases x with
 | str z=>
   obtain⟨t,rfl⟩:=r;cases (show T="str" from ty);exact⟨typeIs_str s z t,fun _ e=>nomatch e⟩
 | int i=>
   obtain⟨t,rfl⟩:=r;cases (show T="int" from ty);exact⟨typeIs_int s i t,fun _ e=>nomatch e⟩
 | ref p=>
   cases r;rcases ty with⟨rfl,xs,hq⟩ | ⟨rfl,o,hk,hc,hd⟩ | ⟨rfl,hk⟩ | ⟨rfl,S,n,hk⟩ | ⟨rfl,a,ls,ns,j,f,N,h1,h2,h3⟩
   . obtain⟨aF,_,pl,_⟩:=I.list hq
     refine⟨pl.isList.typeIs,fun a e=>?_⟩;cases e;obtain⟨o,n,e,c,hd,_⟩:=pl;exact⟨o,e,hd⟩
   . refine⟨⟨o,I.fO p o hk,hc⟩,fun a e=>?_⟩
     cases e;exact⟨o,I.fO _ o hk,hd⟩
   . have z:∃ o,s.heap.get? p=some o/\o.ExactDict:=by
       rcases hk with⟨kvs,hk⟩ | ⟨kvs,hk⟩ | ⟨tg,ob,kvs,hk⟩
       . obtain⟨_,_,_,_,o,_,_,e,ex,_⟩:=I.cL p _ hk
         exact⟨o,e,ex⟩
       . obtain⟨_,_,_,_,o,_,_,e,ex,_⟩:=I.cL p _ hk
         exact⟨o,e,ex⟩
       . obtain⟨_,⟨_,_,_,_,o,_,_,e,ex,_⟩,_⟩:=I.cL p _ hk
         exact⟨o,e,ex⟩
     obtain⟨o,e,ex⟩:=z;refine⟨⟨o,e,ex.1⟩,fun a e2=>?_⟩;cases e2;exact⟨o,e,ex.2.1⟩
   . obtain⟨o,_,_,_,e,ex,_⟩:=I.cL p _ hk
     refine⟨⟨o,e,ex.1⟩,fun a e2=>?_⟩;cases e2;exact⟨o,e,ex.2.1⟩
   . obtain⟨_,_,_,_,_,_,h6⟩:=(show bI X.prog X.w H s.heap a (.jP ls ns) from I.cL a _ h1)
     obtain⟨aF,c,e1,e2,e3⟩:=h6 j p f N h2 h3;refine⟨⟨_,e1,rfl⟩,fun a' e4=>?_⟩;cases e4;exact⟨_,e1,rfl⟩
 | _=>exact False.elim ty
def Dc (K:W.Frag)(T:String)(r:V->List V->Hp->VK->Prop)(to:TE):TE:=fun σ H Q=>to σ H fun x H1=>C9 K T x H1/\r x [] H1 Q
def FN (K:W.Frag)(T:String)(r:V->List V->Hp->VK->Prop)(to:TE)(t:TA):TE:=fun σ H Q=>to σ H fun x H1=>C9 K T x H1/\t σ H1 fun xs H2=>r x xs H2 Q
variable {o e:Expr}{es:List Expr}{to:TE}{t:TA}{name:Str}{apos bJ:Pos}{T id:String}{r:V->List V->Hp->VK->Prop}
theorem ze (pa:PlainAttrs T)(slot:Slot T name id)(Dd:typeOf (.builtin id)=pure (.type "method_descriptor"))(hm:C4 X id r)(ho:PE X o to)(fz:autoParam (attributeBase o name X.env (eval o X.env)=eval o X.env) jp)(fA:autoParam ((apos.endLine == bJ.line)=true) jp):PE X (.Call (.Attribute o name apos) [] [] bJ) (Dc X.K T r to):=by
 intro pins s σ H Q I h;refine wpAny_Call_method0_late fz fA (da (ho pins s σ H _ I h) fun v s1 ⟨x,H1,I1,r1,ty,q1⟩=>?_);obtain⟨h1,h2⟩:=tX I1 r1 ty;exact⟨T,id,pa,slot,Dd,h1,h2,Calls.callWith_builtin rfl (PySem.evalArgs_none (hm pins s1 σ H1 x [] v [] Q I1 r1 .nil q1))⟩
theorem qC (pa:PlainAttrs T)(slot:Slot T name id)(Dd:typeOf (.builtin id)=pure (.type "method_descriptor"))(hm:C4 X id r)(ho:PE X o to)(ha:PA X (e::es) t)
   (fz:autoParam (attributeBase o name X.env (eval o X.env)=eval o X.env) jp)
   (m9:autoParam (((backTo bJ (starEach (e::es) X.env)).all (fun x=>!x.1) && (backToKw bJ (keywordEach [] X.env)).all (fun x=>x.1.isSome)
     && decide ((e::es).length+([]:List Keyword).length+(if ([]:List Keyword).isEmpty then 0 else 1) < 30))=true) jp)
   (fA:autoParam ((apos.endLine == bJ.line)=true) jp) (hs:autoParam (starEach (e::es) X.env=(false,eval e X.env)::starEach es X.env) jp) (zf:autoParam ((backTo bJ (starEach es X.env)).any (·.1)=false) jp) :
   PE X (.Call (.Attribute o name apos) (e::es) [] bJ) (FN X.K T r to t):=by
 intro pins s σ H Q I h;refine wpAny_Call_method_late fz m9 fA rfl (da (ho pins s σ H _ I h) fun v s1 ⟨x,H1,I1,r1,ty,q1⟩=>?_);obtain⟨h1,h2⟩:=tX I1 r1 ty;refine⟨T,id,pa,slot,Dd,h1,h2,?_⟩;have hA:=ha bJ pins s1 σ H1 _ I1 q1;rw[hs] at hA ⊢;refine Calls.callWith_builtin (by show(false || (backTo bJ (starEach es X.env)).any (·.1))=false;rw[zf] <;> rfl) (Calls.evalArgs_plain ?_);exact da hA fun us s2 ⟨vs,H2,I2,r2,q2⟩=>hm pins s2 σ H2 x vs v us Q I2 r1 r2 q2
end
def Eu (X:Cx)(id:String)(r:V->List V->Hp->VK->Prop):Prop:=
 ∀ (pins:List (Addr×Obj)) (s:Shared) (σ:St) (H:Hp) (x:V) (xs:List V) (v:Value) (us:List Value) (Q:VK),Inv X pins σ H s->RelV x v->Vals xs us->r x xs H Q ->
   wpAny (model X.prog X.w) X.A (call (.builtin id) (v::us)) (EP X pins σ Q) X.xe s
theorem Vals.one:∀ {x:V} {us:List Value},Vals [x] us->∃ u,us=[u]/\RelV x u
 | _,_,.cons r .nil=>⟨_,rfl,r⟩
theorem Vals.zero:∀ {us:List Value},Vals [] us->us=[]
 | _,.nil=>rfl
theorem Vals.rep {xs:List V}{us:List Value}(h:Vals xs us):∀ k:Nat,Vals (FH k xs).flatten (FH k us).flatten
 | 0=>.nil
 | k+1=>by
   rw[HQ,HQ,Ib,Ib];exact Vals.append h (Vals.rep h k)
theorem foldl_rep (aF:List Value):∀ (k:Nat) (acc:List Value),List.foldl (fun x1 x2=>x1 ++ x2) acc.toArray (FH k aF.toArray)=(acc ++ (FH k aF).flatten).toArray
 | 0,acc=>by simp
 | k+1,acc=>by
   have e:acc.toArray ++ aF.toArray=(acc ++ aF).toArray:=by simp
   have e2:(acc ++ aF) ++ (FH k aF).flatten=acc ++ (FH (k+1) aF).flatten:=by
     rw[HQ,Ib,List.append_assoc]
   rw[<- e2,<- foldl_rep aF k (acc ++ aF),<- e,HQ,List.foldl_cons]
section
variable {X:Cx}{pins:List (Addr×Obj)}{σ:St}{H:Hp}{s:Shared}{l:Addr}{xs ys:List V}
theorem Inv.Bi {aF its':List Value}{n:Nat}{f:Array Value->Array Value}{t':Nat}(I:Inv X pins σ H s)(hH:H l=some (.lst xs))(e:s.heap.get? l=some { cls:=.type "list",data:=.seq aF.toArray n})(hf:f aF.toArray=its'.toArray)(hv:Vals ys its')(hz:ys.length<=sizeLine):Inv X pins σ (upd H l (.lst ys)) { s with heap:=s.heap.update l (Obj.mapSeq f),toks:=t'}:=by
 have q:=PySem.IsL.update e f;rw[hf] at q;refine I.write (x:=l) (e:=l) (by rw[hH];exact trivial) (.inl rfl) (fun b' u hb hu=>(Heap.get?_update_other s.heap (Obj.mapSeq f) (Ne.symm hb)).trans hu) ⟨_,q⟩ ?_;exact⟨hz,its',_,hv,q⟩
theorem Inv.De {aF:List Value}{t':Nat}(I:Inv X pins σ H s)(hv:Vals ys aF)(hz:ys.length<=sizeLine):Inv X pins σ (upd H s.heap.objs.size (.lst ys)) { s with heap:=s.heap.push { cls:=.type "list",data:=.seq aF.toArray},toks:=t'}:=
 I.laid (fun _ _ q=>Hm _ q) (Hr _) ⟨hz,aF,0,hv,HP _ rfl⟩
theorem Inv.fresh (I:Inv X pins σ H s):H s.heap.objs.size=none:=I.cL.fresh (Hr _)
theorem Inv.zg (I:Inv X pins σ H s)(hH:H l=some (.lst xs)):xs.length<=sizeLine/\∃ (aF:List Value) (n:Nat),Vals xs aF/\xs.length=aF.length/\s.heap.get? l=some { cls:=.type "list",data:=.seq aF.toArray n}:=by
 obtain⟨z,aF,n,r,e⟩:=I.cL l _ hH;exact⟨z,aF,n,r,r.length,e⟩
theorem tY {n:Nat}(h:n<=sizeLine):Builtin.List.listTooLong n=false:=by
 unfold Builtin.List.listTooLong;exact decide_eq_false (by omega)
end
section
variable {X:Cx}
def wN:V->List V->Hp->VK->Prop:=fun x vs H Q=>∃ l xs y,x=.ref l/\vs=[y]/\H l=some (.lst xs)/\xs.length < sizeLine/\Q .b4 (upd H l (.lst (xs ++ [y])))
theorem gZ:Eu X "list.append" wN:=by
 intro pins s σ H x vs v us Q I rx rv h;obtain⟨l,xs,y,rfl,rfl,hH,hz,q⟩:=h;cases rx;obtain⟨u,rfl,ru⟩:=rv.one;obtain⟨z,aF,n,r,hl,e⟩:=I.zg hH;refine call_meets F.slot_list_append ⟨_,e,rfl⟩ F.entry_list_append (F.args_list_append_2 _ _) (PySem.list_append l aF.toArray n u (by rw[Hz];omega)) ⟨e,?_⟩;refine⟨.b4,_,I.Bi (its':=aF ++ [u]) hH e (by simp) (r.append (.cons ru .nil)) ?_,rfl,q⟩;rw[Ip,List.length_singleton];omega
def zh:V->List V->Hp->VK->Prop:=fun x vs H Q=>∃ l xs,x=.ref l/\vs=[]/\H l=some (.lst xs)/\Q .b4 (upd H l (.lst []))
theorem tZ:Eu X "list.clear" zh:=by
 intro pins s σ H x vs v us Q I rx rv h;obtain⟨l,xs,rfl,rfl,hH,q⟩:=h;cases rx;have FO:=rv.zero;subst FO;obtain⟨z,aF,n,r,hl,e⟩:=I.zg hH;refine call_meets F.slot_list_clear ⟨_,e,rfl⟩ F.entry_list_clear (F.args_list_clear_1 _) (AutoSeq1.list_clear_list_0 l aF.toArray n (by rw[Hz];omega)) ⟨e,?_⟩;exact⟨.b4,_,I.Bi (its':=[]) (ys:=[]) hH e rfl .nil (Iw _),rfl,q⟩
def Df:R2:=fun x y H Q=>∃ l k xs,x=.ref l/\y=.int k/\H l=some (.lst xs)/\-(2 ^ 63)<=k/\k < 2 ^ 63/\xs.length * k.toNat<=sizeLine /\
 ∀ p,H p=none->Q (.ref p) (upd H p (.lst (FH k.toNat xs).flatten))
theorem len_rep {α:Type}(xs:List α)(k:Nat):(FH k xs).flatten.length=k * xs.length:=by
 induction k with
 | zero=>simp
 | succ k ih=>rw[HQ,Ib,Ip,ih,Nat.succ_mul,Nat.add_comm]
theorem zi:ju X (binaryOp .Mult) Df:=by
 intro pins s σ H x y v u Q I rx ry h;obtain⟨l,k,xs,rfl,rfl,hH,h1,h2,hz,q⟩:=h;cases rx;obtain⟨t,rfl⟩:=ry;obtain⟨z,aF,n,r,hl,e⟩:=I.zg hH;have hlen:aF.toArray.size * k.toNat<=sizeLine:=by rw[Hz,<- hl];exact hz
 have Dg:¬ aF.toArray.size * k.toNat > (2 ^ 63 - 1) / 8:=by
   have:(sizeLine:Nat)<=(2 ^ 63 - 1) / 8:=by decide
   omega
 have Dh:¬ (!Builtin.List.listFitsIndex k)=true:=by
   rw[fitsIndex_both h1 h2];exact FJ
 have Bj:¬ Builtin.List.listTooLong (aF.toArray.size * k.toNat)=true:=by
   rw[tY hlen];exact FJ
 have Di:List.foldl (fun x1 x2=>x1 ++ x2) #[] (FH (if aF.toArray.isEmpty=true then 0 else k.toNat) aF.toArray)=(FH k.toNat aF).flatten.toArray:=by
   have f0:∀ m:Nat,List.foldl (fun x1 x2=>x1 ++ x2) #[] (FH m aF.toArray)=(FH m aF).flatten.toArray:=fun m=>by
     have:=foldl_rep aF m [];rw[List.nil_append] at this;exact this
   rw[f0];cases aF with
   | nil=>simp
   | cons a r'=>rw[if_neg (by simp)]
 refine wpAny_binaryOp_repeat_ref (T:="list") (U:="int") (by decide) ⟨_,e,rfl⟩ (fun s'=>typeIs_int s' k t) noFill_list_mul F.fills_int_mul F.slot_int_rmul repeat_list F.slot_int_index.lookup
   (call_meets F.slot_int_rmul (typeIs_int s k t) F.entry_int_rmul (F.args_int_rmul_2 _ _) (int___rmul___int_list k t l aF.toArray n)
     ⟨e,rfl,⟨_,e,rfl⟩,call_meets F.slot_list_mul ⟨_,e,rfl⟩ F.entry_list_mul (F.args_list_mul_2 _ _) (AutoListH.list___mul___list_int_3 l aF.toArray n k t Dh Dg Bj) ⟨e,?_⟩⟩)
 rw[Di];exact⟨.ref _,_,I.De (t':=s.toks) (r.rep k.toNat) (by rw[len_rep,Nat.mul_comm];exact hz),rfl,q _ I.fresh⟩
end
section
variable {P:Program}{w:World}{H:Hp}{h:Heap}{a:Addr}
theorem Bk {u:HO}(ok:jQ P w H h)(e:Rd H a u):bI P w H h a u:=e.ok ok
theorem yj {kvs:List (Key×V)}(ok:jQ P w H h)(e:Rd H a (.dK kvs)):kvs.length<=sizeLine/\(a == sysModules)=false/\∃ vs,KV kvs vs/\h.DictOf (j8 P w) a vs:=
 show bI P w H h a (.dK kvs) from Bk ok e
end
structure M1 (X:Cx)(o:Expr)(m:Str)(apos:Pos)(e:Expr)(bJ:Pos):Prop where
 base:attributeBase o m X.env (eval o X.env)=eval o X.env
 FP:((backTo bJ (starEach [e] X.env)).all (fun x=>!x.1) && (backToKw bJ (keywordEach [] X.env)).all (fun x=>x.1.isSome)
   && decide (([e]:List Expr).length+([]:List Keyword).length+(if ([]:List Keyword).isEmpty then 0 else 1) < 30))=true
 line:(apos.endLine == bJ.line)=true
 trees:backTo bJ (starEach [e] X.env)=[(false,eval e X.env)]
structure M2 (X:Cx)(o:Expr)(m:Str)(apos:Pos)(e f:Expr)(bJ:Pos):Prop where
 base:attributeBase o m X.env (eval o X.env)=eval o X.env
 FP:((backTo bJ (starEach [e,f] X.env)).all (fun x=>!x.1) && (backToKw bJ (keywordEach [] X.env)).all (fun x=>x.1.isSome)
   && decide (([e,f]:List Expr).length+([]:List Keyword).length+(if ([]:List Keyword).isEmpty then 0 else 1) < 30))=true
 line:(apos.endLine == bJ.line)=true
 trees:backTo bJ (starEach [e,f] X.env)=[(false,eval e X.env),(false,eval f X.env)]
end L2
namespace Att
open PySem PySem.W PySem.Calls PyProof.Rows
theorem jY {P:Params}{h:Heap}:∀ (ns:List Int) (vs:List Value),WellAll P h vs (ns.map WData.int)->IntsAre vs ns:=by
 intro ns
 induction ns with
 | nil=>
   intro vs w;rw[List.map_nil] at w;cases w;exact .nil
 | cons n ns ih=>
   intro vs w;rw[HV] at w;cases w with
   | cons a b=>
     cases a;exact .cons _ _ (ih _ b)
theorem rT {l:OpenLaw}{n:Nat}(hn:l.most=some n){P:Params}{h:Heap}{args:List WData}{vals:List Value}(wO:l.row.toRowW.claim.pre args=true)(Dj:WellAll P h vals args):∃ a vs ns,vals=[Value.ref a]/\args=[WData.list (ns.map WData.int)]/\h.get? a=some { cls:=.type "list",data:=.seq vs.toArray}/\IntsAre vs ns/\ns.length<=n:=by
 have FQ:WShape.hasAll [] args [.list .int]=true:=(pre_splitW wO).1;have hc:l.pre.holds [] { args:=args}=true:=(pre_splitW wO).2;obtain⟨d,r,rfl,h1,h2⟩:=hasAllW_cons FQ;obtain rfl:=hasAllW_nil h2;obtain⟨xs,rfl,h3⟩:=hasW_list h1;obtain⟨ns,rfl⟩:=items_int h3;have hlen:ns.length<=n:=by
   unfold OpenLaw.pre at hc;have h4:(WTm.not (.lt (.lit (.int (n:Int))) (.len (.arg 0)))).holds [] { args:=[.list (ns.map .int)]}=true:=by
     have h4:=(holds_andW hc).1;rw[hn] at h4;exact h4
   have h5:=condW_of h4 (w_not (w_lt w_lit (w_len_list (w_arg rfl))));rw[k3] at h5;refine Nat.le_of_not_lt fun q=>?_
   have q':(n:Int) < ((ns.length:Nat):Int):=by omega
   first
     | (rw[decide_eq_true q'] at h5;exact absurd h5 (by decide))
     | (simp at h5;omega)
 cases Dj with
 | cons w1 w2=>
   cases w2;cases w1 with
   | list ho Dk=>exact⟨_,_,ns,rfl,rfl,ho,jY ns _ Dk,hlen⟩
theorem rV (l:OpenLaw)(args:List WData):l.row.toRowW.claim.post args (.bool true) args=true:=
 postW_of (r:=l.row.toRowW) (X:=(true == true))
   (show WShape.has [] (.bool true) .bool=true by first | rfl | decide | simp[WShape.has,WShape.arms,WShape.armsAll])
   (show(WTm.eq .res (.lit (.bool true))).value [] { args:=args,res:=some (.bool true),after:=args}=some (.bool (true == true)) from w_eq_bool (w_res rfl) w_lit) rfl
theorem oG {l:OpenLaw}{n:Nat}{q:Program}{loose:List Str}{XP:(Str->Option Value)->Heap->Prop}{YP:World->Heap->Prop}{d:DefRec}(hn:l.most=some n)(Bl:d.params.defaults=[])(call:∀ (w:World) (s₀ s₁:Shared) (mg mb:Str->Option Value) (fa:Addr) (o:Obj) (pm cd doc:Value) (a:Addr) (vs:List Value) (ns:List Int),Ground q loose [] XP w s₀ mg mb s₁.heap->YP w s₁.heap->s₁.heap.get? fa=some o->o.data=.func (docDef d.name d.params d.body d.scope pm cd doc)->s₁.heap.CodeRec cd d.name->mg d.name=some (.ref fa)->s₁.heap.get? a=some { cls:=.type "list",data:=.seq vs.toArray}->IntsAre vs ns->ns.length<=n->s₁.gens=#[]->codeAny (model l.prog w) callerA (.call (.ref fa) ⟨[.ref a],[]⟩) (fun r s'=>r=.ok (.ret (.bool true))/\OldK s₁.heap s'.heap/\s'.os=s₁.os/\AllBare s'.gens) s₁):WalkO q loose XP YP l.row.toRowW d [] (fun f vs=>PySem.call f vs):=by
 intro w s₀ s₁ mg mb G Y fa o pm cd doc dV kV ho hd gX hD Bm hg args vals as wO FR Hs Dj Ht;obtain rfl:dV=.none:=Dflts.none hD Bl;obtain rfl:kV=.none:=Dflts.noKw hD;obtain⟨a,vs,ns,rfl,rfl,zj,hints,hlen⟩:=rT hn wO Dj;refine enter_call (codeAny_mono (call w s₀ s₁ mg mb fa o pm cd doc a vs ns G Y ho (fd_plain hd) gX Bm zj hints hlen hg) fun r s' hq=>?_);obtain⟨rfl,h2,h3,h4⟩:=hq;exact⟨.inl ⟨.bool true,.bool true,[],rfl,fun _=>rfl,.bool true,rV l _,fun _=>⟨List.Pairwise.nil,fun _ hm=>(nomatch hm)⟩⟩,h2,h3,h4⟩
end Att
namespace L2
open PySem PySem.Spec PyProof.Rows
theorem g8:∀ {vs:List Value} {ns:List Int},IntsAre vs ns->Vals (ns.map V.int) vs
 | _,_,.nil=>.nil
 | _,_,.cons n t h=>.cons ⟨t,rfl⟩ (g8 h)
def wQ (H:Hp):Prop:=∀ b,H b=none\/∃ o xs,H b=some (.bH o (.lst xs))
theorem t4 {P:Program}{w:World}{K:W.Frag}{mg mb:Str->Option Value}{CX:jr}{k:Nat}{fa a:Addr}{fd:FuncData}{x:Str}{sp:Sp}{s₁:Shared}{vs:List Value}{ns:List Int}(KX:K.In s₁.heap)(As:s₁.heap.Ns mainGlobals mg)(hb:s₁.heap.Ns builtinsNs mb)(FT:∀ x:Str,x≠"__name__"->mb x=bootBuiltins x)(Dl:s₁.heap.NoLimit)(hg:s₁.gens=#[])(ha:s₁.heap.get? a=some { cls:=.type "list",data:=.seq vs.toArray})(hi:IntsAre vs ns)(hl:ns.length<=sizeLine)(hr:b5 k callerA)(F:∀ base:Heap,K.In base->base.Ns mainGlobals mg->dA P w K mg base CX k fa fd [x] sp)(Bo:∀ (s:Shared) (u:Value),BindsTo s fd ⟨[u],[]⟩ [(x,u)])(yi:∀ H:Hp,wQ H->jW K H a (ns.map V.int)->sp [.ref a] H (fun v _=>v=.bl true) fun _ _ _=>False)(Bp:∀ H e s',CX [] H s₁ (fun _ _ _=>False) e s'->False):codeAny (model P w) callerA (.call (.ref fa) ⟨[.ref a],[]⟩) (fun r s'=>r=.ok (.ret (.bool true))/\OldK s₁.heap s'.heap/\s'.os=s₁.os/\AllBare s'.gens) s₁:=by
 have rv:=g8 hi;have Dm:=hi.length;have core:∀ H:Hp,wQ H->jW K H a (ns.map V.int)->jQ P w H s₁.heap->(∀ b,H b≠none->b=a)->(H a≠none->K.lookup a=none) ->
     codeAny (model P w) callerA (.call (.ref fa) ⟨[.ref a],[]⟩) (fun r s'=>r=.ok (.ret (.bool true))/\OldK s₁.heap s'.heap/\s'.os=s₁.os/\AllBare s'.gens) s₁:=by
   intro H hO hS cL hA hK;have qD:∀ {b:Addr} {o:Obj},s₁.heap.get? b=some o->H b=none->(mV s₁.heap H).get? b=some o:=fun e n=>tw e n
   have Bd:∀ {b:Addr} {o:Obj} {es:Array DictEntry} {ep:Nat},s₁.heap.get? b=some o->o.data=.dict es ep->H b=none:=fun {b o es ep} e d=>by
     cases q:H b with
     | none=>rfl
     | some u=>
       have e':b=a:=hA b (by rw[q];simp);subst e';rw[ha] at e;cases e;have d':Data.seq vs.toArray _=Data.dict es ep:=d;cases d'
   have Co:∀ {b:Addr} {m:Str->Option Value},s₁.heap.Ns b m->(mV s₁.heap H).Ns b m:=fun {b m} ⟨o,es,ep,e,d,r⟩=>⟨o,es,ep,qD e (Bd e d),d,r⟩
   have Ew:K.In (mV s₁.heap H):=fun b o e=>qD (KX b o e) (by
     cases q:H b with
     | none=>rfl
     | some u=>
       have e':b=a:=hA b (by rw[q];simp);subst e';rw[hK (by rw[q];simp)] at e;cases e)
   have hM:Mod K mg (mV s₁.heap H):=⟨Ew,Co As,⟨mb,Co hb,FT⟩,let ⟨mc,h1,h2⟩:=Dl;⟨mc,Co h1,h2⟩⟩
   have e0:oC P w K mg (mV s₁.heap H) callerA [] s₁ H:=⟨rfl,hM,fun b o e=>wt e,Nat.le_of_eq (rF _ _),trivial,fun b hb=>absurd (show b∈([]:List Addr) from hb) (by simp),cL,.of_eq hg⟩
   refine codeAny_mono ((F _ Ew (Co As)).run callerA [] s₁ H ⟨[.ref a],[]⟩ [.ref a] [.ref a] _ _ hr e0 (Bo s₁ (.ref a)) (.cons rfl .nil) (yi H hO hS)) fun r s' h=>?_
   cases r with
   | error e=>exact(Bp H e s' h).elim
   | ok fl=>
     cases fl with
     | next=>exact False.elim h
     | brk=>exact False.elim h
     | cont=>exact False.elim h
     | ret u=>
       obtain⟨v,H',os,bare,un,Dn,r',q⟩:=h;have q':v=.bl true:=q;subst q';obtain rfl:u=Value.bool true:=r';refine⟨rfl,OldK.of_keep fun b o e=>?_,os,bare⟩;cases q:H b with
       | none=>exact un.keep b o e q (by intro z;exact absurd (show b∈([]:List Addr) from z) (by simp)) (by simp)
       | some u=>
         rcases hO b with z | ⟨ob,xs,z⟩
         . rw[q] at z;cases z
         . have z2:=un.mU b ob _ z
           obtain⟨e1,_⟩:=cL b _ z;obtain⟨e2,_⟩:=Dn b _ z2;rw[e] at e1;cases e1;exact e2
 cases hk:K.lookup a with
 | some o=>
   have e:=KX a o hk;rw[ha] at e;cases e;refine core (fun _=>none) (fun _=>.inl rfl) (.inr ⟨_,vs.toArray,_,hk,rfl,rfl,rfl,by rw[Hz,Dm];exact hl,by simpa using rv⟩) (fun b u z=>by have z':(none:Option HO)=some u:=z;cases z') (fun b z=>absurd rfl z) fun z=>absurd rfl z
 | none=>
   refine core (fun b=>if b=a then some (.bH { cls:=.type "list",data:=.seq vs.toArray} (.lst (ns.map V.int))) else none) (fun b=>?_) (.inl (.inr (.inl ⟨{ cls:=.type "list",data:=.seq vs.toArray},if_pos rfl⟩))) (fun b u z=>?_) (fun b z=>?_) fun _=>hk
   . by_cases hb:b=a
     . exact .inr ⟨_,_,if_pos hb⟩
     . exact .inl (if_neg hb)
   . by_cases hb:b=a
     . have z':=(if_pos hb).symm.trans z
       cases z';subst hb;exact⟨ha,by rw[k3];exact hl,vs,_,rv,ha⟩
     . have z':=(if_neg hb).symm.trans z
       cases z'
   . by_cases hb:b=a
     . exact hb
     . exact absurd (if_neg hb) z
noncomputable abbrev Ex {K:W.Frag}{h:Heap}(_:K.In h):W.Frag:=K
theorem wR {l:W.OpenLaw}{n k:Nat}{q:Program}{loose:List Str}{XP:(Str->Option Value)->Heap->Prop}{YP:World->Heap->Prop}{d:DefRec}{K:Params->W.Frag}{CX:World->jr}{sp:World->Sp}{x:Str}(hn:l.most=some n)(Ar:n<=sizeLine)(Bl:d.params.defaults=[])(hr:b5 k callerA)(hY:∀ (w:World) (h:Heap),YP w h->(K w.params).In h)(F:∀ (w:World) (mg:Str->Option Value) (fa:Addr) (h:Heap),(K w.params).In h->h.Ns mainGlobals mg->mg d.name=some (.ref fa)->∃ fd:FuncData,(∀ (s:Shared) (u:Value),BindsTo s fd ⟨[u],[]⟩ [(x,u)])/\∀ base:Heap,(K w.params).In base->base.Ns mainGlobals mg->dA l.prog w (K w.params) mg base (CX w) k fa fd [x] (sp w))(yi:∀ (w:World) (H:Hp) (a:Addr) (ns:List Int),ns.length<=n->wQ H->jW (K w.params) H a (ns.map V.int)->sp w [.ref a] H (fun v _=>v=.bl true) fun _ _ _=>False)(Bp:∀ (w:World) (H:Hp) (s:Shared) (e:Value) (s':Shared),CX w [] H s (fun _ _ _=>False) e s'->False):W.WalkO q loose XP YP l.row.toRowW d [] (fun f vs=>PySem.call f vs):=by
 refine Att.oG hn Bl fun w s₀ s₁ mg mb fa o pm cd doc a vs ns G Y ho hd gX Bm zj hints hlen hg=>?_
 have KX:=hY w _ Y;obtain⟨fd,hb,hF⟩:=F w mg fa _ KX G.T.g Bm;exact t4 KX G.T.g G.T.b G.T.builtins G.T.nolimit hg zj hints (Ik hlen Ar) hr hF hb (fun H hO hS=>yi w H a ns hlen hO hS) fun H e s'=>Bp w H s₁ e s'
theorem t5 {l:W.OpenLaw}{n k:Nat}{q:Program}{loose:List Str}{XP:(Str->Option Value)->Heap->Prop}{YP:World->Heap->Prop}{d:DefRec}{K:Params->W.Frag}{CX:jr}{sp:W.Frag->Sp}{x:Str}(hn:l.most=some n)(Ar:n<=sizeLine)(Bl:d.params.defaults=[])(hr:b5 k callerA)(hY:∀ (w:World) (h:Heap),YP w h->(K w.params).In h)(F:∀ (w:World) (mg:Str->Option Value) (fa:Addr) (h:Heap),(K w.params).In h->h.Ns mainGlobals mg->mg d.name=some (.ref fa)->∃ fd:FuncData,(∀ (s:Shared) (u:Value),BindsTo s fd ⟨[u],[]⟩ [(x,u)])/\∀ base:Heap,(K w.params).In base->base.Ns mainGlobals mg->dA l.prog w (K w.params) mg base CX k fa fd [x] (sp (K w.params)))(yi:∀ (K:W.Frag) (H:Hp) (a:Addr) (ns:List Int),ns.length<=n->wQ H->jW K H a (ns.map V.int)->sp K [.ref a] H (fun v _=>v=.bl true) fun _ _ _=>False)(Bp:∀ (H:Hp) (s:Shared) (e:Value) (s':Shared),CX [] H s (fun _ _ _=>False) e s'->False):W.WalkO q loose XP YP l.row.toRowW d [] (fun f vs=>PySem.call f vs):=
 wR (K:=K) (CX:=fun _=>CX) (sp:=fun w=>sp (K w.params)) hn Ar Bl hr hY F (fun w H a ns h1 h2 h3=>yi (K w.params) H a ns h1 h2 h3) fun _ H s e s'=>Bp H s e s'
noncomputable def inClass (s:Stmt)(j:Nat):Stmt:=match s with
 | .ClassDef _ _ _ body _ _ _ _ _ _ _=>body.getD j (.Pass ⟨0,0,0,0⟩)
 | _=>.Pass ⟨0,0,0,0⟩
noncomputable def bf (s:Stmt):Arguments:=match s with
 | .FunctionDef _ a _ _ _ _ _ _ _ _=>a
 | _=>{ posonlyargs:=[],args:=[],vararg:=none,kwonlyargs:=[],kw_defaults:=[],kwarg:=none,defaults:=[]}
noncomputable def aH (s:Stmt):List Stmt:=match s with
 | .FunctionDef _ _ b _ _ _ _ _ _ _=>b
 | _=>[]
noncomputable def ah (s:Stmt):Scope:=match s with
 | .FunctionDef _ _ _ _ _ _ sc _ _ _=>sc
 | _=>{ kind:=.function,names:=[],isGenerator:=false,isCoroutine:=false}
abbrev Ey:jr:=fun _ _ _ _ _ _=>False
abbrev E0:XK:=fun _ _ _=>False
structure Au (K:W.Frag)(x qual:Str)(st:Stmt)(f:Addr)(fd:FuncData):Prop where
 ex:∃ (oc:Value) (od:Option Addr) (kV doc pm:Value) (an:Option Addr) (bh ct:Value) (l7:Array (Option Value)),
   fd=W.fnOf x qual (bf st) (aH st) (ah st) .none kV doc pm an bh ct/\K.lookup f=some ⟨oc,od,.func fd,l7⟩/\W.codeIn K bh qual=true
 kp:W.keepIn K (.ref f)=true
section
variable {K:W.Frag}
theorem Au.binds {x qual:Str}{st:Stmt}{f:Addr}{fd:FuncData}{ps:List Str}(F:Au K x qual st f fd)(h:∀ (kV doc pm:Value) (an:Option Addr) (bh ct:Value) (us:List Value),us.length=ps.length->bindArgs (W.fnOf x qual (bf st) (aH st) (ah st) .none kV doc pm an bh ct) ⟨us,[]⟩=pure (ps.zip us)):Binds K fd ps []:=by
 obtain⟨oc,od,kV,doc,pm,an,bh,ct,l7,rfl,lk,gX⟩:=F.ex;exact .all (h kV doc pm an bh ct)
theorem k7 {x qual:Str}{st:Stmt}{f:Addr}{oc:Value}{od an:Option Addr}{l7:Array (Option Value)}{kV doc pm bh ct:Value}(l:K.lookup f=some ⟨oc,od,.func (W.fnOf x qual (bf st) (aH st) (ah st) .none kV doc pm an bh ct),l7⟩)(c:W.codeIn K bh qual=true)(k:W.keepIn K (.ref f)=true):Au K x qual st f (W.fnOf x qual (bf st) (aH st) (ah st) .none kV doc pm an bh ct):=⟨⟨oc,od,kV,doc,pm,an,bh,ct,l7,rfl,l,c⟩,k⟩
end
theorem cj {n:Nat}(h:n<=1000):n < sizeLine:=IA h (by decide)
theorem rW {A B:Prop}(h:B):if false=true then A else B:=by
 rw[if_neg FJ];exact h
theorem t6 {A B:Prop}(h:A):if true=true then A else B:=by
 rw[if_pos rfl];exact h
def aI (H H':Hp):Prop:=∀ b o,H b=some o->H' b=some o
theorem aI.refl (H:Hp):aI H H:=fun _ _ h=>h
theorem aI.trans {H H1 H2:Hp}(a:aI H H1)(b:aI H1 H2):aI H H2:=fun c o h=>b c o (a c o h)
theorem aI.free {H H':Hp}(e:aI H H'){l:Addr}(h:H' l=Option.none):H l=Option.none:=by
 cases q:H l with
 | none=>rfl
 | some o=>
   rw[e l o q] at h;cases h
theorem aI.seq {K:W.Frag}{H H':Hp}{a:Addr}{xs:List V}(e:aI H H')(h:jW K H a xs):jW K H' a xs:=by
 rcases h with(h | ⟨o,h⟩ | ⟨_,_,_,_,h⟩ | ⟨o,h⟩) | h
 . exact .inl (.inl (e _ _ h))
 . exact .inl (.inr (.inl ⟨o,e _ _ h⟩))
 . cases h
 . exact .inl (.inr (.inr (.inr ⟨o,e _ _ h⟩)))
 . exact .inr h
end L2
set_option maxHeartbeats 4000000
namespace Sg
open PySem PySem.Spec PyProof.Rows L2 PySem.Builtin PySem.Builtin.Getset_descriptor
def pU (h:Heap)(x D:Addr):Prop:=∃ ox,h.get? x=some ox/\ox.cls=.ref D
theorem pU.ty {M:Model}{h:Heap}{x D:Addr}(I:pU h x D):W.Looks M h (typeOf (.ref x)) (.ref D):=by
 obtain⟨ox,h1,h2⟩:=I;rw[<- h2];exact(W.Looks.ld h1).andThen .now
theorem zk {prog:Program}{w:World}{A:Around}{E:Value->Shared->Prop}{K:W.Frag}{s:Shared}{x D:Addr}{name:Str}{tk:Tok}{fill expr:Bool}{Q:Value->Shared->Prop}{r:Builtin.ObjectAttr.Found}(X:K.In s.heap)(I:pU s.heap x D)
   (FU:W.findIn K (.ref D) "__getattribute__"=some (some (.builtin "BaseException.__getattribute__"))) (FV:W.findIn K (.ref D) "__getattr__"=some none) (wq:W.mroIn K D (.type "BaseException")=some true)
   (hf:W.Looks (model prog w) s.heap (Builtin.ObjectAttr.find (.ref x) (.ref D) name) r)
   (h:match r with
     | .bind g a=>wpAny (model prog w) A.in1 (call g [a,.ref x,.ref D]) (fun v s'=>wpAny (model prog w) A (handedOut v) Q E s') (fun _ _=>False) s
     | .value v=>wpAny (model prog w) A (handedOut v) Q E s
     | .missing=>False) :
   wpAny (model prog w) A (getAttrBy (.ref x) (.str name tk) fill expr) Q E s:=by
 obtain⟨hh,gg,d,t,os⟩:=s;have L0:=I.ty (M:=model prog w);have L1:=W.looks_findIn (M:=model prog w) X FU;have FW:=W.looks_findIn (M:=model prog w) X FV;have L4:=W.looks_mroIn (M:=model prog w) X wq;have f3:=PySem.F.excAttr_ValueError.ga.bind (.ref x);unfold getAttrBy;refine wpAny_holding (wpAny_bind (L0.at (wpAny_bind (L1.at ?_))));have Bq:(Value.builtin "BaseException.__getattribute__" == Value.builtin "object.__getattribute__")=false:=by
   decide +kernel
 simp only[Bq,Bool.and_false,Ic,if_false];unfold getAttrByItsOwn hookBefore;refine wpAny_bind (FW.at ?_);refine wpAny_bind (wpAny_attempt (wpAny_holding ?_));unfold callGetattribute boundAndCalled;have FX:(expr && onTheHeap (Value.builtin "BaseException.__getattribute__"))=false:=by
   cases expr <;> rfl
 rw[FX,f3];simp only[Ic,if_false];refine wpAny_bind (wpAny_pure ?_);have FY:W.Looks (model prog w) hh (isInstance (.ref x) (.type "BaseException")) true:=L0.andThen L4;refine wpAny_call (codeAny_call_builtin PySem.F.excAttr_ValueError.ga.plain PySem.F.entry_bexc_ga (@W.check_slot (model prog w) _ _ _ "BaseException.__getattribute__" "BaseException" "__getattribute__" (.ref x) [.str name tk] [] _ (by decide +kernel) (by decide +kernel) FY (PySem.F.args_bexc_ga _ _) ?_));unfold Builtin.«object.__getattribute__»;refine wpAny_bind (wpAny_pure ?_);show wpAny (model prog w) A.in1 (Builtin.ObjectAttr.attrName (.str name tk) >>= _) _ _ _;unfold Builtin.ObjectAttr.attrName;refine wpAny_bind (wpAny_pure (wpAny_bind (L0.at (wpAny_bind (hf.at ?_)))));cases r with
 | bind g a=>
   show wpAny (model prog w) A.in1 (Builtin.ObjectAttr.bindTo g a (.ref x) (.ref D)) _ _ _;unfold Builtin.ObjectAttr.bindTo;show wpAny (model prog w) A.in1 (holding [a] (call g [a,.ref x,.ref D]) >>= ret) _ _ _;exact wpAny_bind (wpAny_holding (wpAny_mono h (fun v s' z=>wpAny_pure z) fun _ _ z=>z.elim))
 | value v=>
   show wpAny (model prog w) A.in1 (ret v) _ _ _;exact wpAny_pure h
 | missing=>exact h.elim
theorem wU {prog:Program}{w:World}{A:Around}{K:W.Frag}{s:Shared}{x D:Addr}{tp:Value}{R:Result->Shared->Prop}(X:K.In s.heap)(I:pU s.heap x D)(hm:W.mroIn K D (.type "object")=some true)(hR:R (.ok (.ret (.ref D))) s):codeAny (model prog w) A (.call (.builtin "getset_descriptor.__get__") ⟨[.builtin "object.__class__",.ref x,tp],[]⟩) R s:=by
 obtain⟨hh,g,dr,t,os⟩:=s;have L0:=I.ty (M:=model prog w);have L1:=W.looks_mroIn (M:=model prog w) X hm;have pl:=W.KF.slot_gs.plain;have ent:=W.KF.entry_gs;refine codeAny_call_builtin pl ent (W.KF.slot_gs.check _ _ _ _ _ _ _ _ W.KF.type_class (W.KF.args_gs _ _ _) ?_);unfold Builtin.«getset_descriptor.__get__» descrGet;rw[W.dga_obj];refine wpAny_bind (wpAny_pure ?_);unfold descrGetter descrCheckInstance descrNameAndClass isInstance;simp only[W.KF.owner_class]
 repeat lk
 refine⟨Code.quiet_builtin _ (by decide +kernel),codeAny_builtin W.KF.entry_class ?_⟩;unfold Builtin.«object.__class__» shownTypeOf
 repeat lk
 exact hR
structure Av (K:W.Frag)(C:Addr):Prop where
 hc:(W.clsIn K C).isSome=true
 ga:W.findIn K (.ref C) "__getattribute__"=some (some (.builtin "BaseException.__getattribute__"))
 gt:W.findIn K (.ref C) "__getattr__"=some none
 be:W.mroIn K C (.type "BaseException")=some true
 ha:W.findIn K (.ref C) "__class__"=some (some (.builtin "object.__class__"))
 hn:W.specialIn K (.builtin "object.__class__") "__get__"=some (some (.builtin "getset_descriptor.__get__"))
 za:W.takesIn K (.builtin "object.__class__")=some true
 hm:W.mroIn K C (.type "object")=some true
theorem t7 {M:Model}{K:W.Frag}{h:Heap}{x C:Addr}(X:K.In h)(T:Av K C):W.Looks M h (Builtin.ObjectAttr.find (.ref x) (.ref C) "__class__") (.bind (.builtin "getset_descriptor.__get__") (.builtin "object.__class__")):=by
 refine(W.looks_findIn X T.ha).andThen ?_;refine(W.looks_specialIn X T.hn:W.Looks M h (Builtin.ObjectAttr.getOf (some (.builtin "object.__class__"))) _).andThen ?_;refine((W.looks_takesIn X T.za).andThen .now:W.Looks M h (Builtin.ObjectAttr.dataDescriptor? (some (.builtin "object.__class__")) (some (.builtin "getset_descriptor.__get__"))) (some (.builtin "getset_descriptor.__get__",.builtin "object.__class__"))).andThen ?_;exact W.Looks.tag .now
theorem oH {K:W.Frag}{x D:Addr}(T:Av K D):W.KitX K (.ref x) (.ref D) (fun h=>pU h x D) where
 ty:=fun _ _ _ I=>I.ty
 it:=fun M h X _=>by
   obtain⟨FZ,wI⟩:=Iz.mp T.hc;unfold W.clsIn at wI
   split at wI
   . rename_i u1 u2 u3 u4 Dp
     intro A' Q' E' s' k q;unfold isType loadHead;exact wpAny_bind (wpAny_loadPart (k _ _ (X _ _ Dp)) (wpAny_pure q))
   . cases wI
 ne:=fun h tp dd aF n sl X F0=>by
   obtain⟨FZ,wI⟩:=Iz.mp T.hc;refine Bool.eq_false_iff.mpr fun q=>?_
   have e:D=tp:=Value.ref.inj (beq_iff_eq.mp q);subst e;unfold W.clsIn at wI
   split at wI
   . rename_i u1 u2 u3 u4 Dp
     have z:=(X _ _ Dp).symm.trans F0;cases z
   . cases wI
 ca:=fun {prog w A E Q s} X I k=>by
   unfold getAttr? getAttrBy?;refine wpAny_bind (wpAny_mkText (wpAny_bind (wpAny_attempt ?_)));refine zk (s:={ s with toks:=s.toks+1}) X I T.ga T.gt T.be (t7 X T) ?_;refine wpAny_call (wU (s:={ s with toks:=s.toks+1}) X I T.hm ?_);exact W.handed_on rfl (wpAny_pure k)
end Sg
namespace Sg
open PySem PySem.Spec PyProof.Rows L2
noncomputable abbrev St:=L2.St
def t8 (h:Heap)(x C dx:Addr):Prop:=∃ ox,h.get? x=some ox/\ox.cls=.ref C/\ox.dict=some dx/\∃ vs,ox.data=.fields vs
theorem t8.of {h:Heap}{x C dx:Addr}(I:t8 h x C dx):pU h x C:=let ⟨ox,h1,h2,_⟩:=I;⟨ox,h1,h2⟩
inductive Dt where
 | b4
 | bl (b:Bool)
 | int (i:Int)
 | str (x:Str)
 | tup (ds:List Dt)
 | lst (ds:List Dt)
 | kh (ns:List Int)
 | jO (kvs:List (Key×Dt))
 | obj (C:Addr) (fs:List (Str×Dt))
 | ty (n:String)
 | cls (C:Addr)
 | xo (C:Addr)
 | jZ (kvs:List (Key×Dt))
 | rX (C:Addr) (fs:List (Str×Dt))
 | j0 (kvs:List (Key×Dt))
 | memo (a:Addr) (ls:oo) (j n:Nat)
 | gD (a:Addr) (ls:oo) (j n:Nat)
 | td (a:Addr) (ls:oo) (n:Nat)
 | oI (C:Addr) (fs:List (Str×Dt)) (gs:List (Nat->List (Key×FD))) (nm:List Str) (n:Nat)
 | wV (fd:FD)
 | fT (yk:List (List Key×Int))
noncomputable def Dq (fs:List (Str×Dt))(nm:List Str)(a:Addr)(ls:oo)(n:Nat):List (Str×Dt):=fs ++ (th nm.length).map fun j=>(nm.getD j "",.memo a ls j n)
def Known (H:Hp)(p:Addr)(f:Nat->List (Key×FD))(n:Nat):Prop:=∀ i,i < n->∃ q o kvs,H q=some (.kd (some (p,i)) o kvs)/\wm H kvs (f i)
def nc (H:Hp)(a:Addr)(ls:oo):Prop:=H a=some (.memo ls)\/∃ ns,H a=some (.jP ls ns)
theorem Known.mono {H H':Hp}{p:Addr}{f:Nat->List (Key×FD)}{n:Nat}(e:∀ b u,H b=some u->H' b=some u)(h:Known H p f n):Known H' p f n:=fun i hi=>let ⟨q,o,kvs,h1,h2⟩:=h i hi;⟨q,o,kvs,e _ _ h1,h2.kp (.of e)⟩
theorem nc.mono {H H':Hp}{a:Addr}{ls:oo}(e:∀ b u,H b=some u->H' b=some u)(h:nc H a ls):nc H' a ls:=h.imp (e _ _) fun⟨ns,z⟩=>⟨ns,e _ _ z⟩
mutual
inductive Rep (K:W.Frag)(H:Hp):V->Dt->Prop
 | b4:Rep K H .b4 .b4
 | bl (b:Bool):Rep K H (.bl b) (.bl b)
 | int (i:Int):Rep K H (.int i) (.int i)
 | str (x:Str):Rep K H (.str x) (.str x)
 | tup {a:Addr} {vs:List V} {ds:List Dt}:pG K H a vs->aS K H vs ds->Rep K H (.ref a) (.tup ds)
 | lst {a:Addr} {vs:List V} {ds:List Dt}:H a=some (.lst vs)->aS K H vs ds->Rep K H (.ref a) (.lst ds)
 | kh {a:Addr} {ns:List Int}:jW K H a (ns.map V.int)->Rep K H (.ref a) (.kh ns)
 | jO {a:Addr} {kvs:List (Key×V)} {iu:List (Key×Dt)}:H a=some (.dK kvs)->i4 K H kvs iu->Rep K H (.ref a) (.jO iu)
 | obj {a C dx:Addr} {fs:List (Str×V)} {ds:List (Str×Dt)}:Rd H a (.ins C dx fs)->cN K H fs ds->Rep K H (.ref a) (.obj C ds)
 | ty (n:String):Rep K H (.ty n) (.ty n)
 | cls (C:Addr):Rep K H (.ref C) (.cls C)
 | xo {a C:Addr} {ph:Heap->Prop}:H a=some (.ext ph)->(∀ h,ph h->pU h a C)->Rep K H (.ref a) (.xo C)
 | jZ {a:Addr} {ob:Obj} {kvs:List (Key×V)} {iu:List (Key×Dt)}:H a=some (.bH ob (.dK kvs))->i4 K H kvs iu->Rep K H (.ref a) (.jZ iu)
 | rX {a C dx:Addr} {ph:Heap->Prop} {fs:List (Str×V)} {ds:List (Str×Dt)}:H a=some (.ext ph)->(∀ h,ph h->t8 h a C dx)->H dx=some (.xd fs)->cN K H fs ds->Rep K H (.ref a) (.rX C ds)
 | j0 {a:Addr} {tg:Option (Addr×Nat)} {ob:Obj} {kvs:List (Key×V)} {iu:List (Key×Dt)}:H a=some (.kd tg ob kvs)->i4 K H kvs iu->Rep K H (.ref a) (.j0 iu)
 | memo {a p:Addr} {ls:oo} {j n:Nat} {f:Nat->List (Key×FD)}:ls[j]?=some (p,f)->H a=some (.memo ls)->(p=a\/H p=some (.part a))->Known H p f n->Rep K H (.ref p) (.memo a ls j n)
 | gD {a p:Addr} {ls:oo} {j n:Nat} {f:Nat->List (Key×FD)}:ls[j]?=some (p,f)->nc H a ls->(p=a\/H p=some (.part a))->Known H p f n->Rep K H (.ref p) (.gD a ls j n)
 | td {a:Addr} {ls:oo} {n:Nat}:(∀ (j:Nat) (p:Addr) (f:Nat->List (Key×FD)),ls[j]?=some (p,f)->Known H p f n)->Rep K H .b4 (.td a ls n)
 | oI {s a C dx:Addr} {fv:List (Str×V)} {fs:List (Str×Dt)} {gs:List (Nat->List (Key×FD))} {nm:List Str} {n:Nat} {ls:oo}:ls.map (·.2)=gs->Rd H s (.ins C dx fv)->cN K H fv (Dq fs nm a ls n)->Rep K H (.ref s) (.oI C fs gs nm n)
 | wV {v:V} {fd:FD}:Fz H v fd->Rep K H v (.wV fd)
 | fT {a:Addr} {yk:List (List Key×Int)}:H a=some (.dT (yk.map fun k=>(k.1,V.int k.2)))->Rep K H (.ref a) (.fT yk)
inductive aS (K:W.Frag)(H:Hp):List V->List Dt->Prop
 | nil:aS K H [] []
 | cons {v:V} {d:Dt} {vs:List V} {ds:List Dt}:Rep K H v d->aS K H vs ds->aS K H (v::vs) (d::ds)
inductive i4 (K:W.Frag)(H:Hp):List (Key×V)->List (Key×Dt)->Prop
 | nil:i4 K H [] []
 | cons {k:Key} {v:V} {d:Dt} {vs:List (Key×V)} {ds:List (Key×Dt)}:Rep K H v d->i4 K H vs ds->i4 K H ((k,v)::vs) ((k,d)::ds)
inductive cN (K:W.Frag)(H:Hp):List (Str×V)->List (Str×Dt)->Prop
 | nil:cN K H [] []
 | cons {k:Str} {v:V} {d:Dt} {vs:List (Str×V)} {ds:List (Str×Dt)}:Rep K H v d->cN K H vs ds->cN K H ((k,v)::vs) ((k,d)::ds)
end
theorem cX {H H':Hp}{a:Addr}{u:HO}(e:aI H H')(h:Rd H a u):Rd H' a u:=by
 rcases h with h | ⟨o,h⟩ | ⟨tg,o,kvs,h,z⟩ | ⟨o,h⟩
 . exact .inl (e _ _ h)
 . exact .inr (.inl ⟨o,e _ _ h⟩)
 . exact .inr (.inr (.inl ⟨tg,o,kvs,e _ _ h,z⟩))
 . exact .inr (.inr (.inr ⟨o,e _ _ h⟩))
theorem bq {K:W.Frag}{H H':Hp}{a:Addr}{xs:List V}(e:aI H H')(h:pG K H a xs):pG K H' a xs:=by
 rcases h with h | h
 . exact .inl (e _ _ h)
 . exact .inr h
mutual
theorem Rep.mono {K:W.Frag}{H H':Hp}(e:aI H H'):∀ {v:V} {d:Dt},Rep K H v d->Rep K H' v d
 | _,_,.b4=>.b4
 | _,_,.bl b=>.bl b
 | _,_,.int i=>.int i
 | _,_,.str x=>.str x
 | _,_,.tup h r=>.tup (bq e h) (aS.mono e r)
 | _,_,.lst h r=>.lst (e _ _ h) (aS.mono e r)
 | _,_,.kh h=>.kh (e.seq h)
 | _,_,.jO h r=>.jO (e _ _ h) (i4.mono e r)
 | _,_,.obj h r=>.obj (cX e h) (cN.mono e r)
 | _,_,.ty n=>.ty n
 | _,_,.cls C=>.cls C
 | _,_,.xo h r=>.xo (e _ _ h) r
 | _,_,.jZ h r=>.jZ (e _ _ h) (i4.mono e r)
 | _,_,.rX h q g r=>.rX (e _ _ h) q (e _ _ g) (cN.mono e r)
 | _,_,.j0 h r=>.j0 (e _ _ h) (i4.mono e r)
 | _,_,.memo h1 h2 h3 h4=>.memo h1 (e _ _ h2) (h3.imp id fun z=>e _ _ z) (h4.mono e)
 | _,_,.gD h1 h2 h3 h4=>.gD h1 (h2.mono e) (h3.imp id fun z=>e _ _ z) (h4.mono e)
 | _,_,.td h=>.td fun j p f z=>(h j p f z).mono e
 | _,_,.oI h1 h2 h3=>.oI h1 (cX e h2) (cN.mono e h3)
 | _,_,.wV h=>.wV (h.st fun b u q _=>e b u q)
 | _,_,.fT h=>.fT (e _ _ h)
theorem aS.mono {K:W.Frag}{H H':Hp}(e:aI H H'):∀ {v:List V} {d:List Dt},aS K H v d->aS K H' v d
 | _,_,.nil=>.nil
 | _,_,.cons h r=>.cons (Rep.mono e h) (aS.mono e r)
theorem i4.mono {K:W.Frag}{H H':Hp}(e:aI H H'):∀ {v:List (Key×V)} {d:List (Key×Dt)},i4 K H v d->i4 K H' v d
 | _,_,.nil=>.nil
 | _,_,.cons h r=>.cons (Rep.mono e h) (i4.mono e r)
theorem cN.mono {K:W.Frag}{H H':Hp}(e:aI H H'):∀ {v:List (Str×V)} {d:List (Str×Dt)},cN K H v d->cN K H' v d
 | _,_,.nil=>.nil
 | _,_,.cons h r=>.cons (Rep.mono e h) (cN.mono e r)
end
theorem aS.length {K:W.Frag}{H:Hp}:∀ {v:List V} {d:List Dt},aS K H v d->v.length=d.length
 | _,_,.nil=>rfl
 | _,_,.cons _ r=>congrArg (·+1) (aS.length r)
theorem aS.get {K:W.Frag}{H:Hp}:∀ {v:List V} {d:List Dt} {i:Nat} {x:Dt},aS K H v d->d[i]?=some x->∃ y,v[i]?=some y/\Rep K H y x
 | _,_,_,_,.nil,e=>by simp at e
 | _,_,0,_,.cons h _,e=>by simp at e;subst e;exact⟨_,rfl,h⟩
 | _,_,i+1,x,.cons _ r,e=>by
   obtain⟨y,h1,h2⟩:=aS.get (i:=i) (x:=x) r (by simpa using e);exact⟨y,by simpa using h1,h2⟩
theorem aS.get' {K:W.Frag}{H:Hp}{v:List V}{d:List Dt}{i:Nat}{y:V}(r:aS K H v d)(e:v[i]?=some y):∃ x,d[i]?=some x/\Rep K H y x:=by
 have hi:i < v.length:=(Hx.mp e).1;have Ez:i < d.length:=by rw[<- r.length];exact hi
 obtain⟨z,h1,h2⟩:=r.get (DT Ez);rw[e] at h1;cases h1;exact⟨_,DT Ez,h2⟩
theorem aS.append {K:W.Frag}{H:Hp}:∀ {v:List V} {d:List Dt} {v':List V} {d':List Dt},aS K H v d->aS K H v' d'->aS K H (v ++ v') (d ++ d')
 | _,_,_,_,.nil,s=>s
 | _,_,_,_,.cons h r,s=>.cons h (aS.append r s)
theorem aS.set {K:W.Frag}{H:Hp}{y:V}{x:Dt}(q:Rep K H y x):∀ {v:List V} {d:List Dt} (n:Nat),aS K H v d->aS K H (v.set n y) (d.set n x)
 | _,_,_,.nil=>.nil
 | _,_,0,.cons _ r=>.cons q r
 | _,_,n+1,.cons h r=>.cons h (aS.set q n r)
theorem cN.lookup {K:W.Frag}{H:Hp}{f:Str}:∀ {v:List (Str×V)} {d:List (Str×Dt)} {x:Dt},cN K H v d->d.lookup f=some x->∃ y,v.lookup f=some y/\Rep K H y x
 | _,_,_,.nil,e=>by simp at e
 | (k,v)::r,(_,d)::s,x,.cons h t,e=>by
   rw[Ie] at e ⊢;cases q:(f == k) with
   | true=>rw[q] at e;cases e;exact⟨v,rfl,h⟩
   | false=>rw[q] at e;exact cN.lookup t e
theorem cN.none_of {K:W.Frag}{H:Hp}{f:Str}:∀ {v:List (Str×V)} {d:List (Str×Dt)},cN K H v d->d.lookup f=none->v.lookup f=none
 | _,_,.nil,_=>rfl
 | (k,v)::r,(_,d)::s,.cons h t,e=>by
   rw[Ie] at e ⊢;cases q:(f == k) with
   | true=>rw[q] at e;cases e
   | false=>rw[q] at e;exact cN.none_of t e
theorem cN.length {K:W.Frag}{H:Hp}:∀ {v:List (Str×V)} {d:List (Str×Dt)},cN K H v d->v.length=d.length
 | _,_,.nil=>rfl
 | _,_,.cons _ r=>congrArg (·+1) (cN.length r)
structure bj (Hf H aB H':Hp):Prop where
 big:aI H H'
 bH:aI Hf aB
 sub:aI aB H'
 new:∀ a o,aB a=some o->(∃ o,Hf a=some o)\/H a=Option.none\/Kept o
theorem bj.refl {Hf H:Hp}(s:aI Hf H):bj Hf H Hf H:=⟨aI.refl _,aI.refl _,s,fun a o h=>.inl ⟨o,h⟩⟩
theorem bj.trans {Hf H aA H1 dz H2:Hp}(a:bj Hf H aA H1)(b:bj aA H1 dz H2):bj Hf H dz H2:=
 ⟨a.big.trans b.big,a.bH.trans b.bH,b.sub,fun x o h=>by
   rcases b.new x o h with⟨o',h'⟩ | h' | h'
   . have e:=b.bH _ _ h'
     rw[h] at e;cases e;exact a.new x o h'
   . exact .inr (.inl (a.big.free h'))
   . exact .inr (.inr h')⟩
theorem bj.pV {Hf H aB H':Hp}(g:bj Hf H aB H'){a:Addr}{u o:HO}(h:H a=some u)(nk:¬ Kept u)(q:aB a=some o):∃ o,Hf a=some o:=by
 rcases g.new a o q with z | z | z
 . exact z
 . rw[h] at z;cases z
 . have e:=g.big _ _ h
   rw[g.sub _ _ q] at e;cases e;exact absurd z nk
theorem aX {H:Hp}{p:Addr}{o:HO}(n:H p=Option.none):aI H (upd H p o):=fun b u e=>by
 rw[ar (aJ e n)];exact e
theorem rY {Hf H:Hp}{p:Addr}{o:HO}(s:aI Hf H):aI (upd Hf p o) (upd H p o):=fun b u e=>by
 by_cases hb:b=p
 . subst hb;rw[au] at e ⊢;exact e
 . rw[ar hb] at e ⊢;exact s _ _ e
theorem jx {Hf H:Hp}{p:Addr}{o:HO}(s:aI Hf H)(n:Hf p=Option.none):aI Hf (upd H p o):=fun b u e=>by
 rw[ar (aJ e n)];exact s _ _ e
theorem bj.alloc {Hf H:Hp}{p:Addr}{o:HO}(s:aI Hf H)(n:H p=Option.none):bj Hf H (upd Hf p o) (upd H p o):=
 ⟨aX n,aX (s.free n),rY s,fun a u h=>by
   by_cases hb:a=p
   . subst hb;exact .inr (.inl n)
   . rw[ar hb] at h;exact .inl ⟨u,h⟩⟩
theorem bj.iH {Hf H:Hp}{p:Addr}{o:HO}(s:aI Hf H)(n:H p=Option.none):bj Hf H Hf (upd H p o):=
 ⟨aX n,aI.refl _,jx s (s.free n),fun a u h=>.inl ⟨u,h⟩⟩
inductive Own where
 | lst (ds:List Dt)
 | jO (iu:List (Key×Dt))
 | obj (C:Addr) (fs:List (Str×Dt))
 | v9 (x:Addr) (C:Addr) (fs:List (Str×Dt))
 | oJ (C:Addr) (fs:List (Str×Dt)) (gs:List (Nat->List (Key×FD))) (nm:List Str) (n:Nat)
 | pW (x:Addr) (C:Addr) (fs:List (Str×Dt)) (gs:List (Nat->List (Key×FD))) (nm:List Str) (n:Nat)
 | fT (yk:List (List Key×Int))
set_option genInjectivity true in
inductive Slot where
 | df
 | val (d:Dt)
 | own (o:Own)
def dS (K:W.Frag)(Hf H:Hp)(a:Addr):Own->Prop
 | .lst ds=>∃ vs,H a=some (.lst vs)/\aS K Hf vs ds
 | .jO iu=>∃ kvs,H a=some (.dK kvs)/\i4 K Hf kvs iu
 | .obj C ds=>∃ dx fs,H a=some (.ins C dx fs)/\cN K Hf fs ds
 | .v9 x C ds=>a=x/\∃ dx fs,H a=some (.ins C dx fs)/\cN K Hf fs ds
 | .oJ C ds gs nm n=>∃ dx fs b ls,(ls:oo).map (·.2)=gs/\H a=some (.ins C dx fs)/\cN K Hf fs (Dq ds nm b ls n)
 | .pW x C ds gs nm n=>a=x/\∃ dx fs b ls,(ls:oo).map (·.2)=gs/\H a=some (.ins C dx fs)/\cN K Hf fs (Dq ds nm b ls n)
 | .fT yk=>H a=some (.dT (yk.map fun k=>(k.1,V.int k.2)))
theorem dS.Br {K:W.Frag}{Hf H:Hp}{a:Addr}:∀ {o:Own},dS K Hf H a o->∃ u,H a=some u/\¬ Kept u
 | .lst _,⟨_,h,_⟩=>⟨_,h,fun z=>z⟩
 | .jO _,⟨_,h,_⟩=>⟨_,h,fun z=>z⟩
 | .obj _ _,⟨_,_,h,_⟩=>⟨_,h,fun z=>z⟩
 | .v9 _ _ _,⟨_,_,_,h,_⟩=>⟨_,h,fun z=>z⟩
 | .oJ _ _ _ _ _,⟨_,_,_,_,_,h,_⟩=>⟨_,h,fun z=>z⟩
 | .pW _ _ _ _ _ _,⟨_,_,_,_,_,_,h,_⟩=>⟨_,h,fun z=>z⟩
 | .fT _,h=>⟨_,h,fun z=>z⟩
theorem dS.some {K:W.Frag}{Hf H:Hp}{a:Addr}:∀ {o:Own},dS K Hf H a o->∃ u,H a=some u
 | .lst _,⟨_,h,_⟩=>⟨_,h⟩
 | .jO _,⟨_,h,_⟩=>⟨_,h⟩
 | .obj _ _,⟨_,_,h,_⟩=>⟨_,h⟩
 | .v9 _ _ _,⟨_,_,_,h,_⟩=>⟨_,h⟩
 | .oJ _ _ _ _ _,⟨_,_,_,_,_,h,_⟩=>⟨_,h⟩
 | .pW _ _ _ _ _ _,⟨_,_,_,_,_,_,h,_⟩=>⟨_,h⟩
 | .fT _,h=>⟨_,h⟩
theorem dS.grow {K:W.Frag}{Hf H aB H':Hp}{a:Addr}(e:H' a=H a)(f:aI Hf aB):∀ {o:Own},dS K Hf H a o->dS K aB H' a o
 | .lst _,⟨vs,h,r⟩=>⟨vs,by rw[e];exact h,r.mono f⟩
 | .jO _,⟨vs,h,r⟩=>⟨vs,by rw[e];exact h,r.mono f⟩
 | .obj _ _,⟨dx,fs,h,r⟩=>⟨dx,fs,by rw[e];exact h,r.mono f⟩
 | .v9 _ _ _,⟨q,dx,fs,h,r⟩=>⟨q,dx,fs,by rw[e];exact h,r.mono f⟩
 | .oJ _ _ _ _ _,⟨dx,fs,b,ls,q,h,r⟩=>⟨dx,fs,b,ls,q,by rw[e];exact h,r.mono f⟩
 | .pW _ _ _ _ _ _,⟨q0,dx,fs,b,ls,q,h,r⟩=>⟨q0,dx,fs,b,ls,q,by rw[e];exact h,r.mono f⟩
 | .fT yk,h=>(show H' a=Option.some (HO.dT (yk.map fun k=>(k.1,V.int k.2))) from by rw[e];exact h)
structure Gr where
 Hf:Hp
 H:Hp
structure cK (K:W.Frag)(G:Gr)(st:L2.St)(Hf H:Hp)(dl:List Slot):Prop where
 gr:bj G.Hf G.H Hf H
 len:st.length=dl.length
 val:∀ (i:Nat) d,dl[i]?=some (.val d)->∃ v,st[i]?=some (some v)/\Rep K Hf v d
 own:∀ (i:Nat) o,dl[i]?=some (.own o)->∃ a,st[i]?=some (some (.ref a))/\Hf a=Option.none/\G.H a=Option.none/\dS K Hf H a o
 tf:∀ (i j:Nat) o o' a,dl[i]?=some (.own o)->dl[j]?=some (.own o')->st[i]?=some (some (.ref a))->st[j]?=some (some (.ref a))->i=j
section
variable {K:W.Frag}{G:Gr}{st:L2.St}{Hf H aB H':Hp}{dl dl':List Slot}
theorem cK.sub (S:cK K G st Hf H dl):aI Hf H:=S.gr.sub
theorem cK.grow (S:cK K G st Hf H dl)(g:bj Hf H aB H'):cK K G st aB H' dl:=by
 refine⟨S.gr.trans g,S.len,fun i d h=>let ⟨v,h1,h2⟩:=S.val i d h;⟨v,h1,h2.mono g.bH⟩,fun i o h=>?_,S.tf⟩;obtain⟨a,h1,h2,h3,h4⟩:=S.own i o h;obtain⟨u,hu,nk⟩:=h4.Br;refine⟨a,h1,?_,h3,h4.grow (by rw[hu];exact g.big _ _ hu) g.bH⟩;cases q:aB a with
 | none=>rfl
 | some u'=>
   obtain⟨o',z⟩:=g.pV hu nk q;rw[h2] at z;cases z
theorem cK.set (S:cK K G st Hf H dl){i:Nat}{v:V}{d:Dt}(r:Rep K Hf v d):cK K G (st.set i (some v)) Hf H (dl.set i (.val d)):=by
 have ln:=S.len;refine⟨S.gr,by simp[S.len],fun j x h=>?_,fun j o h=>?_,fun j k o o' a h1 h2 h3 h4=>?_⟩
 . by_cases e:i=j
   . subst e
     by_cases hl:i < dl.length
     . rw[k0 hl] at h;cases h
       exact⟨v,k0 (by omega),r⟩
     . rw[Cp (by simp;omega)] at h;cases h
   . rw[k2 e] at h ⊢;exact S.val j x h
 . by_cases e:i=j
   . subst e
     by_cases hl:i < dl.length
     . rw[k0 hl] at h;cases h
     . rw[Cp (by simp;omega)] at h;cases h
   . rw[k2 e] at h ⊢;exact S.own j o h
 . have nj:i≠j:=fun e=>by
     subst e;by_cases hl:i < dl.length
     . rw[k0 hl] at h1;cases h1
     . rw[Cp (by simp;omega)] at h1;cases h1
   have nk:i≠k:=fun e=>by
     subst e;by_cases hl:i < dl.length
     . rw[k0 hl] at h2;cases h2
     . rw[Cp (by simp;omega)] at h2;cases h2
   rw[k2 nj] at h1 h3;rw[k2 nk] at h2 h4;exact S.tf j k o o' a h1 h2 h3 h4
theorem cK.zl (S:cK K G st Hf H dl){i:Nat}{p:Addr}{o:HO}{w w':Own}(hi:dl[i]?=some (.own w))(hp:st[i]?=some (some (.ref p)))(r:dS K Hf (upd H p o) p w'):cK K G st Hf (upd H p o) (dl.set i (.own w')):=by
 have ln:=S.len;obtain⟨p',q1,q2,q3,q4⟩:=S.own i w hi;rw[hp] at q1;cases q1;have hl:i < dl.length:=(Hx.mp hi).1;have g:bj G.Hf G.H Hf (upd H p o):=⟨fun b u e=>by rw[ar (aJ e q3)];exact S.gr.big _ _ e,S.gr.bH,jx S.sub q2,S.gr.new⟩
 refine⟨g,by simp[S.len],fun j x h=>?_,fun j o' h=>?_,fun j k o1 o2 a h1 h2 h3 h4=>?_⟩
 . by_cases e:i=j
   . subst e;rw[k0 hl] at h;cases h
   . rw[k2 e] at h;exact S.val j x h
 . by_cases e:i=j
   . subst e;rw[k0 hl] at h;cases h
     exact⟨p,hp,q2,q3,r⟩
   . rw[k2 e] at h
     obtain⟨a,z1,z2,z3,z4⟩:=S.own j o' h;have:a≠p:=fun q=>by subst q;exact e (S.tf i j _ _ _ hi h hp z1)
     exact⟨a,z1,z2,z3,z4.grow (ar this) (aI.refl _)⟩
 . have tr:∀ (j:Nat) o',(dl.set i (.own w'))[j]?=some (.own o')->∃ F1,dl[j]?=some (.own F1):=fun j o' h=>by
     by_cases e:i=j
     . subst e;exact⟨_,hi⟩
     . rw[k2 e] at h;exact⟨_,h⟩
   obtain⟨_,t1⟩:=tr j o1 h1;obtain⟨_,t2⟩:=tr k o2 h2;exact S.tf j k _ _ a t1 t2 h3 h4
def Le (dl dl':List Slot):Prop:=dl.length=dl'.length/\∀ (i:Nat) s,dl[i]?=some s->s≠.df->dl'[i]?=some s
theorem Le.refl (dl:List Slot):Le dl dl:=⟨rfl,fun _ _ h _=>h⟩
theorem cK.weak (S:cK K G st Hf H dl')(l:Le dl dl'):cK K G st Hf H dl:=
 ⟨S.gr,by rw[S.len,l.1],fun i d h=>S.val i d (l.2 i _ h (by intro z;cases z)),fun i o h=>S.own i o (l.2 i _ h (by intro z;cases z)),
  fun i j o o' a h1 h2=>S.tf i j o o' a (l.2 i _ h1 (by intro z;cases z)) (l.2 j _ h2 (by intro z;cases z))⟩
def Bs:List Slot->List Slot->Prop
 | [],[]=>True
 | .df::r,_::s=>Bs r s
 | x::r,y::s=>x=y/\Bs r s
 | _,_=>False
theorem Le.of:∀ {dl dl':List Slot},Bs dl dl'->Le dl dl'
 | [],[],_=>Le.refl _
 | .df::r,y::s,h=>by
   have q:=Le.of (dl:=r) (dl':=s) h;refine⟨congrArg (·+1) q.1,fun i x e n=>?_⟩;cases i with
   | zero=>simp at e;exact absurd e.symm n
   | succ i=>exact q.2 i x (by simpa using e) n
 | .val d::r,y::s,h=>by
   obtain⟨h1,h2⟩:=(show Slot.val d=y/\Bs r s from h)
   subst h1;have q:=Le.of h2;refine⟨congrArg (·+1) q.1,fun i x e n=>?_⟩;cases i with
   | zero=>exact e
   | succ i=>exact q.2 i x (by simpa using e) n
 | .own d::r,y::s,h=>by
   obtain⟨h1,h2⟩:=(show Slot.own d=y/\Bs r s from h)
   subst h1;have q:=Le.of h2;refine⟨congrArg (·+1) q.1,fun i x e n=>?_⟩;cases i with
   | zero=>exact e
   | succ i=>exact q.2 i x (by simpa using e) n
end
def tD (K:PySem.W.Frag)(G:Gr)(dl:List Slot)(d:Dt):TE:=fun st H Q=>∃ Hf,cK K G st Hf H dl/\∀ v aB H',bj Hf H aB H'->Rep K aB v d->Q v H'
def Dr (K:PySem.W.Frag)(G:Gr)(dl:List Slot)(ds:List Dt):TA:=fun st H Q=>∃ Hf,cK K G st Hf H dl/\∀ vs aB H',bj Hf H aB H'->aS K aB vs ds->Q vs H'
def EC (K:PySem.W.Frag)(G:Gr)(dl:List Slot)(b:Bool):TT:=fun st H Q=>∃ Hf,cK K G st Hf H dl/\∀ aB H',bj Hf H aB H'->Q b H'
abbrev EE (X:Cx)(G:Gr)(dl:List Slot)(e:Expr)(d:Dt):Prop:=PE X e (tD X.K G dl d)
abbrev EA (X:Cx)(G:Gr)(dl:List Slot)(es:List Expr)(ds:List Dt):Prop:=PA X es (Dr X.K G dl ds)
abbrev EB (X:Cx)(G:Gr)(dl:List Slot)(e:Expr)(b:Bool):Prop:=PT X e (EC X.K G dl b)
def ExcAt (K:PySem.W.Frag)(Hf:Hp)(od:Option Addr)(fs:List (Str×Dt)):Prop:=match od with
 | none=>fs=[]
 | some dx=>∃ fv,Hf dx=some (.xd fv)/\cN K Hf fv fs
inductive Out where
 | nx (dl:List Slot)
 | rt (d:Dt)
 | ro (w:Own)
 | bk (dl:List Slot)
 | ct (dl:List Slot)
 | ex (c:Value) (fs:List (Str×Dt))
 | raw (R:L2.St->Hp->Prop)
def k8 (K:W.Frag)(G:Gr)(E:XK)(D:Ends)(Hf:Hp):Out->Prop
 | .nx dl=>∀ st aB H,aI Hf aB->cK K G st aB H dl->D.nx st H
 | .bk dl=>∀ st aB H,aI Hf aB->cK K G st aB H dl->D.bk st H
 | .ct dl=>∀ st aB H,aI Hf aB->cK K G st aB H dl->D.ct st H
 | .rt d=>∀ v aB H,bj G.Hf G.H aB H->Rep K aB v d->D.rt v H
 | .ro o=>∀ p aB H,bj G.Hf G.H aB H->G.H p=none->aB p=none->dS K aB H p o->D.rt (.ref p) H
 | .ex c fs=>∀ od aB H,bj G.Hf G.H aB H->ExcAt K aB od fs->E c od H
 | .raw R=>∀ st H,R st H->D.nx st H
theorem k8.mono {K:W.Frag}{G:Gr}{E:XK}{D:Ends}{Hf aA:Hp}(s:aI Hf aA):∀ {o:Out},k8 K G E D Hf o->k8 K G E D aA o
 | .nx _,k=>fun st aB H s' S=>k st aB H (s.trans s') S
 | .bk _,k=>fun st aB H s' S=>k st aB H (s.trans s') S
 | .ct _,k=>fun st aB H s' S=>k st aB H (s.trans s') S
 | .rt _,k=>k
 | .ro _,k=>k
 | .ex _ _,k=>k
 | .raw _,k=>k
def tO (K:W.Frag)(G:Gr)(E:XK)(dl:List Slot)(o:Out):TS:=fun D st H=>∃ Hf,cK K G st Hf H dl/\k8 K G E D Hf o
abbrev ES (X:Cx)(G:Gr)(E:XK)(dl:List Slot)(s:Stmt)(o:Out):Prop:=PS X s (tO X.K G E dl o)
abbrev l8 (X:Cx)(G:Gr)(E:XK)(dl:List Slot)(s:List Stmt)(o:Out):Prop:=j9 X s (tO X.K G E dl o)
theorem eW {X:Cx}{e:Expr}{t t':TE}(h:PE X e t)(i:∀ st H Q,t' st H Q->t st H Q):PE X e t':=fun pins s st H Q I q=>h pins s st H Q I (i st H Q q)
theorem Ds {X:Cx}{e:Expr}{t t':TT}(h:PT X e t)(i:∀ st H Q,t' st H Q->t st H Q):PT X e t':=fun pins s st H Q I q=>h pins s st H Q I (i st H Q q)
theorem ED {X:Cx}{e:List Expr}{t t':TA}(h:PA X e t)(i:∀ st H Q,t' st H Q->t st H Q):PA X e t':=fun pos pins s st H Q I q=>h pos pins s st H Q I (i st H Q q)
theorem pX {X:Cx}{e:Stmt}{t t':TS}(h:PS X e t)(i:∀ D st H,t' D st H->t D st H):PS X e t':=fun pins s st H D I q=>h pins s st H D I (i D st H q)
theorem pY {X:Cx}{e:List Stmt}{t t':TS}(h:j9 X e t)(i:∀ D st H,t' D st H->t D st H):j9 X e t':=fun pins s st H D I q=>h pins s st H D I (i D st H q)
section
variable {X:Cx}{G:Gr}{dl:List Slot}{a b e:Expr}{i j:Int}{d d1 d2:Dt}{pos:Pos}{x:Str}{u v:Bool}
theorem aa (n:Nat){x:Str}{pos:Pos}(hd:autoParam (dl[n]?=some (.val d)) jp)(hN:autoParam (X.N[n]?=some x) jp)(hv:autoParam (sZ X.env.scope x) xL)(hb:autoParam ((x == ("__debug__":Str))=false) z8)(gX:autoParam ((x == ("__classdict__":Str))=false) z8):EE X G dl (.Name x pos) d:=
 eW (kT hN hv hb gX) fun st H Q zq=>k1 zq fun Hf zq=>have S:=zq.1;have k:=zq.2;let ⟨v,h1,h2⟩:=S.val n d hd;⟨v,h1,k v Hf H (.refl S.sub) h2⟩
theorem af {z:Int}{j pos}:EE X G dl (.Constant (.int z) j pos) (.int z):=eW pF fun st H Q zq=>k1 zq fun Hf zq=>have S:=zq.1;have k:=zq.2;k _ Hf H (.refl S.sub) (.int z)
theorem yl {z:Bool}{j pos}:EE X G dl (.Constant (.bool z) j pos) (.bl z):=eW AI fun st H Q zq=>k1 zq fun Hf zq=>have S:=zq.1;have k:=zq.2;k _ Hf H (.refl S.sub) (.bl z)
theorem aT {z:Str}{j pos}:EE X G dl (.Constant (.str z) j pos) (.str z):=eW yG fun st H Q zq=>k1 zq fun Hf zq=>have S:=zq.1;have k:=zq.2;k _ Hf H (.refl S.sub) (.str z)
def wW (K:W.Frag)(r:R2)(d1 d2 d:Dt):Prop:=∀ v w Hf H Q,aI Hf H->Rep K Hf v d1->Rep K Hf w d2->(∀ u aB H',bj Hf H aB H'->Rep K aB u d->Q u H')->r v w H Q
theorem mJ {r:R2}(h:wW X.K r d1 d2 d):∀ st H Q,tD X.K G dl d st H Q->AV r (tD X.K G dl d1) (tD X.K G dl d2) st H Q:=fun st H Q zq=>k1 zq fun Hf zq=>have S:=zq.1;have k:=zq.2;
 ⟨Hf,S,fun v aA H1 g1 r1=>⟨aA,S.grow g1,fun w dz H2 g2 r2=>h v w dz H2 Q g2.sub (r1.mono g2.bH) r2 fun u rZ H3 g3 r3=>k u rZ H3 ((g1.trans g2).trans g3) r3⟩⟩
theorem mK {op:Operator}{r:R2}(ho:ju X (binaryOp op) r)(h:wW X.K r d1 d2 d)(ha:EE X G dl a d1)(hb:EE X G dl b d2):EE X G dl (.BinOp a op b pos) d:=eW (tN ho ha hb) (mJ h)
theorem zm {op:CmpOp}{r:R2}(ho:ju X (compareOp op) r)(h:wW X.K r d1 d2 d)(hm:behindInMarks op b=false)(ha:EE X G dl a d1)(hb:EE X G dl b d2):EE X G dl (.Compare a [op] [b] pos) d:=eW (wF ho ha hb hm) (mJ h)
theorem fU {op:CmpOp}{r:R2}(ho:ju X (compareOp op) r)(h:wW X.K r d1 d2 (.bl u))(hm:behindInMarks op b=false)(ha:EE X G dl a d1)(hb:EE X G dl b d2):EB X G dl (.Compare a [op] [b] pos) u:=
 Ds (wG ho ha hb hm) fun st H Q zq=>k1 zq fun Hf zq=>have S:=zq.1;have k:=zq.2;mJ h st H _ ⟨Hf,S,fun v aB H' g r=>by cases r;exact⟨u,rfl,k aB H' g⟩⟩
theorem oK {K:W.Frag}{g:Int->Int->V}{g':Int->Int->Dt}(h:∀ K H i j,Rep K H (g i j) (g' i j)):wW K (yf g) (.int i) (.int j) (g' i j):=fun v w Hf H Q s r1 r2 k=>by
 cases r1;cases r2;exact⟨i,j,rfl,rfl,k _ Hf H (.refl s) (h _ _ _ _)⟩
theorem wX {K:W.Frag}{C:Int->Int->Prop}{g:Int->Int->V}{g':Int->Int->Dt}(h:∀ K H i j,Rep K H (g i j) (g' i j))(hc:C i j):wW K (rI C g) (.int i) (.int j) (g' i j):=fun v w Hf H Q s r1 r2 k=>by
 cases r1;cases r2;exact⟨i,j,rfl,rfl,hc,k _ Hf H (.refl s) (h _ _ _ _)⟩
theorem aP (ha:EE X G dl a (.int i))(hb:EE X G dl b (.int j)):EE X G dl (.BinOp a .Add b pos) (.int (i+j)):=mK yS (oK (g':=fun i j=>.int (i+j)) fun _ _ _ _=>.int _) ha hb
theorem dg (ha:EE X G dl a (.int i))(hb:EE X G dl b (.int j)):EE X G dl (.BinOp a .Sub b pos) (.int (i - j)):=mK yT (oK (g':=fun i j=>.int (i - j)) fun _ _ _ _=>.int _) ha hb
theorem wY:ju X (binaryOp .Mult) (rI IntMulOk fun i j=>.int (i * j)):=Cm fun _ _ _ _ _ _ _ hc q=>mul_int q hc
theorem cy (ha:EE X G dl a (.int i))(hb:EE X G dl b (.int j))(hc:IntMulOk i j):EE X G dl (.BinOp a .Mult b pos) (.int (i * j)):=mK wY (wX (g':=fun i j=>.int (i * j)) (fun _ _ _ _=>.int _) hc) ha hb
theorem t9:ju X (binaryOp .FloorDiv) (rI (fun _ j=>0 < j/\j.natAbs.log2 < 9000) fun i j=>.int (i / j)):=Cm fun i j _ _ _ _ _ hc q=>by
 refine floordiv_int (IC hc.1) ?_ (.inl (PyProof.noPylong_of_log2 hc.2));rw[Int.fdiv_eq_ediv_of_nonneg _ (Int.le_of_lt hc.1)];exact q
theorem qE (ha:EE X G dl a (.int i))(hb:EE X G dl b (.int j))(hc:0 < j/\j.natAbs.log2 < 9000):EE X G dl (.BinOp a .FloorDiv b pos) (.int (i / j)):=mK t9 (wX (g':=fun i j=>.int (i / j)) (fun _ _ _ _=>.int _) hc) ha hb
theorem dW (ha:EE X G dl a (.int i))(hb:EE X G dl b (.int j))(hc:0 < j):EE X G dl (.BinOp a .Mod b pos) (.int (i % j)):=mK yU (wX (g':=fun i j=>.int (i % j)) (fun _ _ _ _=>.int _) hc) ha hb
theorem zo (ha:EE X G dl a (.int i))(hb:EE X G dl b (.int j))(hc:AY i j):EE X G dl (.BinOp a .Pow b pos) (.int (i ^ j.toNat)):=mK yV (wX (g':=fun i j=>.int (i ^ j.toNat)) (fun _ _ _ _=>.int _) hc) ha hb
theorem aQ (ha:EE X G dl a (.int i)):EE X G dl (.UnaryOp .USub a pos) (.int (-i)):=
 eW (AW yW ha) fun st H Q zq=>zn zq fun Hf S k=>fun v aA H1 g1 r1=>by cases r1;exact⟨i,rfl,k _ aA H1 g1 (.int _)⟩
theorem gO (h:EE X G dl e (.bl u))(he:autoParam (∀ whole,isTrue e X.env whole=(do let v <- whole;standAt e.pos;holding [v] (truthy v))) xz):EB X G dl e u:=
 Ds (yH h he) fun st H Q zq=>zn zq fun Hf S k=>fun v aA H1 g1 r1=>by cases r1;exact⟨u,rfl,k aA H1 g1⟩
end
section
variable {X:Cx}{G:Gr}{E:XK}{dl dl1:List Slot}{a b c e:Expr}{es:List Expr}{i j:Int}{d d1:Dt}{ds:List Dt}{pos:Pos}{o o':Out}{x:Str}{u v:Bool}{rest:List Expr}{sts sd:List Stmt}{s:Stmt}
theorem pZ:PE X e fun _ _ _=>False:=fun _ _ _ _ _ _ h=>h.elim
theorem pw_nev:PW X e fun _ _ _=>False:=fun _ _ _ _ _ _ _ h=>h.elim
abbrev EW (X:Cx)(G:Gr)(dl:List Slot)(e:Expr)(b:Bool):Prop:=PW X e (EC X.K G dl b)
theorem Cq {e:Expr}{t t':TT}(h:PW X e t)(i:∀ st H Q,t' st H Q->t st H Q):PW X e t':=fun wh pins s st H Q I q=>h wh pins s st H Q I (i st H Q q)
theorem qF (ha:EB X G dl a u):EW X G dl (.BoolOp .And [a] pos) u:=pw_and1 ha
theorem dh (ha:EB X G dl a u):EW X G dl (.BoolOp .Or [a] pos) u:=pw_or1 ha
theorem ua (ha:EB X G dl a u)(hb:u=true->EW X G dl (.BoolOp .And (b::rest) pos) v):EW X G dl (.BoolOp .And (a::b::rest) pos) (u && v):=by
 cases u with
 | true=>exact Cq (pw_and ha (hb rfl)) fun st H Q zq=>zn zq fun Hf S k=>fun aA H1 g1=>t6 ⟨aA,S.grow g1,fun dz H2 g2=>k dz H2 (g1.trans g2)⟩
 | false=>exact Cq (pw_and ha pw_nev) fun st H Q zq=>zn zq fun Hf S k=>fun aA H1 g1=>rW (k aA H1 g1)
theorem eG (ha:EB X G dl a u)(hb:u=false->EW X G dl (.BoolOp .Or (b::rest) pos) v):EW X G dl (.BoolOp .Or (a::b::rest) pos) (u || v):=by
 cases u with
 | false=>exact Cq (pw_or ha (hb rfl)) fun st H Q zq=>zn zq fun Hf S k=>fun aA H1 g1=>rW ⟨aA,S.grow g1,fun dz H2 g2=>k dz H2 (g1.trans g2)⟩
 | true=>exact Cq (pw_or ha pw_nev) fun st H Q zq=>zn zq fun Hf S k=>fun aA H1 g1=>t6 (k aA H1 g1)
theorem ip (h:EW X G dl e u):EB X G dl e u:=h.pt
theorem eH (ha:EB X G dl a u):EB X G dl (.UnaryOp .Not a pos) (!u):=Ds (yI ha) fun st H Q zq=>zn zq fun Hf S k=>fun aA H1 g1=>k aA H1 g1
theorem qG (ha:EE X G dl a (.bl u)):EE X G dl (.BoolOp .And [a] pos) (.bl u):=yJ ha
theorem p0 (ha:EE X G dl a (.bl u))(hb:u=true->EE X G dl (.BoolOp .And (b::rest) pos) (.bl v)):EE X G dl (.BoolOp .And (a::b::rest) pos) (.bl (u && v)):=by
 cases u with
 | true=>exact eW (tF ha (hb rfl)) fun st H Q zq=>zn zq fun Hf S k=>fun w aA H1 g1 r1=>by cases r1;exact⟨true,rfl,t6 ⟨aA,S.grow g1,fun w dz H2 g2 r2=>k w dz H2 (g1.trans g2) r2⟩⟩
 | false=>exact eW (tF ha pZ) fun st H Q zq=>zn zq fun Hf S k=>fun w aA H1 g1 r1=>by cases r1;exact⟨false,rfl,rW (k _ aA H1 g1 (.bl _))⟩
theorem zp (ha:EE X G dl a (.bl u)):EE X G dl (.UnaryOp .Not a pos) (.bl (!u)):=eW (yK ha) fun st H Q zq=>zn zq fun Hf S k=>fun w aA H1 g1 r1=>by cases r1;exact⟨u,rfl,k _ aA H1 g1 (.bl _)⟩
theorem eY (h:EB X G dl e u)(q:u=v):EB X G dl e v:=by subst q;exact h
theorem fB (h:EE X G dl e d)(q:d=d1):EE X G dl e d1:=by subst q;exact h
theorem zr (hc:EB X G dl c u)(ha:u=true->EE X G dl a d)(hb:u=false->EE X G dl b d):EE X G dl (.IfExp c a b pos) d:=by
 cases u with
 | true=>exact eW (oA hc (ha rfl) pZ) fun st H Q zq=>zn zq fun Hf S k=>fun aA H1 g1=>t6 ⟨aA,S.grow g1,fun w dz H2 g2 r2=>k w dz H2 (g1.trans g2) r2⟩
 | false=>exact eW (oA hc pZ (hb rfl)) fun st H Q zq=>zn zq fun Hf S k=>fun aA H1 g1=>rW ⟨aA,S.grow g1,fun w dz H2 g2 r2=>k w dz H2 (g1.trans g2) r2⟩
theorem ag:EA X G dl [] []:=ED tS fun st H Q zq=>k1 zq fun Hf zq=>have S:=zq.1;have k:=zq.2;k [] Hf H (.refl S.sub) .nil
theorem ae (ha:EE X G dl e d)(hr:EA X G dl es ds)(hs:autoParam (starEach (e::es) X.env=(false,eval e X.env)::starEach es X.env) jp):EA X G dl (e::es) (d::ds):=
 ED (eX ha hr hs) fun st H Q zq=>zn zq fun Hf S k=>fun v aA H1 g1 r1=>⟨aA,S.grow g1,fun vs dz H2 g2 r2=>k _ dz H2 (g1.trans g2) (.cons (r1.mono g2.bH) r2)⟩
theorem aE {x1}(h:EA X G dl es ds)(hl:autoParam (ds.length<=sizeLine) z8):EE X G dl (.Tuple es x1 pos) (.tup ds):=
 eW (tT h) fun st H Q zq=>zn zq fun Hf S k=>fun vs aA H1 g1 r1=>⟨by rw[r1.length];exact hl,fun p hp=>k _ (upd aA p (.tup vs)) _ (g1.trans (.alloc g1.sub hp)) (.tup (.of au) (r1.mono (aX (g1.sub.free hp))))⟩
theorem eI (h:EA X G dl es ds)(hl:autoParam (ds.length<=sizeLine) z8):EE X G dl (.List es pos) (.lst ds):=
 eW (tU h) fun st H Q zq=>zn zq fun Hf S k=>fun vs aA H1 g1 r1=>⟨by rw[r1.length];exact hl,fun p hp=>k _ (upd aA p (.lst vs)) _ (g1.trans (.alloc g1.sub hp)) (.lst au (r1.mono (aX (g1.sub.free hp))))⟩
theorem aS.fR {K:W.Frag}{H:Hp}{vs:List V}{ds:List Dt}{i:Int}{d:Dt}(r:aS K H vs ds)(h:L2.fR ds i=some d):∃ v,L2.fR vs i=some v/\Rep K H v d:=by
 unfold L2.fR at h ⊢;rw[r.length];cases q:l3 ds.length i with
 | none=>rw[q] at h;cases h
 | some n=>
   rw[q] at h;exact r.get h
theorem av (ha:EE X G dl a (.tup ds))(hb:EE X G dl b (.int i))(h:fR ds i=some d)(hs:autoParam (iZ b) xX):EE X G dl (.Subscript a b pos) d:=
 eW (mI pR ha hb hs) (mJ fun v w Hf H Q s r1 r2 k=>by
   cases r1 with
   | tup q r=>
     cases r2;obtain⟨v,h1,h2⟩:=r.fR h;exact⟨_,_,i,v,rfl,rfl,bq s q,h1,k v Hf H (.refl s) h2⟩)
theorem b7 (ha:EE X G dl a (.lst ds))(hb:EE X G dl b (.int i))(h:fR ds i=some d)(hs:autoParam (iZ b) xX):EE X G dl (.Subscript a b pos) d:=
 eW (mI m4 ha hb hs) (mJ fun v w Hf H Q s r1 r2 k=>by
   cases r1 with
   | lst q r=>
     cases r2;obtain⟨v,h1,h2⟩:=r.fR h;exact⟨_,_,i,v,rfl,rfl,.of (s _ _ q),h1,k v Hf H (.refl s) h2⟩)
theorem zt {ns:List Int}{z:Int}(ha:EE X G dl a (.kh ns))(hb:EE X G dl b (.int i))(h:fR ns i=some z)(hs:autoParam (iZ b) xX):EE X G dl (.Subscript a b pos) (.int z):=
 eW (mI m4 ha hb hs) (mJ fun v w Hf H Q s r1 r2 k=>by
   cases r1 with
   | kh q=>
     cases r2;have h':L2.fR (ns.map V.int) i=some (.int z):=by
       unfold L2.fR at h ⊢;rw[k3];cases q2:l3 ns.length i with
       | none=>rw[q2] at h;cases h
       | some n=>
         rw[q2] at h;show(ns.map V.int)[n]?=_;rw[k5,show ns[n]?=some z from h];rfl
     exact⟨_,_,i,_,rfl,rfl,s.seq q,h',k _ Hf H (.refl s) (.int z)⟩)
theorem aU:l8 X G E dl [] (.nx dl):=pY qt fun D st H zq=>k1 zq fun Hf zq=>have S:=zq.1;have k:=zq.2;k st Hf H (aI.refl _) S
theorem ai (h1:ES X G E dl s (.nx dl1))(h2:l8 X G E dl1 sts o):l8 X G E dl (s::sts) o:=
 pY (dR h1 h2) fun D st H zq=>zn zq fun Hf S k=>fun oq aB H' s' S'=>⟨aB,S',k.mono s'⟩
theorem ak (h1:ES X G E dl s o):l8 X G E dl [s] o:=qu h1
theorem k8.stop {K:W.Frag}{D D':Ends}{Hf:Hp}(h:(∀ dl,o≠.nx dl)/\∀ R,o≠.raw R)(hr:D'.rt=D.rt)(hb:D'.bk=D.bk)(hc:D'.ct=D.ct)(k:k8 K G E D Hf o):k8 K G E D' Hf o:=by
 cases o with
 | nx dl=>exact absurd rfl (h.1 dl)
 | raw R=>exact absurd rfl (h.2 R)
 | rt d=>show ∀ v Hf H,_->_->D'.rt v H;rw[hr];exact k
 | ro d=>show ∀ v Hf H,_->_->_->_->D'.rt _ H;rw[hr];exact k
 | bk d=>show ∀ v Hf H,_->_->D'.bk v H;rw[hb];exact k
 | ct d=>show ∀ v Hf H,_->_->D'.ct v H;rw[hc];exact k
 | ex c fs=>exact k
theorem fV (h1:ES X G E dl s o)(h:(∀ dl,o≠.nx dl)/\(∀ R,o≠.raw R):=by exact⟨(fun _ z=>nomatch z),(fun _ z=>nomatch z)⟩):l8 X G E dl (s::sts) o:=
 pY (dR h1 (gY (sts:=sts))) fun D st H zq=>zn zq fun Hf S k=>k8.stop (D:=D) h rfl rfl rfl k
theorem aG (hc:EB X G dl c u)(h1:u=true->l8 X G E dl sts o)(h2:u=false->l8 X G E dl sd o):ES X G E dl (.If c sts sd pos) o:=by
 cases u with
 | true=>exact pX (tH hc (h1 rfl) (gY (sts:=sd))) fun D st H zq=>zn zq fun Hf S k=>fun aA H1 g1=>t6 ⟨aA,S.grow g1,k.mono g1.bH⟩
 | false=>exact pX (tH hc (gY (sts:=sts)) (h2 rfl)) fun D st H zq=>zn zq fun Hf S k=>fun aA H1 g1=>rW ⟨aA,S.grow g1,k.mono g1.bH⟩
theorem ax (h:EE X G dl e d):ES X G E dl (.Return (some e) pos) (.rt d):=pX (pH h) fun D st H zq=>zn zq fun Hf S k=>fun v aA H1 g1 r1=>k v aA H1 (S.gr.trans g1) r1
theorem wZ (h:EE X G dl e d)(hs:autoParam (swapsWith e none pos.line X.env=pure false) jp):ES X G E dl (.Expr e pos) (.nx dl):=
 pX (ke h hs) fun D st H zq=>zn zq fun Hf S k=>fun v aA H1 g1 r1=>k st aA H1 g1.bH (S.grow g1)
theorem ay (n:Nat){x:Str}{pos':Pos}(hN:X.N.Nodup)(he:EE X G dl e d)(hi:autoParam (X.N[n]?=some x) jp)(hx:autoParam (Loc X.env.scope x) xF)(hs:autoParam (swapsWith e (some (.Name x pos')) pos.line X.env=pure false) jp)(hf:autoParam (X.fn x=true\/X.env.scope.names.lookup x=some .local) xI):ES X G E dl (.Assign [.Name x pos'] e pos) (.nx (dl.set n (.val d))):=
 pX (pI hN hi hx he hs hf) fun D st H zq=>zn zq fun Hf S k=>fun v aA H1 g1 r1=>k _ aA H1 g1.bH ((S.grow g1).set r1)
inductive i5 (X:Cx)(G:Gr)(E:XK)(body:List Stmt)(S:Nat->List Slot)(pre:Nat->List Slot)(n m:Nat):Out->Prop
 | all (h:m=n):i5 X G E body S pre n m (.nx (S n))
 | rt {d:Dt} (h:m < n) (hb:l8 X G E (pre m) body (.rt d)):i5 X G E body S pre n m (.rt d)
 | ro {d:Own} (h:m < n) (hb:l8 X G E (pre m) body (.ro d)):i5 X G E body S pre n m (.ro d)
 | bk {dl':List Slot} (h:m < n) (hb:l8 X G E (pre m) body (.bk dl')):i5 X G E body S pre n m (.nx dl')
 | ex {c:Value} {fs:List (Str×Dt)} (h:m < n) (hb:l8 X G E (pre m) body (.ex c fs)):i5 X G E body S pre n m (.ex c fs)
inductive Goes (X:Cx)(G:Gr)(E:XK)(body:List Stmt)(pre post:List Slot):Prop
 | nx {dl':List Slot} (hb:l8 X G E pre body (.nx dl')) (l:Le post dl')
 | ct {dl':List Slot} (hb:l8 X G E pre body (.ct dl')) (l:Le post dl')
def ub (X:Cx)(G:Gr)(E:XK)(body:List Stmt):TS:=fun D st H=>∃ pre o,l8 X G E pre body o/\tO X.K G E pre o D st H
theorem oM {body:List Stmt}:j9 X body (ub X G E body):=fun pins s st H D J ⟨pre,o,h,q⟩=>h pins s st H D J q
theorem mL {body:List Stmt}{pre post:List Slot}{D:Ends}{st:L2.St}{Hf H:Hp}(g:Goes X G E body pre post)(S:cK X.K G st Hf H pre)(hn:∀ st aB H,aI Hf aB->cK X.K G st aB H post->D.nx st H)(hc:∀ st aB H,aI Hf aB->cK X.K G st aB H post->D.ct st H):ub X G E body D st H:=by
 cases g with
 | nx hb l=>exact⟨_,_,hb,Hf,S,fun oq aB H' s' S'=>hn oq aB H' s' (S'.weak l)⟩
 | ct hb l=>exact⟨_,_,hb,Hf,S,fun oq aB H' s' S'=>hc oq aB H' s' (S'.weak l)⟩
theorem mM {body:List Stmt}{S pre:Nat->List Slot}{n m:Nat}{D D':Ends}{st:L2.St}{Hf H:Hp}(e:i5 X G E body S pre n m o)(hm:m < n)(S':cK X.K G st Hf H (pre m))(k:k8 X.K G E D Hf o)(hr:D'.rt=D.rt)(F2:D'.bk=D.nx):ub X G E body D' st H:=by
 cases e with
 | all h=>omega
 | rt h hb=>exact⟨_,_,hb,Hf,S',by show ∀ v Hf H,_->_->D'.rt v H;rw[hr];exact k⟩
 | ro h hb=>exact⟨_,_,hb,Hf,S',by show ∀ v Hf H,_->_->_->_->D'.rt _ H;rw[hr];exact k⟩
 | bk h hb=>exact⟨_,_,hb,Hf,S',by show ∀ v Hf H,_->_->D'.bk v H;rw[F2];exact k⟩
 | ex h hb=>exact⟨_,_,hb,Hf,S',k⟩
theorem ue (nN:Nat){x:Str}{px:Pos}{body:List Stmt}{lo:Int}{n m:Nat}(S:Nat->List Slot)(hN:X.N.Nodup)(oN:X.calm=true)(hp:PassesOwn (model X.prog X.w) X.A X.env X.xe){wi:TI}{iter:Expr}(hI:PI X (.Name x px) iter wi)(hw:∀ st Hf H R,cK X.K G st Hf H dl->(∀ aB H',bj Hf H aB H'->R (yb lo n) H')->wi st H R)(h0:Le (S 0) dl)(Du:m<=n)(hb:∀ k,k < m->Goes X G E body ((S k).set nN (.val (.int (lo+k)))) (S (k+1)))(he:i5 X G E body S (fun k=>(S k).set nN (.val (.int (lo+k)))) n m o)(hi:autoParam (X.N[nN]?=some x) jp)(hx:autoParam (Loc X.env.scope x) xF)(hf:autoParam (X.fn x=true\/X.env.scope.names.lookup x=some .local) xI)(hs:autoParam (∀ x,foldedSetIterable iter X.env x=pure x) xz):ES X G E dl (.For (.Name x px) iter body [] pos) o:=by
 refine pX (tL hp oN hI (fP hN hi hx hf) (oM (G:=G) (E:=E)) hs) fun D st H ⟨Hf,S0,k⟩=>hw st Hf H _ S0 fun aB H' g=>?_
 refine rK (lo:=lo) (n:=n) (fun j st H=>j<=m/\∃ aA,aI Hf aA/\cK X.K G st aA H (S j)) ⟨Iw _,aB,g.bH,(S0.grow g).weak h0⟩ (fun j st H hj ⟨F3,aA,s1,Sj⟩=>?_) (fun st H ⟨Dv,aA,s1,Sn⟩=>?_)
 . have Sp:cK X.K G (st.set nN (some (.int (lo+j)))) aA H ((S j).set nN (.val (.int (lo+j)))):=Sj.set (.int _)
   by_cases iT:j < m
   . exact mL (hb j iT) Sp (fun st dz H s2 S'=>⟨iT,dz,s1.trans s2,S'⟩) (fun st dz H s2 S'=>⟨iT,dz,s1.trans s2,S'⟩)
   . have e:j=m:=by omega
     subst e;exact mM he hj Sp (k.mono s1) rfl rfl
 . have e:m=n:=by omega
   subst e;cases he with
   | all _=>exact k st aA H s1 Sn
   | rt h _=>omega
   | ro h _=>omega
   | bk h _=>omega
   | ex h _=>omega
theorem dB (nN:Nat){x:Str}{p px pc:Pos}{body:List Stmt}{n:Int}{m:Nat}(S:Nat->List Slot)(hN:X.N.Nodup)(oN:X.calm=true)(hp:PassesOwn (model X.prog X.w) X.A X.env X.xe)(Dw:X.mg "range"=none)(ha:EA X G dl [a] [.int n])(hn:-(2 ^ 62)<=n/\n < 2 ^ 62)(h0:Le (S 0) dl)(Du:m<=n.toNat)(hb:∀ k:Nat,k < m->Goes X G E body ((S k).set nN (.val (.int k))) (S (k+1)))(he:i5 X G E body S (fun k=>(S k).set nN (.val (.int k))) n.toNat m o)(hg:autoParam (Gl X "range") jp)(hi:autoParam (X.N[nN]?=some x) jp)(hx:autoParam (Loc X.env.scope x) xF)(hf:autoParam (X.fn x=true\/X.env.scope.names.lookup x=some .local) xI)(F4:autoParam (starEach [a] X.env=[(false,eval a X.env)]) jp)(hs:autoParam (∀ z,foldedSetIterable (.Call (.Name "range" p) [a] [] pc) X.env z=pure z) xz):ES X G E dl (.For (.Name x px) (.Call (.Name "range" p) [a] [] pc) body [] pos) o:=by
 have ez:∀ k:Nat,(0:Int)+k=k:=fun k=>Int.zero_add _
 have eS:(fun k:Nat=>(S k).set nN (.val (.int ((0:Int)+k))))=fun k:Nat=>(S k).set nN (.val (.int k)):=by funext k;rw[ez]
 refine ue nN (lo:=0) (n:=n.toNat) (m:=m) S hN oN hp (jt hg Dw ha F4) (fun st Hf H R S0 h=>⟨Hf,S0,fun vs aA H1 g1 r1=>?_⟩) h0 Du (fun k hk=>by rw[ez];exact hb k hk) (by rw[eS];exact he) hi hx hf hs;cases r1 with
 | cons r t=>cases t;cases r;exact⟨n,rfl,hn.1,hn.2,h aA H1 g1⟩
theorem qH (nN:Nat){x:Str}{px:Pos}{iter:Expr}{body:List Stmt}{xs:List Dt}{m:Nat}(S:Nat->List Slot)(hN:X.N.Nodup)(oN:X.calm=true)(hp:PassesOwn (model X.prog X.w) X.A X.env X.xe)(hl:EE X G dl iter (.lst xs))(h0:Le (S 0) dl)(Du:m<=xs.length)(hb:∀ (k:Nat) (z:Dt),k < m->xs[k]?=some z->Goes X G E body ((S k).set nN (.val z)) (S (k+1)))(he:i5 X G E body S (fun k=>(S k).set nN (.val (xs.getD k .b4))) xs.length m o)(hi:autoParam (X.N[nN]?=some x) jp)(hx:autoParam (Loc X.env.scope x) xF)(hf:autoParam (X.fn x=true\/X.env.scope.names.lookup x=some .local) xI)(hs:autoParam (∀ z,foldedSetIterable iter X.env z=pure z) xz):ES X G E dl (.For (.Name x px) iter body [] pos) o:=by
 refine pX (tL hp oN (mX hl) (fP hN hi hx hf) (oM (G:=G) (E:=E)) hs) fun D st H ⟨Hf,S0,k⟩=>⟨Hf,S0,fun v aB H' g r=>?_⟩
 cases r with
 | @lst a vs _ q r=>
   have hlen:=r.length;refine⟨a,rfl,⟨vs,.of (g.sub _ _ q)⟩,tM (xs:=vs) (fun j st H=>j<=m/\∃ aA,aI aB aA/\cK X.K G st aA H (S j)) ⟨Iw _,aB,aI.refl _,(S0.grow g).weak h0⟩ ?_ ?_ ?_⟩
   . rintro j st H _ ⟨_,aA,s1,Sj⟩
     exact .of (Sj.sub _ _ (s1 _ _ q))
   . rintro j v st H hv ⟨F3,aA,s1,Sj⟩
     obtain⟨z,hz,rz⟩:=r.get' hv;have hj:j < xs.length:=(Hx.mp hz).1;have Sp:cK X.K G (st.set nN (some v)) aA H ((S j).set nN (.val z)):=Sj.set (rz.mono s1);by_cases iT:j < m
     . exact mL (hb j z iT hz) Sp (fun st dz H s2 S'=>⟨iT,dz,s1.trans s2,S'⟩) (fun st dz H s2 S'=>⟨iT,dz,s1.trans s2,S'⟩)
     . have e:j=m:=by omega
       subst e;have ez:xs.getD j .b4=z:=by rw[Bn,hz];rfl
       exact mM he hj (by show cK _ _ _ _ _ ((S j).set nN (.val (xs.getD j .b4)));rw[ez];exact Sp) (k.mono (g.bH.trans s1)) rfl rfl
   . rintro st H ⟨Dv,aA,s1,Sn⟩
     have e:m=xs.length:=by omega
     subst e;rw[hlen] at Sn;cases he with
     | all _=>exact k st aA H (g.bH.trans s1) Sn
     | rt h _=>omega
     | ro h _=>omega
     | bk h _=>omega
     | ex h _=>omega
inductive Res where
 | ret (d:Dt)
 | own (w:Own)
 | exc (c:Value) (fs:List (Str×Dt))
def Bt (K:W.Frag)(Hf H:Hp)(Q:VK)(E:XK):Res->Prop
 | .ret d=>∀ v aB H',bj Hf H aB H'->Rep K aB v d->Q v H'
 | .own w=>∀ p aB H',bj Hf H aB H'->H p=none->aB p=none->dS K aB H' p w->Q (.ref p) H'
 | .exc c fs=>∀ od aB H',bj Hf H aB H'->ExcAt K aB od fs->E c od H'
def se (K:W.Frag)(n:Nat)(R:List Dt->Res->Prop):Sp:=fun vs H Q E=>∃ Hf ds r,aI Hf H/\aS K Hf vs ds/\ds.length=n/\R ds r/\Bt K Hf H Q E r
def pC (CX:jr):Prop:=∀ outer H s e s',CX outer H s E0 e s'->False
theorem aw:pC Ey:=fun _ _ _ _ _ h=>h
theorem pC.passes {CX:jr}(n:pC CX):Passes CX X E0:=fun _ _ _ _ _ _ _ h=>(n _ _ _ _ _ h).elim
noncomputable def slots (N:List Str)(ds:List Dt):List Slot:=ds.map Slot.val ++ FH (N.length - ds.length) .df
theorem jy {K:W.Frag}{N:List Str}{Hf H:Hp}{vs:List V}{ds:List Dt}(s:aI Hf H)(r:aS K Hf vs ds):cK K ⟨Hf,H⟩ (start N vs) Hf H (slots N ds):=by
 have hl:=r.length;have mT:∀ (i:Nat) o,(slots N ds)[i]?≠some (.own o):=fun i o h=>by
   unfold slots at h;by_cases hi:i < ds.length
   . rw[HN (by simpa using hi),k5] at h
     cases e:ds[i]? with
     | none=>rw[e] at h;cases h
     | some a=>rw[e] at h;cases h
   . rw[Ia (by simpa using hi),HY] at h
     split at h <;> cases h
 refine⟨.refl s,?_,fun i d h=>?_,fun i o h=>absurd h (mT i o),fun i j o o' a h=>absurd h (mT i o)⟩
 . unfold L2.start slots
   simp[hl]
 . unfold slots at h
   by_cases hi:i < ds.length
   . rw[HN (by simpa using hi),k5] at h
     cases e:ds[i]? with
     | none=>rw[e] at h;cases h
     | some a=>
       rw[e] at h;cases h;obtain⟨v,h1,h2⟩:=r.get e;refine⟨v,?_,h2⟩;unfold L2.start;rw[HN (by simp;omega),k5,h1];rfl
   . rw[Ia (by simpa using hi),HY] at h
     split at h <;> cases h
inductive Comes:Out->Res->Prop
 | rt (d:Dt):Comes (.rt d) (.ret d)
 | ro (d:Own):Comes (.ro d) (.own d)
 | nx (dl:List Slot):Comes (.nx dl) (.ret .b4)
 | kn {dl:List Slot} {d:Dt} (h:∀ K G st Hf H,cK K G st Hf H dl->Rep K Hf .b4 d):Comes (.nx dl) (.ret d)
 | ex (c:Value) (fs:List (Str×Dt)):Comes (.ex c fs) (.exc c fs)
theorem Comes.ends {K:W.Frag}{Hf H:Hp}{Q:VK}{o:Out}{r:Res}(h:Comes o r)(k:Bt K Hf H Q E r):k8 K ⟨Hf,H⟩ E { nx:=fun _ H'=>Q .b4 H',rt:=Q} Hf o:=by
 cases h with
 | rt d=>exact k
 | ro d=>exact k
 | nx dl=>exact fun st aB H' s' S=>k _ aB H' S.gr .b4
 | kn h=>exact fun st aB H' s' S=>k _ aB H' S.gr (h _ _ _ _ _ S)
 | ex c fs=>exact k
theorem fu {P:Program}{w:World}{K:W.Frag}{mg:Str->Option Value}{base:Heap}{CX:jr}{x qual:Str}{st:Stmt}{f:Addr}{fd:FuncData}{N ps:List Str}{k n:Nat}{R:List Dt->Res->Prop}(F:Au K x qual st f fd)(S:aq N ps (ah st))(hn:ps.length=n)(k4:∀ (bh:Value) (A:Around) (outer:List Env) (s:Shared) (H:Hp) (E:XK) (G:Gr) (ds:List Dt) (r:Res),b5 k (A.deeper (envOfC qual (ah st) s.heap.objs.size f bh))->ds.length=n->R ds r->∃ o,Comes o r/\l8 (oE CX P w K mg base N qual (ah st) f bh A outer s H E) G E (slots N ds) (aH st) o):dA P w K mg base CX (k+1) f fd ps (se K n R):=by
 obtain⟨oc,od,kV,doc,pm,an,bh,ct,l7,rfl,lk,gX⟩:=F.ex;refine qz lk gX S (fun vs H Q E ⟨Hf,ds,r,s,rp,hl,_⟩=>by rw[rp.length,hl,hn]) fun A outer s H vs Q E hr ⟨Hf,ds,r,sm,rp,hl,hR,hk⟩=>?_
 obtain⟨o,hc,hb⟩:=k4 bh A outer s H E ⟨Hf,H⟩ ds r hr hl hR;exact⟨_,hb,Hf,jy sm rp,hc.ends hk⟩
section
variable {CX:jr}{k n:Nat}{f C:Addr}{fd:FuncData}{ps:List Str}{R:List Dt->Res->Prop}{m:Str}{p apos:Pos}{ob:Expr}{dvs:List Dt}{vds:List V}{sf:List Value}{fs:List (Str×Dt)}
theorem w4 (F:dA X.prog X.w X.K X.mg X.base CX k f fd ps (se X.K n R))(nx:pC CX)(hr:b5 k X.A)(hm:X.mg x=some (.ref f))(hk:W.keepIn X.K (.ref f)=true)(hb:Binds X.K fd ps sf)(hd:Vals vds sf)(sg:∀ H,aS X.K H vds dvs)(ha:EA X G dl (e::es) ds)(hl:(ds ++ dvs).length=n)(h:R (ds ++ dvs) (.ret d))(hg:autoParam (Gl X x) jp)(iG:autoParam ((x == ("__debug__":Str))=false) z8)(he:autoParam (starEach (e::es) X.env=(false,eval e X.env)::starEach es X.env) jp)(iw:autoParam ((backTo pos (starEach es X.env)).any (·.1)=false) jp):EE X G dl (.Call (.Name x p) (e::es) [] pos) d:=
 eW (qx (E:=E0) F hr hg hm hk hb hd nx.passes ha iG he iw) fun st H Q zq=>zn zq fun Hf S k=>fun vs aA H1 g1 r1=>⟨aA,ds ++ dvs,.ret d,g1.sub,r1.append (sg _),hl,h,fun v dz H2 g2 r2=>k v dz H2 (g1.trans g2) r2⟩
theorem qI {pl:Sem Bool}(he:EE X G dl ob (.obj C fs))(c:mD X.K C)(hm:Meth X.K C m f)(F:dA X.prog X.w X.K X.mg X.base CX k f fd ps (se X.K n R))(nx:pC CX)(hr:b5 k X.A)(hb:Binds X.K fd ps sf)(hd:Vals vds sf)(sg:∀ H,aS X.K H vds dvs)
   (ha:EA X G dl (e::es) ds) (hl:(.obj C fs::(ds ++ dvs)).length=n) (h:R (.obj C fs::(ds ++ dvs)) (.ret d)) (oO:fs.lookup m=none)
   (iV:autoParam (starEach (e::es) X.env=(false,eval e X.env)::starEach es X.env) jp) (iw:autoParam ((backTo pos (starEach es X.env)).any (·.1)=false) jp)
   (ht:autoParam (eval (.Call (.Attribute ob m apos) (e::es) [] pos) X.env=(do
     let ov <- eval ob X.env
     standAt apos.atName
     let (f,first) <- holding [ov] (getMethod ov m pl)
     callWith pos f first (backTo pos (starEach (e::es) X.env)) (backToKw pos (keywordEach [] X.env)))) jp):EE X G dl (.Call (.Attribute ob m apos) (e::es) [] pos) d:=
 eW (qy (pl:=pl) (E:=E0) he c hm F hr hb hd nx.passes ha iV iw ht) fun st H Q zq=>zn zq fun Hf S k=>fun v aA H1 g1 r1=>by
   cases r1 with
   | @obj a _ dx fv _ q r=>
     exact⟨a,dx,fv,rfl,cX g1.sub q,r.none_of oO,aA,S.grow g1,fun vs dz H2 g2 r2=>⟨dz,_,.ret d,g2.sub,.cons (.obj (cX g2.bH q) (r.mono g2.bH)) (r2.append (sg _)),hl,h,fun v rZ H3 g3 r3=>k v rZ H3 ((g1.trans g2).trans g3) r3⟩⟩
theorem oP {pl:Sem Bool}(he:EE X G dl ob (.obj C fs))(c:mD X.K C)(hm:Meth X.K C m f)(F:dA X.prog X.w X.K X.mg X.base CX k f fd ps (se X.K n R))(nx:pC CX)(hr:b5 k X.A)(hb:Binds X.K fd ps sf)(hd:Vals vds sf)(sg:∀ H,aS X.K H vds dvs)
   (hl:(Dt.obj C fs::dvs).length=n) (h:R (.obj C fs::dvs) (.ret d)) (oO:fs.lookup m=none)
   (ht:autoParam (eval (.Call (.Attribute ob m apos) [] [] pos) X.env=(do
     let ov <- eval ob X.env
     standAt apos.atName
     let (f,first) <- holding [ov] (getMethod ov m pl)
     callWith pos f first (backTo pos (starEach [] X.env)) (backToKw pos (keywordEach [] X.env)))) jp):EE X G dl (.Call (.Attribute ob m apos) [] [] pos) d:=
 eW (kZ (pl:=pl) (E:=E0) he c hm F hr hb hd nx.passes ht) fun st H Q zq=>zn zq fun Hf S k=>fun v aA H1 g1 r1=>by
   cases r1 with
   | @obj a _ dx fv _ q r=>
     exact⟨a,dx,fv,rfl,cX g1.sub q,r.none_of oO,aA,_,.ret d,g1.sub,.cons (.obj q r) (sg _),hl,h,fun v rZ H3 g3 r3=>k v rZ H3 (g1.trans g3) r3⟩
end
end
section
variable {X:Cx}{G:Gr}{dl:List Slot}{a b c e:Expr}{i j:Int}{d d1 d2:Dt}{ds:List Dt}{pos p:Pos}{o:Out}{x y f:Str}{u v:Bool}{s:Stmt}{C:Addr}{fs:List (Str×Dt)}
theorem mN {T:String}(hm:X.mg x=none)(hv:bootBuiltins x=some (.type T))(hg:autoParam (Gl X x) jp)(hn:autoParam (x≠"__name__") z8)(hd:autoParam ((x == ("__debug__":Str))=false) z8):EE X G dl (.Name x pos) (.ty T):=
 eW (wC (v:=.ty T) hg hm hv rfl hn hd) fun st H Q zq=>k1 zq fun Hf zq=>have S:=zq.1;have k:=zq.2;k _ Hf H (.refl S.sub) (.ty T)
theorem ki {w:V}{z:Value}(hm:X.mg x=some z)(r:RelV w z)(hr:∀ H,Rep X.K H w d)(hg:autoParam (Gl X x) jp)(hd:autoParam ((x == ("__debug__":Str))=false) z8):EE X G dl (.Name x pos) d:=
 eW (wB hg hm r hd) fun st H Q zq=>k1 zq fun Hf zq=>have S:=zq.1;have k:=zq.2;k _ Hf H (.refl S.sub) (hr _)
theorem boot_int:bootBuiltins "int"=some (.type "int"):=by decide +kernel
theorem boot_bool:bootBuiltins "bool"=some (.type "bool"):=by decide +kernel
theorem boot_tuple:bootBuiltins "tuple"=some (.type "tuple"):=by decide +kernel
theorem boot_list:bootBuiltins "list"=some (.type "list"):=by decide +kernel
structure zu (K:W.Frag)(C:Addr):Prop where
 makes:W.makesIn K C=true
 init:W.findIn K (.ref C) "__init__"=some (some (.builtin "object.__init__"))
 kp:W.keepIn K (.ref C)=true
theorem sh {pins:List (Addr×Obj)}{st:L2.St}{H:Hp}{s:Shared}{Q:VK}(M:zu X.K C)(I:L2.Inv X pins st H s)(h:∀ x dx,H x=none->H dx=none->dx≠x->Q (.ref x) (upd (upd H dx (.own x)) x (.ins C dx []))):wpAny (model X.prog X.w) X.A (call (.ref C) []) (EP X pins st Q) X.xe s:=by
 have hq:=h (s.heap.objs.size+1) s.heap.objs.size (I.cL.fresh (Nat.le_succ _)) (I.cL.fresh (Hr _)) (HM (IE _));have I2:=L2.Inv.made (C:=C) I;refine wpAny_call (rO (s:=s) I.fO M.makes M.init (fun self=>W.Looks.of_pure (W.oi_bind self)) ?_);obtain⟨hh,g,d,t,os⟩:=s;have Y:=W.makes_of (M:=model X.prog X.w) I.fO M.makes;have t1:W.Looks (model X.prog X.w) ((hh.push W.emptyDict).push (W.instObj C hh.objs.size)) (typeOf (.ref (hh.objs.size+1))) (.ref C):=by
   have e2:=HP (hh.push W.emptyDict) (o:=W.instObj C hh.objs.size) rfl;rw[IQ] at e2;exact(W.Looks.ld e2).andThen .now
 have t2:W.Looks (model X.prog X.w) ((hh.push W.emptyDict).push (W.instObj C hh.objs.size)) (isInstance (.ref (hh.objs.size+1)) (.type "object")) true:=t1.andThen (Y.top.keeps fun b o e=>Hm _ (Hm _ e));refine codeAny_call_builtin W.oi_plain W.entry_oi (@W.check_slot (model X.prog X.w) _ _ _ "object.__init__" "object" "__init__" (.ref (hh.objs.size+1)) [] [] _ W.oi_kind W.oi_split t2 (W.oi_args (.ref (hh.objs.size+1))) ?_);rw[W.oi_run];exact wpAny_pure (And.intro rfl ⟨V.ref (hh.objs.size+1),_,I2,rfl,hq⟩)
theorem oQ (M:zu X.K C)(hm:X.mg x=some (.ref C))(hg:autoParam (Gl X x) jp)(iG:autoParam ((x == ("__debug__":Str))=false) z8):EE X G dl (.Call (.Name x p) [] [] pos) (.obj C []):=by
 intro pins s st H Q I ⟨Hf,S,k⟩;refine wpAny_Call_Name_kw (ka I hg hm ?_ iG);refine W.callWith_K0 I.fO M.kp (sh M I fun x dx hx Dx ne=>?_);have Cr:(upd H dx (.own x)) x=none:=by rw[ar (Ne.symm ne)];exact hx
 have g1:bj Hf H Hf (upd H dx (.own x)):=.iH S.sub Dx;have g2:=bj.alloc (o:=.ins C dx []) g1.sub Cr;exact k _ _ _ (g1.trans g2) (.obj (.of au) .nil)
theorem aV (he:EE X G dl e (.obj C fs))(c:mD X.K C)(n:cM X.K C f)(h:fs.lookup f=some d)(hb:autoParam (attributeBase e f X.env (eval e X.env)=eval e X.env) jp):EE X G dl (.Attribute e f pos) d:=
 eW (yY he hb) fun st H Q zq=>zn zq fun Hf S k=>fun v aA H1 g1 r1=>by
   cases r1 with
   | @obj a _ dx fv _ q r=>
     obtain⟨y,h1,h2⟩:=r.lookup h;exact⟨a,C,dx,fv,y,rfl,cX g1.sub q,c,n,h1,k y aA H1 g1 h2⟩
theorem eZ (hm:X.mg "len"=none)(ha:EE X G dl a (.lst ds))(hg:autoParam (Gl X "len") jp)(he:autoParam (starEach [a] X.env=[(false,eval a X.env)]) jp):EE X G dl (.Call (.Name "len" p) [a] [] pos) (.int ds.length):=
 eW (fw fS hg hm PySem.boot_len (ae ha ag he) (he:=he)) fun st H Q zq=>zn zq fun Hf S k=>fun vs aA H1 g1 r1=>by
   cases r1 with
   | cons r t=>cases t;cases r with
     | @lst q vs _ z w=>exact⟨q,vs,rfl,.inl (.of (g1.sub _ _ z)),by rw[w.length];exact k _ aA H1 g1 (.int _)⟩
theorem qJ {ns:List Int}(hm:X.mg "len"=none)(ha:EE X G dl a (.kh ns))(hg:autoParam (Gl X "len") jp)(he:autoParam (starEach [a] X.env=[(false,eval a X.env)]) jp):EE X G dl (.Call (.Name "len" p) [a] [] pos) (.int ns.length):=
 eW (fw fS hg hm PySem.boot_len (ae ha ag he) (he:=he)) fun st H Q zq=>zn zq fun Hf S k=>fun vs aA H1 g1 r1=>by
   cases r1 with
   | cons r t=>cases t;cases r with
     | @kh q _ z=>exact⟨q,_,rfl,.inl (g1.sub.seq z),by rw[k3];exact k _ aA H1 g1 (.int _)⟩
theorem qK (hm:X.mg "len"=none)(ha:EE X G dl a (.tup ds))(hg:autoParam (Gl X "len") jp)(he:autoParam (starEach [a] X.env=[(false,eval a X.env)]) jp):EE X G dl (.Call (.Name "len" p) [a] [] pos) (.int ds.length):=
 eW (fw fS hg hm PySem.boot_len (ae ha ag he) (he:=he)) fun st H Q zq=>zn zq fun Hf S k=>fun vs aA H1 g1 r1=>by
   cases r1 with
   | cons r t=>cases t;cases r with
     | @tup q vs _ z w=>exact⟨q,vs,rfl,.inr (bq g1.sub z),by rw[w.length];exact k _ aA H1 g1 (.int _)⟩
noncomputable def Dy:Dt->Value
 | .b4=>.type "NoneType"
 | .bl _=>.type "bool"
 | .int _=>.type "int"
 | .str _=>.type "str"
 | .tup _=>.type "tuple"
 | .lst _=>.type "list"
 | .kh _=>.type "list"
 | .jO _=>.type "dict"
 | .obj C _=>.ref C
 | .ty _=>.type "type"
 | .cls _=>.type "type"
 | .xo C=>.ref C
 | .jZ _=>.type "dict"
 | .rX C _=>.ref C
 | .j0 _=>.type "dict"
 | .memo _ _ _ _=>.type "list"
 | .gD _ _ _ _=>.type "list"
 | .td _ _ _=>.type "NoneType"
 | .oI C _ _ _ _=>.ref C
 | _=>.type "object"
structure Bu (K:W.Frag)(C:Addr):Prop where
 cl:mD K C
 ha:W.findIn K (.ref C) "__class__"=some (some (.builtin "object.__class__"))
 hn:W.specialIn K (.builtin "object.__class__") "__get__"=some (some (.builtin "getset_descriptor.__get__"))
 za:W.takesIn K (.builtin "object.__class__")=some true
 hm:W.mroIn K C (.type "object")=some true
def zv (K:W.Frag):Dt->Prop
 | .obj C _=>Bu K C
 | .xo C=>Av K C
 | .rX C _=>Av K C
 | .memo _ _ _ _=>False
 | .gD _ _ _ _=>False
 | .td _ _ _=>False
 | .oI C _ _ _ _=>Bu K C
 | .wV _=>False
 | .fT _=>False
 | .ty _=>False
 | .cls _=>False
 | _=>True
noncomputable def Bv:Dt->Option Value
 | .ty n=>some (.type n)
 | .cls C=>some (.ref C)
 | _=>none
theorem uf {pins:List (Addr×Obj)}{st:L2.St}{Hf H:Hp}{s:Shared}{Q:Value->Shared->Prop}{w:V}{z c:Value}{r:Bool}(I:L2.Inv X pins st H s)(sm:aI Hf H)(rp:Rep X.K Hf w d)(rx:RelV w z)(t:zv X.K d)(e:W.kitOne X.K (Dy d) c=some r)(h:∀ tk,Q (.bool r) { s with toks:=tk}):wpAny (model X.prog X.w) X.A (call (.builtin "isinstance") [z,c]) Q X.xe s:=by
 cases rp with
 | b4=>cases (show z=Value.none from rx);exact W.kia_one W.kitx_none I.fO True.intro e (fun z=>nomatch z) h
 | bl y=>cases (show z=Value.bool y from rx);exact W.kia_one W.kitx_bool I.fO True.intro e (fun z=>nomatch z) h
 | int i=>obtain⟨t,q⟩:=(show ∃ t,z=Value.int i t from rx);cases q;exact W.kia_one W.kitx_int I.fO True.intro e (fun z=>nomatch z) h
 | str y=>obtain⟨t,q⟩:=(show ∃ t,z=Value.str y t from rx);cases q;exact W.kia_one W.kitx_str I.fO True.intro e (fun z=>nomatch z) h
 | @tup a vs ds q rr=>
   cases (show z=Value.ref a from rx);obtain⟨aF,_,⟨o,h1,h2,_⟩,_⟩:=I.tuple (bq sm q);exact W.kia_one W.kitx_tuple I.fO ⟨o,h1,h2⟩ e (fun z=>nomatch z) h
 | @lst a vs ds q rr=>
   cases (show z=Value.ref a from rx);obtain⟨aF,_,⟨o,n,h1,h2,_⟩,_⟩:=I.list (.of (sm _ _ q));exact W.kia_one W.kitx_list I.fO ⟨o,h1,h2⟩ e (fun z=>nomatch z) h
 | @kh a ns q=>
   cases (show z=Value.ref a from rx);obtain⟨aF,_,⟨o,n,h1,h2,_⟩,_⟩:=I.list (sm.seq q);exact W.kia_one W.kitx_list I.fO ⟨o,h1,h2⟩ e (fun z=>nomatch z) h
 | @jO a kvs iu q rr=>
   cases (show z=Value.ref a from rx);exact jw (x:=.ref a) I rfl (.dK (sm _ _ q)) e h
 | @obj a C dx fv fs q rr=>
   cases (show z=Value.ref a from rx);have t:Bu X.K C:=t;exact jw (x:=.ref a) I rfl (.ins (cX sm q) t.cl t.ha t.hn t.za t.hm) e h
 | ty n=>exact t.elim
 | cls C=>exact t.elim
 | @xo a C ph q hp=>
   cases (show z=Value.ref a from rx);have t:Av X.K C:=t;have ok:bI X.prog X.w H s.heap a (.ext ph):=I.cL a _ (sm _ _ q);exact W.kia_one (oH t) I.fO (hp _ ok.1) e (fun z=>nomatch z) h
 | @jZ a ob kvs iu q rr=>
   cases (show z=Value.ref a from rx);obtain⟨_,_,vs,_,D⟩:=yj (kvs:=kvs) I.cL (.inr (.inl ⟨ob,sm _ _ q⟩));exact W.kia_one W.kitx_dict I.fO D.typeIs e (fun z=>nomatch z) h
 | @rX a C dx ph fv fs q hp g rr=>
   cases (show z=Value.ref a from rx);have t:Av X.K C:=t;have ok:bI X.prog X.w H s.heap a (.ext ph):=I.cL a _ (sm _ _ q);exact W.kia_one (oH t) I.fO (hp _ ok.1).of e (fun z=>nomatch z) h
 | @j0 a tg ob kvs iu q rr=>
   cases (show z=Value.ref a from rx);obtain⟨_,_,vs,_,D⟩:=yj (kvs:=kvs) I.cL (.inr (.inr (.inl ⟨tg,ob,kvs,sm _ _ q,rfl⟩)));exact W.kia_one W.kitx_dict I.fO D.typeIs e (fun z=>nomatch z) h
 | memo=>exact t.elim
 | gD=>exact t.elim
 | wV=>exact t.elim
 | fT=>exact t.elim
 | td=>exact t.elim
 | @oI a _ C dx fv fs gs nm n ls _ q rr=>
   cases (show z=Value.ref a from rx);have t:Bu X.K C:=t;exact jw (x:=.ref a) I rfl (.ins (cX sm q) t.cl t.ha t.hn t.za t.hm) e h
theorem boot_isinstance:bootBuiltins "isinstance"=some (.builtin "isinstance"):=by decide +kernel
def Dz (K:W.Frag)(d d2:Dt)(r:Bool):List V->Hp->VK->Prop:=fun xs H Q=>∃ Hf w c,xs=[w,c]/\aI Hf H/\Rep K Hf w d/\Rep K Hf c d2/\Q (.bl r) H
theorem ug {r:Bool}{z:Value}(hc:Bv d2=some z)(t:zv X.K d)(h:W.kitOne X.K (Dy d) z=some r):kX X (.builtin "isinstance") (Dz X.K d d2 r):=by
 intro pins s st H xs us Q I rv ⟨Hf,w,c,e,sm,r1,r2,q⟩;subst e;cases rv with
 | cons q1 t1=>
   cases t1 with
   | cons q2 t2=>
     cases t2;rename_i ud uc;have ez:uc=z:=by
       cases r2 with
       | ty n=>cases hc;exact q2
       | cls C=>cases hc;exact q2
       | _=>cases hc
     subst ez;exact uf I sm r1 q1 t h fun tk=>⟨.bl r,H,I.tok _,rfl,q⟩
theorem jz {r:Bool}{z:Value}(hm:X.mg "isinstance"=none)(ha:EE X G dl a d)(hb:EE X G dl b d2)(hc:Bv d2=some z)(t:zv X.K d)(h:W.kitOne X.K (Dy d) z=some r)(hg:autoParam (Gl X "isinstance") jp)(he:autoParam (starEach [a,b] X.env=(false,eval a X.env)::starEach [b] X.env) jp)(F5:autoParam (starEach [b] X.env=[(false,eval b X.env)]) jp)(iw:autoParam ((backTo pos (starEach [b] X.env)).any (·.1)=false) jp):EE X G dl (.Call (.Name "isinstance" p) [a,b] [] pos) (.bl r):=
 eW (fw (ug hc t h) hg hm boot_isinstance (ae ha (ae hb ag F5) he) (by decide) (by decide) he iw) fun st H Q zq=>zn zq fun Hf S k=>fun vs aA H1 g1 r1=>by
   cases r1 with
   | cons r1 t1=>cases t1 with
     | cons r2 t2=>cases t2;exact⟨aA,_,_,rfl,g1.sub,r1,r2,k _ aA H1 g1 (.bl _)⟩
mutual
noncomputable def pd:Dt->PyData
 | .b4=>.none
 | .bl b=>.bool b
 | .int i=>.int i
 | .str x=>.str x
 | .tup ds=>.tuple (pD ds)
 | .lst ds=>.list (pD ds)
 | .kh _=>.none
 | .jO _=>.none
 | .obj _ _=>.none
 | .ty _=>.none
 | .cls _=>.none
 | .xo _=>.none
 | .jZ _=>.none
 | .rX _ _=>.none
 | .j0 _=>.none
 | .memo _ _ _ _=>.none
 | .gD _ _ _ _=>.none
 | .td _ _ _=>.none
 | .oI _ _ _ _ _=>.none
 | .wV _=>.none
 | .fT _=>.none
noncomputable def pD:List Dt->List PyData
 | []=>[]
 | d::r=>pd d::pD r
end
mutual
noncomputable def plain:Dt->Bool
 | .tup ds=>ff ds
 | .lst ds=>ff ds
 | .kh _=>false
 | .jO _=>false
 | .obj _ _=>false
 | .ty _=>false
 | .cls _=>false
 | .xo _=>false
 | .jZ _=>false
 | .rX _ _=>false
 | .j0 _=>false
 | .memo _ _ _ _=>false
 | .gD _ _ _ _=>false
 | .td _ _ _=>false
 | .oI _ _ _ _ _=>false
 | .wV _=>false
 | .fT _=>false
 | .b4=>true
 | .bl _=>true
 | .int _=>true
 | .str _=>true
noncomputable def ff:List Dt->Bool
 | []=>true
 | d::r=>plain d && ff r
end
section
variable {pins:List (Addr×Obj)}{st:L2.St}{Hf H:Hp}{s:Shared}
mutual
theorem gP (I:L2.Inv X pins st H s)(sm:aI Hf H):∀ {w:V} {d:Dt} {z:Value},Rep X.K Hf w d->plain d=true->RelV w z->∃ as,Reads s.heap z (pd d) as
 | _,_,z,.b4,_,r=>by cases (show z=Value.none from r);exact⟨_,.none⟩
 | _,_,z,.bl b,_,r=>by cases (show z=Value.bool b from r);exact⟨_,.bool b⟩
 | _,_,z,.int i,_,r=>by obtain⟨t,q⟩:=(show ∃ t,z=Value.int i t from r);cases q;exact⟨_,.int i t⟩
 | _,_,z,.str x,_,r=>by obtain⟨t,q⟩:=(show ∃ t,z=Value.str x t from r);cases q;exact⟨_,.str x t⟩
 | _,_,z,@Rep.tup _ _ a vs ds q rr,h,r=>by
   cases (show z=Value.ref a from r);obtain⟨aF,rv,⟨o,h1,h2,n,h3⟩,_⟩:=I.tuple (bq sm q);obtain⟨as,ra⟩:=jA I sm rr (by rw[plain] at h;exact h) rv;refine⟨as,?_⟩;rw[pd];exact .tuple h1 h2 h3 (by simpa using ra)
 | _,_,z,@Rep.lst _ _ a vs ds q rr,h,r=>by
   cases (show z=Value.ref a from r);obtain⟨aF,rv,⟨o,n,h1,h2,_,h3⟩,_⟩:=I.list (.of (sm _ _ q));obtain⟨as,ra⟩:=jA I sm rr (by rw[plain] at h;exact h) rv;refine⟨a::as,?_⟩;rw[pd];exact .list h1 h2 h3 (by simpa using ra)
 | _,_,_,.jO _ _,h,_=>by rw[plain] at h;cases h
 | _,_,_,.kh _,h,_=>by rw[plain] at h;cases h
 | _,_,_,.obj _ _,h,_=>by rw[plain] at h;cases h
 | _,_,_,.ty _,h,_=>by rw[plain] at h;cases h
 | _,_,_,.cls _,h,_=>by rw[plain] at h;cases h
 | _,_,_,.xo _ _,h,_=>by rw[plain] at h;cases h
 | _,_,_,.jZ _ _,h,_=>by rw[plain] at h;cases h
 | _,_,_,.rX _ _ _ _,h,_=>by rw[plain] at h;cases h
 | _,_,_,.j0 _ _,h,_=>by rw[plain] at h;cases h
 | _,_,_,.memo _ _ _ _,h,_=>by rw[plain] at h;cases h
 | _,_,_,.gD _ _ _ _,h,_=>by rw[plain] at h;cases h
 | _,_,_,.td _,h,_=>by rw[plain] at h;cases h
 | _,_,_,.oI _ _ _,h,_=>by rw[plain] at h;cases h
 | _,_,_,.wV _,h,_=>by rw[plain] at h;cases h
 | _,_,_,.fT _,h,_=>by rw[plain] at h;cases h
theorem jA (I:L2.Inv X pins st H s)(sm:aI Hf H):∀ {vs:List V} {ds:List Dt} {zs:List Value},aS X.K Hf vs ds->ff ds=true->Vals vs zs->∃ as,ReadsAll s.heap zs (pD ds) as
 | _,_,_,.nil,_,.nil=>⟨[],by rw[pD];exact .nil⟩
 | _,_,_,.cons r t,h,.cons q w=>by
   rw[ff,Io] at h;obtain⟨as,h1⟩:=gP I sm r h.1 q;obtain⟨bs,h2⟩:=jA I sm t h.2 w;exact⟨as ++ bs,by rw[pD];exact .cons h1 h2⟩
end
end
def wa (d:Dt):Prop:=plain d=true/\SeqAt.shaped (pd d)=true
def zw (K:PySem.W.Frag)(d1 d2:Dt)(g:Bool->Bool):R2:=fun x y H Q=>∃ Hf,aI Hf H/\Rep K Hf x d1/\Rep K Hf y d2/\wa d1/\wa d2/\Q (.bl (g (PyData.eqv (pd d1) (pd d2)))) H
theorem zx (hu:X.A.units+64 < cLine):ju X (compareOp .Eq) (zw X.K d1 d2 id):=by
 intro pins s st H x y v w Q I rx ry ⟨Hf,sm,r1,r2,o1,o2,q⟩;obtain⟨as,h1⟩:=gP I sm r1 o1.1 rx;obtain⟨bs,h2⟩:=gP I sm r2 o2.1 ry;exact eq_dataH h1 h2 o1.2 o2.2 hu ⟨.bl _,H,I,rfl,q⟩
theorem zy (hu:X.A.units+64 < cLine):ju X (compareOp .NotEq) (zw X.K d1 d2 (!·)):=by
 intro pins s st H x y v w Q I rx ry ⟨Hf,sm,r1,r2,o1,o2,q⟩;obtain⟨as,h1⟩:=gP I sm r1 o1.1 rx;obtain⟨bs,h2⟩:=gP I sm r2 o2.1 ry;exact ne_dataH h1 h2 o1.2 o2.2 hu ⟨.bl _,H,I,rfl,q⟩
theorem uh {K:W.Frag}{g:Bool->Bool}(o1:wa d1)(o2:wa d2):wW K (zw K d1 d2 g) d1 d2 (.bl (g (PyData.eqv (pd d1) (pd d2)))):=fun v w Hf H Q s r1 r2 k=>⟨Hf,s,r1,r2,o1,o2,k _ Hf H (.refl s) (.bl _)⟩
mutual
theorem eqv_refl:∀ d:Dt,plain d=true->PyData.eqv (pd d) (pd d)=true
 | .b4,_=>by simp[pd,PyData.eqv]
 | .bl b,_=>by simp[pd,PyData.eqv]
 | .int i,_=>by simp[pd,PyData.eqv]
 | .str x,_=>by simp[pd,PyData.eqv]
 | .tup ds,h=>by rw[plain] at h;rw[pd,PyData.eqv];exact jB ds h
 | .lst ds,h=>by rw[plain] at h;rw[pd,PyData.eqv];exact jB ds h
 | .jO _,h=>by rw[plain] at h;cases h
 | .kh _,h=>by rw[plain] at h;cases h
 | .obj _ _,h=>by rw[plain] at h;cases h
 | .ty _,h=>by rw[plain] at h;cases h
 | .cls _,h=>by rw[plain] at h;cases h
 | .xo _,h=>by rw[plain] at h;cases h
 | .jZ _,h=>by rw[plain] at h;cases h
 | .rX _ _,h=>by rw[plain] at h;cases h
 | .j0 _,h=>by rw[plain] at h;cases h
 | .memo _ _ _ _,h=>by rw[plain] at h;cases h
 | .gD _ _ _ _,h=>by rw[plain] at h;cases h
 | .td _ _ _,h=>by rw[plain] at h;cases h
 | .oI _ _ _ _ _,h=>by rw[plain] at h;cases h
theorem jB:∀ ds:List Dt,ff ds=true->PyData.eqvAll (pD ds) (pD ds)=true
 | [],_=>by simp[pD,PyData.eqvAll]
 | d::r,h=>by
   rw[ff,Io] at h;rw[pD,PyData.eqvAll,eqv_refl d h.1,jB r h.2];rfl
end
theorem ui (hr:X.A.units+64 < cLine)(ha:EE X G dl a d1)(hb:EE X G dl b d2)(o1:wa d1)(o2:wa d2)(hu:PyData.eqv (pd d1) (pd d2)=u):EE X G dl (.Compare a [.Eq] [b] pos) (.bl u):=by
 subst hu;exact zm (zx hr) (uh (g:=id) o1 o2) (gM _) ha hb
theorem qL (hr:X.A.units+64 < cLine)(ha:EE X G dl a d1)(hb:EE X G dl b d2)(o1:wa d1)(o2:wa d2)(hu:(!PyData.eqv (pd d1) (pd d2))=u):EB X G dl (.Compare a [.NotEq] [b] pos) u:=by
 subst hu;exact fU (zy hr) (uh (g:=(!·)) o1 o2) (gM _) ha hb
theorem Bw (ha:EE X G dl a (.int i))(hb:EE X G dl b (.int j)):EB X G dl (.Compare a [.Lt] [b] pos) (decide (i < j)):=fU A0 (oK (g':=fun i j=>.bl (decide (i < j))) fun _ _ _ _=>.bl _) (gM _) ha hb
theorem ym (ha:EE X G dl a (.int i))(hb:EE X G dl b (.int j)):EB X G dl (.Compare a [.Gt] [b] pos) (decide (j < i)):=fU A2 (oK (g':=fun i j=>.bl (decide (j < i))) fun _ _ _ _=>.bl _) (gM _) ha hb
theorem yn (ha:EE X G dl a (.int i))(hb:EE X G dl b (.int j)):EB X G dl (.Compare a [.GtE] [b] pos) (decide (j<=i)):=fU A3 (oK (g':=fun i j=>.bl (decide (j<=i))) fun _ _ _ _=>.bl _) (gM _) ha hb
theorem p3 {K:W.Frag}{w1 w2:V}{g:Bool->Bool}(h1:∀ H w,Rep K H w d1->w=w1)(h2:∀ H w,Rep K H w d2->w=w2)(hs:wD w1 w2=true):wW K (fun x y H Q=>wD x y=true/\Q (.bl (g (decide (x=y)))) H) d1 d2 (.bl (g (decide (w1=w2)))):=fun v w Hf H Q s r1 r2 k=>by
 cases h1 _ _ r1;cases h2 _ _ r2;exact⟨hs,k _ Hf H (.refl s) (.bl _)⟩
theorem iX (i j:Int):decide (V.int i=V.int j)=decide (i=j):=by simp
theorem kf (i j:Str):decide (V.str i=V.str j)=decide (i=j):=by simp
theorem b8 (ha:EE X G dl a (.int i))(hb:EE X G dl b (.int j)):EB X G dl (.Compare a [.Eq] [b] pos) (decide (i=j)):=by
 rw[<- iX];exact fU yg (p3 (g:=id) (fun _ _ r=>by cases r;rfl) (fun _ _ r=>by cases r;rfl) rfl) (gM _) ha hb
theorem k9 (ha:EE X G dl a (.int i))(hb:EE X G dl b (.int j)):EB X G dl (.Compare a [.NotEq] [b] pos) (!decide (i=j)):=by
 rw[<- iX];exact fU AZ (p3 (g:=(!·)) (fun _ _ r=>by cases r;rfl) (fun _ _ r=>by cases r;rfl) rfl) (gM _) ha hb
theorem b9 (ha:EE X G dl a (.str x))(hb:EE X G dl b (.str y)):EB X G dl (.Compare a [.Eq] [b] pos) (decide (x=y)):=by
 rw[<- kf];exact fU yg (p3 (g:=id) (fun _ _ r=>by cases r;rfl) (fun _ _ r=>by cases r;rfl) rfl) (gM _) ha hb
end
structure GF (P:Program)(w:World)(K:W.Frag)(mg:Str->Option Value)(base:Heap)(CX:jr)(k:Nat)(x:Str)(n:Nat)(R:List Dt->Res->Prop):Prop where
 ex:∃ f fd ps,dA P w K mg base CX k f fd ps (se K n R)/\mg x=some (.ref f)/\W.keepIn K (.ref f)=true/\Binds K fd ps []
structure MF (P:Program)(w:World)(K:W.Frag)(mg:Str->Option Value)(base:Heap)(CX:jr)(k:Nat)(C:Addr)(m:Str)(n:Nat)(R:List Dt->Res->Prop):Prop where
 cl:mD K C
 ex:∃ f fd ps,dA P w K mg base CX k f fd ps (se K n R)/\Meth K C m f/\Binds K fd ps []
section
variable {X:Cx}{G:Gr}{dl:List Slot}{e:Expr}{es:List Expr}{d:Dt}{ds:List Dt}{pos p apos:Pos}{x m:Str}{C:Addr}{fs:List (Str×Dt)}{CX:jr}{k k' n:Nat}{R:List Dt->Res->Prop}{ob:Expr}
theorem bo (F:GF X.prog X.w X.K X.mg X.base CX k x n R)(nx:pC CX)(hr:b5 k' X.A)(ha:EA X G dl (e::es) ds)(h:R ds (.ret d))(ng:autoParam (k<=k') z8)(hl:autoParam (ds.length=n) jp)(hg:autoParam (Gl X x) jp)(iG:autoParam ((x == ("__debug__":Str))=false) z8)(he:autoParam (starEach (e::es) X.env=(false,eval e X.env)::starEach es X.env) jp)(iw:autoParam ((backTo pos (starEach es X.env)).any (·.1)=false) jp):EE X G dl (.Call (.Name x p) (e::es) [] pos) d:=by
 obtain⟨f,fd,ps,F,hm,hk,hb⟩:=F.ex;refine w4 (dvs:=[]) (vds:=[]) F nx (hr.mono ng) hm hk hb .nil (fun _=>.nil) ha (by rw[Ii];exact hl) (by rw[Ii];exact h) hg iG he iw
theorem eJ {pl:Sem Bool}(he:EE X G dl ob (.obj C fs))(F:MF X.prog X.w X.K X.mg X.base CX k C m n R)(nx:pC CX)(hr:b5 k' X.A)(ha:EA X G dl (e::es) ds)(h:R (.obj C fs::ds) (.ret d))(ng:autoParam (k<=k') z8)(hl:autoParam ((Dt.obj C fs::ds).length=n) jp)(oO:autoParam (fs.lookup m=none) jp)
   (iV:autoParam (starEach (e::es) X.env=(false,eval e X.env)::starEach es X.env) jp) (iw:autoParam ((backTo pos (starEach es X.env)).any (·.1)=false) jp)
   (ht:autoParam (eval (.Call (.Attribute ob m apos) (e::es) [] pos) X.env=(do
     let ov <- eval ob X.env
     standAt apos.atName
     let (f,first) <- holding [ov] (getMethod ov m pl)
     callWith pos f first (backTo pos (starEach (e::es) X.env)) (backToKw pos (keywordEach [] X.env)))) jp):EE X G dl (.Call (.Attribute ob m apos) (e::es) [] pos) d:=by
 obtain⟨f,fd,ps,Fo,hm,hb⟩:=F.ex;refine qI (dvs:=[]) (vds:=[]) (pl:=pl) he F.cl hm Fo nx (hr.mono ng) hb .nil (fun _=>.nil) ha (by rw[Ii];exact hl) (by rw[Ii];exact h) oO iV iw ht
theorem br {pl:Sem Bool}(he:EE X G dl ob (.obj C fs))(F:MF X.prog X.w X.K X.mg X.base CX k C m n R)(nx:pC CX)(hr:b5 k' X.A)(h:R [.obj C fs] (.ret d))(ng:autoParam (k<=k') z8)(hl:autoParam ([Dt.obj C fs].length=n) jp)(oO:autoParam (fs.lookup m=none) jp)
   (ht:autoParam (eval (.Call (.Attribute ob m apos) [] [] pos) X.env=(do
     let ov <- eval ob X.env
     standAt apos.atName
     let (f,first) <- holding [ov] (getMethod ov m pl)
     callWith pos f first (backTo pos (starEach [] X.env)) (backToKw pos (keywordEach [] X.env)))) jp):EE X G dl (.Call (.Attribute ob m apos) [] [] pos) d:=by
 obtain⟨f,fd,ps,Fo,hm,hb⟩:=F.ex;refine oP (dvs:=[]) (vds:=[]) (pl:=pl) he F.cl hm Fo nx (hr.mono ng) hb .nil (fun _=>.nil) hl h oO ht
end
noncomputable def EF:List Value:=[.type "ValueError",.type "Exception",.type "BaseException",.type "object"]
structure Hu (K:W.Frag)(C:Addr):Prop where
 ex:W.excIn K C EF "ValueError.__new__"=true
def wb:Value->Shared->Prop:=fun _ _=>False
theorem w8 {P:Program}{w:World}{A:Around}{R:Result->Shared->Prop}{s:Shared}{elt tg iter:Expr}{sc:Scope}{pos:Pos}{it acc:Value}{env:Env}(J:Nat->Shared->Prop)
   (turn:∀ n s,J n s->wpAny (model P w) A (pyNext it) (fun r s1=>match r with
     | none=>R (.ok .next) s1
     | some v=>wpAny (model P w) A (letOwnedTupleGo tg it v) (fun _ s2=>wpAny (model P w) A (assign tg env v) (fun _ s3=>wpAny (model P w) A (eval elt env) (fun x s4=>
         wpAny (model P w) A (call (.builtin "list.append") [acc,x]) (fun _ s5=>∃ m,m < n/\J m s5) wb s4) wb s3) wb s2) wb s1) wb s)
   (n:Nat) (h:J n s):codeAny (model P w) A (.compLoop (.ListComp elt [⟨tg,iter,[],0⟩] sc pos) 0 it acc env) R s:=by
 have off:∀ {B:Value->Shared->Prop} (x:Value) (s':Shared),wb x s'->B x s':=fun _ _ z=>z.elim
 refine codeAny_loop rfl J (fun n s hJ=>?_) n h;show wpAny _ A ((compTurn (.ListComp elt [⟨tg,iter,[],0⟩] sc pos) 0 it acc env).onRaise (fun x=>(do noteFrame x env;theTreesLotGoes x))) _ _ s;refine wpAny_noted ?_;rw[compTurn_list1];refine wpAny_bind (wpAny_standAt (wpAny_bind (wpAny_mono (turn n s hJ) (fun r s1 h1=>?_) off)));cases r with
 | none=>exact wpAny_pure h1
 | some v=>
   refine wpAny_bind (wpAny_mono h1 (fun _ s2 h2=>wpAny_bind (wpAny_mono h2 (fun _ s3 h3=>wpAny_bind (wpAny_bind ?_)) off)) off);exact wpAny_mono h3 (fun x s4 h4=>wpAny_bind (wpAny_mono h4 (fun _ s5 h5=>wpAny_pure (wpAny_pure ⟨rfl,h5⟩)) off)) off
noncomputable def nh (cells:List (Str×Addr)):List (Str×NameKind)->List (Str×Addr)->List (Str×Addr)
 | [],cs=>cs
 | (n,k)::r,cs=>if k == .free then nh cells r ((n,(cells.lookup n).getD 0)::cs) else nh cells r cs
noncomputable def ni (sc:Scope)(env:Env):List (Str×Addr):=nh env.cells sc.names []
theorem nr {env:Env}:∀ (l:List (Str×NameKind)) (cs:List (Str×Addr)),(∀ y∈l,y.2=.free->∃ c,env.cells.lookup y.1=some c) ->
   (forIn l cs fun(x:Str×NameKind) r=>(if x.2 == .free then (do let c <- cellOf env x.1;pure (ForInStep.yield ((x.1,c)::r))) else pure (ForInStep.yield r):Sem _))=pure (nh env.cells l cs)
 | [],cs,_=>rfl
 | (n,k)::l,cs,h=>by
   have hr:∀ y∈l,y.2=.free->∃ c,env.cells.lookup y.1=some c:=fun y hy=>h y (HB _ hy)
   rw[List.forIn_cons,nh];by_cases hk:(k == NameKind.free)=true
   . obtain⟨c,hc⟩:=h (n,k) HU (by simpa using hk)
     have hc:env.cells.lookup n=some c:=hc;simp only[hk,if_true,cellOf,hc,pure_bind,Option.getD_some];exact nr l _ hr
   . simp only[hk,if_false,pure_bind]
     exact nr l _ hr
theorem xa {sc:Scope}{env:Env}(h:∀ y∈sc.names,y.2=.free->∃ c,env.cells.lookup y.1=some c):closureFor sc env=pure (ni sc env):=by
 unfold closureFor ni;have:=nr (env:=env) sc.names [] h;simp only[bind_pure];refine Eq.trans ?_ this
 congr 1
theorem nu {cells:List (Str×Addr)}{y:Str}{c:Addr}:∀ (l:List (Str×NameKind)) (cs:List (Str×Addr)),(nh cells l cs).lookup y=some c->((y,NameKind.free)∈l/\(cells.lookup y).getD 0=c)\/cs.lookup y=some c
 | [],cs,h=>.inr h
 | (n,k)::l,cs,h=>by
   rw[nh] at h;by_cases hk:(k == NameKind.free)=true
   . rw[if_pos hk] at h
     have EG:k=.free:=by simpa using hk
     subst EG;rcases nu l _ h with⟨h1,h2⟩ | h1
     . exact .inl ⟨HB _ h1,h2⟩
     . rw[Ie] at h1
       cases q:(y == n) with
       | true=>
         rw[q] at h1;have e:y=n:=by simpa using q
         subst e;exact .inl ⟨HU,Option.some.inj h1⟩
       | false=>rw[q] at h1;exact .inr h1
   . rw[if_neg hk] at h
     rcases nu l _ h with⟨h1,h2⟩ | h1
     . exact .inl ⟨HB _ h1,h2⟩
     . exact .inr h1
theorem i6 {cells:List (Str×Addr)}{y:Str}:∀ (l:List (Str×NameKind)) (cs:List (Str×Addr)),((y,NameKind.free)∈l\/∃ c,cs.lookup y=some c)->∃ c,(nh cells l cs).lookup y=some c
 | [],cs,h=>by
   rcases h with h | h
   . cases h
   . exact h
 | (n,k)::l,cs,h=>by
   rw[nh];by_cases hk:(k == NameKind.free)=true
   . rw[if_pos hk]
     refine i6 l _ ?_;rcases h with h | ⟨c,h⟩
     . rcases Im.mp h with h | h
       . cases h;exact .inr ⟨_,by rw[Ie,show(y == y)=true by simp]⟩
       . exact .inl h
     . refine .inr ?_
       rw[Ie];cases q:(y == n) with
       | true=>exact⟨_,rfl⟩
       | false=>exact⟨c,h⟩
   . rw[if_neg hk]
     refine i6 l _ ?_;rcases h with h | h
     . rcases Im.mp h with h | h
       . cases h;exact absurd rfl hk
       . exact .inl h
     . exact .inr h
theorem fW {env:Env}{y:Str}{k:NameKind}:∀ {names:List (Str×NameKind)},(names.map fun(n,k)=>if (k == NameKind.free && env.scope.kind == .function && env.kindOf n == some .cell) then (n,NameKind.cell) else (n,k)).lookup y=some k->∃ k',(y,k')∈names/\(k=k'\/k'=.free)
 | [],h=>by simp at h
 | (n,kk)::r,h=>by
   rw[HV,Ie] at h;by_cases hc:(kk == NameKind.free && env.scope.kind == .function && env.kindOf n == some .cell)=true
   . simp only[hc,if_true] at h
     cases q:(y == n) with
     | true=>
       have e:y=n:=by simpa using q
       subst e;have:kk=.free:=by
         have:=hc;simp at this;exact this.1.1
       exact⟨kk,HU,.inr this⟩
     | false=>
       rw[q] at h;obtain⟨k',h1,h2⟩:=fW h;exact⟨k',HB _ h1,h2⟩
   . simp only[hc,Ic,if_false] at h
     cases q:(y == n) with
     | true=>
       have e:y=n:=by simpa using q
       subst e;rw[q] at h;exact⟨kk,HU,.inl (Option.some.inj h).symm⟩
     | false=>
       rw[q] at h;obtain⟨k',h1,h2⟩:=fW h;exact⟨k',HB _ h1,h2⟩
theorem lb {env:Env}{y:Str}:∀ {names:List (Str×NameKind)},names.lookup y=some .free->(names.map fun(n,k)=>if (k == NameKind.free && env.scope.kind == .function && env.kindOf n == some .cell) then (n,NameKind.cell) else (n,k)).lookup y=some .cell \/
   (names.map fun(n,k)=>if (k == NameKind.free && env.scope.kind == .function && env.kindOf n == some .cell) then (n,NameKind.cell) else (n,k)).lookup y=some .free
 | [],h=>by simp at h
 | (n,kk)::r,h=>by
   rw[HV,Ie];rw[Ie] at h;cases q:(y == n) with
   | true=>
     rw[q] at h;have:kk=.free:=Option.some.inj h;subst this;by_cases hc:(NameKind.free == NameKind.free && env.scope.kind == .function && env.kindOf n == some .cell)=true
     . left;simp only[hc,if_true];simp[q]
     . right;simp only[hc,Ic,if_false];simp[q]
   | false=>
     rw[q] at h;have ih:=lb (env:=env) h;by_cases hc:(kk == NameKind.free && env.scope.kind == .function && env.kindOf n == some .cell)=true
     . simp only[hc,if_true,q];exact ih
     . simp only[hc,Ic,if_false,q];exact ih
structure cW (X:Cx)(N:List Str)(ix:List Nat)(x:Str)(sc:Scope):Prop where
 nd:N.Nodup
 nm:N=x::ix.map (fun j=>X.N.getD j "")
 kind:sc.kind=.function
 p4:∀ y∈sc.names,y.2≠.cell
 names:∀ y∈sc.names,y.2=.local->sc.names.lookup y.1=some .local
 hx:sc.names.lookup x=some .local
 fr:∀ y∈sc.names,y.2=.free->X.env.kindOf y.1=some .cell\/X.env.kindOf y.1=some .free
 DB:∀ j∈ix,∃ y,X.N[j]?=some y/\sc.names.lookup y=some .free
noncomputable def eK (X:Cx)(N:List Str)(sc:Scope)(C:Addr)(fp:List Addr)(s:Shared)(H:Hp):Cx:=
 { X with N:=N,s₀:=s,H₀:=H,env:=compEnvC sc (ni sc X.env) C X.env,outer:=X.stack,stack:=X.stack,ex:=fp,fn:=fun _=>false,pn:=[],xe:=wb}
noncomputable def frees (ix:List Nat)(st:L2.St):L2.St:=ix.map fun j=>(st[j]?).join
section
variable {X:Cx}{N:List Str}{ix:List Nat}{x:Str}{sc:Scope}{pins:List (Addr×Obj)}{st:L2.St}{H H':Hp}{s s':Shared}{C D:Addr}{fp:List Addr}{h1:Heap}
theorem uj (B:cW X N ix x sc)(ok:X.Ok):closureFor sc X.env=pure (ni sc X.env):=xa fun y hy hk=>ok.has y.1 (B.fr y hy hk)
theorem lg (B:cW X N ix x sc)(ok:X.Ok){y:Str}{c:Addr}(h:(ni sc X.env).lookup y=some c):X.env.cells.lookup y=some c/\(y,NameKind.free)∈sc.names:=by
 rcases nu _ _ h with⟨h1,h2⟩ | h1
 . obtain⟨c',h3⟩:=ok.has y (B.fr _ h1 rfl)
   rw[h3] at h2;cases h2;exact⟨h3,h1⟩
 . cases h1
theorem nv (B:cW X N ix x sc)(I:L2.Inv X pins st H s)(hC:s.heap.objs.size<=C)(hf:∀ b∈fp,kW X pins H b)(iT:∀ b∈fp,b < s.heap.objs.size):(eK X N sc C fp s H).Ok where
 mod:=I.ok.mod
 kind:=B.kind
 glob:=I.ok.glob
 blt:=I.ok.blt
 above:=hC
 inj:=fun y z c h1 h2=>I.ok.inj y z c (lg B I.ok h1).1 (lg B I.ok h2).1
 has:=fun y hy=>by
   have hy:(relabel sc X.env).names.lookup y=some .cell\/(relabel sc X.env).names.lookup y=some .free:=hy;have:(y,NameKind.free)∈sc.names:=by
     rcases hy with hy | hy
     . obtain⟨k',h1,h2⟩:=fW hy
       rcases h2 with h2 | h2
       . subst h2;exact absurd rfl (B.p4 _ h1)
       . subst h2;exact h1
     . obtain⟨k',h1,h2⟩:=fW hy
       rcases h2 with h2 | h2 <;> subst h2 <;> exact h1
   exact i6 _ _ (.inl this)
 Cd:=fun y c h=>by cases h
 hd:=I.ok.hd
 frames:=I.ok.frames
 Cz:=.inl rfl
 CA:=fun b hb=>⟨HM (HA (iT b hb) hC),fun y c h=>(hf b hb).2.2.2.2.1 y c (lg B I.ok h).1⟩
 bs:=I.bs
 x5:=Ik I.ok.x5 I.sz
 wz:=fun b o e hb=>by
   rcases (hf b hb).2.2.2.1 with z | z
   . exact I.ok.wz b o e z
   . exact absurd (HA (Gv e) (Ik I.ok.x5 z)) (Iy _)
 wA:=fun b hb z=>by
   rcases Im.mp (I.pE b z) with z | z
   . exact(hf b hb).2.1 z
   . exact(hf b hb).2.2.1 z
 kS:=I.stack
 Ao:=I.qr
theorem si (B:cW X N ix x sc)(I:L2.Inv X pins st H s)(hf:∀ b∈fp,kW X pins H b)(iT:∀ b∈fp,b < s.heap.objs.size)(hC:C=s.heap.objs.size+1)(k:∀ b o,s.heap.get? b=some o->h1.get? b=some o)(hn:h1.Ns C fun _=>none)(hD:h1.get? s.heap.objs.size=some { cls:=.type "list",data:=.seq ([]:List Value).toArray 0}){t':Nat}:L2.Inv (eK X N sc C fp s H) [] (none::frees ix st) (upd H s.heap.objs.size (.lst [])) { s with heap:=h1,toks:=t'}:=by
 have EH:s.heap.objs.size<=C:=by rw[hC];exact Nat.le_succ _
 have fr:∀ a,s.heap.objs.size<=a->H a=none:=fun a ha=>I.cL.fresh ha
 have ok:=nv B I EH hf iT;have v5:∀ y c,(ni sc X.env).lookup y=some c->H c=none/\c < s.heap.objs.size/\∃ v,s.heap.IsCell c v:=fun y c h=>by
   have h:=(lg B I.ok h).1;obtain⟨v,q⟩:=I.cell y c h;exact⟨I.jR y c h,q.lt,v,q⟩
 refine⟨ok,rfl,I.bare,Un.laid k (Hr _) (fr _ (Hr _)),⟨_,hn,fun i y v e1 e2 e3=>?_⟩,fun y c h=>?_,?_,fun y c h=>?_,fun p hp=>absurd (show p∈([]:List (Addr×Obj)) from hp) (by simp),?_,?_⟩
 . have e1:N[i]?=some y:=e1
   cases i with
   | zero=>cases e2
   | succ i=>
     rw[B.nm,HZ,k5] at e1;rw[HZ] at e2;unfold frees at e2;rw[k5] at e2;cases q:ix[i]? with
     | none=>rw[q] at e1;cases e1
     | some j=>
       rw[q] at e1 e2;obtain⟨y',EI,EJ⟩:=B.DB j (List.mem_of_getElem? q);have EK:=PySem.mem_of_lookup EJ;have ey:y=y':=by
         have e1:X.N.getD j ""=y:=Option.some.inj e1;rw[Bn,EI] at e1;exact e1.symm
       subst ey;have e2:(st[j]?).join=some v:=Option.some.inj e2;have F6:st[j]?=some (some v):=by
         cases q2:st[j]? with
         | none=>rw[q2] at e2;cases e2
         | some z=>rw[q2] at e2;rw[show z=some v from e2]
       have kd:=B.fr _ EK rfl;have F7:sZ X.env.scope y:=by
         rcases kd with z | z
         . exact .inr (.inl z)
         . exact .inr (.inr z)
       obtain⟨m,_,hl⟩:=I.loc;obtain⟨u,r,l⟩:=hl j y v EI F6 F7;refine⟨u,r,.inr ?_⟩;rcases l with⟨z,_⟩ | ⟨_,c,hc,ic⟩
       . rcases kd with z' | z' <;> rw[z] at z' <;> cases z'
       . obtain⟨c',AG⟩:=i6 (cells:=X.env.cells) sc.names [] (.inl EK)
         have:=(lg B I.ok AG).1;rw[hc] at this;cases this;obtain⟨oc,Ap,hd⟩:=ic;refine⟨?_,c,AG,oc,k _ _ Ap,hd⟩;rcases e3 with e3 | e3 | e3
         . have e3:(relabel sc X.env).names.lookup y=some .local:=e3
           rcases lb (env:=X.env) EJ with z | z
           . exact absurd (e3.symm.trans z) (by decide)
           . exact absurd (e3.symm.trans z) (by decide)
         . exact .inl e3
         . exact .inr e3
 . obtain⟨_,_,v,oc,Ap,hd⟩:=v5 y c h
   exact⟨v,oc,k _ _ Ap,hd⟩
 . show upd H s.heap.objs.size (.lst []) C=none
   rw[ar (by rw[hC];exact Nat.succ_ne_self _)];exact fr _ EH
 . show upd H s.heap.objs.size (.lst []) c=none
   obtain⟨q1,q2,_⟩:=v5 y c h;rw[ar (HM q2)];exact q1
 . exact I.cL.laid k (Hr _) ⟨Iw _,[],0,.nil,hD⟩
 . show(none::frees ix st).length=N.length
   rw[B.nm];unfold frees;simp
def zz (te:TE)(fs:L2.St)(J:It)(D:Addr)(Q:List V->Hp->Prop)(H:Hp):Prop:=
 ∃ W:Nat->Nat->List V->Hp->Prop,(∃ m,W 0 m [] (upd H D (.lst [])))/\∀ i m ys H1,W i m ys H1 ->
   (J.stop i H1/\Q ys H1)\/(J.go i H1/\ys.length < sizeLine/\∀ v H2,J.yO i H1 v H2->te (some v::fs) H2 fun y H3=>H3 D=some (.lst ys)/\∃ m',m' < m/\W (i+1) m' (ys ++ [y]) (upd H3 D (.lst (ys ++ [y]))))
theorem qM {elt iter:Expr}{px pos:Pos}{te:TE}{J:It}{it:Addr}{tn:Nat->Heap->Prop}{Q:Addr->List V->Hp->Prop}{RR:Value->Addr->Result->Shared->Prop}{E:Value->Shared->Prop}(hc:X.calm=true)(B:cW X N ix x sc)(ny:∀ C fp s H,PE (eK X N sc C fp s H) elt te)(I:L2.Inv X pins st H s)(T:Turn X.prog X.w X.K (.Name x px) J fp it tn)(h0:tn 0 s.heap)(hf:∀ b∈fp,kW X pins H b)(hq:∀ D,H D=none->zz te (frees ix st) J D (Q D) H)(F8:∀ D C ys H' s',L2.Inv X pins st H' s'->(∃ m,s'.heap.Ns C m)->kW X pins H' C->Q D ys H'->RR (.ref D) C (.ok .next) s'):wpAny (model X.prog X.w) X.A (newList []) (fun acc s3=>wpAny (model X.prog X.w) X.A (newFunctionEnv sc X.env.globals (ni sc X.env) [] X.env.qual none .none (some X.env)) (fun Bx s4=>codeAny (model X.prog X.w) X.A (.compStart (.ListComp elt [⟨.Name x px,iter,[],0⟩] sc pos) 0 (.ref it) acc { Bx with scope:=relabel sc X.env}) (RR acc Bx.locals) s4) E s3) E s:=by
 have iT:∀ b∈fp,b < s.heap.objs.size:=fun b hb=>by
   obtain⟨o,e,_⟩:=T.obj _ _ h0 b hb;exact Gv e
 refine wpAny_newObj_type (wpAny_newFunctionEnv B.p4 (fun y hy=>absurd hy (by simp)) (fun h1 As Aw=>?_) B.kind);dsimp only at As Aw ⊢;generalize hG:s.heap.push { cls:=.type "list",dict:=none,data:=.seq ([]:List Value).toArray}=g at As Aw ⊢;have hC:g.objs.size=s.heap.objs.size+1:=by rw[<- hG,IQ]
 have F9:s.heap.objs.size≠g.objs.size:=by rw[hC];exact HM (IE _)
 have old:∀ b o,s.heap.get? b=some o->h1.get? b=some o:=fun b o e=>
   Aw.extBut b o (by rw[hC];exact HM (Nat.lt_succ_of_lt (Gv e))) (Hm _ (hG ▸ Hm _ e))
 have DC:h1.get? s.heap.objs.size=some { cls:=.type "list",data:=.seq ([]:List Value).toArray 0}:=Aw.extBut _ _ F9 (Hm _ (hG ▸ HP _ rfl));have hD:H s.heap.objs.size=none:=I.cL.fresh (Hr _);obtain⟨W,⟨m0,w0⟩,turn⟩:=hq _ hD;have I0:=si (t':=s.toks+([]:List (Str×Value)).length) B I hf iT hC old (by simpa using As) DC;have EL:tn 0 h1:=T.keep _ _ _ h0 fun b _ o e=>old b o e
 have xb:s.heap.objs.size<=g.objs.size:=by rw[hC];exact Nat.le_succ _
 have pK:∀ {H':Hp},(∀ b∈fp,H' b=none)->∀ b∈fp,kW (eK X N sc g.objs.size fp s H) [] H' b:=fun {H'} hn b hb=>
   ⟨hn b hb,((nv B I xb hf iT).CA b hb).1,(nv B I xb hf iT).wA b hb,.inl hb,((nv B I xb hf iT).CA b hb).2,fun p hp=>absurd (show p∈([]:List (Addr×Obj)) from hp) (by simp)⟩
 have hN:(eK X N sc g.objs.size fp s H).N[0]?=some x:=by
   show N[0]?=some x;rw[B.nm];rfl
 have Cs:(eK X N sc g.objs.size fp s H).env.scope.names.lookup x=some .local:=lookup_relabel_local B.hx;have loop:∀ s3:Shared,s3={ s with heap:=h1,toks:=s.toks+([]:List (Str×Value)).length} ->
     codeAny (model X.prog X.w) X.A (.compLoop (.ListComp elt [⟨.Name x px,iter,[],0⟩] sc pos) 0 (.ref it) (.ref s.heap.objs.size) (compEnvC sc (ni sc X.env) g.objs.size X.env)) (RR (.ref s.heap.objs.size) g.objs.size) s3:=by
   rintro s3 rfl
   refine w8 (fun n s'=>∃ i ys σ H',L2.Inv (eK X N sc g.objs.size fp s H) [] (σ::frees ix st) H' s'/\tn i s'.heap/\(∀ b∈fp,H' b=none)/\W i n ys H') ?_ m0
     ⟨0,[],none,_,I0,EL,fun b hb=>?_,w0⟩
   . rintro n s5 ⟨i,ys,σ,H5,I5,Aq,Ck,w5⟩
     rcases turn i n ys H5 w5 with⟨stop,qn⟩ | ⟨go,hz,step⟩
     . refine da (T.done (eK X N sc g.objs.size fp s H) rfl rfl rfl hc i [] s5 _ H5 wb I5 (pK Ck) Aq stop) fun r s6 ⟨hr,I6⟩=>?_
       subst hr;refine F8 _ _ ys H5 s6 ?_ ?_ (I.yP xb I6.free) qn
       . exact I.AH I6.os I6.base I6.cL I6.bare fun b hb=>⟨(hf b hb).2.2.2.1,(hf b hb).2.1,(hf b hb).2.2.2.2.1,(hf b hb).2.2.2.2.2⟩
       . obtain⟨m,hm,_⟩:=I6.loc
         exact⟨m,hm⟩
     . refine da (T.item (eK X N sc g.objs.size fp s H) rfl rfl rfl hc i [] s5 _ H5 wb I5 (pK Ck) Aq go) fun r s6 ⟨u,hr,h6⟩=>?_
       subst hr;refine da h6 fun _ s7 ⟨v,H7,I7,r7,y7,DD,Ga⟩=>?_
       have Gb:=I7.pinned (pK Ga) (T.obj _ _ DD);refine da (fP (X:=eK X N sc g.objs.size fp s H) (pos:=px) B.nd hN (.inl Cs) (.inr Cs) _ s7 _ H7 v u (fun σ' H'=>σ'=some v::frees ix st/\H'=H7) Gb r7 ⟨rfl,rfl⟩) fun _ s8 h8=>?_
       obtain⟨σ8,H8,I8,rfl,rfl⟩:=h8;refine da (ny g.objs.size fp s H _ s8 _ H8 _ I8 (step v H8 y7)) fun z s9 ⟨y,H9,I9,r9,Gd,m',hm,w9⟩=>?_
       refine da (gZ _ s9 _ H9 (.ref s.heap.objs.size) [y] (.ref s.heap.objs.size) [z] (fun _ H'=>H'=upd H9 s.heap.objs.size (.lst (ys ++ [y]))) I9 rfl (.cons r9 .nil) ⟨_,ys,y,rfl,rfl,Gd,hz,rfl⟩) fun _ Hv Ge=>?_
       obtain⟨_,Hw,DE,_,rfl⟩:=Ge;refine⟨m',hm,i+1,ys ++ [y],some v,_,DE.iW (pins:=[]),T.keep _ _ _ DD fun b hb o e=>(DE.pin (b,o) (HF _ (HF _ (fQ hb e)))).1,fun b hb=>?_,w9⟩;obtain⟨o,e,d⟩:=T.obj _ _ DD b hb;exact(DE.pin (b,o) (HF _ (HF _ (fQ hb e)))).2.1
   . rw[ar (HM (iT b hb))]
     exact(hf b hb).1
 exact codeAny_compStart_list (loop _ rfl) (T.self _ 0 _ _ _ EL (loop _ rfl))
end
def EM (K:PySem.W.Frag)(G:Gr)(dl:List Slot)(o:Own):TE:=fun st H Q=>∃ Hf,cK K G st Hf H dl/\∀ p aB H',bj Hf H aB H'->H p=none->aB p=none->dS K aB H' p o->Q (.ref p) H'
abbrev EO (X:Cx)(G:Gr)(dl:List Slot)(e:Expr)(o:Own):Prop:=PE X e (EM X.K G dl o)
noncomputable def By:Own->Dt
 | .lst ds=>.lst ds
 | .jO k=>.jO k
 | .obj C fs=>.obj C fs
 | .v9 _ C fs=>.obj C fs
 | .oJ C fs gs nm n=>.oI C fs gs nm n
 | .pW _ C fs gs nm n=>.oI C fs gs nm n
 | .fT k=>.fT k
section
variable {K:W.Frag}{G:Gr}{st:L2.St}{Hf H aB H':Hp}{dl:List Slot}{p:Addr}{w:Own}{u:HO}
theorem uk (g:bj Hf H aB H')(n:H p=none)(n':aB p=none)(e:H' p=some u):bj Hf H (upd aB p u) H':=
 ⟨g.big,g.bH.trans (aX n'),fun b o h=>by
   by_cases hb:b=p
   . subst hb;rw[au] at h;cases h;exact e
   . rw[ar hb] at h;exact g.sub _ _ h,fun a o h=>by
   by_cases hb:a=p
   . subst hb;exact .inr (.inl n)
   . rw[ar hb] at h;exact g.new a o h⟩
theorem qN (r:dS K Hf H p w)(n:Hf p=none):∃ u,H p=some u/\Rep K (upd Hf p u) (.ref p) (By w):=by
 cases w with
 | lst ds=>obtain⟨vs,h,r⟩:=r;exact⟨_,h,.lst au (r.mono (aX n))⟩
 | jO ds=>obtain⟨vs,h,r⟩:=r;exact⟨_,h,.jO au (r.mono (aX n))⟩
 | obj C ds=>obtain⟨dx,fs,h,r⟩:=r;exact⟨_,h,.obj (.of au) (r.mono (aX n))⟩
 | v9 x C ds=>obtain⟨_,dx,fs,h,r⟩:=r;exact⟨_,h,.obj (.of au) (r.mono (aX n))⟩
 | oJ C ds gs nm k=>obtain⟨dx,fs,b,ls,q,h,r⟩:=r;exact⟨_,h,.oI q (.of au) (r.mono (aX n))⟩
 | pW x C ds gs nm k=>obtain⟨_,dx,fs,b,ls,q,h,r⟩:=r;exact⟨_,h,.oI q (.of au) (r.mono (aX n))⟩
 | fT ks=>exact⟨_,r,.fT au⟩
theorem cK.Bz (S:cK K G st Hf H dl)(g:bj Hf H aB H'){i:Nat}(n:H p=none)(n':aB p=none)(r:dS K aB H' p w):cK K G (st.set i (some (.ref p))) aB H' (dl.set i (.own w)):=by
 have ln:=S.len;have S':=S.grow g;have pn:∀ (j:Nat) (o':Own) (a:Addr),dl[j]?=some (Slot.own o')->st[j]?=some (some (V.ref a))->a≠p:=fun j o' a h1 h2=>by
   obtain⟨b,q1,_,_,q4⟩:=S.own j o' h1;rw[h2] at q1;cases q1;obtain⟨u,hu⟩:=q4.some;exact aJ hu n
 refine⟨S'.gr,by simp[S.len],fun j x h=>?_,fun j o' h=>?_,fun j k o1 o2 a h1 h2 h3 h4=>?_⟩
 . by_cases e:i=j
   . subst e
     by_cases hl:i < dl.length
     . rw[k0 hl] at h;cases h
     . rw[Cp (by simp;omega)] at h;cases h
   . rw[k2 e] at h ⊢;exact S'.val j x h
 . by_cases e:i=j
   . subst e
     by_cases hl:i < dl.length
     . rw[k0 hl] at h;cases h
       exact⟨p,k0 (by omega),n',S.gr.big.free n,r⟩
     . rw[Cp (by simp;omega)] at h;cases h
   . rw[k2 e] at h ⊢
     exact S'.own j o' h
 . by_cases ej:i=j
   . by_cases ek:i=k
     . omega
     . subst ej
       rw[k2 ek] at h2 h4;by_cases hl:i < st.length
       . rw[k0 hl] at h3;cases h3
         exact absurd rfl (pn k o2 _ h2 h4)
       . rw[Cp (by simp;omega)] at h3;cases h3
   . rw[k2 ej] at h1 h3
     by_cases ek:i=k
     . subst ek
       by_cases hl:i < st.length
       . rw[k0 hl] at h4;cases h4
         exact absurd rfl (pn j o1 _ h1 h3)
       . rw[Cp (by simp;omega)] at h4;cases h4
     . rw[k2 ek] at h2 h4
       exact S.tf j k o1 o2 a h1 h2 h3 h4
theorem cK.bH (S:cK K G st Hf H dl){i:Nat}(hd:dl[i]?=some (.own w)):∃ aB,aI Hf aB/\cK K G st aB H (dl.set i (.val (By w))):=by
 have ln:=S.len;obtain⟨p,h1,h2,h3,h4⟩:=S.own i w hd;obtain⟨u,hu,rp⟩:=qN h4 h2;have hl:i < dl.length:=(Hx.mp hd).1;have sm:aI Hf (upd Hf p u):=aX h2;refine⟨upd Hf p u,sm,⟨S.gr.big,S.gr.bH.trans sm,fun b o h=>?_,fun a o h=>?_⟩,by simp[S.len],fun j x h=>?_,fun j o' h=>?_,fun j k o1 o2 a q1 q2 q3 q4=>?_⟩
 . by_cases hb:b=p
   . subst hb;rw[au] at h;cases h;exact hu
   . rw[ar hb] at h;exact S.gr.sub _ _ h
 . by_cases hb:a=p
   . subst hb;exact .inr (.inl h3)
   . rw[ar hb] at h;exact S.gr.new a o h
 . by_cases e:i=j
   . subst e
     rw[k0 hl] at h;cases h;exact⟨_,h1,rp⟩
   . rw[k2 e] at h
     obtain⟨v,z1,z2⟩:=S.val j x h;exact⟨v,z1,z2.mono sm⟩
 . by_cases e:i=j
   . subst e;rw[k0 hl] at h;cases h
   . rw[k2 e] at h
     obtain⟨a,z1,z2,z3,z4⟩:=S.own j o' h;have ne:a≠p:=fun q=>by subst q;exact e (S.tf i j _ _ _ hd h h1 z1)
     exact⟨a,z1,by rw[ar ne];exact z2,z3,z4.grow rfl sm⟩
 . have tr:∀ (j:Nat) o',(dl.set i (.val (By w)))[j]?=some (.own o')->dl[j]?=some (.own o'):=fun j o' h=>by
     by_cases e:i=j
     . subst e;rw[k0 hl] at h;cases h
     . rw[k2 e] at h;exact h
   exact S.tf j k _ _ a (tr _ _ q1) (tr _ _ q2) q3 q4
end
section
variable {X:Cx}{G:Gr}{E:XK}{dl:List Slot}{a b e:Expr}{i:Int}{d:Dt}{ds:List Dt}{pos p:Pos}{o:Out}{x:Str}{u v:Bool}{sts:List Stmt}{C:Addr}{w:Own}{fs:List (Str×Dt)}
theorem BA (h:EO X G dl e w):EE X G dl e (By w):=eW h fun st H Q zq=>zn zq fun Hf S k=>fun p aB H' g n n' r=>by
 obtain⟨u,hu,rp⟩:=qN r n';exact k _ _ H' (uk g n n' hu) rp
theorem jU (h:EO X G dl e (.lst ds)):EE X G dl e (.lst ds):=BA h
theorem um (h:EO X G dl e (.obj C fs)):EE X G dl e (.obj C fs):=BA h
theorem yo {w':Own}(h:EO X G dl e w)(q:w=w'):EO X G dl e w':=by subst q;exact h
theorem g9 (n:Nat){x:Str}{pos':Pos}(hN:X.N.Nodup)(he:EO X G dl e w)(hi:autoParam (X.N[n]?=some x) jp)(hx:autoParam (Loc X.env.scope x) xF)(hs:autoParam (swapsWith e (some (.Name x pos')) pos.line X.env=pure false) jp)(hf:autoParam (X.fn x=true\/X.env.scope.names.lookup x=some .local) xI):ES X G E dl (.Assign [.Name x pos'] e pos) (.nx (dl.set n (.own w))):=
 pX (pI hN hi hx he hs hf) fun D st H zq=>zn zq fun Hf S k=>fun p aA H1 g1 n1 n2 r1=>k _ aA H1 g1.bH (S.Bz g1 n1 n2 r1)
theorem e5 (h:EO X G dl e w):ES X G E dl (.Return (some e) pos) (.ro w):=pX (pH h) fun D st H zq=>zn zq fun Hf S k=>fun p aA H1 g1 n1 n2 r1=>k p aA H1 (S.gr.trans g1) (S.gr.big.free n1) n2 r1
theorem iI (i:Nat)(h:l8 X G E (dl.set i (.val (By w))) sts o)(hd:autoParam (dl[i]?=some (.own w)) jp):l8 X G E dl sts o:=pY h fun D st H zq=>k1 zq fun Hf zq=>have S:=zq.1;have k:=zq.2;by
 obtain⟨aB,sm,S'⟩:=S.bH hd;exact⟨aB,S',k.mono sm⟩
def Gf (K:W.Frag)(G:Gr)(dl:List Slot)(n:Nat)(w:Own):TE:=fun st H Q=>∃ Hf a,cK K G st Hf H dl/\st[n]?=some (some (.ref a))/\Hf a=none/\dS K Hf H a w/\Q (.ref a) H
theorem qO (n:Nat)(hd:dl[n]?=some (.own w))(hN:X.N[n]?=some x)(hv:sZ X.env.scope x)(hb:(x == ("__debug__":Str))=false)(gX:(x == ("__classdict__":Str))=false):PE X (.Name x p) (Gf X.K G dl n w):=
 eW (kT hN hv hb gX) fun st H Q ⟨Hf,a,S,h1,_,_,q⟩=>⟨_,h1,q⟩
theorem iJ (n:Nat)(hb:EE X G dl b (.int i))(h:fR ds i=some d)(hd:autoParam (dl[n]?=some (.own (.lst ds))) jp)(hN:autoParam (X.N[n]?=some x) jp)(hv:autoParam (sZ X.env.scope x) xL)(iG:autoParam ((x == ("__debug__":Str))=false) z8)(gX:autoParam ((x == ("__classdict__":Str))=false) z8)(hs:autoParam (iZ b) xX):EE X G dl (.Subscript (.Name x p) b pos) d:=
 eW (mI m4 (qO (p:=p) n hd hN hv iG gX) hb hs) fun st H Q zq=>k1 zq fun Hf zq=>have S:=zq.1;have k:=zq.2;by
   obtain⟨q,h1,h2,h3,h4⟩:=S.own n _ hd;refine⟨Hf,q,S,h1,h2,h4,Hf,S,fun z aA H1 g1 r1=>?_⟩;cases r1;obtain⟨vs,hq,rp⟩:=h4;obtain⟨v,Gg,DF⟩:=rp.fR h;exact⟨q,vs,i,v,rfl,rfl,.of (g1.big _ _ hq),Gg,k v aA H1 g1 (DF.mono g1.bH)⟩
theorem fC (n:Nat){m:Nat}{ps pn:Pos}(he:EE X G dl e d)(hb:EE X G dl b (.int i))(h:l3 ds.length i=some m)(hd:autoParam (dl[n]?=some (.own (.lst ds))) jp)(hN:autoParam (X.N[n]?=some x) jp)
   (hv:autoParam (sZ X.env.scope x) xL) (iG:autoParam ((x == ("__debug__":Str))=false) z8) (gX:autoParam ((x == ("__classdict__":Str))=false) z8)
   (ha:autoParam (∀ v,assign (.Subscript (.Name x pn) b ps) X.env v=(do
     let ov <- holding [v] (eval (.Name x pn) X.env);let iv <- holding [v,ov] (eval b X.env)
     standAt ps
     holding [v,ov,iv] (setItem ov iv v)
     release [v,ov,iv] [])) xz)
   (hs:autoParam (swapsWithSole [.Subscript (.Name x pn) b ps] e pos.line X.env=pure false) jp) (hw:autoParam (swappedStores [.Subscript (.Name x pn) b ps] e X.env=pure none) jp)
   (h1:autoParam ((assignEach [.Subscript (.Name x pn) b ps] X.env).map (·.2)=[assign (.Subscript (.Name x pn) b ps) X.env]) jp) :
   ES X G E dl (.Assign [.Subscript (.Name x pn) b ps] e pos) (.nx (dl.set n (.own (.lst (ds.set m d))))):=
 pX (mW he (tK (qO (p:=pn) n hd hN hv iG gX) hb set_list ha) hs hw h1) fun D st H zq=>zn zq fun Hf S k=>fun v aA H1 g1 r1=>by
   have S1:=S.grow g1;obtain⟨q,z1,z2,z3,z4⟩:=S1.own n _ hd;refine⟨aA,q,S1,z1,z2,z4,aA,S1,fun iv dz H2 g2 r2=>?_⟩;cases r2;have S2:=S1.grow g2;obtain⟨q',y1,y2,y3,vs,hq,rp⟩:=S2.own n _ hd;rw[z1] at y1;cases y1;refine⟨q,vs,i,m,rfl,rfl,hq,by rw[rp.length];exact h,?_⟩;exact k st dz _ (g1.bH.trans g2.bH) (S2.zl hd z1 ⟨_,au,rp.set (r1.mono g2.bH) m⟩)
end
section
variable {X:Cx}{G:Gr}{E:XK}{dl:List Slot}{a b e:Expr}{es:List Expr}{i j:Int}{d d1 d2:Dt}{ds:List Dt}{pos p apos bJ:Pos}{o:Out}{x:Str}{u v:Bool}{s:Stmt}
theorem p5 (h:EA X G dl es ds)(hl:autoParam (ds.length<=sizeLine) z8):EO X G dl (.List es pos) (.lst ds):=
 eW (tU h) fun st H Q zq=>zn zq fun Hf S k=>fun vs aA H1 g1 r1=>⟨by rw[r1.length];exact hl,fun p hp=>k p aA _ (g1.trans (.iH g1.sub hp)) (g1.big.free hp) (g1.sub.free hp) ⟨vs,au,r1⟩⟩
theorem BC {op:Operator}{r:R2}(ho:ju X (binaryOp op) r)(ha:EE X G dl a d1)(hb:EE X G dl b d2)(h:∀ v z Hf H Q,aI Hf H->Rep X.K Hf v d1->Rep X.K Hf z d2->(∀ p vs,H p=none->aS X.K Hf vs ds->Q (.ref p) (upd H p (.lst vs)))->r v z H Q):EO X G dl (.BinOp a op b pos) (.lst ds):=
 eW (tN ho ha hb) fun st H Q zq=>zn zq fun Hf S k=>fun v aA H1 g1 r1=>⟨aA,S.grow g1,fun z dz H2 g2 r2=>h v z dz H2 Q g2.sub (r1.mono g2.bH) r2 fun p vs hp rv=>
   k p dz _ ((g1.trans g2).trans (.iH g2.sub hp)) ((g1.trans g2).big.free hp) (g2.sub.free hp) ⟨vs,au,rv⟩⟩
theorem oR {K:W.Frag}{H:Hp}{vs:List V}{ds:List Dt}(r:aS K H vs ds):∀ n:Nat,aS K H (FH n vs).flatten (FH n ds).flatten
 | 0=>.nil
 | n+1=>by
   rw[HQ,HQ,Ib,Ib];exact r.append (oR r n)
theorem p6 (ha:EE X G dl a (.lst ds))(hb:EE X G dl b (.int i))(h1:-(2 ^ 63)<=i)(h2:i < 2 ^ 63)(hl:ds.length * i.toNat<=sizeLine):EO X G dl (.BinOp a .Mult b pos) (.lst (FH i.toNat ds).flatten):=
 BC zi ha hb fun v z Hf H Q s r1 r2 k=>by
   cases r1 with
   | lst q1 r1=>cases r2;exact⟨_,i,_,rfl,rfl,s _ _ q1,h1,h2,by rw[r1.length];exact hl,fun p hp=>k p _ hp (oR r1 _)⟩
theorem xc (hm:X.mg "list"=none)(ha:EE X G dl a (.lst ds))(hg:autoParam (Gl X "list") jp)(he:autoParam (starEach [a] X.env=[(false,eval a X.env)]) jp):EO X G dl (.Call (.Name "list" p) [a] [] pos) (.lst ds):=
 eW (rR m8 hg hm boot_list (ae ha ag he) (he:=he)) fun st H Q zq=>zn zq fun Hf S k=>fun vs aA H1 g1 r1=>by
   cases r1 with
   | cons r t=>cases t;cases r with
     | @lst q vs _ z r=>exact⟨q,vs,rfl,.inl (.of (g1.sub _ _ z)),fun l hl=>k l aA _ (g1.trans (.iH g1.sub hl)) (g1.big.free hl) (g1.sub.free hl) ⟨vs,au,r⟩⟩
theorem sj:bootBuiltins "max"=some (.builtin "max"):=by decide +kernel
theorem sk:bootBuiltins "min"=some (.builtin "min"):=by decide +kernel
theorem zA (hm:X.mg "max"=none)(hc:X.calm=true)(ha:EA X G dl [a,b] [.int i,.int j])(hg:autoParam (Gl X "max") jp)(he:autoParam (starEach [a,b] X.env=(false,eval a X.env)::starEach [b] X.env) jp)(iw:autoParam ((backTo pos (starEach [b] X.env)).any (·.1)=false) jp) :
   EE X G dl (.Call (.Name "max" p) [a,b] [] pos) (.int (if j > i then j else i)):=
 eW (fw (rL hc) hg hm sj ha (by decide) (by decide) he iw) fun st H Q zq=>zn zq fun Hf S k=>fun vs aA H1 g1 r1=>by
   cases r1 with
   | cons r1 t1=>cases t1 with
     | cons r2 t2=>cases t2;cases r1;cases r2;exact⟨i,j,rfl,k _ aA H1 g1 (.int _)⟩
theorem uo (hm:X.mg "min"=none)(hc:X.calm=true)(ha:EA X G dl [a,b] [.int i,.int j])(hg:autoParam (Gl X "min") jp)(he:autoParam (starEach [a,b] X.env=(false,eval a X.env)::starEach [b] X.env) jp)(iw:autoParam ((backTo pos (starEach [b] X.env)).any (·.1)=false) jp) :
   EE X G dl (.Call (.Name "min" p) [a,b] [] pos) (.int (if j < i then j else i)):=
 eW (fw (rM hc) hg hm sk ha (by decide) (by decide) he iw) fun st H Q zq=>zn zq fun Hf S k=>fun vs aA H1 g1 r1=>by
   cases r1 with
   | cons r1 t1=>cases t1 with
     | cons r2 t2=>cases t2;cases r1;cases r2;exact⟨i,j,rfl,k _ aA H1 g1 (.int _)⟩
theorem jC (n:Nat){pn:Pos}(he:EE X G dl e d)(hl:ds.length < sizeLine)(hd:autoParam (dl[n]?=some (.own (.lst ds))) jp)(hN:autoParam (X.N[n]?=some x) jp)(hv:autoParam (sZ X.env.scope x) xL)
   (iG:autoParam ((x == ("__debug__":Str))=false) z8) (gX:autoParam ((x == ("__classdict__":Str))=false) z8)
   (fz:autoParam (attributeBase (.Name x pn) "append" X.env (eval (.Name x pn) X.env)=eval (.Name x pn) X.env) jp)
   (m9:autoParam (((backTo bJ (starEach [e] X.env)).all (fun x=>!x.1) && (backToKw bJ (keywordEach [] X.env)).all (fun x=>x.1.isSome) && decide ([e].length+([]:List Keyword).length+(if ([]:List Keyword).isEmpty then 0 else 1) < 30))=true) jp)
   (fA:autoParam ((apos.endLine == bJ.line)=true) jp) (iV:autoParam (starEach [e] X.env=(false,eval e X.env)::starEach [] X.env) jp) (hs:autoParam (swapsWith (.Call (.Attribute (.Name x pn) "append" apos) [e] [] bJ) none pos.line X.env=pure false) jp) :
   ES X G E dl (.Expr (.Call (.Attribute (.Name x pn) "append" apos) [e] [] bJ) pos) (.nx (dl.set n (.own (.lst (ds ++ [d]))))):=
 pX (ke (qC PySem.F.plainAttrs_list PySem.F.slot_list_append PySem.F.type_list_append gZ (qO (p:=pn) n hd hN hv iG gX) (ae he ag iV) fz m9 fA iV rfl) hs) fun D st H zq=>k1 zq fun Hf zq=>have S:=zq.1;have k:=zq.2;by
   obtain⟨q,z1,z2,z3,vs,hq,rp⟩:=S.own n _ hd;refine⟨Hf,q,S,z1,z2,⟨vs,hq,rp⟩,.inl ⟨rfl,vs,.of hq⟩,Hf,S,fun us aA H1 g1 r1=>?_⟩;cases r1 with
   | cons r1 t1=>
     cases t1;refine⟨q,vs,_,rfl,rfl,g1.big _ _ hq,by rw[rp.length];exact hl,?_⟩;exact k st aA _ g1.bH ((S.grow g1).zl hd z1 ⟨_,au,(rp.mono g1.bH).append (.cons r1 .nil)⟩)
theorem uq (he:EO X G dl e (.lst ds))(fz:autoParam (attributeBase e "clear" X.env (eval e X.env)=eval e X.env) jp)(fA:autoParam ((apos.endLine == bJ.line)=true) jp):EE X G dl (.Call (.Attribute e "clear" apos) [] [] bJ) .b4:=
 eW (ze PySem.F.plainAttrs_list PySem.F.slot_list_clear PySem.F.type_list_clear tZ he fz fA) fun st H Q zq=>zn zq fun Hf S k=>fun p aA H1 g1 n n' r=>by
   obtain⟨vs,hq,rp⟩:=r;refine⟨.inl ⟨rfl,vs,.of hq⟩,p,vs,rfl,rfl,hq,k _ aA _ ⟨fun a o h=>?_,g1.bH,fun a o h=>?_,g1.new⟩ .b4⟩
   . rw[ar (aJ h n)];exact g1.big _ _ h
   . rw[ar (aJ h n')];exact g1.sub _ _ h
theorem qP:∀ {xs:List Str} {us:List Value},Vals (xs.map V.str) us->StrsAre us xs
 | [],_,.nil=>.nil
 | x::xs,u::us,.cons r t=>by
   obtain⟨tk,e⟩:=(show ∃ t,u=Value.str x t from r)
   subst e;exact .cons _ _ (qP t)
theorem jD {K:W.Frag}{H:Hp}:∀ {vs:List V} {xs:List Str},aS K H vs (xs.map Dt.str)->vs=xs.map V.str
 | _,[],.nil=>rfl
 | _,x::xs,.cons r t=>by cases r;rw[jD t];rfl
theorem oS (k:Str):∀ xs:List Str,countIn (.str k) (xs.map PyData.str)=(xs.count k:Nat)
 | []=>rfl
 | x::xs=>by
   rw[HV,countIn,oS k xs,List.count_cons];simp only[same];rcases Bool.eq_false_or_eq_true (x == k) with hb | hb <;> simp only[hb,Ic,if_true,if_false] <;> push_cast <;> omega
theorem ur:C4 X "list.count" (fun x vs H Q=>∃ (l:Addr) (xs:List Str) (k:Str),x=.ref l/\vs=[.str k]/\jW X.K H l (xs.map V.str)/\Q (.int (xs.count k:Nat)) H):=by
 intro pins s st H x vs v us Q I rx rv ⟨l,xs,k,e1,e2,hq,q⟩;subst e1 e2;cases (show v=Value.ref l from rx);obtain⟨z,rfl,ru⟩:=vals1 rv;obtain⟨t,e⟩:=(show ∃ t,z=Value.str k t from ru)
 subst e;obtain⟨aF,r,pl,hz⟩:=I.list hq;obtain⟨ob,n,h1,h2,h3,h4⟩:=pl;refine count_list_strs (vs:=aF) ⟨ob,h1,h2,n,h4⟩ (qP r) ?_;rw[oS];exact⟨.int _,H,I.tok _,⟨_,rfl⟩,q⟩
theorem uu {xs:List Str}{k:Str}(ha:EE X G dl a (.lst (xs.map .str)))(he:EE X G dl e (.str k))(fz:autoParam (attributeBase a "count" X.env (eval a X.env)=eval a X.env) jp)
   (m9:autoParam (((backTo bJ (starEach [e] X.env)).all (fun x=>!x.1) && (backToKw bJ (keywordEach [] X.env)).all (fun x=>x.1.isSome) && decide ([e].length+([]:List Keyword).length+(if ([]:List Keyword).isEmpty then 0 else 1) < 30))=true) jp)
   (fA:autoParam ((apos.endLine == bJ.line)=true) jp) (iV:autoParam (starEach [e] X.env=(false,eval e X.env)::starEach [] X.env) jp):EE X G dl (.Call (.Attribute a "count" apos) [e] [] bJ) (.int (xs.count k:Nat)):=
 eW (qC PySem.F.plainAttrs_list PySem.F.slot_list_count PySem.F.type_list_count ur ha (ae he ag iV) fz m9 fA iV rfl) fun st H Q zq=>zn zq fun Hf S k=>fun v aA H1 g1 r1=>by
   cases r1 with
   | @lst q vs _ hq rp=>
     have ev:=jD rp;subst ev;refine⟨.inl ⟨rfl,_,.of (g1.sub _ _ hq)⟩,aA,S.grow g1,fun us dz H2 g2 r2=>?_⟩;cases r2 with
     | cons r2 t2=>cases t2;cases r2;exact⟨q,xs,_,rfl,rfl,.of (g2.big _ _ (g1.sub _ _ hq)),k _ dz H2 (g1.trans g2) (.int _)⟩
end
noncomputable def oT:Option Slot->Slot
 | some (.val d)=>.val d
 | _=>.df
theorem so {o:Option Slot}{w:Own}(h:oT o=.own w):False:=by
 unfold oT at h
 split at h <;> cases h
theorem sq {o:Option Slot}{d:Dt}(h:oT o=.val d):o=some (.val d):=by
 unfold oT at h
 split at h
 . cases h;rfl
 . cases h
noncomputable def i7 (dl:List Slot)(ix:List Nat):List Slot:=ix.map fun j=>oT dl[j]?
section
variable {K:W.Frag}{G:Gr}{st:L2.St}{Hf H aA H1:Hp}{dl:List Slot}{ix:List Nat}
theorem xf (S:cK K G st Hf H dl)(s1:aI Hf aA)(sb:aI aA H1){v:V}{d:Dt}(r:Rep K aA v d):cK K ⟨aA,H1⟩ (some v::frees ix st) aA H1 (.val d::i7 dl ix):=by
 have no:∀ (i:Nat) o,(Slot.val d::i7 dl ix)[i]?≠some (.own o):=fun i o h=>by
   cases i with
   | zero=>cases h
   | succ i=>
     rw[HZ] at h;unfold i7 at h;rw[k5] at h;cases q:ix[i]? with
     | none=>rw[q] at h;cases h
     | some j=>
       rw[q] at h;exact so (Option.some.inj h)
 refine⟨.refl sb,by simp[frees,i7],fun i x h=>?_,fun i o h=>absurd h (no i o),fun i j o o' a h=>absurd h (no i o)⟩;cases i with
 | zero=>cases h;exact⟨v,rfl,r⟩
 | succ i=>
   rw[HZ] at h ⊢;unfold i7 at h;unfold frees;rw[k5] at h ⊢;cases q:ix[i]? with
   | none=>rw[q] at h;cases h
   | some j=>
     rw[q] at h;have hd:=sq (Option.some.inj h);obtain⟨v',z1,z2⟩:=S.val j x hd;exact⟨v',by rw[Option.map_some,z1];rfl,z2.mono s1⟩
end
section
variable {X:Cx}{G:Gr}{E:XK}{dl:List Slot}{a b elt iter:Expr}{i j:Int}{ys:List Dt}{zs:Nat->Dt}{pos p px py sr:Pos}{o:Out}{x y:Str}{N:List Str}{ix:List Nat}{sc:Scope}{n:Nat}
def uv (X:Cx)(N:List Str)(sc:Scope)(dl:List Slot)(ix:List Nat)(elt:Expr)(n:Nat)(zs:Nat->Dt)(ys:List Dt):Prop:=
 ∀ k,k < n->∀ C fp s H G',EE (eK X N sc C fp s H) G' (.val (zs k)::i7 dl ix) elt (ys.getD k .b4)
def zB (K:W.Frag)(dl:List Slot)(ix:List Nat)(n:Nat)(zs:Nat->Dt)(ys:List Dt):TE:=fun st H Q=>∃ k G',k < n/\tD K G' (.val (zs k)::i7 dl ix) (ys.getD k .b4) st H Q
theorem uw (h:uv X N sc dl ix elt n zs ys):∀ C fp s H,PE (eK X N sc C fp s H) elt (zB X.K dl ix n zs ys):=fun C fp s H pins s' st H' Q I ⟨k,G',hk,q⟩=>h k hk C fp s H G' pins s' st H' Q I q
theorem ux {st:L2.St}{Hf H:Hp}{J:It}{Q:VK}(S:cK X.K G st Hf H dl)(Ax:ys.length=n)(hn:n<=sizeLine)(go:∀ aA H1,bj Hf H aA H1->∀ i,(i < n->J.go i H1/\∀ v H2,J.yO i H1 v H2->H2=H1/\Rep X.K aA v (zs i))/\(i=n->J.stop i H1))(k:∀ p aB H',bj Hf H aB H'->H p=none->aB p=none->dS X.K aB H' p (.lst ys)->Q (.ref p) H'):∀ D,H D=none->zz (zB X.K dl ix n zs ys) (frees ix st) J D (fun _ H'=>Q (.ref D) H') H:=by
 intro D hD;refine⟨fun i m vs H1=>m=n - i/\i<=n/\∃ aA,bj Hf H aA H1/\aA D=none/\H1 D=some (.lst vs)/\aS X.K aA vs (ys.take i),⟨n,rfl,Iw _,Hf,.iH S.sub hD,S.sub.free hD,au,.nil⟩,?_⟩
 rintro i m vs H1 ⟨rfl,hi,aA,g1,EN,DG,rp⟩
 have hlen:=rp.length;rw[IG] at hlen;by_cases iT:i < n
 . obtain⟨Gh,hy⟩:=(go aA H1 g1 i).1 iT
   refine .inr ⟨Gh,by omega,fun v H2 y=>?_⟩;obtain⟨e,rv⟩:=hy v H2 y;subst e;refine⟨i,⟨aA,H2⟩,iT,aA,xf S g1.bH g1.sub rv,fun z dz H3 g2 r2=>?_⟩;have Gi:H3 D=some (.lst vs):=g2.big _ _ DG;have ER:dz D=none:=by
     cases q:dz D with
     | none=>rfl
     | some u=>
       obtain⟨o,z⟩:=g2.pV DG (fun z=>z) q;rw[EN] at z;cases z
   have g:=g1.trans g2;refine⟨Gi,n - (i+1),by omega,rfl,iT,dz,⟨fun a o h=>?_,g.bH,fun a o h=>?_,g.new⟩,ER,au,?_⟩
   . rw[ar (aJ h hD)];exact g.big _ _ h
   . rw[ar (aJ h ER)];exact g2.sub _ _ h
   . have:ys.take (i+1)=ys.take i ++ [ys.getD i .b4]:=by
       rw[ID,Bn,DT (by omega)];rfl
     rw[this];exact(rp.mono g2.bH).append (.cons r2 .nil)
 . have e:i=n:=by omega
   subst e;refine .inl ⟨(go aA H1 g1 i).2 rfl,k D aA H1 g1 hD EN ⟨vs,DG,?_⟩⟩;rw[List.take_of_length_le (by omega)] at rp;exact rp
def DH (wi:TI)(ix:List Nat)(te:TE):TE:=fun st H Q=>wi st H fun J H1=>∀ D,H1 D=none->zz te (frees ix st) J D (fun _ H'=>Q (.ref D) H') H1
theorem BD {wi:TI}{te:TE}(hc:X.calm=true)(B:cW X N ix x sc)(hi:PI X (.Name x px) iter wi)(ny:∀ C fp s H,PE (eK X N sc C fp s H) elt te)(hs:∀ z,foldedSetIterable iter X.env z=pure z):PE X (.ListComp elt [⟨.Name x px,iter,[],0⟩] sc pos) (DH wi ix te):=by
 intro pins s st H Q I h;rw[eval_ListComp];refine wpAny_comprehension_free (use:=none) rfl hs (uj B I.ok) B.kind B.names (da (hi pins s st H _ I h) fun v s1 h1=>da h1 fun Cj s2 h2=>?_);obtain⟨it,fp,tn,J,H2,e,I2,T,AU,f2,hq⟩:=h2;subst e;refine qM (RR:=fun acc C=>compPost (model X.prog X.w) X.A X.xe none (EP X pins st Q) acc C) hc B ny I2 T AU f2 hq ?_;intro D C ws H' s' I' ⟨m,hn⟩ su q;exact⟨m,hn,fun h' DI=>⟨.ref D,H',I'.turned (t':=s'.toks) (it:=C) (fun b o hb e=>(DI.2 b hb).trans e) su.1 su.2.1 su.2.2.2.1 su.2.2.2.2.1 su.2.2.2.2.2,rfl,q⟩⟩
theorem BE {wi:TI}{te:TE}{nN:Nat}(hc:X.calm=true)(B:cW X N ix x sc)(hi:PI X (.Name x px) iter wi)(ny:∀ C fp s H,PE (eK X N sc C fp s H) elt te)(hs:∀ z,foldedSetIterable iter X.env z=pure z)(DJ:swapsWith (.ListComp elt [⟨.Name x px,iter,[],0⟩] sc pos) (some (.Name y py)) sr.line X.env=pure true)(hN:X.N.Nodup)(hy:X.N[nN]?=some y)(hl:Loc X.env.scope y)(hf:X.fn y=true\/X.env.scope.names.lookup y=some .local):PS X (.Assign [.Name y py] (.ListComp elt [⟨.Name x px,iter,[],0⟩] sc pos) sr) (fun D st H=>DH wi ix te st H fun v H'=>D.nx (st.set nN (some v)) H'):=by
 intro pins s st H D0 I h;rw[exec_Assign_Name_used _ _ _ _ DJ];refine wpAny_bind (wpAny_standAt (wpAny_bind ?_));show wpAny _ X.A (do let _ <- comprehension (.ListComp elt [⟨.Name x px,iter,[],0⟩] sc pos) sc X.env _ (newList []) false (eval iter X.env) (some (assign (.Name y py) X.env))) _ _ s;refine wpAny_bind (wpAny_mono (wpAny_comprehension_free (use:=some (assign (.Name y py) X.env)) (Q:=fun _ s'=>SP X pins D0 .next s') rfl hs (uj B I.ok) B.kind B.names (da (hi pins s st H _ I h) fun v s1 h1=>da h1 fun Cj s2 h2=>?_)) (fun _ s' hq=>wpAny_pure (wpAny_pure hq)) fun _ _ z=>z);obtain⟨it,fp,tn,J,H2,e,I2,T,AU,f2,hq⟩:=h2;subst e;refine qM (RR:=fun acc C=>compPost (model X.prog X.w) X.A X.xe (some (assign (.Name y py) X.env)) (fun _ s'=>SP X pins D0 .next s') acc C) hc B ny I2 T AU f2 hq ?_;intro D C ws H' s' I' ⟨m,hn⟩ su q;refine wpAny_assign_Name (mC I' hN hy hl (v:=.ref D) rfl (fun Bc Gj ⟨ad,Aw,ha⟩=>?_) hf);have ne:C≠ad:=by
   rcases ha with z | z
   . rw[z];exact su.2.1
   . exact Ne.symm (su.2.2.2.2.1 _ _ z)
 exact⟨m,hn.sameBut Aw ne,fun h' DI=>⟨_,H',Gj.turned (t':=Bc.toks) (it:=C) (fun b o hb e=>(DI.2 b hb).trans e) su.1 su.2.1 su.2.2.2.1 su.2.2.2.2.1 su.2.2.2.2.2,q⟩⟩
def sv (X:Cx)(G:Gr)(dl:List Slot)(n:Nat)(zs:Nat->Dt)(wi:TI):Prop:=∀ st H (R:It->Hp->Prop),(∃ Hf,cK X.K G st Hf H dl/\∀ J DK H0,bj Hf H DK H0 ->
 (∀ aA H1,bj DK H0 aA H1->∀ i,(i < n->J.go i H1/\∀ v H2,J.yO i H1 v H2->H2=H1/\Rep X.K aA v (zs i))/\(i=n->J.stop i H1))->R J H0)->wi st H R
theorem lj (hn:-(2 ^ 62)<=j/\j < 2 ^ 62):sv X G dl j.toNat (fun k=>.int k) (yd (Dr X.K G dl [.int j])):=fun st H R zq=>zn zq fun Hf S k=>fun vs aA H1 g1 r1=>by
 cases r1 with
 | cons r t=>
   cases t;cases r;refine⟨j,rfl,hn.1,hn.2,k _ aA H1 g1 fun dz H2 g2 i=>⟨fun hi=>⟨hi,fun v H3 hy=>?_⟩,fun hi=>by rw[hi];exact Hr _⟩⟩;obtain⟨e1,e2⟩:=hy;subst e2;rw[Int.zero_add];exact⟨e1,.int _⟩
theorem p7 (hn:-(2 ^ 62)<=i/\i < 2 ^ 62/\-(2 ^ 62)<=j/\j < 2 ^ 62):sv X G dl (j - i).toNat (fun k=>.int (i+k)) (ye (Dr X.K G dl [.int i,.int j])):=fun st H R zq=>zn zq fun Hf S k=>fun vs aA H1 g1 r1=>by
 cases r1 with
 | cons r t=>
   cases r;cases t with
   | cons r t=>
     cases t;cases r;refine⟨i,j,rfl,hn,k _ aA H1 g1 fun dz H2 g2 m=>⟨fun hi=>⟨hi,fun v H3 hy=>?_⟩,fun hi=>by rw[hi];exact Hr _⟩⟩;obtain⟨e1,e2⟩:=hy;subst e2;exact⟨e1,.int _⟩
theorem src_list {xs:List Dt}:sv X G dl xs.length (fun k=>xs.getD k .b4) (yc X.K (tD X.K G dl (.lst xs))):=fun st H R zq=>zn zq fun Hf S k=>fun v aA H1 g1 r1=>by
 cases r1 with
 | @lst q vs _ hq rp=>
   have hl:=rp.length;refine⟨q,rfl,⟨vs,.of (g1.sub _ _ hq)⟩,k _ aA H1 g1 fun dz H2 g2 i=>⟨fun hi=>?_,fun hi=>⟨vs,.of (g2.big _ _ (g1.sub _ _ hq)),by omega⟩⟩⟩;have hz:xs[i]?=some (xs.getD i .b4):=by rw[Bn,DT hi];rfl
   obtain⟨z,z1,z2⟩:=rp.get hz;have hs:jW X.K H2 q vs:=.of (g2.big _ _ (g1.sub _ _ hq));refine⟨⟨vs,z,hs,z1⟩,fun v H3 hy=>?_⟩;obtain⟨e1,e2⟩:=hy;have e2:=e2 vs hs;rw[z1] at e2;cases e2;exact⟨e1,z2.mono g2.bH⟩
theorem oU {wi:TI}(hs:sv X G dl n zs wi)(Ax:ys.length=n)(hn:n<=sizeLine):∀ st H Q,EM X.K G dl (.lst ys) st H Q->DH wi ix (zB X.K dl ix n zs ys) st H Q:=fun st H Q zq=>k1 zq fun Hf zq=>have S:=zq.1;have k:=zq.2;
 hs st H _ ⟨Hf,S,fun J DK H0 g0 src=>ux (S.grow g0) Ax hn src fun p aB H' g n1 n2 r=>k p aB H' (g0.trans g) (g0.big.free n1) n2 r⟩
theorem uy {wi:TI}(hc:X.calm=true)(B:cW X N ix x sc)(hi:PI X (.Name x px) iter wi)(zC:sv X G dl n zs wi)(ny:uv X N sc dl ix elt n zs ys)(Ax:ys.length=n)(hn:n<=sizeLine)(hs:autoParam (∀ z,foldedSetIterable iter X.env z=pure z) xz):EO X G dl (.ListComp elt [⟨.Name x px,iter,[],0⟩] sc pos) (.lst ys):=eW (BD hc B hi (uw ny) hs) (oU zC Ax hn)
theorem yp (nN:Nat){wi:TI}(hc:X.calm=true)(hN:X.N.Nodup)(B:cW X N ix x sc)(hi:PI X (.Name x px) iter wi)(zC:sv X G dl n zs wi)(ny:uv X N sc dl ix elt n zs ys)(Ax:ys.length=n)(hn:n<=sizeLine)(hs:autoParam (∀ z,foldedSetIterable iter X.env z=pure z) xz)(DJ:autoParam (swapsWith (.ListComp elt [⟨.Name x px,iter,[],0⟩] sc pos) (some (.Name y py)) sr.line X.env=pure true) jp)(hy:autoParam (X.N[nN]?=some y) jp)(hl:autoParam (Loc X.env.scope y) xF)(hf:autoParam (X.fn y=true\/X.env.scope.names.lookup y=some .local) xI):ES X G E dl (.Assign [.Name y py] (.ListComp elt [⟨.Name x px,iter,[],0⟩] sc pos) sr) (.nx (dl.set nN (.own (.lst ys)))):=
 pX (BE hc B hi (uw ny) hs DJ hN hy hl hf) fun D st H zq=>k1 zq fun Hf zq=>have S:=zq.1;have k:=zq.2;oU zC Ax hn st H _ ⟨Hf,S,fun p aB H' g n1 n2 r=>k _ aB H' g.bH (S.Bz g n1 n2 r)⟩
end
theorem p8 {α:Type}{us:List α}{d:α}(h:(us ++ [d]).length=2):∃ a,us=[a]:=by
 match us,h with
 | [a],_=>exact⟨a,rfl⟩
 | [],h=>simp at h
 | _::_::r,h=>simp at h
theorem nz {α:Type}{us:List α}(h:(us ++ []).length=2):∃ a b,us=[a,b]:=by
 rw[Ii] at h
 match us,h with
 | [a,b],_=>exact⟨a,b,rfl⟩
structure p9 (K:W.Frag)(x qual:Str)(st:Stmt)(f:Addr)(fd:FuncData):Prop where
 ex:∃ (oc:Value) (od:Option Addr) (dV kV doc pm:Value) (an:Option Addr) (bh ct:Value) (l7:Array (Option Value)),
   fd=W.fnOf x qual (bf st) (aH st) (ah st) dV kV doc pm an bh ct/\K.lookup f=some ⟨oc,od,.func fd,l7⟩/\W.codeIn K bh qual=true
theorem kj {K:W.Frag}{x qual:Str}{st:Stmt}{f:Addr}{oc:Value}{od an:Option Addr}{l7:Array (Option Value)}{dV kV doc pm bh ct:Value}(l:K.lookup f=some ⟨oc,od,.func (W.fnOf x qual (bf st) (aH st) (ah st) dV kV doc pm an bh ct),l7⟩)(c:W.codeIn K bh qual=true):p9 K x qual st f (W.fnOf x qual (bf st) (aH st) (ah st) dV kV doc pm an bh ct):=⟨⟨oc,od,dV,kV,doc,pm,an,bh,ct,l7,rfl,l,c⟩⟩
section
variable {P:Program}{w:World}{K:W.Frag}{mg:Str->Option Value}{base:Heap}{CX:jr}{x qual:Str}{st:Stmt}{f:Addr}{fd:FuncData}{N ps:List Str}{k n:Nat}
theorem DL {R:List Dt->Res->Prop}(F:p9 K x qual st f fd)(S:aq N ps (ah st))(hn:ps.length=n)(k4:∀ (bh:Value) (A:Around) (outer:List Env) (s:Shared) (H:Hp) (E:XK) (G:Gr) (ds:List Dt) (r:Res),b5 k (A.deeper (envOfC qual (ah st) s.heap.objs.size f bh))->ds.length=n->R ds r->∃ o,Comes o r/\l8 (oE CX P w K mg base N qual (ah st) f bh A outer s H E) G E (slots N ds) (aH st) o):dA P w K mg base CX (k+1) f fd ps (se K n R):=by
 obtain⟨oc,od,dV,kV,doc,pm,an,bh,ct,l7,rfl,lk,gX⟩:=F.ex;refine qz lk gX S (fun vs H Q E ⟨Hf,ds,r,s,rp,hl,_⟩=>by rw[rp.length,hl,hn]) fun A outer s H vs Q E hr ⟨Hf,ds,r,sm,rp,hl,hR,hk⟩=>?_
 obtain⟨o,hc,hb⟩:=k4 bh A outer s H E ⟨Hf,H⟩ ds r hr hl hR;exact⟨_,hb,Hf,jy sm rp,hc.ends hk⟩
def DM (K:W.Frag)(C:Addr)(Hf H:Hp)(x:Addr)(Q:VK)(E:XK):Res->Prop
 | .own w=>((∃ fs,w=.obj C fs)\/∃ fs gs nm n,w=.oJ C fs gs nm n)/\∀ aB H',bj Hf H aB H'->aB x=none->dS K aB H' x w->Q .b4 H'
 | .exc c fs=>∀ od aB H',bj Hf H aB H'->ExcAt K aB od fs->E c od H'
 | .ret _=>False
def ET (K:W.Frag)(C:Addr)(n:Nat)(R:List Dt->Res->Prop):Sp:=fun vs H Q E=>∃ Hf H1 x dx args ds r,vs=.ref x::args/\H=upd H1 x (.ins C dx [])/\H1 x=none/\aI Hf H1/\aS K Hf args ds/\ds.length+1=n/\R ds r/\DM K C Hf H1 x Q E r
inductive nA (C x:Addr):Out->Res->Prop
 | nx {dl:List Slot} {fs:List (Str×Dt)} (h:dl[0]?=some (.own (.v9 x C fs))):nA C x (.nx dl) (.own (.obj C fs))
 | ex (c:Value) (fs:List (Str×Dt)):nA C x (.ex c fs) (.exc c fs)
 | Gk {dl:List Slot} {fs:List (Str×Dt)} {gs:List (Nat->List (Key×FD))} {nm:List Str} {n:Nat} (h:dl[0]?=some (.own (.pW x C fs gs nm n))):nA C x (.nx dl) (.own (.oJ C fs gs nm n))
noncomputable def jE (N:List Str)(x C:Addr)(ds:List Dt):List Slot:=.own (.v9 x C [])::(ds.map Slot.val ++ FH (N.length - (ds.length+1)) .df)
theorem qa {Hf H:Hp}{vs:List V}{ds:List Dt}{x dx C:Addr}(s:aI Hf H)(n:H x=none)(r:aS K Hf vs ds):cK K ⟨Hf,H⟩ (start N (.ref x::vs)) Hf (upd H x (.ins C dx [])) (jE N x C ds):=by
 have hl:=r.length;have es:start N (V.ref x::vs)=some (.ref x)::(vs.map some ++ FH (N.length - (vs.length+1)) none):=by
   unfold L2.start;simp
 have mT:∀ (i:Nat) o,(jE N x C ds)[i+1]?≠some (.own o):=fun i o h=>by
   unfold jE at h;rw[HZ] at h;by_cases hi:i < ds.length
   . rw[HN (by simpa using hi),k5] at h
     cases e:ds[i]? with
     | none=>rw[e] at h;cases h
     | some a=>rw[e] at h;cases h
   . rw[Ia (by simpa using hi),HY] at h
     split at h <;> cases h
 rw[es];refine⟨.iH s n,?_,fun i d h=>?_,fun i o h=>?_,fun i j o o' a h h' _ _=>?_⟩
 . unfold jE
   simp[hl]
 . cases i with
   | zero=>cases h
   | succ i=>
     unfold jE at h;rw[HZ] at h ⊢;by_cases hi:i < ds.length
     . rw[HN (by simpa using hi),k5] at h
       cases e:ds[i]? with
       | none=>rw[e] at h;cases h
       | some a=>
         rw[e] at h;cases h;obtain⟨v,h1,h2⟩:=r.get e;refine⟨v,?_,h2⟩;rw[HN (by simp;omega),k5,h1];rfl
     . rw[Ia (by simpa using hi),HY] at h
       split at h <;> cases h
 . cases i with
   | zero=>
     cases h;exact⟨x,rfl,s.free n,n,rfl,dx,[],au,.nil⟩
   | succ i=>exact absurd h (mT i o)
 . cases i with
   | zero=>cases j with
     | zero=>rfl
     | succ j=>exact absurd h' (mT j _)
   | succ i=>exact absurd h (mT i _)
theorem Gm {C:Addr}{R:List Dt->Res->Prop}(F:p9 K x qual st f fd)(S:aq N ps (ah st))(hn:ps.length=n)(k4:∀ (bh:Value) (A:Around) (outer:List Env) (s:Shared) (H:Hp) (E:XK) (G:Gr) (z:Addr) (ds:List Dt) (r:Res),b5 k (A.deeper (envOfC qual (ah st) s.heap.objs.size f bh))->ds.length+1=n->R ds r->∃ o,nA C z o r/\l8 (oE CX P w K mg base N qual (ah st) f bh A outer s H E) G E (jE N z C ds) (aH st) o):dA P w K mg base CX (k+1) f fd ps (ET K C n R):=by
 obtain⟨oc,od,dV,kV,doc,pm,an,bh,ct,l7,rfl,lk,gX⟩:=F.ex;refine qz lk gX S (fun vs H Q E ⟨Hf,H1,z,dx,args,ds,r,e,_,_,_,rp,hl,_⟩=>by rw[e,Ir,rp.length,hl,hn]) fun A outer s H vs Q E hr ⟨Hf,H1,z,dx,args,ds,r,e1,e2,hz,sm,rp,hl,hR,hk⟩=>?_
 subst e1 e2;obtain⟨o,hc,hb⟩:=k4 bh A outer s _ E ⟨Hf,H1⟩ z ds r hr hl hR;refine⟨_,hb,Hf,qa sm hz rp,?_⟩;cases hc with
 | nx h=>
   obtain⟨_,kk⟩:=hk;intro oq aB H' s' S';obtain⟨a,_,q2,_,q4⟩:=S'.own 0 _ h;obtain⟨rfl,Gn,Cy,q5,q6⟩:=q4;exact kk aB H' S'.gr q2 ⟨Gn,Cy,q5,q6⟩
 | Gk h=>
   obtain⟨_,kk⟩:=hk;intro oq aB H' s' S';obtain⟨a,_,q2,_,q4⟩:=S'.own 0 _ h;obtain⟨rfl,q5⟩:=q4;exact kk aB H' S'.gr q2 q5
 | ex c fs=>exact hk
end
noncomputable def putD (f:Str)(v:Dt):List (Str×Dt)->List (Str×Dt)
 | []=>[(f,v)]
 | (g,x)::r=>if g=f then (g,v)::r else (g,x)::putD f v r
theorem cN.put {K:W.Frag}{H:Hp}{f:Str}{v:V}{d:Dt}(q:Rep K H v d):∀ {vs:List (Str×V)} {ds:List (Str×Dt)},cN K H vs ds->cN K H (gH f v vs) (putD f d ds)
 | _,_,.nil=>.cons q .nil
 | (k,x)::vs,(_,y)::ds,.cons h r=>by
   unfold gH putD;by_cases e:k=f
   . rw[if_pos e,if_pos e];exact .cons q r
   . rw[if_neg e,if_neg e];exact .cons h (cN.put q r)
section
variable {X:Cx}{G:Gr}{E:XK}{dl:List Slot}{e:Expr}{es:List Expr}{d:Dt}{ds:List Dt}{pos p apos:Pos}{x m:Str}{C z:Addr}{fs:List (Str×Dt)}{CX:jr}{k k' n:Nat}{R:List Dt->Res->Prop}{ob:Expr}{wo:Own}{dvs:List Dt}
theorem gQ {fn:Str}{pn:Pos}(he:EE X G dl e d)(cl:mD X.K C)(na:cM X.K C fn)(hd:autoParam (dl[0]?=some (.own (.v9 z C fs))) jp)(hl:autoParam (Nat.ble fs.length 999=true) jp)(hN:autoParam (X.N[0]?=some x) jp)(hv:autoParam (sZ X.env.scope x) xL)(iG:autoParam ((x == ("__debug__":Str))=false) z8)(gX:autoParam ((x == ("__classdict__":Str))=false) z8)(hs:autoParam (swapsWith e (some (.Attribute (.Name x pn) fn apos)) pos.line X.env=pure false) jp):ES X G E dl (.Assign [.Attribute (.Name x pn) fn apos] e pos) (.nx (dl.set 0 (.own (.v9 z C (putD fn d fs))))):=
 pX (yZ (qO (p:=pn) 0 hd hN hv iG gX) he hs) fun D st H zq=>zn zq fun Hf S k=>fun v aA H1 g1 r1=>by
   have S1:=S.grow g1;obtain⟨a,q1,q2,q3,q4⟩:=S1.own 0 _ hd;obtain⟨e1,dx,fv,q5,q6⟩:=id q4;refine⟨aA,a,S1,q1,q2,q4,a,C,dx,fv,rfl,q5,cl,na,by rw[q6.length];exact Nat.lt_succ_of_le (Iv hl),?_⟩;exact k st aA _ g1.bH (S1.zl hd q1 ⟨e1,dx,_,au,q6.put r1⟩)
structure EU (P:Program)(w:World)(K:W.Frag)(mg:Str->Option Value)(base:Heap)(CX:jr)(k:Nat)(x:Str)(C:Addr)(n:Nat)(R:List Dt->Res->Prop):Prop where
 ex:∃ f fd ps,dA P w K mg base CX k f fd ps (ET K C n R)/\L2.Mk K C f/\mg x=some (.ref C)/\Binds K fd ps []
theorem nB (F:EU X.prog X.w X.K X.mg X.base CX k x C n R)(nx:pC CX)(hr:b5 k' X.A)(ha:EA X G dl (e::es) ds)(h:R ds (.own (.obj C fs)))(ng:autoParam (k+1<=k') z8)(hl:autoParam (ds.length+1=n) jp)(hg:autoParam (Gl X x) jp)(iG:autoParam ((x == ("__debug__":Str))=false) z8)(he:autoParam (starEach (e::es) X.env=(false,eval e X.env)::starEach es X.env) jp)(iw:autoParam ((backTo pos (starEach es X.env)).any (·.1)=false) jp):EO X G dl (.Call (.Name x p) (e::es) [] pos) (.obj C fs):=by
 obtain⟨f,fd,ps,Fo,M,hm,hb⟩:=F.ex;refine eW (wK (E:=E0) M Fo (hr.mono ng) hg hm hb .nil nx.passes ha iG he iw) fun st H Q zq=>zn zq fun Hf S kk=>fun vs aA H1 g1 r1 y dx hy Dx ne=>?_
 have Gp:(upd H1 dx (.own y)) y=none:=by rw[ar (Ne.symm ne)];exact hy
 have g2:bj aA H1 aA (upd H1 dx (.own y)):=.iH g1.sub Dx;refine⟨aA,upd H1 dx (.own y),y,dx,vs ++ [],ds,.own (.obj C fs),rfl,rfl,Gp,g2.sub,by rw[Ii];exact r1,hl,h,.inl ⟨fs,rfl⟩,fun aB H' g n1 r=>⟨rfl,?_⟩⟩;exact kk y aB H' ((g1.trans g2).trans g) (g1.big.free hy) n1 r
theorem qQ (F:GF X.prog X.w X.K X.mg X.base CX k x n R)(nx:pC CX)(hr:b5 k' X.A)(ha:EA X G dl (e::es) ds)(h:R ds (.own wo))(ng:autoParam (k<=k') z8)(hl:autoParam (ds.length=n) jp)(hg:autoParam (Gl X x) jp)(iG:autoParam ((x == ("__debug__":Str))=false) z8)(he:autoParam (starEach (e::es) X.env=(false,eval e X.env)::starEach es X.env) jp)(iw:autoParam ((backTo pos (starEach es X.env)).any (·.1)=false) jp):EO X G dl (.Call (.Name x p) (e::es) [] pos) wo:=by
 obtain⟨f,fd,ps,F,hm,hk,hb⟩:=F.ex;exact eW (qx (E:=E0) F (hr.mono ng) hg hm hk hb .nil nx.passes ha iG he iw) fun st H Q zq=>zn zq fun Hf S k=>fun vs aA H1 g1 r1=>⟨aA,ds,.own wo,g1.sub,by rw[Ii];exact r1,hl,h,fun p dz H2 g2 n1 n2 r2=>k p dz H2 (g1.trans g2) (g1.big.free n1) n2 r2⟩
structure uz (P:Program)(w:World)(K:W.Frag)(mg:Str->Option Value)(base:Heap)(CX:jr)(k:Nat)(C:Addr)(m:Str)(n:Nat)(dvs:List Dt)(R:List Dt->Res->Prop):Prop where
 cl:mD K C
 ex:∃ f fd ps sf vds,dA P w K mg base CX k f fd ps (se K n R)/\Meth K C m f/\Binds K fd ps sf/\Vals vds sf/\∀ H,aS K H vds dvs
theorem zD {P:Program}{w:World}{K:W.Frag}{mg:Str->Option Value}{base:Heap}(F:MF P w K mg base CX k C m n R):uz P w K mg base CX k C m n [] R:=by
 obtain⟨f,fd,ps,Fo,hm,hb⟩:=F.ex;exact⟨F.cl,f,fd,ps,[],[],Fo,hm,hb,.nil,fun _=>.nil⟩
theorem oV {pl:Sem Bool}(he:EE X G dl ob (.obj C fs))(F:uz X.prog X.w X.K X.mg X.base CX k C m n dvs R)(nx:pC CX)(hr:b5 k' X.A)(ha:EA X G dl (e::es) ds)(h:R (.obj C fs::(ds ++ dvs)) (.own wo))(ng:autoParam (k<=k') z8)(hl:autoParam ((Dt.obj C fs::(ds ++ dvs)).length=n) jp)(oO:autoParam (fs.lookup m=none) jp)
   (iV:autoParam (starEach (e::es) X.env=(false,eval e X.env)::starEach es X.env) jp) (iw:autoParam ((backTo pos (starEach es X.env)).any (·.1)=false) jp)
   (ht:autoParam (eval (.Call (.Attribute ob m apos) (e::es) [] pos) X.env=(do
     let ov <- eval ob X.env
     standAt apos.atName
     let (f,first) <- holding [ov] (getMethod ov m pl)
     callWith pos f first (backTo pos (starEach (e::es) X.env)) (backToKw pos (keywordEach [] X.env)))) jp):EO X G dl (.Call (.Attribute ob m apos) (e::es) [] pos) wo:=by
 obtain⟨f,fd,ps,sf,vds,Fo,hm,hb,hd,sg⟩:=F.ex;exact eW (qy (pl:=pl) (E:=E0) he F.cl hm Fo (hr.mono ng) hb hd nx.passes ha iV iw ht) fun st H Q zq=>zn zq fun Hf S k=>fun v aA H1 g1 r1=>by
   cases r1 with
   | @obj a _ dx fv _ q r=>
     exact⟨a,dx,fv,rfl,cX g1.sub q,r.none_of oO,aA,S.grow g1,fun vs dz H2 g2 r2=>⟨dz,_,.own wo,g2.sub,.cons (.obj (cX g2.bH q) (r.mono g2.bH)) (r2.append (sg _)),hl,h,fun p rZ H3 g3 n1 n2 r3=>k p rZ H3 ((g1.trans g2).trans g3) ((g1.trans g2).big.free n1) n2 r3⟩⟩
theorem iK {pl:Sem Bool}(he:EE X G dl ob (.obj C fs))(F:uz X.prog X.w X.K X.mg X.base CX k C m n dvs R)(nx:pC CX)(hr:b5 k' X.A)(h:R (.obj C fs::dvs) (.own wo))(ng:autoParam (k<=k') z8)(hl:autoParam ((Dt.obj C fs::dvs).length=n) jp)(oO:autoParam (fs.lookup m=none) jp)
   (ht:autoParam (eval (.Call (.Attribute ob m apos) [] [] pos) X.env=(do
     let ov <- eval ob X.env
     standAt apos.atName
     let (f,first) <- holding [ov] (getMethod ov m pl)
     callWith pos f first (backTo pos (starEach [] X.env)) (backToKw pos (keywordEach [] X.env)))) jp):EO X G dl (.Call (.Attribute ob m apos) [] [] pos) wo:=by
 obtain⟨f,fd,ps,sf,vds,Fo,hm,hb,hd,sg⟩:=F.ex;exact eW (kZ (pl:=pl) (E:=E0) he F.cl hm Fo (hr.mono ng) hb hd nx.passes ht) fun st H Q zq=>zn zq fun Hf S k=>fun v aA H1 g1 r1=>by
   cases r1 with
   | @obj a _ dx fv _ q r=>
     exact⟨a,dx,fv,rfl,cX g1.sub q,r.none_of oO,aA,_,.own wo,g1.sub,.cons (.obj q r) (sg _),hl,h,fun p rZ H3 g3 n1 n2 r3=>k p rZ H3 (g1.trans g3) (g1.big.free n1) n2 r3⟩
theorem zE {pl:Sem Bool}(he:EE X G dl ob (.obj C fs))(F:uz X.prog X.w X.K X.mg X.base CX k C m n dvs R)(nx:pC CX)(hr:b5 k' X.A)(ha:EA X G dl (e::es) ds)(h:R (.obj C fs::(ds ++ dvs)) (.ret d))(ng:autoParam (k<=k') z8)(hl:autoParam ((Dt.obj C fs::(ds ++ dvs)).length=n) jp)(oO:autoParam (fs.lookup m=none) jp)
   (iV:autoParam (starEach (e::es) X.env=(false,eval e X.env)::starEach es X.env) jp) (iw:autoParam ((backTo pos (starEach es X.env)).any (·.1)=false) jp)
   (ht:autoParam (eval (.Call (.Attribute ob m apos) (e::es) [] pos) X.env=(do
     let ov <- eval ob X.env
     standAt apos.atName
     let (f,first) <- holding [ov] (getMethod ov m pl)
     callWith pos f first (backTo pos (starEach (e::es) X.env)) (backToKw pos (keywordEach [] X.env)))) jp):EE X G dl (.Call (.Attribute ob m apos) (e::es) [] pos) d:=by
 obtain⟨f,fd,ps,sf,vds,Fo,hm,hb,hd,sg⟩:=F.ex;exact qI (pl:=pl) he F.cl hm Fo nx (hr.mono ng) hb hd sg ha hl h oO iV iw ht
theorem nC {pl:Sem Bool}(he:EE X G dl ob (.obj C fs))(F:uz X.prog X.w X.K X.mg X.base CX k C m n dvs R)(nx:pC CX)(hr:b5 k' X.A)(h:R (.obj C fs::dvs) (.ret d))(ng:autoParam (k<=k') z8)(hl:autoParam ((Dt.obj C fs::dvs).length=n) jp)(oO:autoParam (fs.lookup m=none) jp)
   (ht:autoParam (eval (.Call (.Attribute ob m apos) [] [] pos) X.env=(do
     let ov <- eval ob X.env
     standAt apos.atName
     let (f,first) <- holding [ov] (getMethod ov m pl)
     callWith pos f first (backTo pos (starEach [] X.env)) (backToKw pos (keywordEach [] X.env)))) jp):EE X G dl (.Call (.Attribute ob m apos) [] [] pos) d:=by
 obtain⟨f,fd,ps,sf,vds,Fo,hm,hb,hd,sg⟩:=F.ex;exact oP (pl:=pl) he F.cl hm Fo nx (hr.mono ng) hb hd sg hl h oO ht
end
noncomputable def iL (sc BF:Scope)(XN N:List Str)(ix:List Nat)(x:Str):Bool:=
 decide N.Nodup && (decide (N=x::ix.map (fun j=>XN.getD j "")) && (decide (sc.kind=.function) && (sc.names.all (fun y=>decide (y.2≠.cell)) && (sc.names.all (fun y=>decide (y.2=.local->sc.names.lookup y.1=some .local)) && (decide (sc.names.lookup x=some .local) &&
   (sc.names.all (fun y=>decide (y.2=.free->BF.names.lookup y.1=some .cell\/BF.names.lookup y.1=some .free)) && ix.all (fun j=>decide (sc.names.lookup (XN.getD j "")=some .free) && decide (j < XN.length))))))))
theorem ll {X:Cx}{sc BF:Scope}{XN N:List Str}{ix:List Nat}{x:Str}(h:iL sc BF XN N ix x=true)(e1:autoParam (X.env.scope=BF) jp)(e2:autoParam (X.N=XN) jp):cW X N ix x sc:=by
 subst e1 e2;unfold iL at h;simp only[Io,List.all_eq_true,decide_eq_true_eq] at h;obtain⟨h1,h2,h3,h4,h5,h6,h7,h8⟩:=h;refine⟨h1,h2,h3,h4,h5,h6,h7,fun j hj=>?_⟩;obtain⟨q1,q2⟩:=h8 j hj;refine⟨X.N.getD j "",?_,q1⟩;rw[Bn,DT q2];rfl
noncomputable def EV:Expr->Scope
 | .ListComp _ _ sc _=>sc
 | .Call _ (.ListComp _ _ sc _::_) _ _=>sc
 | _=>{ kind:=.function,names:=[],isGenerator:=false,isCoroutine:=false}
noncomputable def BG:Stmt->Scope
 | .Assign _ e _=>EV e
 | .Return (some e) _=>EV e
 | _=>{ kind:=.function,names:=[],isGenerator:=false,isCoroutine:=false}
theorem oW (k:Str):∀ xs:List Str,Bh (.str k) (xs.map V.str)=decide (k∈xs)
 | []=>by simp[Bh]
 | x::xs=>by
   have ih:=oW k xs;unfold Bh at ih ⊢;rw[HV,List.any_cons,ih];by_cases e:x=k
   . subst e;simp[v8]
   . have:¬ (k=x):=fun z=>e z.symm
     simp[v8,e,this]
theorem sx (xs:List Str):(xs.map V.str).all i0=true:=by
 induction xs with
 | nil=>rfl
 | cons x xs ih=>rw[HV,II,ih];rfl
section
variable {X:Cx}{G:Gr}{dl:List Slot}{a b:Expr}{pos:Pos}{k:Str}{xs:List Str}
theorem yq {neg:Bool}:wW X.K (C8 X.K neg) (.str k) (.tup (xs.map .str)) (.bl (if neg then !decide (k∈xs) else decide (k∈xs))):=fun v w Hf H Q s r1 r2 kk=>by
 cases r1;cases r2 with
 | @tup q vs _ hq rp=>
   have ev:=jD rp;subst ev;refine⟨q,_,rfl,.inr (bq s hq),rfl,sx xs,?_⟩;rw[oW];exact kk _ Hf H (.refl s) (.bl _)
theorem uA (ha:EE X G dl a (.str k))(hb:EE X G dl b (.tup (xs.map .str)))(hm:autoParam (behindInMarks .In b=false) jp):EB X G dl (.Compare a [.In] [b] pos) (decide (k∈xs)):=fU rS (yq (neg:=false)) hm ha hb
theorem qR (ha:EE X G dl a (.str k))(hb:EE X G dl b (.tup (xs.map .str)))(hm:autoParam (behindInMarks .NotIn b=false) jp):EB X G dl (.Compare a [.NotIn] [b] pos) (!decide (k∈xs)):=fU m7 (yq (neg:=true)) hm ha hb
end
structure Gq (X:Cx)(N tn:List Str)(ix:List Nat)(sc:Scope):Prop where
 nd:N.Nodup
 nm:N=tn ++ ix.map (fun j=>X.N.getD j "")
 kind:sc.kind=.function
 p4:∀ y∈sc.names,y.2≠.cell
 names:∀ y∈sc.names,y.2=.local->sc.names.lookup y.1=some .local
 hx:∀ x∈tn,sc.names.lookup x=some .local
 fr:∀ y∈sc.names,y.2=.free->X.env.kindOf y.1=some .cell\/X.env.kindOf y.1=some .free
 DB:∀ j∈ix,∃ y,X.N[j]?=some y/\sc.names.lookup y=some .free
section
variable {K:W.Frag}{Hf:Hp}
structure Hy (K:W.Frag)(Hf:Hp)(σ:L2.St)(sl:List Slot):Prop where
 len:σ.length=sl.length
 val:∀ (i:Nat) d,sl[i]?=some (.val d)->∃ v,σ[i]?=some (some v)/\Rep K Hf v d
 no:∀ (i:Nat) o,sl[i]?≠some (.own o)
end
section
variable {X:Cx}{dl:List Slot}{a c:Expr}{N:List Str}{ix:List Nat}{sc:Scope}
variable {α:Type}{as:List α}{sl:α->List Slot}{keep:α->Bool}
inductive yr (X:Cx)(N:List Str)(sc:Scope)(dl:List Slot)(ix:List Nat)(as:List α)(sl:α->List Slot)(keep:α->Bool):List Expr->Prop
 | nil:(∀ a∈as,keep a=true)->yr X N sc dl ix as sl keep []
 | one {c:Expr}:(∀ a∈as,∀ C fp s H G',EB (eK X N sc C fp s H) G' (sl a ++ i7 dl ix) c (keep a))->yr X N sc dl ix as sl keep [c]
end
section
variable {a:Expr}{d:Dt}
noncomputable def qS:Dt->Bool
 | .b4 | .bl _ | .int _ | .str _ | .ty _ | .cls _=>true
 | _=>false
theorem uB {K:W.Frag}{Hf aB:Hp}{v:V}{d:Dt}(h:qS d=true)(r:Rep K Hf v d):Rep K aB v d:=by
 cases r <;> first | (cases h;done) | constructor
theorem yt {Hf H aA aB H':Hp}(s:aI Hf H)(g:bj aA H aB H'):bj Hf H Hf H':=⟨g.big,aI.refl _,s.trans g.big,fun a o h=>.inl ⟨o,h⟩⟩
end
section
variable {X:Cx}{G:Gr}{E:XK}{dl:List Slot}{e:Expr}{d1 d2:Dt}{pos:Pos}
theorem nD (n1 n2:Nat){a b:Str}{pa pb tp:Pos}{cx:Nat}(hN:X.N.Nodup)(hc:X.calm=true)(he:EE X G dl e (.tup [d1,d2]))(DN:autoParam (X.N[n1]?=some a) jp)(DO:autoParam (X.N[n2]?=some b) jp)(DP:autoParam (Loc X.env.scope a) xF)(Bq:autoParam (Loc X.env.scope b) xF)(DQ:autoParam (X.fn a=true\/X.env.scope.names.lookup a=some .local) xR)(DR:autoParam (X.fn b=true\/X.env.scope.names.lookup b=some .local) xR)(hn:autoParam ((assignEach [.Name a pa,.Name b pb] X.env).length=2) jp)(iV:autoParam ((assignEach [.Name a pa,.Name b pb] X.env).findIdx? (·.1)=none) jp)(q1:autoParam ((assignEach [.Name a pa,.Name b pb] X.env).map (·.2)=assign (.Name a pa) X.env::(assignEach [.Name b pb] X.env).map (·.2)) jp)(q2:autoParam ((assignEach [.Name b pb] X.env).map (·.2)=assign (.Name b pb) X.env::(assignEach [] X.env).map (·.2)) jp)(hs:autoParam (swapsWithSole [.Tuple [.Name a pa,.Name b pb] cx tp] e pos.line X.env=pure false) jp)(hw:autoParam (swappedStores [.Tuple [.Name a pa,.Name b pb] cx tp] e X.env=pure none) jp)(h1:autoParam ((assignEach [.Tuple [.Name a pa,.Name b pb] cx tp] X.env).map (·.2)=[assign (.Tuple [.Name a pa,.Name b pb] cx tp) X.env]) jp):ES X G E dl (.Assign [.Tuple [.Name a pa,.Name b pb] cx tp] e pos) (.nx ((dl.set n1 (.val d1)).set n2 (.val d2))):=
 pX (mW he (tJ hc (iU (fP (pos:=pa) hN DN DP DQ) (iU (fP (pos:=pb) hN DO Bq DR) qv q2) q1) hn iV) hs hw h1) fun D st H zq=>zn zq fun Hf S k=>fun v aA H1 g1 r1=>by
   cases r1 with
   | @tup q vs _ hq rp=>
     cases rp with
     | cons r1 t1=>cases t1 with
       | cons r2 t2=>
         cases t2;exact⟨q,_,rfl,bq g1.sub hq,rfl,_,_,rfl,_,_,rfl,rfl,k _ aA H1 g1.bH (((S.grow g1).set r1).set r2)⟩
end
noncomputable def uC (x:Str):Bool:=x.cps.all (· < 128)
noncomputable def signs (x:Str):List Dt:=x.cps.toList.map fun c=>.str ⟨#[c]⟩
end Sg
namespace Sg
open PySem PySem.Spec PyProof.Rows L2
open Sem (wp)
structure DS (z tI tO j1 j2:Addr)(f1 f2:List Addr):Prop where
 tz:tI≠z
 oz:tO≠z
 az:j1≠z
 bz:j2≠z
 to:tI≠tO
 ta:tI≠j1
 tb:tI≠j2
 oa:tO≠j1
 ob:tO≠j2
 ab:j1≠j2
 z1:z ∉ f1
 o1:tO ∉ f1
 b1:j2 ∉ f1
 z2:z ∉ f2
 o2:tO ∉ f2
 a2:j1 ∉ f2
inductive ZS where
 | txt (x:Str) (t:Tok)
 | lst (l:Addr)
noncomputable def ZS.val:ZS->Value
 | .txt x t=>.str x t
 | .lst l=>.ref l
noncomputable def ZS.obj:ZS->Obj
 | .txt x t=>{ cls:=.type (strIterType x),data:=.fields #[.str x t,.int 0 0]}
 | .lst l=>{ cls:=.type "list_iterator",data:=.fields #[.ref l,.int 0 0]}
def ZS.ok (h:Heap):ZS->Prop
 | .txt x _=>uC x=true
 | .lst l=>∃ xs,h.IsList l xs
def ZS.at (it:Addr)(i:Nat)(h:Heap):ZS->Prop
 | .txt x t=>h.IsStrIter it "str_ascii_iterator" x t i
 | .lst l=>h.IsListIter it l i
noncomputable def ZS.v:ZS->V
 | .txt x _=>.str x
 | .lst l=>.ref l
section
inductive ZD:Dt->List Dt->Prop
 | lst (xs:List Dt):ZD (.lst xs) xs
 | str (x:Str):uC x=true->ZD (.str x) (Sg.signs x)
end
noncomputable def Gs (C t:Addr)(od:Option Addr):Obj:={ cls:=.ref C,dict:=od,data:=.fields #[.ref t,.none,.none,.none,.bool false,.none]}
def Gu (h:Heap)(e C:Addr)(od:Option Addr):Prop:=∃ t:Addr,h.get? e=some (Gs C t od)
section
variable {C:Addr}
structure HC (K:W.Frag)(C:Addr)(f:Str):Prop where
 sa:W.findIn K (.ref C) "__setattr__"=some (some (.builtin "object.__setattr__"))
 na:W.findIn K (.ref C) f=some none
 ob:W.mroIn K C (.type "object")=some true
 mr:∃ G,(W.clsIn K C).map (·.mro)=some [.ref C,.ref G,.type "ValueError",.type "Exception",.type "BaseException",.type "object"]
 hd:(W.clsIn K C).map (·.hasDict)=some true
end
noncomputable def zF (K:PySem.W.Frag)(C:Addr)(EX:List Value)(nw:String)(fI:Addr):Bool:=match K.lookup C with
 | some ⟨.type "type",_,.cls cd,sl⟩=>(match cd.mro,sl.toList with
   | .ref D::tl,[_,_,_,_,some (.builtin n),_]=>D == C && (n == nw && (!cd.hasDel && (PySem.W.tailIn K EX tl && (PySem.W.nsOkIn K cd.ns && (PySem.W.nsIn K cd.ns "__init__" == some (some (.ref fI)))))))
   | _,_=>false)
 | _=>false
structure Gw (K:W.Frag)(C fI:Addr):Prop where
 ex:zF K C EF "ValueError.__new__" fI=true
 fn:W.typeIn K (.ref fI)=some (.type "function")
 kp:W.keepIn K (.ref C)=true
structure HD (K:W.Frag)(G:Addr):Prop where
 sp:W.specialIn K (.ref G) "__getattribute__"=some (some (.builtin "type.__getattribute__"))
 rd:W.readsIn K G (.type "type")=true
 fc:W.findCls K (.ref G) (.type "type") "__init__"=some (.val (.builtin "ValueError.__init__"))
noncomputable abbrev xT (z C:Addr)(od:Option Addr):HO:=.ext fun h=>Gu h z C od
def Gx (K:W.Frag)(C:Addr)(f:Str)(ok:Dt->Prop):Sp:=fun vs H Q E=>∃ Hf H1 z v d,vs=[.ref z,v]/\H=upd H1 z (xT z C none)/\H1 z=none/\aI Hf H1/\Rep K Hf v d/\ok d /\
 ∀ dz H2 dx,bj Hf H dz H2->H2 dx=none->dx≠z->Q .b4 (upd (upd H2 dx (.xd [(f,v)])) z (xT z C (some dx)))
structure XF (P:Program)(w:World)(K:W.Frag)(mg:Str->Option Value)(base:Heap)(CX:jr)(k:Nat)(x:Str)(C:Addr)(f:Str)(ok:Dt->Prop):Prop where
 ex:∃ fI fd ps,dA P w K mg base CX k fI fd ps (Gx K C f ok)/\Gw K C fI/\mg x=some (.ref C)/\Binds K fd ps []
noncomputable def wc (H:Hp)(q:Addr):Hp:=fun a=>if a=q then none else H a
theorem mO {H:Hp}{q a:Addr}(h:a≠q):wc H q a=H a:=if_neg h
theorem qT {H:Hp}{q a:Addr}{o:HO}(h:wc H q a=some o):a≠q/\H a=some o:=by
 unfold wc at h
 split at h
 . cases h
 . rename_i e;exact⟨e,h⟩
theorem jF {K:W.Frag}{Hf aB:Hp}:∀ {vs:List V} {ds:List Dt},ds.all qS=true->aS K Hf vs ds->aS K aB vs ds
 | _,_,_,.nil=>.nil
 | _,_,h,.cons r t=>by
   rw[II,Io] at h;exact .cons (uB h.1 r) (jF h.2 t)
def yu (u:HO):Prop:=(∀ xs,u≠.tup xs)/\∀ o xs,u≠.bH o (.tup xs)
theorem uD {K:W.Frag}{Hf:Hp}{q:Addr}{u:HO}{v:V}{ds:List Dt}(hq:Hf q=some u)(hu:yu u)(hd:ds.all qS=true)(r:Rep K Hf v (.tup ds)):Rep K (wc Hf q) v (.tup ds):=by
 cases r with
 | @tup a vs _ hs rp=>
   refine .tup ?_ (jF hd rp);rcases hs with hs | hs
   . have ne:a≠q:=fun e=>by
       subst e;rw[hq] at hs;exact hu.1 _ (Option.some.inj hs)
     exact .inl (by rw[mO ne];exact hs)
   . exact .inr hs
mutual
noncomputable def DU:Dt->Bool
 | .lst _=>false
 | .kh _=>false
 | .tup ds=>BH ds
 | .jO iu=>BI iu
 | .obj _ fs=>BJ fs
 | .jZ _=>false
 | .xo _=>false
 | .rX _ _=>false
 | .j0 _=>false
 | .memo _ _ _ _=>false
 | .gD _ _ _ _=>false
 | .td _ _ _=>false
 | .oI _ _ _ _ _=>false
 | .fT _=>false
 | _=>true
noncomputable def BH:List Dt->Bool
 | []=>true
 | d::r=>DU d && BH r
noncomputable def BI:List (Key×Dt)->Bool
 | []=>true
 | (_,d)::r=>DU d && BI r
noncomputable def BJ:List (Str×Dt)->Bool
 | []=>true
 | (_,d)::r=>DU d && BJ r
end
structure BK (k:Nat)(A:Around):Prop where
 dp:A.depth+3 * k+5 < recursionLimit
 un:A.units+16 * k+200 < cLine
structure BL (P:Program)(w:World)(K:W.Frag)(mg:Str->Option Value)(base:Heap)(CX:jr)(k:Nat)(f:Addr)(fd:FuncData)(ps:List Str)(sp:Sp):Prop where
 len:∀ vs H Q E,sp vs H Q E->vs.length=ps.length
 run:∀ (A:Around) (outer:List Env) (s:Shared) (H:Hp) (args:Args) (us:List Value) (vs:List V) (Q:VK) (E:XK),BK k A->oC P w K mg base A outer s H->BindsTo s fd args (ps.zip us)->Vals vs us->sp vs H Q E ->
   codeAny (model P w) A (.call (.ref f) args) (CR CX outer P w H s Q E) s
structure HE (P:Program)(w:World)(K:W.Frag)(mg:Str->Option Value)(base:Heap)(CX:jr)(k:Nat)(x:Str)(n:Nat)(R:List Dt->Res->Prop):Prop where
 ex:∃ f fd ps,BL P w K mg base CX k f fd ps (se K n R)/\mg x=some (.ref f)/\W.keepIn K (.ref f)=true/\Binds K fd ps []
inductive DV (K:W.Frag)(H:Hp):List V->List (Key×V)->Prop
 | nil:DV K H [] []
 | cons {t:Addr} {k:Key} {v:V} {xs:List V} {kvs:List (Key×V)}:pG K H t [kV k,v]->DV K H xs kvs->DV K H (.ref t::xs) ((k,v)::kvs)
section
inductive uF:List (Key×Value)->List (Key×Value)->Prop
 | nil:uF [] []
 | cons {k:Key} {i:Int} {t u:Tok} {xs ys:List (Key×Value)}:uF xs ys->uF ((k,.int i t)::xs) ((k,.int i u)::ys)
end
structure Gy (X:Cx)(N:List Str)(xt:Str)(ix:List Nat)(sc:Scope):Prop where
 nd:N.Nodup
 nm:N=xt::ix.map (fun j=>X.N.getD j "")
 kind:sc.kind=.function
 one:sc.names.filter (fun y=>y.2 == .cell)=[(xt,.cell)]
 names:∀ y∈sc.names,y.2=.local->sc.names.lookup y.1=some .local
 hx:sc.names.lookup xt=some .cell
 AE:∀ y∈sc.names,y.2=.free->y.1≠xt
 fr:∀ y∈sc.names,y.2=.free->X.env.kindOf y.1=some .cell\/X.env.kindOf y.1=some .free
 DB:∀ j∈ix,∃ y,X.N[j]?=some y/\sc.names.lookup y=some .free
noncomputable def DW (X:Cx)(N:List Str)(sc:Scope)(xt:Str)(c C:Addr)(fp:List Addr)(s:Shared)(H:Hp):Cx:=
 { X with N:=N,s₀:=s,H₀:=H,env:=compEnvC sc ((xt,c)::ni sc X.env) C X.env,outer:=X.stack,stack:=X.stack,ex:=fp,fn:=fun y=>y == xt,pn:=[],xe:=wb}
section
variable {X:Cx}{dl:List Slot}{a:Expr}{xt:Str}{N:List Str}{ix:List Nat}{sc:Scope}
variable {α:Type}{as:List α}{sl:α->List Slot}{keep:α->Bool}
inductive uG (X:Cx)(N:List Str)(xt:Str)(sc:Scope)(dl:List Slot)(ix:List Nat)(as:List α)(sl:α->List Slot)(keep:α->Bool):List Expr->Prop
 | nil:(∀ a∈as,keep a=true)->uG X N xt sc dl ix as sl keep []
 | one {ce:Expr}:(∀ a∈as,∀ c C fp s H G',EB (DW X N sc xt c C fp s H) G' (sl a ++ i7 dl ix) ce (keep a))->uG X N xt sc dl ix as sl keep [ce]
end
noncomputable def mk:HO->Bool
 | .memo _=>true
 | .jP _ _=>true
 | _=>false
section
variable {a:Addr}
mutual
noncomputable def DX (a:Addr):Dt->Bool
 | .tup ds=>zG a ds
 | .lst ds=>zG a ds
 | .jO iu=>xg a iu
 | .jZ iu=>xg a iu
 | .j0 iu=>xg a iu
 | .obj _ fs=>zH a fs
 | .rX _ fs=>zH a fs
 | .memo b _ _ _=>decide (b≠a)
 | .oI _ _ _ _ _=>false
 | _=>true
noncomputable def zG (a:Addr):List Dt->Bool
 | []=>true
 | d::r=>DX a d && zG a r
noncomputable def xg (a:Addr):List (Key×Dt)->Bool
 | []=>true
 | (_,d)::r=>DX a d && xg a r
noncomputable def zH (a:Addr):List (Str×Dt)->Bool
 | []=>true
 | (_,d)::r=>DX a d && zH a r
end
end
noncomputable def conv (H:Hp)(p p2 q1 q2:Addr)(u1 u2 u3 u4:HO):Hp:=upd (upd (upd (upd H p u1) p2 u2) q1 u3) q2 u4
section
variable {ns:List Int}
theorem g8:∀ {ns:List Int} {aF:List Value},Vals (ns.map V.int) aF->IntsAre aF ns
 | [],_,r=>by cases r;exact .nil
 | n::ns,_,r=>by
   cases r with
   | cons h t=>obtain⟨tk,rfl⟩:=h;exact .cons _ tk (g8 t)
end
structure xh (K:W.Frag)(G0 Hf H:Hp)(a p q:Addr)(ds xs ys:List Dt)(d6:Dt):Prop where
 tu:∃ vs v6,pG K Hf a (vs ++ [.ref p,.ref q,v6])/\aS K Hf vs ds/\Rep K Hf v6 d6
 lp:∃ vs,H p=some (.lst vs)/\aS K Hf vs xs
 lq:∃ vs,H q=some (.lst vs)/\aS K Hf vs ys
 ne:p≠q
 fp:Hf p=none
 fq:Hf q=none
 gp:G0 p=none
 gq:G0 q=none
section
variable {K:W.Frag}{G:Gr}{st:L2.St}{G0 Hf H aB H':Hp}{dl:List Slot}{a p q:Addr}{ds xs ys:List Dt}{d6:Dt}
theorem mP {vs:List V}(g:bj Hf H aB H')(h:H p=some (.lst vs))(n:Hf p=none):aB p=none:=by
 cases e:aB p with
 | none=>rfl
 | some o=>
   obtain⟨o',h'⟩:=g.pV h (fun z=>z) e;rw[n] at h';cases h'
theorem xh.grow (T:xh K G0 Hf H a p q ds xs ys d6)(g:bj Hf H aB H'):xh K G0 aB H' a p q ds xs ys d6:=by
 obtain⟨vs,v6,h1,h2,h3⟩:=T.tu;obtain⟨vx,hx,rx⟩:=T.lp;obtain⟨vy,hy,ry⟩:=T.lq;exact⟨⟨vs,v6,bq g.bH h1,h2.mono g.bH,h3.mono g.bH⟩,⟨vx,g.big _ _ hx,rx.mono g.bH⟩,⟨vy,g.big _ _ hy,ry.mono g.bH⟩,T.ne,mP g hx T.fp,mP g hy T.fq,T.gp,T.gq⟩
def e7 (dl:List Slot):Prop:=∀ (i:Nat) (o:Own),dl[i]?≠some (.own o)
theorem xh.bH (T:xh K G.H Hf H a p q ds xs ys d6)(S:cK K G st Hf H dl){n:Nat}(hn:st[n]?=some (some (.ref a)))(no:e7 dl):∃ aB,aI Hf aB/\cK K G st aB H (dl.set n (.val (.tup (ds ++ [.lst xs,.lst ys,d6])))):=by
 obtain⟨vs,v6,h1,h2,h3⟩:=T.tu;obtain⟨vx,hx,rx⟩:=T.lp;obtain⟨vy,hy,ry⟩:=T.lq;have s1:aI Hf (upd Hf p (.lst vx)):=aX T.fp;have Gz:upd Hf p (.lst vx) q=none:=by rw[ar (Ne.symm T.ne)];exact T.fq
 have s2:aI (upd Hf p (.lst vx)) (upd (upd Hf p (.lst vx)) q (.lst vy)):=aX Gz;have sm:=s1.trans s2;have ep:upd (upd Hf p (.lst vx)) q (.lst vy) p=some (.lst vx):=by rw[ar T.ne,au]
 have rp:Rep K (upd (upd Hf p (.lst vx)) q (.lst vy)) (.ref a) (.tup (ds ++ [.lst xs,.lst ys,d6])):=
   .tup (bq sm h1) ((h2.mono sm).append (.cons (.lst ep (rx.mono sm)) (.cons (.lst au (ry.mono sm)) (.cons (h3.mono sm) .nil))))
 refine⟨_,sm,⟨S.gr.big,S.gr.bH.trans sm,fun b o h=>?_,fun b o h=>?_⟩,by simp[S.len],fun j d h=>?_,fun j o h=>?_,fun i j o o' b h=>?_⟩
 . by_cases e:b=q
   . subst e;rw[au] at h;cases h;exact hy
   . rw[ar e] at h
     by_cases e':b=p
     . subst e';rw[au] at h;cases h;exact hx
     . rw[ar e'] at h;exact S.gr.sub _ _ h
 . by_cases e:b=q
   . subst e;exact .inr (.inl T.gq)
   . rw[ar e] at h
     by_cases e':b=p
     . subst e';exact .inr (.inl T.gp)
     . rw[ar e'] at h;exact S.gr.new b o h
 . by_cases e:n=j
   . subst e
     have hl:n < dl.length:=by
       have:=(Hx.mp hn).1;rw[S.len] at this;exact this
     rw[k0 hl] at h;cases h;exact⟨_,hn,rp⟩
   . rw[k2 e] at h
     obtain⟨v,z1,z2⟩:=S.val j d h;exact⟨v,z1,z2.mono sm⟩
 . by_cases e:n=j
   . subst e
     by_cases hl:n < dl.length
     . rw[k0 hl] at h;cases h
     . rw[Cp (by simp;omega)] at h;cases h
   . rw[k2 e] at h;exact absurd h (no j o)
 . by_cases e:n=i
   . subst e
     by_cases hl:n < dl.length
     . rw[k0 hl] at h;cases h
     . rw[Cp (by simp;omega)] at h;cases h
   . rw[k2 e] at h;exact absurd h (no i o)
end
def EY (K:PySem.W.Frag)(G:Gr)(dl:List Slot)(ds xs ys:List Dt)(d6:Dt):TE:=fun st H Q=>∃ Hf,cK K G st Hf H dl/\∀ a p q aB H',bj Hf H aB H'->xh K H aB H' a p q ds xs ys d6->Q (.ref a) H'
def BM (K:PySem.W.Frag)(n:Nat)(R:List Dt->List Dt->List Dt->List Dt->Dt->Prop):Sp:=fun vs H Q _=>∃ Hf as ds xs ys d6,aI Hf H/\aS K Hf vs as/\as.length=n/\R as ds xs ys d6/\∀ a p q aB H',bj Hf H aB H'->xh K H aB H' a p q ds xs ys d6->Q (.ref a) H'
section
variable {X:Cx}{G:Gr}{E:XK}{c:Expr}{ds xs ys:List Dt}{d6:Dt}{pos:Pos}{m:Str}{C:Addr}{fs:List (Str×Dt)}
theorem xi {CX:jr}{f:Addr}{fd:FuncData}{ps:List Str}{k k':Nat}{ob:Expr}{apos:Pos}{tj:List Slot}{R:List Dt->List Dt->List Dt->List Dt->Dt->Prop}{pl:Sem Bool}(he:EE X G tj ob (.obj C fs))(c:mD X.K C)(hm:Meth X.K C m f)(F:dA X.prog X.w X.K X.mg X.base CX k f fd ps (BM X.K 1 R))(nx:pC CX)(hr:b5 k' X.A)(hb:Binds X.K fd ps [])
   (h:R [.obj C fs] ds xs ys d6) (ng:autoParam (k<=k') z8) (oO:autoParam (fs.lookup m=none) jp)
   (ht:autoParam (eval (.Call (.Attribute ob m apos) [] [] pos) X.env=(do
     let ov <- eval ob X.env
     standAt apos.atName
     let (f,first) <- holding [ov] (getMethod ov m pl)
     callWith pos f first (backTo pos (starEach [] X.env)) (backToKw pos (keywordEach [] X.env)))) jp):PE X (.Call (.Attribute ob m apos) [] [] pos) (EY X.K G tj ds xs ys d6):=
 eW (kZ (pl:=pl) (E:=E0) he c hm F (hr.mono ng) hb .nil nx.passes ht) fun st H Q zq=>zn zq fun Hf S k=>fun v aA H1 g1 r1=>by
   cases r1 with
   | @obj a _ dx fv _ q r=>
     refine⟨a,dx,fv,rfl,cX g1.sub q,r.none_of oO,aA,_,ds,xs,ys,d6,g1.sub,.cons (.obj q r) .nil,rfl,h,fun a p q rZ H3 g3 T=>k a p q rZ H3 (g1.trans g3) ⟨T.tu,T.lp,T.lq,T.ne,T.fp,T.fq,g1.big.free T.gp,g1.big.free T.gq⟩⟩
end
structure wd (K:W.Frag)(G0 Hf H:Hp)(a p q h:Addr)(ds xs ys zs:List Dt)(d6:Dt):Prop where
 two:xh K G0 Hf H a p q ds xs ys d6
 lh:∃ vs,H h=some (.lst vs)/\aS K Hf vs zs
 BN:p≠h
 BO:q≠h
 fh:Hf h=none
 gh:G0 h=none
section
variable {K:W.Frag}{G:Gr}{st:L2.St}{G0 Hf H aB H':Hp}{dl:List Slot}{a p q h:Addr}{ds xs ys zs:List Dt}{d6:Dt}
theorem wd.grow (T:wd K G0 Hf H a p q h ds xs ys zs d6)(g:bj Hf H aB H'):wd K G0 aB H' a p q h ds xs ys zs d6:=by
 obtain⟨vh,hh,rh⟩:=T.lh;exact⟨T.two.grow g,⟨vh,g.big _ _ hh,rh.mono g.bH⟩,T.BN,T.BO,mP g hh T.fh,T.gh⟩
theorem cK.drop (S:cK K G st Hf H dl){m:Nat}(hm:st[m]?=some (some (.ref h))):cK K G st Hf H (dl.set m (.val (.cls h))):=by
 refine⟨S.gr,by simp[S.len],fun j d hj=>?_,fun j o hj=>?_,fun i j o o' b hi hj=>?_⟩
 . by_cases e:m=j
   . subst e
     have hl:m < dl.length:=by
       have:=(Hx.mp hm).1;rw[S.len] at this;exact this
     rw[k0 hl] at hj;cases hj;exact⟨_,hm,.cls h⟩
   . rw[k2 e] at hj
     exact S.val j d hj
 . by_cases e:m=j
   . subst e
     by_cases hl:m < dl.length
     . rw[k0 hl] at hj;cases hj
     . rw[Cp (by simp;omega)] at hj;cases hj
   . rw[k2 e] at hj
     exact S.own j o hj
 . by_cases e:m=i
   . subst e
     by_cases hl:m < dl.length
     . rw[k0 hl] at hi;cases hi
     . rw[Cp (by simp;omega)] at hi;cases hi
   . by_cases e':m=j
     . subst e'
       by_cases hl:m < dl.length
       . rw[k0 hl] at hj;cases hj
       . rw[Cp (by simp;omega)] at hj;cases hj
     . rw[k2 e] at hi
       rw[k2 e'] at hj;exact S.tf i j o o' b hi hj
theorem cK.BP (S:cK K G st Hf H dl){m:Nat}{vs:List V}(hm:st[m]?=some (some (.ref h)))(no:e7 dl)(hh:H h=some (.lst vs))(rh:aS K Hf vs zs)(fh:Hf h=none)(gh:G.H h=none):cK K G st (upd Hf h (.lst vs)) H (dl.set m (.val (.lst zs))):=by
 have sm:aI Hf (upd Hf h (.lst vs)):=aX fh;refine⟨⟨S.gr.big,S.gr.bH.trans sm,fun b o e=>?_,fun b o e=>?_⟩,by simp[S.len],fun j d hj=>?_,fun j o hj=>?_,fun i j o o' b hi=>?_⟩
 . by_cases z:b=h
   . subst z;rw[au] at e;cases e;exact hh
   . rw[ar z] at e;exact S.gr.sub _ _ e
 . by_cases z:b=h
   . subst z;exact .inr (.inl gh)
   . rw[ar z] at e;exact S.gr.new b o e
 . by_cases e:m=j
   . subst e
     have hl:m < dl.length:=by
       have:=(Hx.mp hm).1;rw[S.len] at this;exact this
     rw[k0 hl] at hj;cases hj;exact⟨_,hm,.lst au (rh.mono sm)⟩
   . rw[k2 e] at hj
     obtain⟨v,z1,z2⟩:=S.val j d hj;exact⟨v,z1,z2.mono sm⟩
 . by_cases e:m=j
   . subst e
     by_cases hl:m < dl.length
     . rw[k0 hl] at hj;cases hj
     . rw[Cp (by simp;omega)] at hj;cases hj
   . rw[k2 e] at hj;exact absurd hj (no j o)
 . by_cases e:m=i
   . subst e
     by_cases hl:m < dl.length
     . rw[k0 hl] at hi;cases hi
     . rw[Cp (by simp;omega)] at hi;cases hi
   . rw[k2 e] at hi;exact absurd hi (no i o)
theorem qb (no:e7 dl)(m:Nat)(d:Dt):e7 (dl.set m (.val d)):=fun j o hj=>by
 by_cases e:m=j
 . subst e
   by_cases hl:m < dl.length
   . rw[k0 hl] at hj;cases hj
   . rw[Cp (by simp;omega)] at hj;cases hj
 . rw[k2 e] at hj;exact no j o hj
theorem wd.bH (T:wd K G.H Hf H a p q h ds xs ys zs d6)(S:cK K G st Hf H dl){n m:Nat}(hn:st[n]?=some (some (.ref a)))(hm:st[m]?=some (some (.ref h)))(no:e7 dl):∃ aB,aI Hf aB/\cK K G st aB H ((dl.set m (.val (.lst zs))).set n (.val (.tup (ds ++ [.lst xs,.lst ys,d6])))):=by
 obtain⟨vh,hh,rh⟩:=T.lh;have sm:aI Hf (upd Hf h (.lst vh)):=aX T.fh;obtain⟨vs,v6,h1,h2,h3⟩:=T.two.tu;obtain⟨vx,hx,rx⟩:=T.two.lp;obtain⟨vy,hy,ry⟩:=T.two.lq;have T1:xh K G.H (upd Hf h (.lst vh)) H a p q ds xs ys d6:=⟨⟨vs,v6,bq sm h1,h2.mono sm,h3.mono sm⟩,⟨vx,hx,rx.mono sm⟩,⟨vy,hy,ry.mono sm⟩,T.two.ne,by rw[ar T.BN];exact T.two.fp,by rw[ar T.BO];exact T.two.fq,T.two.gp,T.two.gq⟩
 obtain⟨dz,s2,S2⟩:=T1.bH (S.BP hm no hh rh T.fh T.gh) hn (qb no m _);exact⟨dz,sm.trans s2,S2⟩
end
def lr (K:PySem.W.Frag)(G:Gr)(E:XK)(dl:Addr->Addr->List Slot)(ds xs ys zs:List Dt)(d6:Dt)(o:Out):TS:=fun D st H=>∃ Hf a p q h,cK K G st Hf H (dl a h)/\wd K G.H Hf H a p q h ds xs ys zs d6/\k8 K G E D Hf o
section
variable {X:Cx}{G:Gr}{E:XK}{dl dl1:Addr->Addr->List Slot}{e b c:Expr}{ds xs ys zs:List Dt}{d d6:Dt}{s:Stmt}{sts bd:List Stmt}{o:Out}{pos pos':Pos}{x:Str}{n m:Nat}
theorem zI (n m:Nat){tj:List Slot}(hN:X.N.Nodup)(Dv:n≠m)(he:PE X e (EY X.K G tj ds xs ys d6))(hm:tj[m]?=some (.own (.lst zs)))(h2:j9 X sts (lr X.K G E (fun a h=>(tj.set n (.val (.cls a))).set m (.val (.cls h))) ds xs ys zs d6 o))(hi:autoParam (X.N[n]?=some x) jp)(hx:autoParam (Loc X.env.scope x) xF)(hs:autoParam (swapsWith e (some (.Name x pos')) pos.line X.env=pure false) jp)(hf:autoParam (X.fn x=true\/X.env.scope.names.lookup x=some .local) xR):l8 X G E tj (.Assign [.Name x pos'] e pos::sts) o:=
 pY (dR (pI hN hi hx he hs hf) h2) fun D st H zq=>zn zq fun Hf S k=>fun a p q aA H1 g1 T=>by
   obtain⟨h,z1,z2,z3,vs,hh,rp⟩:=S.own m _ hm;have S1:cK X.K G (st.set n (some (.ref a))) aA H1 (tj.set n (.val (.cls a))):=(S.grow g1).set (.cls a);have iV:(st.set n (some (.ref a)))[m]?=some (some (.ref h)):=by rw[k2 Dv];exact z1
   have np:p≠h:=fun z=>by rw[<- z,T.gp] at hh;cases hh
   have nq:q≠h:=fun z=>by rw[<- z,T.gq] at hh;cases hh
   exact⟨aA,a,p,q,h,S1.drop iV,⟨⟨T.tu,T.lp,T.lq,T.ne,T.fp,T.fq,S.gr.big.free T.gp,S.gr.big.free T.gq⟩,⟨vs,g1.big _ _ hh,rp.mono g1.bH⟩,np,nq,mP g1 hh z2,z3⟩,k.mono g1.bH⟩
theorem nE (no:∀ a h,e7 (dl a h))(hs:∀ G' a h,ES X G' E (dl a h) s (.nx (dl1 a h)))(h2:j9 X sts (lr X.K G E dl1 ds xs ys zs d6 o)):j9 X (s::sts) (lr X.K G E dl ds xs ys zs d6 o):=by
 have h1:PS X s (fun D st H=>∃ Hf a p q h,cK X.K G st Hf H (dl a h)/\wd X.K G.H Hf H a p q h ds xs ys zs d6/\∀ oq aB H',aI Hf aB->cK X.K G oq aB H' (dl1 a h)->wd X.K G.H aB H' a p q h ds xs ys zs d6->D.nx oq H'):=fun pins s0 st H D I ⟨Hf,a,p,q,h,S,T,k⟩=>by
   have S2:cK X.K ⟨Hf,H⟩ st Hf H (dl a h):=⟨.refl S.sub,S.len,S.val,fun i o z=>absurd z (no a h i o),fun i j o o' b z=>absurd z (no a h i o)⟩
   refine hs ⟨Hf,H⟩ a h pins s0 st H D I ⟨Hf,S2,fun oq aB H' sm S'=>k oq aB H' sm ⟨S.gr.trans S'.gr,S'.len,S'.val,fun i o z=>?_,S'.tf⟩ (T.grow S'.gr)⟩;obtain⟨b,z1,z2,z3,z4⟩:=S'.own i o z;exact⟨b,z1,z2,S.gr.big.free z3,z4⟩
 exact pY (dR h1 h2) fun D st H ⟨Hf,a,p,q,h,S,T,k⟩=>⟨Hf,a,p,q,h,S,T,fun oq aB H' sm S' T'=>⟨aB,a,p,q,h,S',T',k.mono sm⟩⟩
theorem BQ (n m:Nat)(no:∀ a h,e7 (dl a h))(hd:∀ a h,(dl a h)[n]?=some (.val (.cls a)))(hd2:∀ a h,(dl a h)[m]?=some (.val (.cls h)))(hc:∀ a h,EB X G (((dl a h).set m (.val (.lst zs))).set n (.val (.tup (ds ++ [.lst xs,.lst ys,d6])))) c false)(h2:j9 X sts (lr X.K G E dl ds xs ys zs d6 o)):j9 X (.If c bd [] pos::sts) (lr X.K G E dl ds xs ys zs d6 o):=by
 have h1:PS X (.If c bd [] pos) (fun D st H=>∃ Hf a p q h,cK X.K G st Hf H (dl a h)/\wd X.K G.H Hf H a p q h ds xs ys zs d6/\∀ H',cK X.K G st Hf H' (dl a h)->wd X.K G.H Hf H' a p q h ds xs ys zs d6->D.nx st H'):=fun pins s0 st H D I ⟨Hf,a,p,q,h,S,T,k⟩=>by
   obtain⟨v,hv,rv⟩:=S.val n _ (hd a h);cases rv;obtain⟨v,DF,rv⟩:=S.val m _ (hd2 a h);cases rv;obtain⟨aA,_,S1⟩:=T.bH S hv DF (no a h);refine tH (hc a h) (gY (sts:=bd)) qt pins s0 st H D I ⟨aA,S1,fun aB H' g=>rW ?_⟩;exact k H' (S.grow (yt S.sub g)) (T.grow (yt S.sub g))
 exact pY (dR h1 h2) fun D st H ⟨Hf,a,p,q,h,S,T,k⟩=>⟨Hf,a,p,q,h,S,T,fun H' S' T'=>⟨Hf,a,p,q,h,S',T',k⟩⟩
theorem qc {K:W.Frag}{st:L2.St}{Hf H:Hp}{tj:List Slot}{r:Addr}{u:HO}(S:cK K G st Hf H tj)(no:e7 tj)(fr:Hf r=none)(gr:G.H r=none):cK K G st Hf (upd H r u) tj:=
 ⟨⟨fun b u e=>by rw[ar (aJ e gr)];exact S.gr.big _ _ e,S.gr.bH,jx S.sub fr,S.gr.new⟩,S.len,S.val,fun i o z=>absurd z (no i o),fun i j o o' b z=>absurd z (no i o)⟩
theorem sy (n:Nat){i:Int}{pn pq pi apos bJ:Pos}{ji:Nat}(no:∀ a h,e7 (dl a h))(hd:∀ a h,(dl a h)[n]?=some (.val (.cls a)))(hi:i=(ds.length:Int))(he:∀ a h,EE X G (dl a h) e d)(hl:xs.length < sizeLine)(h2:j9 X sts (lr X.K G E dl ds (xs ++ [d]) ys zs d6 o))
   (hN:autoParam (X.N[n]?=some x) jp) (hv:autoParam (sZ X.env.scope x) xL) (iG:autoParam ((x == ("__debug__":Str))=false) z8) (gX:autoParam ((x == ("__classdict__":Str))=false) z8)
   (fz:autoParam (attributeBase (.Subscript (.Name x pn) (.Constant (.int i) ji pi) pq) "append" X.env (eval (.Subscript (.Name x pn) (.Constant (.int i) ji pi) pq) X.env)=eval (.Subscript (.Name x pn) (.Constant (.int i) ji pi) pq) X.env) jp)
   (m9:autoParam (((backTo bJ (starEach [e] X.env)).all (fun x=>!x.1) && (backToKw bJ (keywordEach [] X.env)).all (fun x=>x.1.isSome) && decide ([e].length+([]:List Keyword).length+(if ([]:List Keyword).isEmpty then 0 else 1) < 30))=true) jp)
   (fA:autoParam ((apos.endLine == bJ.line)=true) jp) (iV:autoParam (starEach [e] X.env=(false,eval e X.env)::starEach [] X.env) jp) (hs:autoParam (swapsWith (.Call (.Attribute (.Subscript (.Name x pn) (.Constant (.int i) ji pi) pq) "append" apos) [e] [] bJ) none pos.line X.env=pure false) jp) :
   j9 X (.Expr (.Call (.Attribute (.Subscript (.Name x pn) (.Constant (.int i) ji pi) pq) "append" apos) [e] [] bJ) pos::sts) (lr X.K G E dl ds xs ys zs d6 o):=fun pins s0 st H D I ⟨Hf,a,p,q,h,S,T,k⟩=>by
 obtain⟨v,yX,rv⟩:=S.val n _ (hd a h);cases rv;obtain⟨vs,v6,t1,t2,t3⟩:=T.two.tu;obtain⟨vx,hx,rx⟩:=T.two.lp;have DY:fR (vs ++ [V.ref p,.ref q,v6]) i=some (.ref p):=by
   unfold fR l3;have DZ:=t2.length;rw[hi,<- DZ];simp;rw[if_pos (by omega)];simp
 refine dR (ke (qC PySem.F.plainAttrs_list PySem.F.slot_list_append PySem.F.type_list_append gZ (mI pR (kT (pos:=pn) hN hv iG gX) pF (by intro _ _;rfl)) (ae (he a h) ag iV) fz m9 fA iV rfl) hs) h2 pins s0 st H D I ?_;refine⟨_,yX,a,_,i,_,rfl,rfl,bq S.sub t1,DY,.inl ⟨rfl,vx,.of hx⟩,Hf,S,fun us aA H1 g1 r1=>?_⟩;cases r1 with
 | @cons y _ _ _ r1 tt=>
   cases tt;have T1:=T.grow g1;have S1:=S.grow g1;obtain⟨EZ,Cr,E1⟩:=T1.two.lp;have ev:EZ=vx:=by
     have:=g1.big _ _ hx;rw[Cr] at this;cases this;rfl
   subst ev;refine⟨p,EZ,_,rfl,rfl,Cr,by rw[E1.length];exact hl,?_⟩;obtain⟨vy,hy,ry⟩:=T1.two.lq;obtain⟨vh,hh,rh⟩:=T1.lh;exact⟨aA,a,p,q,h,qc S1 (no a h) T1.two.fp T1.two.gp,⟨⟨T1.two.tu,⟨_,au,E1.append (.cons r1 .nil)⟩,⟨vy,by rw[ar (Ne.symm T1.two.ne)];exact hy,ry⟩,T1.two.ne,T1.two.fp,T1.two.fq,T1.two.gp,T1.two.gq⟩,⟨vh,by rw[ar (Ne.symm T1.BN)];exact hh,rh⟩,T1.BN,T1.BO,T1.fh,T1.gh⟩,k.mono g1.bH⟩
theorem uH (n:Nat){i j:Int}{m':Nat}{pn pq pi ps:Pos}{ji:Nat}(no:∀ a h,e7 (dl a h))(hd:∀ a h,(dl a h)[n]?=some (.val (.cls a)))(hi:i=(ds.length:Int)+1)(he:∀ a h,EE X G (dl a h) e d)(hb:∀ a h,EE X G (dl a h) b (.int j))(hj:l3 ys.length j=some m')(h2:j9 X sts (lr X.K G E dl ds xs (ys.set m' d) zs d6 o))
   (hN:autoParam (X.N[n]?=some x) jp) (hv:autoParam (sZ X.env.scope x) xL) (iG:autoParam ((x == ("__debug__":Str))=false) z8) (gX:autoParam ((x == ("__classdict__":Str))=false) z8)
   (ha:autoParam (∀ v,assign (.Subscript (.Subscript (.Name x pn) (.Constant (.int i) ji pi) pq) b ps) X.env v=(do
     let ov <- holding [v] (eval (.Subscript (.Name x pn) (.Constant (.int i) ji pi) pq) X.env);let iv <- holding [v,ov] (eval b X.env)
     standAt ps
     holding [v,ov,iv] (setItem ov iv v)
     release [v,ov,iv] [])) xz)
   (hs:autoParam (swapsWithSole [.Subscript (.Subscript (.Name x pn) (.Constant (.int i) ji pi) pq) b ps] e pos.line X.env=pure false) jp) (hw:autoParam (swappedStores [.Subscript (.Subscript (.Name x pn) (.Constant (.int i) ji pi) pq) b ps] e X.env=pure none) jp)
   (h1:autoParam ((assignEach [.Subscript (.Subscript (.Name x pn) (.Constant (.int i) ji pi) pq) b ps] X.env).map (·.2)=[assign (.Subscript (.Subscript (.Name x pn) (.Constant (.int i) ji pi) pq) b ps) X.env]) jp) :
   j9 X (.Assign [.Subscript (.Subscript (.Name x pn) (.Constant (.int i) ji pi) pq) b ps] e pos::sts) (lr X.K G E dl ds xs ys zs d6 o):=fun pins s0 st H D I ⟨Hf,a,p,q,h,S,T,k⟩=>by
 obtain⟨v,yX,rv⟩:=S.val n _ (hd a h);cases rv;obtain⟨vs,v6,t1,t2,t3⟩:=T.two.tu;have DY:fR (vs ++ [V.ref p,.ref q,v6]) i=some (.ref q):=by
   unfold fR l3;have DZ:=t2.length;rw[hi,<- DZ];simp;rw[if_pos (by omega)];have:((vs.length:Int)+1).toNat=vs.length+1:=by omega
   simp[this]
 refine dR (mW (he a h) (tK (mI pR (kT (pos:=pn) hN hv iG gX) pF (by intro _ _;rfl)) (hb a h) set_list ha) hs hw h1) h2 pins s0 st H D I ?_;refine⟨Hf,S,fun w aA H1 g1 r1=>?_⟩;have T1:=T.grow g1;have S1:=S.grow g1;refine⟨_,yX,a,_,i,_,rfl,rfl,bq (S.sub.trans g1.big) t1,DY,aA,S1,fun iv dz H2 g2 r2=>?_⟩;cases r2;have T2:=T1.grow g2;have S2:=S1.grow g2;obtain⟨vy,hy,ry⟩:=T2.two.lq;obtain⟨vx,hx,rx⟩:=T2.two.lp;obtain⟨vh,hh,rh⟩:=T2.lh;refine⟨q,vy,j,m',rfl,rfl,hy,by rw[ry.length];exact hj,?_⟩;exact⟨dz,a,p,q,h,qc S2 (no a h) T2.two.fq T2.two.gq,⟨⟨T2.two.tu,⟨vx,by rw[ar T2.two.ne];exact hx,rx⟩,⟨_,au,ry.set (r1.mono g2.bH) m'⟩,T2.two.ne,T2.two.fp,T2.two.fq,T2.two.gp,T2.two.gq⟩,⟨vh,by rw[ar (Ne.symm T2.BO)];exact hh,rh⟩,T2.BN,T2.BO,T2.fh,T2.gh⟩,k.mono (g1.bH.trans g2.bH)⟩
theorem xj (m:Nat){pn apos bJ:Pos}(no:∀ a h,e7 (dl a h))(hd:∀ a h,(dl a h)[m]?=some (.val (.cls h)))(he:∀ a h,EE X G (dl a h) e d)(hl:zs.length < sizeLine)(h2:∀ a h,l8 X G E (dl a h) sts o)
   (hN:autoParam (X.N[m]?=some x) jp) (hv:autoParam (sZ X.env.scope x) xL) (iG:autoParam ((x == ("__debug__":Str))=false) z8) (gX:autoParam ((x == ("__classdict__":Str))=false) z8)
   (fz:autoParam (attributeBase (.Name x pn) "append" X.env (eval (.Name x pn) X.env)=eval (.Name x pn) X.env) jp)
   (m9:autoParam (((backTo bJ (starEach [e] X.env)).all (fun x=>!x.1) && (backToKw bJ (keywordEach [] X.env)).all (fun x=>x.1.isSome) && decide ([e].length+([]:List Keyword).length+(if ([]:List Keyword).isEmpty then 0 else 1) < 30))=true) jp)
   (fA:autoParam ((apos.endLine == bJ.line)=true) jp) (iV:autoParam (starEach [e] X.env=(false,eval e X.env)::starEach [] X.env) jp) (hs:autoParam (swapsWith (.Call (.Attribute (.Name x pn) "append" apos) [e] [] bJ) none pos.line X.env=pure false) jp) :
   j9 X (.Expr (.Call (.Attribute (.Name x pn) "append" apos) [e] [] bJ) pos::sts) (lr X.K G E dl ds xs ys zs d6 o):=fun pins s0 st H D I ⟨Hf,a,p,q,h,S,T,k⟩=>by
 obtain⟨v,yX,rv⟩:=S.val m _ (hd a h);cases rv;obtain⟨vh,hh,rh⟩:=T.lh;refine dR (ke (qC PySem.F.plainAttrs_list PySem.F.slot_list_append PySem.F.type_list_append gZ (kT (pos:=pn) hN hv iG gX) (ae (he a h) ag iV) fz m9 fA iV rfl) hs) (h2 a h) pins s0 st H D I ?_;refine⟨_,yX,.inl ⟨rfl,vh,.of hh⟩,Hf,S,fun us aA H1 g1 r1=>?_⟩;cases r1 with
 | @cons y _ _ _ r1 tt=>
   cases tt;have T1:=T.grow g1;have S1:=S.grow g1;refine⟨h,vh,_,rfl,rfl,g1.big _ _ hh,by rw[rh.length];exact hl,?_⟩;exact⟨aA,qc S1 (no a h) T1.fh T1.gh,k.mono g1.bH⟩
end
end Sg
namespace Pf
open PySem PySem.Spec PyProof.Rows L2 Sg
structure gI (K:W.Frag)(x q:Str)(st:Stmt)(ps:List Str)(f:Addr)(d:FuncData):Prop where
 F:Au K x q st f d
 b:Binds K d ps []
structure D1 (K:W.Frag)(x q:Str)(st:Stmt)(ps:List Str)(f:Addr)(d:FuncData):Prop where
 F:p9 K x q st f d
 b:Binds K d ps []
structure d0 (K:W.Frag)(x:Str)(st:Stmt)(ps:List Str)(f:Addr)(d:FuncData):Prop where
 F:Au K x x st f d
 b:Binds K d ps []
 a:W.nsIn K mainGlobals x=some (some (.ref f))
structure zJ (K:W.Frag)(x:Str)(C:Addr):Prop where
 a:W.nsIn K mainGlobals x=some (some (.ref C))
 cl:mD K C
 kc:W.keepIn K (.ref C)=true
abbrev zK (x q:Str)(st:Stmt)(ps:List Str):Prop:=∀ (kV doc pm:Value) (an:Option Addr) (bh ct:Value) (us:List Value),us.length=ps.length->bindArgs (W.fnOf x q (bf st) (aH st) (ah st) .none kV doc pm an bh ct) ⟨us,[]⟩=pure (ps.zip us)
section
variable {K:W.Frag}{x q:Str}{st:Stmt}{ps:List Str}{f:Addr}{oc:Value}{od an:Option Addr}{l7:Array (Option Value)}{kV doc pm bh ct:Value}
theorem zL (l:K.lookup f=some ⟨oc,od,.func (W.fnOf x q (bf st) (aH st) (ah st) .none kV doc pm an bh ct),l7⟩)(c:W.codeIn K bh q=true)(k:W.keepIn K (.ref f)=true)(b:zK x q st ps):gI K x q st ps f (W.fnOf x q (bf st) (aH st) (ah st) .none kV doc pm an bh ct):=⟨k7 l c k,(k7 l c k).binds b⟩
theorem zM (l:K.lookup f=some ⟨oc,od,.func (W.fnOf x q (bf st) (aH st) (ah st) .none kV doc pm an bh ct),l7⟩)(c:W.codeIn K bh q=true)(k:W.keepIn K (.ref f)=true)(b:zK x q st ps):D1 K x q st ps f (W.fnOf x q (bf st) (aH st) (ah st) .none kV doc pm an bh ct):=⟨kj l c,(k7 l c k).binds b⟩
theorem zN (a:W.nsIn K mainGlobals q=some (some (.ref f)))(l:K.lookup f=some ⟨oc,od,.func (W.fnOf q q (bf st) (aH st) (ah st) .none kV doc pm an bh ct),l7⟩)(c:W.codeIn K bh q=true)(k:W.keepIn K (.ref f)=true)(b:zK q q st ps):d0 K q st ps f (W.fnOf q q (bf st) (aH st) (ah st) .none kV doc pm an bh ct):=⟨k7 l c k,(k7 l c k).binds b,a⟩
theorem zO {C:Addr}(a:W.nsIn K mainGlobals x=some (some (.ref C)))(p:W.plainGet K C Str.empty=true)(h:W.hasDictIn K C=true)(o:W.plainOver K C=true)(s:W.findIn K (.ref C) "__setattr__"=some (some (.builtin "object.__setattr__")))(k:W.keepIn K (.ref C)=true):zJ K x C:=⟨a,⟨p,h,o,s⟩,k⟩
end
theorem eV {N P:List Str}{sc:Scope}(h:(sc.kind == .function && !sc.isCoroutine && !sc.isGenerator && decide N.Nodup && decide (N.take P.length=P) && P.all (fun x=>decide (sc.names.lookup x=some .local\/sc.names.lookup x=some .cell)) && sc.names.all fun y=>decide (y.2≠.free))=true):aq N P sc:=by
 simp only[Io,List.all_eq_true,decide_eq_true_eq,Bool.not_eq_true',beq_iff_eq] at h;exact⟨h.1.1.1.1.1.1,h.1.1.1.1.1.2,h.1.1.1.1.2,h.1.1.1.2,h.1.1.2,h.1.2,h.2⟩
noncomputable def top (i:Nat):Stmt:=PySem.Challenge.pw_strokegrow_k26_tracks_as_drawn.main.body.getD i (.Pass ⟨0,0,0,0⟩)
noncomputable abbrev nF:Stmt:=top 7
noncomputable abbrev nG:Stmt:=top 8
noncomputable abbrev eL:Stmt:=top 9
noncomputable abbrev fX:Stmt:=inClass (top 10) 3
noncomputable abbrev fY:Stmt:=inClass (top 10) 4
noncomputable abbrev iM:Stmt:=inClass (top 10) 5
noncomputable abbrev gR:Stmt:=inClass (top 10) 6
noncomputable abbrev eM:Stmt:=inClass (top 11) 0
noncomputable abbrev cm:Stmt:=inClass (top 11) 1
noncomputable abbrev dX:Stmt:=inClass (top 11) 2
noncomputable abbrev fZ:Stmt:=inClass (top 12) 0
noncomputable abbrev cO:Stmt:=inClass (top 12) 1
noncomputable abbrev fg:Stmt:=inClass (top 12) 2
noncomputable abbrev lu:Stmt:=top 13
noncomputable abbrev f6:Stmt:=inClass (top 15) 0
noncomputable abbrev f7:Stmt:=inClass (top 15) 1
noncomputable abbrev f9:Stmt:=inClass (top 15) 2
noncomputable abbrev dY:Stmt:=inClass (top 15) 3
noncomputable abbrev a3:Stmt:=inClass (top 15) 4
noncomputable abbrev cg:Stmt:=inClass (top 15) 5
noncomputable abbrev a8:Stmt:=inClass (top 15) 6
noncomputable abbrev a9:Stmt:=inClass (top 15) 7
noncomputable abbrev gb:Stmt:=inClass (top 15) 8
noncomputable abbrev eN:Stmt:=inClass (top 15) 9
noncomputable abbrev eO:Stmt:=inClass (top 15) 10
noncomputable abbrev gc:Stmt:=inClass (top 15) 11
noncomputable abbrev nH:Stmt:=top 16
noncomputable abbrev bg:Stmt:=top 17
noncomputable abbrev iN:Stmt:=top 18
noncomputable abbrev jG:Stmt:=top 20
noncomputable abbrev i8:Stmt:=top 21
noncomputable abbrev nI:Stmt:=top 22
noncomputable abbrev qd:Stmt:=top 23
noncomputable abbrev lx:Stmt:=top 24
noncomputable abbrev ly:Stmt:=top 25
noncomputable abbrev lz:Stmt:=top 26
noncomputable abbrev nJ:Stmt:=top 27
noncomputable abbrev jH:Stmt:=top 28
noncomputable abbrev nK:Stmt:=top 29
noncomputable abbrev i9:Stmt:=top 30
noncomputable abbrev uI:Stmt:=top 31
noncomputable abbrev lC:Stmt:=top 32
noncomputable abbrev qe:Stmt:=top 33
noncomputable abbrev nL:Stmt:=top 34
noncomputable abbrev gd:Stmt:=top 35
noncomputable abbrev uJ:Stmt:=top 36
noncomputable abbrev xk:List Str:=["one","other"]
theorem uK:aq xk ["one","other"] (ah nF):=eV (by decide +kernel)
noncomputable abbrev xl:List Str:=["one","other"]
theorem uL:aq xl ["one","other"] (ah nG):=eV (by decide +kernel)
noncomputable abbrev lD:List Str:=["deed"]
theorem j3:aq lD ["deed"] (ah eL):=eV (by decide +kernel)
noncomputable abbrev nM:List Str:=["self","number"]
theorem l9:aq nM ["self","number"] (ah fX):=eV (by decide +kernel)
noncomputable abbrev nO:List Str:=["self","spot","by","turns"]
theorem fj:aq nO ["self","spot","by"] (ah fY):=eV (by decide +kernel)
noncomputable abbrev qf:List Str:=["self","way"]
theorem oX:aq qf ["self","way"] (ah iM):=eV (by decide +kernel)
noncomputable abbrev oY:List Str:=["self","deed","spot","way"]
theorem ja:aq oY ["self","deed","spot","way"] (ah gR):=eV (by decide +kernel)
noncomputable abbrev lE:List Str:=["self"]
theorem j4:aq lE ["self"] (ah eM):=eV (by decide +kernel)
noncomputable abbrev gJ:List Str:=["self","spot"]
theorem gf:aq gJ ["self","spot"] (ah cm):=eV (by decide +kernel)
noncomputable abbrev j5:List Str:=["self","way","spot","x","y"]
theorem dC:aq j5 ["self","way","spot"] (ah dX):=eV (by decide +kernel)
noncomputable abbrev nP:List Str:=["self"]
theorem ma:aq nP ["self"] (ah fZ):=eV (by decide +kernel)
noncomputable abbrev iq:List Str:=["self","spot"]
theorem gS:aq iq ["self","spot"] (ah cO):=eV (by decide +kernel)
noncomputable abbrev me:List Str:=["self","way","spot","x","y"]
theorem eP:aq me ["self","way","spot"] (ah fg):=eV (by decide +kernel)
noncomputable abbrev uM:List Str:=["ways"]
theorem sA:aq uM ["ways"] (ah lu):=eV (by decide +kernel)
noncomputable abbrev nQ:List Str:=["self","pen","deed_count","last_way","last_spot","stroke_count","reaches","touches","crosses"]
theorem mf:aq nQ ["self","pen","deed_count","last_way","last_spot","stroke_count","reaches","touches","crosses"] (ah f6):=eV (by decide +kernel)
noncomputable abbrev nR:List Str:=["self"]
theorem mh:aq nR ["self"] (ah f7):=eV (by decide +kernel)
noncomputable abbrev nS:List Str:=["self"]
theorem mi:aq nS ["self"] (ah f9):=eV (by decide +kernel)
noncomputable abbrev j6:List Str:=["self"]
theorem jI:aq j6 ["self"] (ah dY):=eV (by decide +kernel)
noncomputable abbrev mj:List Str:=["self","first"]
theorem lF:aq mj ["self","first"] (ah a3):=eV (by decide +kernel)
noncomputable abbrev gE:List Str:=["self","numbers","first"]
theorem jJ:aq gE ["self","numbers","first"] (ah cg):=eV (by decide +kernel)
noncomputable abbrev ml:List Str:=["self","first"]
theorem lG:aq ml ["self","first"] (ah a8):=eV (by decide +kernel)
noncomputable abbrev mm:List Str:=["self","first"]
theorem lH:aq mm ["self","first"] (ah a9):=eV (by decide +kernel)
noncomputable abbrev nT:List Str:=["self"]
theorem mn:aq nT ["self"] (ah gb):=eV (by decide +kernel)
noncomputable abbrev lI:List Str:=["self"]
theorem j7:aq lI ["self"] (ah eN):=eV (by decide +kernel)
noncomputable abbrev lJ:List Str:=["self","other","pen","shift","reaches","touches","way"]
theorem gF:aq lJ ["self","other"] (ah eO):=eV (by decide +kernel)
noncomputable abbrev gi:List Str:=["self"]
theorem iy:aq gi ["self"] (ah gc):=eV (by decide +kernel)
noncomputable abbrev xm:List Str:=["pen"]
theorem uN:aq xm ["pen"] (ah nH):=eV (by decide +kernel)
noncomputable abbrev dZ:List Str:=["pen","deed","behind","spot","reaches","touches"]
theorem fD:aq dZ ["pen","deed"] (ah bg):=eV (by decide +kernel)
noncomputable abbrev qg:List Str:=["pen","deeds","track","deed"]
theorem jV:aq qg ["pen","deeds"] (ah iN):=eV (by decide +kernel)
noncomputable abbrev sC:List Str:=["_law_script","_law_k","_law_cell","_law_low"]
theorem gj:aq sC ["_law_script","_law_k"] (ah jG):=eV (by decide +kernel)
noncomputable abbrev qU:List Str:=["_law_script","_law_first","_law_last"]
theorem uO:aq qU ["_law_script","_law_first","_law_last"] (ah i8):=eV (by decide +kernel)
noncomputable abbrev xn:List Str:=["_law_found"]
theorem uP:aq xn ["_law_found"] (ah nI):=eV (by decide +kernel)
noncomputable abbrev zP:List Str:=["_law_cell","_law_prime","_law_many"]
theorem xp:aq zP ["_law_cell","_law_prime","_law_many"] (ah qd):=eV (by decide +kernel)
noncomputable abbrev uQ:List Str:=["_law_one","_law_other"]
theorem sD:aq uQ ["_law_one","_law_other"] (ah lx):=eV (by decide +kernel)
noncomputable abbrev uR:List Str:=["_law_one","_law_other"]
theorem sE:aq uR ["_law_one","_law_other"] (ah ly):=eV (by decide +kernel)
noncomputable abbrev uS:List Str:=["_law_ways","_law_spot","_law_by","_law_x","_law_y","_law_some"]
theorem de:aq uS ["_law_ways","_law_spot","_law_by"] (ah lz):=eV (by decide +kernel)
noncomputable abbrev xq:List Str:=["_law_ways","_law_way","_law_spot","_law_x","_law_y","_law_some"]
theorem dU:aq xq ["_law_ways","_law_way","_law_spot"] (ah nJ):=eV (by decide +kernel)
noncomputable abbrev sF:List Str:=["_law_found","_law_due"]
theorem qh:aq sF ["_law_found","_law_due"] (ah jH):=eV (by decide +kernel)
noncomputable abbrev xu:List Str:=["_law_ways","_law_deed","_law_spot","_law_way"]
theorem uT:aq xu ["_law_ways","_law_deed","_law_spot","_law_way"] (ah nK):=eV (by decide +kernel)
noncomputable abbrev qV:List Str:=["_law_cells_here","_law_some"]
theorem oZ:aq qV ["_law_cells_here"] (ah i9):=eV (by decide +kernel)
noncomputable abbrev BR:List Str:=["_law_ways","_law_deeds_here","_law_spots","_law_way","_law_deed","_law_spot"]
theorem uU:aq BR ["_law_ways","_law_deeds_here"] (ah uI):=eV (by decide +kernel)
noncomputable abbrev uV:List Str:=["_law_ways","_law_deeds_here","_law_spots","_law_way","_law_reach","_law_touch","_law_one","_law_far","_law_at","_law_k","_law_area"]
theorem mQ:aq uV ["_law_ways","_law_deeds_here"] (ah lC):=eV (by decide +kernel)
noncomputable abbrev zQ:List Str:=["_law_found","_law_due","_law_k"]
theorem qW:aq zQ ["_law_found","_law_due"] (ah qe):=eV (by decide +kernel)
noncomputable abbrev xv:List Str:=["_law_found","_law_due","_law_k"]
theorem o3:aq xv ["_law_found","_law_due"] (ah nL):=eV (by decide +kernel)
noncomputable abbrev nU:List Str:=["_law_track","_law_head"]
theorem iz:aq nU ["_law_track"] (ah gd):=eV (by decide +kernel)
noncomputable abbrev BS:List Str:=["_law_script","_law_ways","_law_deeds_here","_law_due","_law_handed","_law_track","_law_found","_law_closed"]
theorem uW:aq BS ["_law_script"] (ah uJ):=eV (by decide +kernel)
structure iC where
 (kl km di bK bL cz b6 bV aM bA cC aR ck jb cD cE cF bB ba bC bb bc cG bW bX cb ko cY gk hB kr ku nV jc jd je kv hE ky kz qX jf f_list kA d3 jg:Addr)
 (kB kC dj d4 d5 gm e8 dk bu cZ d7 bS dH jh d8 d9 ee c3 dI c4 dJ dM ef dm dn dq kD c5 gu hT kE kF nW jj jk jl kG hU kH kI qY jm nX kJ eg lK:FuncData)
 (dN dO dP:Tok)
 (aC aW aj e9 bp:Addr)
 K:W.Frag
structure Txt (K:W.Frag)(mg:Str->Option Value)(t:iC):Prop where
 hK:t.K=K
 g:∀ {x:Str} {v:Value},W.nsIn K mainGlobals x=some (some v)->mg x=some v
 gn:∀ {x:Str},W.nsIn K mainGlobals x=some none->mg x=none
 dD:zJ K "Quarter" t.aC
 gv:zJ K "Sixth" t.aW
 ao:zJ K "Track" t.aj
 iO:zu K t.aC
 lL:zu K t.aW
 BU:Bu K t.aj
 lM:L2.Mk K t.aj t.cD
 bE:cM K t.aj "drawer"
 aK:cM K t.aj "deed_count"
 aL:cM K t.aj "last_way"
 aD:cM K t.aj "last_spot"
 aY:cM K t.aj "stroke_count"
 aZ:cM K t.aj "reaches"
 bY:cM K t.aj "touches"
 bZ:cM K t.aj "crosses"
 qZ:mg "DEEDS"=some (.ref t.e9)
 q8:∀ H,Rep K H (.ref t.e9) (.tup [.str "stroke",.str "step",.str "left",.str "right",.str "rest"])
 iD:mg "GOING_DEEDS"=some (.ref t.bp)
 iE:∀ H,Rep K H (.ref t.bp) (.tup [.str "stroke",.str "step"])
 hV:d0 K "added" nF ["one","other"] t.kl t.kB
 hW:d0 K "cross" nG ["one","other"] t.km t.kC
 b0:d0 K "turn_of_deed" eL ["deed"] t.di t.dj
 cn:Meth K t.aC "way_of" t.bK
 cP:Meth K t.aW "way_of" t.bK
 eh:gI K "way_of" "Pen.way_of" fX ["self","number"] t.bK t.d4
 cq:Meth K t.aC "turned" t.bL
 cQ:Meth K t.aW "turned" t.bL
 ei:gI K "turned" "Pen.turned" fY ["self","spot","by"] t.bL t.d5
 cR:Meth K t.aC "step" t.cz
 dt:Meth K t.aW "step" t.cz
 gw:gI K "step" "Pen.step" iM ["self","way"] t.cz t.gm
 cA:Meth K t.aC "after" t.b6
 dc:Meth K t.aW "after" t.b6
 fb:gI K "after" "Pen.after" gR ["self","deed","spot","way"] t.b6 t.e8
 b3:Meth K t.aC "ways" t.bV
 du:gI K "ways" "Quarter.ways" eM ["self"] t.bV t.dk
 a0:Meth K t.aC "turned_left" t.aM
 bw:gI K "turned_left" "Quarter.turned_left" cm ["self","spot"] t.aM t.bu
 bR:Meth K t.aC "along" t.bA
 c6:gI K "along" "Quarter.along" dX ["self","way","spot"] t.bA t.cZ
 cS:Meth K t.aW "ways" t.cC
 el:gI K "ways" "Sixth.ways" fZ ["self"] t.cC t.d7
 bt:Meth K t.aW "turned_left" t.aR
 bT:gI K "turned_left" "Sixth.turned_left" cO ["self","spot"] t.aR t.bS
 cB:Meth K t.aW "along" t.ck
 dQ:gI K "along" "Sixth.along" fg ["self","way","spot"] t.ck t.dH
 fE:d0 K "pen_of" lu ["ways"] t.jb t.jh
 eo:D1 K "__init__" "Track.__init__" f6 ["self","pen","deed_count","last_way","last_spot","stroke_count","reaches","touches","crosses"] t.cD t.d8
 cT:Meth K t.aj "many" t.cE
 eu:gI K "many" "Track.many" f7 ["self"] t.cE t.d9
 cU:Meth K t.aj "turn" t.cF
 eA:gI K "turn" "Track.turn" f9 ["self"] t.cF t.ee
 cc:Meth K t.aj "strokes" t.bB
 c7:gI K "strokes" "Track.strokes" dY ["self"] t.bB t.c3
 bM:Meth K t.aj "shift" t.ba
 lN:Binds K t.dI ["self","first"] [.int 0 t.dN]
 mq:p9 K "shift" "Track.shift" a3 t.ba t.dI
 we:W.keepIn K (.ref t.ba)=true
 mv:Binds K t.dI ["self","first"] []
 cf:Meth K t.aj "by_ways" t.bC
 c8:gI K "by_ways" "Track.by_ways" cg ["self","numbers","first"] t.bC t.c4
 bN:Meth K t.aj "reach" t.bb
 lO:Binds K t.dJ ["self","first"] [.int 0 t.dO]
 mw:p9 K "reach" "Track.reach" a8 t.bb t.dJ
 wg:W.keepIn K (.ref t.bb)=true
 mx:Binds K t.dJ ["self","first"] []
 bO:Meth K t.aj "touch" t.bc
 lP:Binds K t.dM ["self","first"] [.int 0 t.dP]
 my:p9 K "touch" "Track.touch" a9 t.bc t.dM
 wj:W.keepIn K (.ref t.bc)=true
 mz:Binds K t.dM ["self","first"] []
 cV:Meth K t.aj "area" t.cG
 eB:gI K "area" "Track.area" gb ["self"] t.cG t.ef
 cu:Meth K t.aj "closed" t.bW
 dv:gI K "closed" "Track.closed" eN ["self"] t.bW t.dm
 cv:Meth K t.aj "joined" t.bX
 dw:gI K "joined" "Track.joined" eO ["self","other"] t.bX t.dn
 bU:Meth K t.aj "told" t.cb
 cH:gI K "told" "Track.told" gc ["self"] t.cb t.dq
 hX:d0 K "still" nH ["pen"] t.ko t.kD
 bF:d0 K "track_of_deed" bg ["pen","deed"] t.cY t.c5
 dE:d0 K "track_of" iN ["pen","deeds"] t.gk t.gu
 eD:d0 K "_law_cell_at" jG ["_law_script","_law_k"] t.hB t.hT
 hZ:d0 K "_law_cells" i8 ["_law_script","_law_first","_law_last"] t.kr t.kE
 h9:d0 K "_law_whole" nI ["_law_found"] t.ku t.kF
 jK:d0 K "_law_pick" qd ["_law_cell","_law_prime","_law_many"] t.nV t.nW
 fF:d0 K "_law_added" lx ["_law_one","_law_other"] t.jc t.jj
 fG:d0 K "_law_cross" ly ["_law_one","_law_other"] t.jd t.jk
 fH:d0 K "_law_turned" lz ["_law_ways","_law_spot","_law_by"] t.je t.jl
 ia:d0 K "_law_along" nJ ["_law_ways","_law_way","_law_spot"] t.kv t.kG
 eE:d0 K "_law_is_spot" jH ["_law_found","_law_due"] t.hE t.hU
 ib:d0 K "_law_after" nK ["_law_ways","_law_deed","_law_spot","_law_way"] t.ky t.kH
 ie:d0 K "_law_deeds" i9 ["_law_cells_here"] t.kz t.kI
 mR:d0 K "_law_run" uI ["_law_ways","_law_deeds_here"] t.qX t.qY
 fJ:d0 K "_law_record" lC ["_law_ways","_law_deeds_here"] t.jf t.jm
 jL:d0 K "_law_list" qe ["_law_found","_law_due"] t.f_list t.nX
 ig:d0 K "_law_alike" nL ["_law_found","_law_due"] t.kA t.kJ
 cI:d0 K "_law_by_methods" gd ["_law_track"] t.d3 t.eg
 o4:d0 K "law" uJ ["_law_script"] t.jg t.lK
 c9:mg "range"=none
 fe:mg "len"=none
 bP:mg "isinstance"=none
 uX:mg "int"=none
 nY:mg "bool"=none
 nZ:mg "list"=none
 uY:mg "max"=none
 q9:mg "min"=none
 kK:mg "tuple"=none
theorem zR {K:W.Frag}{h:Heap}{mg:Str->Option Value}(X:K.In h)(G:h.Ns mainGlobals mg){kl km di bK bL cz b6 bV aM bA cC aR ck jb cD cE cF bB ba bC bb bc cG bW bX cb ko cY gk hB kr ku nV jc jd je kv hE ky kz qX jf f_list kA d3 jg aC aW aj e9 bp:Addr}{kB kC dj d4 d5 gm e8 dk bu cZ d7 bS dH jh d8 d9 ee c3 c4 ef dm dn dq kD c5 gu hT kE kF nW jj jk jl kG hU kH kI qY jm nX kJ eg lK:FuncData}{dN dO dP:Tok}{y0:Option Addr}{y1:Nat}{y2:Array (Option Value)}{uZ u0 u5 u6 u7:Tok}{y3:Option Addr}{y4:Nat}{y5:Array (Option Value)}{lQ lR:Tok}{y6 y7:Option Addr}{y8:Array (Option Value)}{y9 E2 E3 E4 D2 E5:Value}{fk:Addr}{GA:Option Addr}{GB:Value}{GC:Nat}{GD:Array (Option Value)}{GG E6:Option Addr}{GH:Array (Option Value)}{GI E7 E8 E9 D3 Fb:Value}{fm:Addr}{GJ:Option Addr}{GK:Value}{GL:Nat}{GN:Array (Option Value)}{GO Fc:Option Addr}{GP:Array (Option Value)}{GQ Fd Fe Ff D4 Fg:Value}{fo:Addr}{GR:Option Addr}{GS:Value}{GU:Nat}{GV:Array (Option Value)}(dD:zJ K "Quarter" aC)(gv:zJ K "Sixth" aW)(ao:zJ K "Track" aj)(iO:zu K aC)(lL:zu K aW)(u9:W.findIn K (.ref aj) "__class__"=some (some (.builtin "object.__class__")))(va:W.specialIn K (.builtin "object.__class__") "__get__"=some (some (.builtin "getset_descriptor.__get__")))(vb:W.takesIn K (.builtin "object.__class__")=some true)(vc:W.mroIn K aj (.type "object")=some true)(lM:L2.Mk K aj cD)(bE:W.findIn K (.ref aj) "drawer"=some none)(aK:W.findIn K (.ref aj) "deed_count"=some none)(aL:W.findIn K (.ref aj) "last_way"=some none)(aD:W.findIn K (.ref aj) "last_spot"=some none)(aY:W.findIn K (.ref aj) "stroke_count"=some none)(aZ:W.findIn K (.ref aj) "reaches"=some none)(bY:W.findIn K (.ref aj) "touches"=some none)(bZ:W.findIn K (.ref aj) "crosses"=some none)(vd:W.nsIn K mainGlobals "DEEDS"=some (some (.ref e9)))(ve:K.lookup e9=some ⟨.type "tuple",y0,.seq #[.str "stroke" uZ,.str "step" u0,.str "left" u5,.str "right" u6,.str "rest" u7] y1,y2⟩)(lS:W.nsIn K mainGlobals "GOING_DEEDS"=some (some (.ref bp)))(lT:K.lookup bp=some ⟨.type "tuple",y3,.seq #[.str "stroke" lQ,.str "step" lR] y4,y5⟩)(hV:d0 K "added" nF ["one","other"] kl kB)(hW:d0 K "cross" nG ["one","other"] km kC)(b0:d0 K "turn_of_deed" eL ["deed"] di dj)(cn:Meth K aC "way_of" bK)(cP:Meth K aW "way_of" bK)(eh:gI K "way_of" "Pen.way_of" fX ["self","number"] bK d4)(cq:Meth K aC "turned" bL)(cQ:Meth K aW "turned" bL)(ei:gI K "turned" "Pen.turned" fY ["self","spot","by"] bL d5)(cR:Meth K aC "step" cz)(dt:Meth K aW "step" cz)(gw:gI K "step" "Pen.step" iM ["self","way"] cz gm)(cA:Meth K aC "after" b6)(dc:Meth K aW "after" b6)(fb:gI K "after" "Pen.after" gR ["self","deed","spot","way"] b6 e8)(b3:Meth K aC "ways" bV)(du:gI K "ways" "Quarter.ways" eM ["self"] bV dk)(a0:Meth K aC "turned_left" aM)(bw:gI K "turned_left" "Quarter.turned_left" cm ["self","spot"] aM bu)(bR:Meth K aC "along" bA)(c6:gI K "along" "Quarter.along" dX ["self","way","spot"] bA cZ)(cS:Meth K aW "ways" cC)(el:gI K "ways" "Sixth.ways" fZ ["self"] cC d7)(bt:Meth K aW "turned_left" aR)(bT:gI K "turned_left" "Sixth.turned_left" cO ["self","spot"] aR bS)(cB:Meth K aW "along" ck)(dQ:gI K "along" "Sixth.along" fg ["self","way","spot"] ck dH)(fE:d0 K "pen_of" lu ["ways"] jb jh)(eo:D1 K "__init__" "Track.__init__" f6 ["self","pen","deed_count","last_way","last_spot","stroke_count","reaches","touches","crosses"] cD d8)(cT:Meth K aj "many" cE)(eu:gI K "many" "Track.many" f7 ["self"] cE d9)(cU:Meth K aj "turn" cF)(eA:gI K "turn" "Track.turn" f9 ["self"] cF ee)(cc:Meth K aj "strokes" bB)(c7:gI K "strokes" "Track.strokes" dY ["self"] bB c3)(bM:Meth K aj "shift" ba)(GW:K.lookup ba=some ⟨y9,y6,.func (W.fnOf "shift" "Track.shift" (bf a3) (aH a3) (ah a3) (.ref fk) E2 E3 E4 y7 D2 E5),y8⟩)(Fh:K.lookup fk=some ⟨GB,GA,.seq #[.int 0 dN] GC,GD⟩)(GX:W.codeIn K D2 "Track.shift"=true)(GY:W.keepIn K (.ref ba)=true)(cf:Meth K aj "by_ways" bC)(c8:gI K "by_ways" "Track.by_ways" cg ["self","numbers","first"] bC c4)(bN:Meth K aj "reach" bb)(GZ:K.lookup bb=some ⟨GI,GG,.func (W.fnOf "reach" "Track.reach" (bf a8) (aH a8) (ah a8) (.ref fm) E7 E8 E9 E6 D3 Fb),GH⟩)(Fi:K.lookup fm=some ⟨GK,GJ,.seq #[.int 0 dO] GL,GN⟩)(G1:W.codeIn K D3 "Track.reach"=true)(G2:W.keepIn K (.ref bb)=true)(bO:Meth K aj "touch" bc)(G3:K.lookup bc=some ⟨GQ,GO,.func (W.fnOf "touch" "Track.touch" (bf a9) (aH a9) (ah a9) (.ref fo) Fd Fe Ff Fc D4 Fg),GP⟩)(Fj:K.lookup fo=some ⟨GS,GR,.seq #[.int 0 dP] GU,GV⟩)(G4:W.codeIn K D4 "Track.touch"=true)(G5:W.keepIn K (.ref bc)=true)(cV:Meth K aj "area" cG)(eB:gI K "area" "Track.area" gb ["self"] cG ef)(cu:Meth K aj "closed" bW)(dv:gI K "closed" "Track.closed" eN ["self"] bW dm)(cv:Meth K aj "joined" bX)(dw:gI K "joined" "Track.joined" eO ["self","other"] bX dn)(bU:Meth K aj "told" cb)(cH:gI K "told" "Track.told" gc ["self"] cb dq)(hX:d0 K "still" nH ["pen"] ko kD)(bF:d0 K "track_of_deed" bg ["pen","deed"] cY c5)(dE:d0 K "track_of" iN ["pen","deeds"] gk gu)(eD:d0 K "_law_cell_at" jG ["_law_script","_law_k"] hB hT)(hZ:d0 K "_law_cells" i8 ["_law_script","_law_first","_law_last"] kr kE)(h9:d0 K "_law_whole" nI ["_law_found"] ku kF)(jK:d0 K "_law_pick" qd ["_law_cell","_law_prime","_law_many"] nV nW)(fF:d0 K "_law_added" lx ["_law_one","_law_other"] jc jj)(fG:d0 K "_law_cross" ly ["_law_one","_law_other"] jd jk)(fH:d0 K "_law_turned" lz ["_law_ways","_law_spot","_law_by"] je jl)(ia:d0 K "_law_along" nJ ["_law_ways","_law_way","_law_spot"] kv kG)(eE:d0 K "_law_is_spot" jH ["_law_found","_law_due"] hE hU)(ib:d0 K "_law_after" nK ["_law_ways","_law_deed","_law_spot","_law_way"] ky kH)(ie:d0 K "_law_deeds" i9 ["_law_cells_here"] kz kI)(mR:d0 K "_law_run" uI ["_law_ways","_law_deeds_here"] qX qY)(fJ:d0 K "_law_record" lC ["_law_ways","_law_deeds_here"] jf jm)(jL:d0 K "_law_list" qe ["_law_found","_law_due"] f_list nX)(ig:d0 K "_law_alike" nL ["_law_found","_law_due"] kA kJ)(cI:d0 K "_law_by_methods" gd ["_law_track"] d3 eg)(o4:d0 K "law" uJ ["_law_script"] jg lK)(c9:W.nsIn K mainGlobals "range"=some none)(fe:W.nsIn K mainGlobals "len"=some none)(bP:W.nsIn K mainGlobals "isinstance"=some none)(uX:W.nsIn K mainGlobals "int"=some none)(nY:W.nsIn K mainGlobals "bool"=some none)(nZ:W.nsIn K mainGlobals "list"=some none)(uY:W.nsIn K mainGlobals "max"=some none)(q9:W.nsIn K mainGlobals "min"=some none)(kK:W.nsIn K mainGlobals "tuple"=some none):∃ t,Txt K mg t/\t.jg=jg:=
 ⟨⟨kl,km,di,bK,bL,cz,b6,bV,aM,bA,cC,aR,ck,jb,cD,cE,cF,bB,ba,bC,bb,bc,cG,bW,bX,cb,ko,cY,gk,hB,kr,ku,nV,jc,jd,je,kv,hE,ky,kz,qX,jf,f_list,kA,d3,jg,kB,kC,dj,d4,d5,gm,e8,dk,bu,cZ,d7,bS,dH,jh,d8,d9,ee,c3,(W.fnOf "shift" "Track.shift" (bf a3) (aH a3) (ah a3) (.ref fk) E2 E3 E4 y7 D2 E5),c4,(W.fnOf "reach" "Track.reach" (bf a8) (aH a8) (ah a8) (.ref fm) E7 E8 E9 E6 D3 Fb),(W.fnOf "touch" "Track.touch" (bf a9) (aH a9) (ah a9) (.ref fo) Fd Fe Ff Fc D4 Fg),ef,dm,dn,dq,kD,c5,gu,hT,kE,kF,nW,jj,jk,jl,kG,hU,kH,kI,qY,jm,nX,kJ,eg,lK,dN,dO,dP,aC,aW,aj,e9,bp,K⟩,⟨rfl,
   W.mg_of X G,
   W.mg_none_of X G,
   dD,
   gv,
   ao,
   iO,
   lL,
   ⟨ao.cl,u9,va,vb,vc⟩,
   lM,
   bE,
   aK,
   aL,
   aD,
   aY,
   aZ,
   bY,
   bZ,
   W.mg_of X G vd,
   fun H=>.tup (vs:=[.str "stroke",.str "step",.str "left",.str "right",.str "rest"]) (.inr ⟨_,_,_,ve,rfl,rfl,Iv rfl,.cons ⟨_,rfl⟩ (.cons ⟨_,rfl⟩ (.cons ⟨_,rfl⟩ (.cons ⟨_,rfl⟩ (.cons ⟨_,rfl⟩ (.nil)))))⟩) (.cons (.str _) (.cons (.str _) (.cons (.str _) (.cons (.str _) (.cons (.str _) (.nil)))))),
   W.mg_of X G lS,
   fun H=>.tup (vs:=[.str "stroke",.str "step"]) (.inr ⟨_,_,_,lT,rfl,rfl,Iv rfl,.cons ⟨_,rfl⟩ (.cons ⟨_,rfl⟩ (.nil))⟩) (.cons (.str _) (.cons (.str _) (.nil))),
   hV,
   hW,
   b0,
   cn,
   cP,
   eh,
   cq,
   cQ,
   ei,
   cR,
   dt,
   gw,
   cA,
   dc,
   fb,
   b3,
   du,
   a0,
   bw,
   bR,
   c6,
   cS,
   el,
   bt,
   bT,
   cB,
   dQ,
   fE,
   eo,
   cT,
   eu,
   cU,
   eA,
   cc,
   c7,
   bM,
   fun s us X hl=>by obtain⟨z,rfl⟩:=p8 hl;exact BindsTo.of_defaults rfl (X _ _ Fh) rfl rfl rfl,
   kj (st:=a3) GW GX,
   GY,
   fun s us X hl=>by obtain⟨z,y,rfl⟩:=nz hl;exact BindsTo.of_defaults rfl (X _ _ Fh) rfl rfl rfl,
   cf,
   c8,
   bN,
   fun s us X hl=>by obtain⟨z,rfl⟩:=p8 hl;exact BindsTo.of_defaults rfl (X _ _ Fi) rfl rfl rfl,
   kj (st:=a8) GZ G1,
   G2,
   fun s us X hl=>by obtain⟨z,y,rfl⟩:=nz hl;exact BindsTo.of_defaults rfl (X _ _ Fi) rfl rfl rfl,
   bO,
   fun s us X hl=>by obtain⟨z,rfl⟩:=p8 hl;exact BindsTo.of_defaults rfl (X _ _ Fj) rfl rfl rfl,
   kj (st:=a9) G3 G4,
   G5,
   fun s us X hl=>by obtain⟨z,y,rfl⟩:=nz hl;exact BindsTo.of_defaults rfl (X _ _ Fj) rfl rfl rfl,
   cV,
   eB,
   cu,
   dv,
   cv,
   dw,
   bU,
   cH,
   hX,
   bF,
   dE,
   eD,
   hZ,
   h9,
   jK,
   fF,
   fG,
   fH,
   ia,
   eE,
   ib,
   ie,
   mR,
   fJ,
   jL,
   ig,
   cI,
   o4,
   W.mg_none_of X G c9,
   W.mg_none_of X G fe,
   W.mg_none_of X G bP,
   W.mg_none_of X G uX,
   W.mg_none_of X G nY,
   W.mg_none_of X G nZ,
   W.mg_none_of X G uY,
   W.mg_none_of X G q9,
   W.mg_none_of X G kK⟩,rfl⟩
theorem zS {K:W.Frag}{mg:Str->Option Value}{t:iC}(T:Txt K mg t)(s:Shared)(u:Value):BindsTo s t.lK ⟨[u],[]⟩ [("_law_script",u)]:=by
 obtain⟨oc,od,kV,doc,pm,an,bh,ct,l7,e,lk,gX⟩:=T.o4.F.ex;rw[e];exact .of_eq rfl
abbrev CX:jr:=Ey
noncomputable def MM:Int:=2305843009213693951
noncomputable def cellAt (ns:List Int)(k:Nat):Int:=ns.getD k 0 % 10 ^ 60 / MM * MM+(ns.getD k 0+7919 * ((k:Int)+1)) * 6364136223846793005 % MM
noncomputable def BB:Int:=10 ^ 60 * 10 ^ 60 * 10 ^ 60
noncomputable def number (c:Int):Int:=if c % 3=0 then c / 3 % 41 - 20 else if c % 3=1 then c * 48271 % (2 * 10 ^ 60+1) - 10 ^ 60 else c * c * 69621 % (2 * BB+1) - BB
theorem rb {m n:Nat}{a b:Int}(ha:a.natAbs < 2 ^ m)(hb:b.natAbs < 2 ^ n)(h:m+n<=134217728):IntMulOk a b:=IntMulOk.of_le (PySem.intBits_le_iff.mpr ha) (PySem.intBits_le_iff.mpr hb) h
noncomputable def wy (six:Bool):Int:=if six then 6 else 4
noncomputable def tl (six:Bool)(p:Int×Int):Int×Int:=if six then (-p.2,p.1+p.2) else (-p.2,p.1)
noncomputable def tn (six:Bool):Nat->Int×Int->Int×Int
 | 0,p=>p
 | n+1,p=>tl six (tn six n p)
noncomputable def sp (p:Int×Int):Dt:=.tup [.int p.1,.int p.2]
theorem dy (six:Bool):0 < wy six:=by cases six <;> decide
noncomputable def iC.pc (t:iC)(six:Bool):Addr:=if six then t.aW else t.aC
abbrev Rl:=List Dt->Res->Prop
def zT (t:iC)(six:Bool):Rl:=fun ds r=>ds=[.obj (t.pc six) []]/\r=.ret (.int (wy six))
def zU (t:iC)(six:Bool):Rl:=fun ds r=>∃ p,ds=[.obj (t.pc six) [],sp p]/\r=.ret (sp (tl six p))
def vf (t:iC)(six:Bool):Rl:=fun ds r=>∃ z,ds=[.obj (t.pc six) [],.int z]/\r=.ret (.int (z % wy six))
def vg (t:iC)(six:Bool):Rl:=fun ds r=>∃ p b,ds=[.obj (t.pc six) [],sp p,.int b]/\r=.ret (sp (tn six (b % wy six).toNat p))
def vi (t:iC):Rl:=fun ds r=>∃ six,ds=[.int (wy six)]/\r=.ret (.obj (t.pc six) [])
def sG:Rl:=fun ds r=>∃ (ns:List Int) (k:Nat),ds=[.kh ns,.int k]/\k<=100/\r=.ret (.int (cellAt ns k))
def xw:Rl:=fun ds r=>∃ z,ds=[.int z]/\r=.ret (.bl true)
def sH:Rl:=fun ds r=>∃ six p b,ds=[.int (wy six),sp p,.int b]/\r=.ret (sp (tn six (b % wy six).toNat p))
def sI:Rl:=fun ds r=>∃ p,ds=[sp p,sp p]/\r=.ret (.bl true)
def BV:Rl:=fun ds r=>∃ ns:List Int,ns.length<=63/\ds=[.kh ns]/\r=.ret (.bl true)
def vj (K:W.Frag):Sp:=se K 1 BV
theorem zV {K:W.Frag}{H:Hp}{a:Addr}{ns:List Int}(hl:ns.length<=63)(hS:jW K H a (ns.map V.int)):vj K [.ref a] H (fun v _=>v=.bl true) fun _ _ _=>False:=
 ⟨H,[.kh ns],.ret (.bl true),aI.refl H,.cons (.kh hS) .nil,rfl,⟨ns,hl,rfl,rfl⟩,fun v aB H' g r=>by cases r;rfl⟩
variable {P:Program}{w:World}{K:W.Frag}{mg:Str->Option Value}{base:Heap}{t:iC}
theorem kL (T:Txt K mg t)(six:Bool):MF P w K mg base CX 1 (t.pc six) "ways" 1 (zT t six):=by
 cases six with
 | false=>
   refine⟨T.dD.cl,_,_,_,fu T.du.F j4 rfl fun bh A outer s H E G ds r hr hl hR=>?_,T.b3,T.du.b⟩;obtain⟨rfl,rfl⟩:=hR;exact⟨_,.rt _,ak (ax af)⟩
 | true=>
   refine⟨T.gv.cl,_,_,_,fu T.el.F ma rfl fun bh A outer s H E G ds r hr hl hR=>?_,T.cS,T.el.b⟩;obtain⟨rfl,rfl⟩:=hR;exact⟨_,.rt _,ak (ax af)⟩
theorem xx (T:Txt K mg t)(six:Bool):MF P w K mg base CX 1 (t.pc six) "turned_left" 2 (zU t six):=by
 cases six with
 | false=>
   refine⟨T.dD.cl,_,_,_,fu T.bw.F gf rfl fun bh A outer s H E G ds r hr hl hR=>?_,T.a0,T.bw.b⟩;obtain⟨p,rfl,rfl⟩:=hR;exact⟨_,.rt _,(ak (ax (aE (ae (aQ (av (aa 1 rfl) af rfl)) (ae (av (aa 1 rfl) af rfl) ag)) AA3)))⟩
 | true=>
   refine⟨T.gv.cl,_,_,_,fu T.bT.F gS rfl fun bh A outer s H E G ds r hr hl hR=>?_,T.bt,T.bT.b⟩;obtain⟨p,rfl,rfl⟩:=hR;exact⟨_,.rt _,(ak (ax (aE (ae (aQ (av (aa 1 rfl) af rfl)) (ae (aP (av (aa 1 rfl) af rfl) (av (aa 1 rfl) af rfl)) ag)) AA3)))⟩
theorem rg {six:Bool}{m:Str}{f:Addr}(hQ:Meth K t.aC m f)(hS:Meth K t.aW m f):Meth K (t.pc six) m f:=by cases six <;> assumption
theorem rj (T:Txt K mg t)(six:Bool):mD K (t.pc six):=by cases six;exact T.dD.cl;exact T.gv.cl
theorem fK (T:Txt K mg t)(six:Bool):MF P w K mg base CX 2 (t.pc six) "way_of" 2 (vf t six):=by
 refine⟨rj T six,_,_,_,fu T.eh.F l9 rfl fun bh A outer s H E G ds r hr hl hR=>?_,rg T.cn T.cP,T.eh.b⟩;obtain⟨z,rfl,rfl⟩:=hR;have h1:=kL (P:=P) (w:=w) (base:=base) T six;refine⟨_,.rt _,ak (ax (dW (aa 1 rfl) (br (aa 0 rfl) h1 aw hr ⟨rfl,rfl⟩) (dy six)))⟩
theorem mS (T:Txt K mg t)(six:Bool):MF P w K mg base CX 3 (t.pc six) "turned" 3 (vg t six):=by
 refine⟨rj T six,_,_,_,fu T.ei.F fj rfl fun bh A outer s H E G ds r hr hl hR=>?_,rg T.cq T.cQ,T.ei.b⟩;obtain⟨p,b,rfl,rfl⟩:=hR;have h1:=fK (P:=P) (w:=w) (base:=base) T six;have h2:=xx (P:=P) (w:=w) (base:=base) T six;have HG:=Iq b (IC (dy six));have HH:=Ig b (dy six);have HI:wy six<=6:=by cases six <;> decide
 refine⟨_,.rt _,ai (dB 3 (fun k=>[.val (.obj (t.pc six) []),.val (sp (tn six k p)),.val (.int b),.df]) fj.nd rfl PassesOwn.leaving T.c9
   (ae (eJ (aa 0 rfl) h1 aw hr (ae (aa 2 rfl) ag) ⟨b,rfl,rfl⟩) ag) ⟨by omega,by omega⟩ (Le.of ⟨rfl,rfl,rfl,trivial⟩) (Hr _) (fun k hk=>?_) (.all rfl)) (ak (ax (aa 1 rfl)))⟩
 refine .nx (ak (ay 1 fj.nd (eJ (aa 0 rfl) h2 aw hr (ae (aa 1 rfl) ag) ⟨_,rfl,rfl⟩))) (Le.of ⟨rfl,rfl,rfl,trivial⟩)
theorem sJ (T:Txt K mg t):GF P w K mg base CX 1 "pen_of" 1 (vi t):=by
 refine⟨_,_,_,fu T.fE.F sA rfl fun bh A outer s H E G ds r hr hl hR=>?_,(T.g T.fE.a),T.fE.F.kp,T.fE.b⟩;obtain⟨six,rfl,rfl⟩:=hR;cases six with
 | false=>exact⟨_,.rt _,fV (aG (b8 (aa 0 rfl) af) (fun h=>ak (ax (oQ T.iO (T.g T.dD.a)))) (fun h=>absurd h (by decide)))⟩
 | true=>exact⟨_,.rt _,ai (aG (b8 (aa 0 rfl) af) (fun h=>absurd h (by decide)) (fun h=>aU)) (fV (aG (b8 (aa 0 rfl) af) (fun h=>ak (ax (oQ T.lL (T.g T.gv.a)))) (fun h=>absurd h (by decide))))⟩
theorem vk (ns:List Int)(k:Nat)(h:k < ns.length):fR ns (k:Int)=some (ns.getD k 0):=by
 refine iY ?_;rw[Bn,DT h];rfl
theorem lU (T:Txt K mg t):GF P w K mg base CX 1 "_law_cell_at" 2 sG:=by
 refine⟨_,_,_,fu T.eD.F gj rfl fun bh A outer s H E G ds r hr hl hR=>?_,(T.g T.eD.a),T.eD.F.kp,T.eD.b⟩;obtain⟨ns,k,rfl,hk,rfl⟩:=hR;refine⟨_,.rt _,ai (ay 2 gj.nd af) (ai (dl1:=[.val (.kh ns),.val (.int k),.val (.int (ns.getD k 0)),.df]) (aG (Bw (aa 1 rfl) (qJ T.fe (aa 0 rfl))) (fun h=>?_) (fun h=>?_))
   (ai (ay 3 gj.nd (dW (cy (aP (aa 2 rfl) (cy af (aP (aa 1 rfl) af) (iF.ok (HS ⟨by decide,by decide⟩)))) af (iF.ok (HR ⟨by decide,by decide⟩))) af (by decide)))
 (ak (ax (aP (cy (qE (dW (aa 2 rfl) (zo af af ⟨by decide,by decide,by decide⟩) (by decide)) af ⟨by decide,by decide +kernel⟩) af (iF.ok (HR ⟨by decide,by decide⟩))) (aa 3 rfl))))))⟩
 . have h:=of_decide_eq_true h
   exact ak (ay 2 gj.nd (zt (aa 0 rfl) (aa 1 rfl) (vk ns k (by omega))))
 . have h:=of_decide_eq_false h
   have e:ns.getD k 0=0:=by rw[Bn,Cp (by omega)];rfl
   rw[e];exact aU
theorem lV (T:Txt K mg t):GF P w K mg base CX 1 "_law_whole" 1 xw:=by
 refine⟨_,_,_,fu T.h9.F uP rfl fun bh A outer s H E G ds r hr hl hR=>?_,(T.g T.h9.a),T.h9.F.kp,T.h9.b⟩;obtain⟨z,rfl,rfl⟩:=hR;exact⟨_,.rt _,(ak (ax (p0 (u:=true) (v:=true) (jz T.bP (aa 0 rfl) (mN T.uX Sg.boot_int) rfl trivial rfl) fun _=>(qG (zp (u:=false) (jz T.bP (aa 0 rfl) (mN T.nY Sg.boot_bool) rfl trivial rfl))))))⟩
noncomputable def ft (six:Bool)(w:Int)(p:Int×Int):Int:=
 if six then (if w=0 then 2 * p.1+p.2 else if w=1 then p.1+2 * p.2 else if w=2 then p.2 - p.1 else if w=3 then -2 * p.1 - p.2 else if w=4 then -p.1 - 2 * p.2 else p.1 - p.2)
 else (if w=0 then p.1 else if w=1 then p.2 else if w=2 then -p.1 else -p.2)
theorem vl (six:Bool){w:Int}(h0:0<=w)(h1:w < wy six)(b:Int)(p:Int×Int):ft six ((w+b) % wy six) (tn six (b % wy six).toNat p)=ft six w p:=by
 obtain⟨x,y⟩:=p;cases six with
 | false=>
   have e:wy false=4:=rfl;have h1:w < 4:=h1;rw[e];have h:w=0\/w=1\/w=2\/w=3:=by omega
   have g:b % 4=0\/b % 4=1\/b % 4=2\/b % 4=3:=by omega
   have q:(w+b) % 4=(w+b % 4) % 4:=by omega
   rw[q];rcases h with rfl | rfl | rfl | rfl <;> rcases g with g | g | g | g <;> rw[g] <;> simp[ft,tn,tl]
 | true=>
   have e:wy true=6:=rfl;have h1:w < 6:=h1;rw[e];have h:w=0\/w=1\/w=2\/w=3\/w=4\/w=5:=by omega
   have g:b % 6=0\/b % 6=1\/b % 6=2\/b % 6=3\/b % 6=4\/b % 6=5:=by omega
   have q:(w+b) % 6=(w+b % 6) % 6:=by omega
   rw[q];rcases h with rfl | rfl | rfl | rfl | rfl | rfl <;> rcases g with g | g | g | g | g | g <;> rw[g] <;> simp[ft,tn,tl] <;> omega
def xy (t:iC)(six:Bool):Rl:=fun ds r=>∃ z p,ds=[.obj (t.pc six) [],.int z,sp p]/\(0<=z/\z < wy six)/\r=.ret (.int (ft six z p))
theorem BW {z:Int}(p:Int×Int)(h0:0<=z)(h1:z < 4):fR [Dt.int p.1,Dt.int p.2,Dt.int (-p.1),Dt.int (-p.2)] z=some (Dt.int (ft false z p)):=by
 have h:z=0\/z=1\/z=2\/z=3:=by omega
 rcases h with rfl | rfl | rfl | rfl <;> rfl
theorem BX {z:Int}(p:Int×Int)(h0:0<=z)(h1:z < 6):fR [Dt.int (2 * p.1+p.2),Dt.int (p.1+2 * p.2),Dt.int (p.2 - p.1),Dt.int (-2 * p.1 - p.2),Dt.int (-p.1 - 2 * p.2),Dt.int (p.1 - p.2)] z=some (Dt.int (ft true z p)):=by
 have h:z=0\/z=1\/z=2\/z=3\/z=4\/z=5:=by omega
 rcases h with rfl | rfl | rfl | rfl | rfl | rfl <;> rfl
theorem mod_lt {z m:Int}(h0:0<=z)(h1:z < m):z % m=z:=Int.emod_eq_of_lt h0 h1
theorem o7 (T:Txt K mg t)(six:Bool):MF P w K mg base CX 3 (t.pc six) "along" 3 (xy t six):=by
 have jo:=fK (P:=P) (w:=w) (base:=base) T six;cases six with
 | false=>
   refine⟨T.dD.cl,_,_,_,fu T.c6.F dC rfl fun bh A outer s H E G ds r hr hl hR=>?_,T.bR,T.c6.b⟩;obtain⟨z,p,rfl,⟨h0,h1⟩,rfl⟩:=hR;exact⟨_,.rt _,(ai (ay 3 dC.nd (av (aa 2 rfl) af rfl))
 (ai (ay 4 dC.nd (av (aa 2 rfl) af rfl))
 (ak (ax (av (aE (ae (aa 3 rfl) (ae (aa 4 rfl) (ae (aQ (aa 3 rfl)) (ae (aQ (aa 4 rfl)) ag)))) AA3) (eJ (aa 0 rfl) jo aw hr (ae (aa 1 rfl) ag) ⟨z,rfl,rfl⟩) (by rw[mod_lt h0 h1];exact BW p h0 h1))))))⟩
 | true=>
   refine⟨T.gv.cl,_,_,_,fu T.dQ.F eP rfl fun bh A outer s H E G ds r hr hl hR=>?_,T.cB,T.dQ.b⟩;obtain⟨z,p,rfl,⟨h0,h1⟩,rfl⟩:=hR;exact⟨_,.rt _,(ai (ay 3 eP.nd (av (aa 2 rfl) af rfl))
 (ai (ay 4 eP.nd (av (aa 2 rfl) af rfl))
 (ak (ax (av (aE (ae (aP (cy af (aa 3 rfl) (iF.ok (HS ⟨by decide,by decide⟩))) (aa 4 rfl)) (ae (aP (aa 3 rfl) (cy af (aa 4 rfl) (iF.ok (HS ⟨by decide,by decide⟩)))) (ae (dg (aa 4 rfl) (aa 3 rfl)) (ae (dg (cy (aQ af) (aa 3 rfl) (iF.ok (HS ⟨by decide,by decide⟩))) (aa 4 rfl)) (ae (dg (aQ (aa 3 rfl)) (cy af (aa 4 rfl) (iF.ok (HS ⟨by decide,by decide⟩)))) (ae (dg (aa 3 rfl) (aa 4 rfl)) ag)))))) AA3) (eJ (aa 0 rfl) jo aw hr (ae (aa 1 rfl) ag) ⟨z,rfl,rfl⟩) (by rw[mod_lt h0 h1];exact BX p h0 h1))))))⟩
def sm (p:Int×Int):Prop:=p.1.natAbs < 2 ^ 100/\p.2.natAbs < 2 ^ 100
noncomputable def cr (p q:Int×Int):Int:=p.1 * q.2 - p.2 * q.1
noncomputable def ad (p q:Int×Int):Int×Int:=(p.1+q.1,p.2+q.2)
def rk:Rl:=fun ds r=>∃ p q,ds=[sp p,sp q]/\(sm p/\sm q)/\r=.ret (.int (cr p q))
def rm:Rl:=fun ds r=>∃ p q,ds=[sp p,sp q]/\r=.ret (sp (ad p q))
noncomputable def gG:List Str:=["stroke","step","left","right","rest"]
noncomputable def sL:List Str:=["stroke","step"]
noncomputable def eQ (d:Str):Int:=if d="left" then 1 else if d="right" then -1 else 0
noncomputable def gK (six:Bool)(d:Str)(p:Int×Int)(w:Int):(Int×Int)×Int:=(if d∈sL then ad p (tn six (w % wy six).toNat (1,0)) else p,(w+eQ d) % wy six)
def xA:Rl:=fun ds r=>∃ d:Str,ds=[.str d]/\r=.ret (.int (eQ d))
def zW (t:iC)(six:Bool):Rl:=fun ds r=>∃ w,ds=[.obj (t.pc six) [],.int w]/\r=.ret (sp (tn six (w % wy six).toNat (1,0)))
def xB (t:iC)(six:Bool):Rl:=fun ds r=>∃ d p w,ds=[.obj (t.pc six) [],.str d,sp p,.int w]/\d∈gG/\r=.ret (.tup [sp (gK six d p w).1,.int (gK six d p w).2])
theorem vm (T:Txt K mg t):GF P w K mg base CX 1 "cross" 2 rk:=by
 refine⟨_,_,_,fu T.hW.F uL rfl fun bh A outer s H E G ds r hr hl hR=>?_,(T.g T.hW.a),T.hW.F.kp,T.hW.b⟩;obtain⟨p,q,rfl,⟨hp,hq⟩,rfl⟩:=hR;exact⟨_,.rt _,(ak (ax (dg (cy (av (aa 0 rfl) af rfl) (av (aa 1 rfl) af rfl) (rb hp.1 hq.2 (by decide))) (cy (av (aa 0 rfl) af rfl) (av (aa 1 rfl) af rfl) (rb hp.2 hq.1 (by decide))))))⟩
theorem o8 (T:Txt K mg t):GF P w K mg base CX 1 "added" 2 rm:=by
 refine⟨_,_,_,fu T.hV.F uK rfl fun bh A outer s H E G ds r hr hl hR=>?_,(T.g T.hV.a),T.hV.F.kp,T.hV.b⟩;obtain⟨p,q,rfl,rfl⟩:=hR;exact⟨_,.rt _,(ak (ax (aE (ae (aP (av (aa 0 rfl) af rfl) (av (aa 1 rfl) af rfl)) (ae (aP (av (aa 0 rfl) af rfl) (av (aa 1 rfl) af rfl)) ag)) AA3)))⟩
theorem vn (T:Txt K mg t):GF P w K mg base CX 1 "turn_of_deed" 1 xA:=by
 refine⟨_,_,_,fu T.b0.F j3 rfl fun bh A outer s H E G ds r hr hl hR=>?_,(T.g T.b0.a),T.b0.F.kp,T.b0.b⟩;obtain⟨d,rfl,rfl⟩:=hR;by_cases c0:d="left"
 . rw[show eQ d=1 from if_pos c0]
   exact⟨_,.rt _,fV (aG (b9 (aa 0 rfl) aT) (fun h=>ak (ax af)) (fun h=>absurd c0 (of_decide_eq_false h)))⟩
 by_cases c1:d="right"
 . rw[show eQ d=-1 by unfold eQ;rw[if_neg c0,if_pos c1]]
   exact⟨_,.rt _,ai (aG (b9 (aa 0 rfl) aT) (fun h=>absurd (of_decide_eq_true h) c0) (fun h=>aU)) (fV (aG (b9 (aa 0 rfl) aT) (fun h=>ak (ax (aQ af))) (fun h=>absurd c1 (of_decide_eq_false h))))⟩
 . rw[show eQ d=0 by unfold eQ;rw[if_neg c0,if_neg c1]]
   exact⟨_,.rt _,ai (aG (b9 (aa 0 rfl) aT) (fun h=>absurd (of_decide_eq_true h) c0) (fun h=>aU)) (ai (aG (b9 (aa 0 rfl) aT) (fun h=>absurd (of_decide_eq_true h) c1) (fun h=>aU)) (ak (ax af)))⟩
theorem xC (T:Txt K mg t)(six:Bool):MF P w K mg base CX 4 (t.pc six) "step" 2 (zW t six):=by
 refine⟨rj T six,_,_,_,fu T.gw.F oX rfl fun bh A outer s H E G ds r hr hl hR=>?_,rg T.cR T.dt,T.gw.b⟩;obtain⟨z,rfl,rfl⟩:=hR;have h1:=mS (P:=P) (w:=w) (base:=base) T six;exact⟨_,.rt _,ak (ax (eJ (aa 0 rfl) h1 aw hr (ae (aE (ae af (ae af ag)) AA3) (ae (aa 1 rfl) ag)) ⟨(1,0),z,rfl,rfl⟩))⟩
theorem vo (T:Txt K mg t)(six:Bool):MF P w K mg base CX 5 (t.pc six) "after" 4 (xB t six):=by
 refine⟨rj T six,_,_,_,fu T.fb.F ja rfl fun bh A outer s H E G ds r hr hl hR=>?_,rg T.cA T.dc,T.fb.b⟩;obtain⟨d,p,z,rfl,hd,rfl⟩:=hR;have h1:=xC (P:=P) (w:=w) (base:=base) T six;have h4:=fK (P:=P) (w:=w) (base:=base) T six;by_cases c:d∈sL
 . rw[show gK six d p z=(ad p (tn six (z % wy six).toNat (1,0)),(z+eQ d) % wy six) by unfold gK;rw[if_pos c]]
   exact⟨_,.rt _,(ai (aG (qR (xs:=gG) (aa 1 rfl) (ki (w:=.ref t.e9) T.qZ rfl T.q8)) (fun h=>absurd h (by simp[hd])) (fun h=>aU))
 (ai (aG (uA (xs:=sL) (aa 1 rfl) (ki (w:=.ref t.bp) T.iD rfl T.iE)) (fun h=>
     (ak (ay 2 ja.nd (bo (o8 T) aw hr (ae (aa 2 rfl) (ae (eJ (aa 0 rfl) h1 aw hr (ae (aa 3 rfl) ag) ⟨_,rfl,rfl⟩) ag)) ⟨_,_,rfl,rfl⟩)))) (fun h=>absurd c (of_decide_eq_false h)))
 (ak (ax (aE (ae (aa 2 rfl) (ae (eJ (aa 0 rfl) h4 aw hr (ae (aP (aa 3 rfl) (bo (vn T) aw hr (ae (aa 1 rfl) ag) ⟨_,rfl,rfl⟩)) ag) ⟨_,rfl,rfl⟩) ag)) AA3)))))⟩
 . rw[show gK six d p z=(p,(z+eQ d) % wy six) by unfold gK;rw[if_neg c]]
   exact⟨_,.rt _,(ai (aG (qR (xs:=gG) (aa 1 rfl) (ki (w:=.ref t.e9) T.qZ rfl T.q8)) (fun h=>absurd h (by simp[hd])) (fun h=>aU))
 (ai (aG (uA (xs:=sL) (aa 1 rfl) (ki (w:=.ref t.bp) T.iD rfl T.iE)) (fun h=>absurd (of_decide_eq_true h) c) (fun h=>aU))
 (ak (ax (aE (ae (aa 2 rfl) (ae (eJ (aa 0 rfl) h4 aw hr (ae (aP (aa 3 rfl) (bo (vn T) aw hr (ae (aa 1 rfl) ag) ⟨_,rfl,rfl⟩)) ag) ⟨_,rfl,rfl⟩) ag)) AA3)))))⟩
structure Tr where
 many:Int
 turn:Int
 shift:Int×Int
 bQ:Int
 reach:List Int
 aN:List Int
 gz:Int
noncomputable def iC.cJ (t:iC)(six:Bool)(x:Tr):List (Str×Dt):=[("drawer",.obj (t.pc six) []),("deed_count",.int x.many),("last_way",.int x.turn),("last_spot",sp x.shift),("stroke_count",.int x.bQ),("reaches",.lst (x.reach.map .int)),("touches",.lst (x.aN.map .int)),("crosses",.int x.gz)]
noncomputable def iC.gL (t:iC)(six:Bool)(x:Tr):Dt:=.obj t.aj (t.cJ six x)
noncomputable def wn (six:Bool):Nat:=if six then 6 else 4
theorem lW (six:Bool):(wn six:Int)=wy six:=by cases six <;> rfl
noncomputable def ij (six:Bool)(ns:List Int)(f:Int):List Int:=(th (wn six)).map fun(w:Nat)=>ns.getD (((w:Int) - f) % wy six).toNat 0
noncomputable def mB (six:Bool)(x y:Tr)(w:Nat):Int:=if (ij six y.reach x.turn).getD w 0+ft six w x.shift<=x.reach.getD w 0 then x.reach.getD w 0 else (ij six y.reach x.turn).getD w 0+ft six w x.shift
noncomputable def n0 (six:Bool)(x y:Tr)(w:Nat):Int:=if (ij six y.reach x.turn).getD w 0+ft six w x.shift<=x.reach.getD w 0 then x.aN.getD w 0 else (ij six y.aN x.turn).getD w 0+x.many
noncomputable def jn (six:Bool)(x y:Tr):Tr where
 many:=x.many+y.many
 turn:=(x.turn+y.turn) % wy six
 shift:=ad x.shift (tn six (x.turn % wy six).toNat y.shift)
 bQ:=x.bQ+y.bQ
 reach:=(th (wn six)).map (mB six x y)
 aN:=(th (wn six)).map (n0 six x y)
 gz:=x.gz+y.gz+cr x.shift (tn six (x.turn % wy six).toNat y.shift)
noncomputable def Ay (six:Bool):Tr:=⟨0,0,(0,0),0,FH (wn six) 0,FH (wn six) 0,0⟩
noncomputable def one (six:Bool)(d:Str):Tr:=⟨1,(gK six d (0,0) 0).2,(gK six d (0,0) 0).1,if d="stroke" then 1 else 0,(th (wn six)).map fun(w:Nat)=>if ft six w (gK six d (0,0) 0).1 > 0 then ft six w (gK six d (0,0) 0).1 else 0,
 (th (wn six)).map fun(w:Nat)=>if (if ft six w (gK six d (0,0) 0).1 > 0 then ft six w (gK six d (0,0) 0).1 else 0) < 1 then (if ft six w (gK six d (0,0) 0).1 > 0 then ft six w (gK six d (0,0) 0).1 else 0) else 1,0⟩
noncomputable def bx (six:Bool)(ds:List Str):Tr:=ds.foldl (fun x d=>jn six x (one six d)) (Ay six)
structure WF (six:Bool)(x:Tr):Prop where
 rl:x.reach.length=wn six
 tl:x.aN.length=wn six
 sm:x.shift.1.natAbs < 2 ^ 90/\x.shift.2.natAbs < 2 ^ 90
def zX (t:iC):Rl:=fun ds r=>∃ six x,ds=[.obj (t.pc six) [],.int x.many,.int x.turn,sp x.shift,.int x.bQ,.lst (x.reach.map .int),.lst (x.aN.map .int),.int x.gz]/\r=.own (.obj t.aj (t.cJ six x))
def o9 (t:iC)(f:Tr->Dt):Rl:=fun ds r=>∃ six x,ds=[t.gL six x]/\r=.ret (f x)
def n3 (t:iC):Rl:=fun ds r=>∃ six x f,ds=[t.gL six x,.int f]/\r=.ret (sp (tn six (f % wy six).toNat x.shift))
def BY (t:iC):Rl:=fun ds r=>∃ six x ns f,ds=[t.gL six x,.lst (ns.map .int),.int f]/\ns.length=wn six/\r=.own (.lst ((ij six ns f).map .int))
def n4 (t:iC):Rl:=fun ds r=>∃ six x f,ds=[t.gL six x,.int f]/\WF six x/\r=.own (.lst ((ij six x.reach f).map .int))
def n8 (t:iC):Rl:=fun ds r=>∃ six x f,ds=[t.gL six x,.int f]/\WF six x/\r=.own (.lst ((ij six x.aN f).map .int))
def vp (t:iC):Rl:=fun ds r=>∃ six x y,ds=[t.gL six x,t.gL six y]/\(WF six x/\WF six y)/\r=.own (.obj t.aj (t.cJ six (jn six x y)))
def xD (t:iC):Rl:=fun ds r=>∃ six,ds=[.obj (t.pc six) []]/\r=.own (.obj t.aj (t.cJ six (Ay six)))
def sM (t:iC):Rl:=fun ds r=>∃ six d,ds=[.obj (t.pc six) [],.str d]/\d∈gG/\r=.own (.obj t.aj (t.cJ six (one six d)))
def qi (t:iC):Rl:=fun ds r=>∃ (six:Bool) (xs:List Str),ds=[.obj (t.pc six) [],.lst (xs.map .str)]/\(∀ d∈xs,d∈gG)/\xs.length<=1000/\r=.ret (t.gL six (bx six xs))
theorem n9 (T:Txt K mg t):EU P w K mg base CX 1 "Track" t.aj 9 (zX t):=by
 refine⟨_,_,_,Gm T.eo.F mf rfl fun bh A outer s H E G z ds r hr hl hR=>?_,T.lM,(T.g T.ao.a),T.eo.b⟩;obtain⟨six,x,rfl,rfl⟩:=hR;exact⟨_,.nx rfl,ai (gQ (aa 1 rfl) T.ao.cl T.bE) (ai (gQ (aa 2 rfl) T.ao.cl T.aK) (ai (gQ (aa 3 rfl) T.ao.cl T.aL) (ai (gQ (aa 4 rfl) T.ao.cl T.aD)
   (ai (gQ (aa 5 rfl) T.ao.cl T.aY) (ai (gQ (aa 6 rfl) T.ao.cl T.aZ) (ai (gQ (aa 7 rfl) T.ao.cl T.bY) (ak (gQ (aa 8 rfl) T.ao.cl T.bZ))))))))⟩
theorem kM (T:Txt K mg t):MF P w K mg base CX 1 t.aj "many" 1 (o9 t fun x=>.int x.many):=by
 refine⟨T.ao.cl,_,_,_,fu T.eu.F mh rfl fun bh A outer s H E G ds r hr hl hR=>?_,T.cT,T.eu.b⟩;obtain⟨six,x,rfl,rfl⟩:=hR;exact⟨_,.rt _,ak (ax (aV (fs:=t.cJ six x) (aa 0 rfl) T.ao.cl T.aK rfl))⟩
theorem kN (T:Txt K mg t):MF P w K mg base CX 1 t.aj "turn" 1 (o9 t fun x=>.int x.turn):=by
 refine⟨T.ao.cl,_,_,_,fu T.eA.F mi rfl fun bh A outer s H E G ds r hr hl hR=>?_,T.cU,T.eA.b⟩;obtain⟨six,x,rfl,rfl⟩:=hR;exact⟨_,.rt _,ak (ax (aV (fs:=t.cJ six x) (aa 0 rfl) T.ao.cl T.aL rfl))⟩
theorem gA (T:Txt K mg t):MF P w K mg base CX 1 t.aj "strokes" 1 (o9 t fun x=>.int x.bQ):=by
 refine⟨T.ao.cl,_,_,_,fu T.c7.F jI rfl fun bh A outer s H E G ds r hr hl hR=>?_,T.cc,T.c7.b⟩;obtain⟨six,x,rfl,rfl⟩:=hR;exact⟨_,.rt _,ak (ax (aV (fs:=t.cJ six x) (aa 0 rfl) T.ao.cl T.aY rfl))⟩
theorem kO (T:Txt K mg t):MF P w K mg base CX 1 t.aj "area" 1 (o9 t fun x=>.int x.gz):=by
 refine⟨T.ao.cl,_,_,_,fu T.eB.F mn rfl fun bh A outer s H E G ds r hr hl hR=>?_,T.cV,T.eB.b⟩;obtain⟨six,x,rfl,rfl⟩:=hR;exact⟨_,.rt _,ak (ax (aV (fs:=t.cJ six x) (aa 0 rfl) T.ao.cl T.bZ rfl))⟩
theorem pe (T:Txt K mg t):dA P w K mg base CX 4 t.ba t.dI ["self","first"] (se K 2 (n3 t)):=by
 refine DL T.mq lF rfl fun bh A outer s H E G ds r hr hl hR=>?_
 obtain⟨six,x,f,rfl,rfl⟩:=hR;have h1:=mS (P:=P) (w:=w) (base:=base) T six;exact⟨_,.rt _,ak (ax (eJ (aV (fs:=t.cJ six x) (aa 0 rfl) T.ao.cl T.bE rfl) h1 aw hr (ae (aV (fs:=t.cJ six x) (aa 0 rfl) T.ao.cl T.aD rfl) (ae (aa 1 rfl) ag)) ⟨_,_,rfl,rfl⟩))⟩
theorem rep0 {K:W.Frag}:∀ H,aS K H [.int 0] [.int 0]:=fun _=>.cons (.int 0) .nil
theorem vq (T:Txt K mg t):uz P w K mg base CX 4 t.aj "shift" 2 [] (n3 t):=⟨T.ao.cl,_,_,_,[],[],pe T,T.bM,T.mv,.nil,fun _=>.nil⟩
theorem jM (T:Txt K mg t):uz P w K mg base CX 4 t.aj "shift" 2 [.int 0] (n3 t):=⟨T.ao.cl,_,_,_,_,[.int 0],pe T,T.bM,T.lN,.cons ⟨_,rfl⟩ .nil,rep0⟩
noncomputable abbrev qj:Scope:=BG ((aH cg).getD 0 (.Pass ⟨0,0,0,0⟩))
theorem qk:iL qj (ah cg) gE ["way","self","numbers","first"] [0,1,2] "way"=true:=by decide +kernel
theorem kP {ns:List Int}{k:Int}(h0:0<=k)(h1:k < ns.length):fR (ns.map Dt.int) k=some (.int (ns.getD k.toNat 0)):=by
 obtain⟨n,rfl⟩:=Int.eq_ofNat_of_zero_le h0;refine iY ?_;have h:n < ns.length:=by omega
 rw[k5,DT h,Ih,Bn,DT h];rfl
theorem fL {f:Nat->Int}{n k:Nat}(h:k < n):(((th n).map f).map Dt.int).getD k .b4=.int (f k):=by
 rw[Bn,k5,k5,HW h];rfl
theorem lX (T:Txt K mg t):MF P w K mg base CX 3 t.aj "by_ways" 3 (BY t):=by
 refine⟨T.ao.cl,_,_,_,fu T.c8.F jJ rfl fun bh A outer s H E G ds r hr hl hR=>?_,T.cf,T.c8.b⟩;obtain⟨six,x,ns,f,rfl,hn,rfl⟩:=hR;have h1:=fK (P:=P) (w:=w) (base:=base) T six;have hw:=lW six;have Ct:wn six<=6:=by cases six <;> decide
 have Cf:ns.length=wn six:=hn;refine⟨_,.ro _,ak (e5 (uy (N:=["way","self","numbers","first"]) (ix:=[0,1,2]) rfl (ll qk) (jt rfl T.c9 (ae (eZ T.fe (aa 1 rfl)) ag)) (lj ?_) (fun k hk C fp s' H' G'=>?_) ?_ ?_))⟩
 . rw[k3];omega
 . rw[k3,Ih,Cf] at hk
   have e:((ij six ns f).map Dt.int).getD k .b4=.int (ns.getD (((k:Int) - f) % wy six).toNat 0):=fL hk;rw[e];have Dw:=Iq ((k:Int) - f) (IC (dy six));have HJ:=Ig ((k:Int) - f) (dy six);exact b7 (aa 2 rfl) (eJ (aV (fs:=t.cJ six x) (aa 1 rfl) T.ao.cl T.bE rfl) h1 aw hr (ae (dg (aa 0 rfl) (aa 3 rfl)) ag) ⟨_,rfl,rfl⟩) (kP Dw (by omega))
 . rw[k3,k3,Ih,Cf]
   unfold ij;simp
 . rw[k3,Ih]
   exact Il (cj (by omega))
theorem pf (T:Txt K mg t):dA P w K mg base CX 4 t.bb t.dJ ["self","first"] (se K 2 (n4 t)):=by
 refine DL T.mw lG rfl fun bh A outer s H E G ds r hr hl hR=>?_
 obtain⟨six,x,f,rfl,hw,rfl⟩:=hR;have h1:=zD (lX (P:=P) (w:=w) (base:=base) T);exact⟨_,.ro _,ak (e5 (oV (fs:=t.cJ six x) (aa 0 rfl) h1 aw hr (ae (aV (fs:=t.cJ six x) (aa 0 rfl) T.ao.cl T.aZ rfl) (ae (aa 1 rfl) ag)) ⟨six,x,_,_,rfl,hw.rl,rfl⟩))⟩
theorem pj (T:Txt K mg t):dA P w K mg base CX 4 t.bc t.dM ["self","first"] (se K 2 (n8 t)):=by
 refine DL T.my lH rfl fun bh A outer s H E G ds r hr hl hR=>?_
 obtain⟨six,x,f,rfl,hw,rfl⟩:=hR;have h1:=zD (lX (P:=P) (w:=w) (base:=base) T);exact⟨_,.ro _,ak (e5 (oV (fs:=t.cJ six x) (aa 0 rfl) h1 aw hr (ae (aV (fs:=t.cJ six x) (aa 0 rfl) T.ao.cl T.bY rfl) (ae (aa 1 rfl) ag)) ⟨six,x,_,_,rfl,hw.tl,rfl⟩))⟩
theorem vt (T:Txt K mg t):uz P w K mg base CX 4 t.aj "reach" 2 [] (n4 t):=⟨T.ao.cl,_,_,_,[],[],pf T,T.bN,T.mx,.nil,fun _=>.nil⟩
theorem vu (T:Txt K mg t):uz P w K mg base CX 4 t.aj "touch" 2 [] (n8 t):=⟨T.ao.cl,_,_,_,[],[],pj T,T.bO,T.mz,.nil,fun _=>.nil⟩
theorem ik (T:Txt K mg t):uz P w K mg base CX 4 t.aj "reach" 2 [.int 0] (n4 t):=⟨T.ao.cl,_,_,_,_,[.int 0],pf T,T.bN,T.lO,.cons ⟨_,rfl⟩ .nil,rep0⟩
theorem jN (T:Txt K mg t):uz P w K mg base CX 4 t.aj "touch" 2 [.int 0] (n8 t):=⟨T.ao.cl,_,_,_,_,[.int 0],pj T,T.bO,T.lP,.cons ⟨_,rfl⟩ .nil,rep0⟩
theorem pk (p:Int×Int):PyData.eqv (pd (sp p)) (pd (.tup [.int 0,.int 0]))=decide (p=(0,0)):=by
 obtain⟨x,y⟩:=p;simp[sp,pd,pD,PyData.eqv,PyData.eqvAll];by_cases h1:x=0 <;> by_cases h2:y=0 <;> simp[h1,h2]
theorem vv (T:Txt K mg t):GF P w K mg base CX 3 "still" 1 (xD t):=by
 refine⟨_,_,_,fu T.hX.F uN rfl fun bh A outer s H E G ds r hr hl hR=>?_,(T.g T.hX.a),T.hX.F.kp,T.hX.b⟩;obtain⟨six,rfl,rfl⟩:=hR;have h1:=kL (P:=P) (w:=w) (base:=base) T six;have e:∀ {X:Cx} {G:Gr} {dl:List Slot} {e:Expr},EO X G dl e (.lst (FH (wy six).toNat [Dt.int 0]).flatten)->EE X G dl e (.lst ((FH (wn six) (0:Int)).map .int)):=fun h=>by
   cases six
   . exact jU h
   . exact jU h
 have hb:-(2 ^ 63)<=wy six/\wy six < 2 ^ 63/\[Dt.int 0].length * (wy six).toNat<=sizeLine:=by cases six <;> decide
 exact⟨_,.ro _,ak (e5 (nB (n9 T) aw hr (ae (aa 0 rfl) (ae af (ae af (ae (aE (ae af (ae af ag)) AA3) (ae af
   (ae (e (p6 (eI (ae af ag) AA3) (br (aa 0 rfl) h1 aw hr ⟨rfl,rfl⟩) hb.1 hb.2.1 hb.2.2)) (ae (e (p6 (eI (ae af ag) AA3) (br (aa 0 rfl) h1 aw hr ⟨rfl,rfl⟩) hb.1 hb.2.1 hb.2.2)) (ae af ag)))))))) ⟨six,Ay six,rfl,rfl⟩))⟩
noncomputable abbrev zY:Scope:=BG ((aH bg).getD 2 (.Pass ⟨0,0,0,0⟩))
noncomputable abbrev zZ:Scope:=BG ((aH bg).getD 3 (.Pass ⟨0,0,0,0⟩))
theorem z0:iL zY (ah bg) dZ ["way","pen","spot"] [0,3] "way"=true:=by decide +kernel
theorem z5:iL zZ (ah bg) dZ ["reach"] [] "reach"=true:=by decide +kernel
noncomputable def ir (six:Bool)(d:Str)(w:Nat):Int:=if ft six w (gK six d (0,0) 0).1 > 0 then ft six w (gK six d (0,0) 0).1 else 0
theorem ql (T:Txt K mg t):GF P w K mg base CX 6 "track_of_deed" 2 (sM t):=by
 refine⟨_,_,_,fu T.bF.F fD rfl fun bh A outer s H E G ds r hr hl hR=>?_,(T.g T.bF.a),T.bF.F.kp,T.bF.b⟩;obtain⟨six,d,rfl,hd,rfl⟩:=hR;have h1:=kL (P:=P) (w:=w) (base:=base) T six;have h3:=vo (P:=P) (w:=w) (base:=base) T six;have h4:=o7 (P:=P) (w:=w) (base:=base) T six;have hw:=lW six;have Ct:wn six<=6:=by cases six <;> decide
 have z6:(wy six).toNat=wn six:=by omega
 have nd:=fD.nd;refine⟨_,.ro _,ai (ay 2 nd (eJ (aa 0 rfl) h3 aw hr (ae (aa 1 rfl) (ae (aE (ae af (ae af ag)) AA3) (ae af ag))) ⟨d,(0,0),0,rfl,hd,rfl⟩)) (ai (ay 3 nd (av (aa 2 rfl) af rfl))
   (ai (yp (ys:=((th (wn six)).map (ir six d)).map .int) 4 (N:=["way","pen","spot"]) (ix:=[0,3]) rfl nd (ll z0) (jt rfl T.c9 (ae (br (aa 0 rfl) h1 aw hr ⟨rfl,rfl⟩) ag)) (lj ?_) (fun k hk C fp s' H' G'=>?_) ?_ ?_)
   (iI 4 (ai (yp (ys:=((th (wn six)).map (fun k=>if ir six d k < 1 then ir six d k else 1)).map .int) 5 (N:=["reach"]) (ix:=[]) rfl nd (ll z5) (mX (aa 4 rfl)) src_list (fun k hk C fp s' H' G'=>?_) ?_ ?_)
   (iI 5 (ak (e5 (nB (n9 T) aw hr (ae (aa 0 rfl) (ae af (ae (av (aa 2 rfl) af rfl) (ae (aa 3 rfl) (ae (fB (d:=.int (if d="stroke" then 1 else 0)) ?_ rfl) (ae (aa 4 rfl) (ae (aa 5 rfl) (ae af ag)))))))) ⟨six,one six d,rfl,rfl⟩))))))))⟩
 . omega
 . rw[z6] at hk
   rw[fL hk];exact zA T.uY rfl (ae af (ae (eJ (aa 1 rfl) h4 aw hr (ae (aa 0 rfl) (ae (aa 2 rfl) ag)) ⟨_,_,rfl,⟨by omega,by omega⟩,rfl⟩) ag))
 . rw[k3,k3,HX,z6]
 . rw[z6];exact Il (cj (by omega))
 . rw[k3,k3,HX] at hk
   rw[show(((th (wn six)).map (fun k=>if ir six d k < 1 then ir six d k else 1)).map Dt.int).getD k .b4=.int (if ir six d k < 1 then ir six d k else 1) from fL hk];have e:((List.map (ir six d) (th (wn six))).map Dt.int).getD k .b4=.int (ir six d k):=fL hk;refine uo (i:=1) (j:=ir six d k) T.q9 rfl (ae af (ae ?_ ag));rw[<- e];exact aa 0 rfl
 . simp
 . rw[k3,k3,HX];exact Il (cj (by omega))
 . exact zr (b9 (aa 1 rfl) aT) (fun h=>fB af (by rw[if_pos (of_decide_eq_true h)])) (fun h=>fB af (by rw[if_neg (of_decide_eq_false h)]))
theorem sN (T:Txt K mg t):MF P w K mg base CX 1 t.aj "closed" 1 (o9 t fun x=>.bl (decide (x.shift=(0,0)))):=by
 refine⟨T.ao.cl,_,_,_,fu T.dv.F j7 rfl fun bh A outer s H E G ds r hr hl hR=>?_,T.cu,T.dv.b⟩;obtain⟨six,x,rfl,rfl⟩:=hR;exact⟨_,.rt _,ak (ax (ui hr.units (aV (fs:=t.cJ six x) (aa 0 rfl) T.ao.cl T.aD rfl) (aE (ae af (ae af ag)) AA3) ⟨rfl,rfl⟩ ⟨rfl,rfl⟩ (pk x.shift)))⟩
theorem kQ {f g:Nat->Int}{n k:Nat}(h:k < n):((th n).map fun w=>if w < k then f w else g w).set k (f k)=(th n).map fun w=>if w < k+1 then f w else g w:=by
 refine List.ext_getElem? fun i=>?_
 by_cases hi:i < n
 . by_cases e:k=i
   . subst e
     rw[k0 (by simp;exact h),k5,HW h];simp
   . rw[k2 e,k5,k5,HW hi]
     have:(i < k+1) ↔ (i < k):=by omega
     simp[this]
 . rw[Cp (by simp;omega),Cp (by simp;omega)]
theorem yw {f g:Nat->Int}{n:Nat}:((th n).map fun w=>if w < 0 then f w else g w)=(th n).map g:=by simp
theorem yx {f g:Nat->Int}{n:Nat}:((th n).map fun w=>if w < n then f w else g w)=(th n).map f:=by
 refine List.map_congr_left fun i hi=>?_
 rw[if_pos (List.mem_range.mp hi)]
theorem jq {l:List Int}{k:Nat}{z:Int}:(l.map Dt.int).set k (.int z)=(l.set k z).map Dt.int:=by rw[List.map_set]
theorem rn (six:Bool)(ns:List Int)(f:Int):(th (wn six)).map (fun w=>(ij six ns f).getD w 0)=ij six ns f:=by
 refine List.ext_getElem? fun i=>?_
 by_cases hi:i < wn six
 . rw[k5,HW hi]
   have hl:i < (ij six ns f).length:=by unfold ij;simpa using hi
   rw[DT hl];simp[Bn,hl]
 . rw[Cp (by simp;omega),Cp (by unfold ij;simp;omega)]
theorem xE {n k:Nat}(h:k < n):l3 n (k:Int)=some k:=by
 unfold l3;simp[h]
theorem BZ {six:Bool}{b:Int}{p:Int×Int}(h:p.1.natAbs < 2 ^ 90/\p.2.natAbs < 2 ^ 90):sm (tn six (b % wy six).toNat p):=by
 obtain⟨x,y⟩:=p;obtain⟨h1,h2⟩:=h;simp only at h1 h2;unfold sm;cases six with
 | false=>
   have e:wy false=4:=rfl;rw[e];have h:b % 4=0\/b % 4=1\/b % 4=2\/b % 4=3:=by omega
   rcases h with h | h | h | h <;> rw[h] <;> simp[tn,Pf.tl] <;> omega
 | true=>
   have e:wy true=6:=rfl;rw[e];have h:b % 6=0\/b % 6=1\/b % 6=2\/b % 6=3\/b % 6=4\/b % 6=5:=by omega
   rcases h with h | h | h | h | h | h <;> rw[h] <;> simp[tn,Pf.tl] <;> omega
theorem sO (T:Txt K mg t):MF P w K mg base CX 5 t.aj "joined" 2 (vp t):=by
 refine⟨T.ao.cl,_,_,_,fu T.dw.F gF rfl fun bh A outer s H E G ds r hr hl hR=>?_,T.cv,T.dw.b⟩;obtain⟨six,x,y,rfl,⟨wx,D5⟩,rfl⟩:=hR;have z7:=kL (P:=P) (w:=w) (base:=base) T six;have rq:=o7 (P:=P) (w:=w) (base:=base) T six;have jo:=fK (P:=P) (w:=w) (base:=base) T six;have hw:=lW six;have z6:(wy six).toNat=wn six:=by omega
 have Ct:wn six<=6:=by cases six <;> decide
 have nd:=gF.nd;let S:Nat->List Slot:=fun k=>[.val (t.gL six x),.val (t.gL six y),.val (.obj (t.pc six) []),.val (sp (tn six (x.turn % wy six).toNat y.shift)),
   .own (.lst (((th (wn six)).map fun w=>if w < k then mB six x y w else (ij six y.reach x.turn).getD w 0).map .int)),
   .own (.lst (((th (wn six)).map fun w=>if w < k then n0 six x y w else (ij six y.aN x.turn).getD w 0).map .int)),.df]
 have e0:S 0=[.val (t.gL six x),.val (t.gL six y),.val (.obj (t.pc six) []),.val (sp (tn six (x.turn % wy six).toNat y.shift)),.own (.lst ((ij six y.reach x.turn).map .int)),.own (.lst ((ij six y.aN x.turn).map .int)),.df]:=by
   show [_,_,_,_,Slot.own (.lst (((th (wn six)).map fun w=>if w < 0 then _ else _).map .int)),Slot.own (.lst (((th (wn six)).map fun w=>if w < 0 then _ else _).map .int)),_]=_;rw[yw,yw,rn,rn]
 have en:S (wn six)=[.val (t.gL six x),.val (t.gL six y),.val (.obj (t.pc six) []),.val (sp (tn six (x.turn % wy six).toNat y.shift)),.own (.lst ((jn six x y).reach.map .int)),.own (.lst ((jn six x y).aN.map .int)),.df]:=by
   show [_,_,_,_,Slot.own (.lst (((th (wn six)).map fun w=>if w < wn six then _ else _).map .int)),Slot.own (.lst (((th (wn six)).map fun w=>if w < wn six then _ else _).map .int)),_]=_;rw[yx,yx];rfl
 refine⟨_,.ro _,ai (ay 2 nd (aV (fs:=t.cJ six x) (aa 0 rfl) T.ao.cl T.bE rfl))
   (ai (ay 3 nd (zE (fs:=t.cJ six y) (aa 1 rfl) (vq T) aw hr (ae (aV (fs:=t.cJ six x) (aa 0 rfl) T.ao.cl T.aL rfl) ag) ⟨six,y,_,rfl,rfl⟩))
   (ai (g9 4 nd (oV (fs:=t.cJ six y) (aa 1 rfl) (vt T) aw hr (ae (aV (fs:=t.cJ six x) (aa 0 rfl) T.ao.cl T.aL rfl) ag) ⟨six,y,_,rfl,D5,rfl⟩))
   (ai (g9 5 nd (oV (fs:=t.cJ six y) (aa 1 rfl) (vu T) aw hr (ae (aV (fs:=t.cJ six x) (aa 0 rfl) T.ao.cl T.aL rfl) ag) ⟨six,y,_,rfl,D5,rfl⟩))
   (ai (dB (m:=wn six) 6 S nd rfl PassesOwn.leaving T.c9 (ae (br (aa 2 rfl) z7 aw hr ⟨rfl,rfl⟩) ag) ⟨by omega,by omega⟩ (by rw[e0];exact Le.of ⟨rfl,rfl,rfl,rfl,rfl,rfl,trivial⟩) (by omega) (fun k hk=>?_) (by rw[z6];exact .all rfl))
   ?_))))⟩
 . have EG:k < ((th (wn six)).map fun w=>if w < k then mB six x y w else (ij six y.reach x.turn).getD w 0).length:=by simpa using hk
   have G6:k < ((th (wn six)).map fun w=>if w < k then n0 six x y w else (ij six y.aN x.turn).getD w 0).length:=by simpa using hk
   have ga:∀ (f g:Nat->Int) (z:Int),fR ((((th (wn six)).map fun w=>if w < k then f w else g w)).map Dt.int) (k:Int)=some (.int (g k)):=fun f g z=>by
     refine iY ?_;rw[k5,k5,HW hk];simp
   have gs:∀ (l:List Int) (z:Int),l.length=wn six->fR ((l.map Dt.int).set k (.int z)) (k:Int)=some (.int z):=fun l z hl=>by
     refine iY ?_;rw[k0 (by simp;omega)]
   have ix:∀ (l:List Dt),l.length=wn six->l3 l.length (k:Int)=some k:=fun l hl=>xE (by omega)
   have xr:fR (x.reach.map Dt.int) (k:Int)=some (.int (x.reach.getD k 0)):=by
     have:=kP (ns:=x.reach) (k:=k) (by omega) (by rw[wx.rl];omega);simpa using this
   have xt:fR (x.aN.map Dt.int) (k:Int)=some (.int (x.aN.getD k 0)):=by
     have:=kP (ns:=x.aN) (k:=k) (by omega) (by rw[wx.tl];omega);simpa using this
   have lA:(((th (wn six)).map fun w=>if w < k then mB six x y w else (ij six y.reach x.turn).getD w 0).map Dt.int).length=wn six:=by simp
   have lB:(((th (wn six)).map fun w=>if w < k then n0 six x y w else (ij six y.aN x.turn).getD w 0).map Dt.int).length=wn six:=by simp
   have Fl:((th (wn six)).map fun w=>if w < k then mB six x y w else (ij six y.reach x.turn).getD w 0).length=wn six:=by simp
   have iA:=ix _ lA;have iB:=ix _ lB;have G7:∀ z,l3 (List.length (List.set (((th (wn six)).map fun w=>if w < k then mB six x y w else (ij six y.reach x.turn).getD w 0).map Dt.int) k z)) (k:Int)=some k:=fun z=>ix _ (by rw[List.length_set];exact lA)
   have G8:∀ z,l3 (List.length (List.set (((th (wn six)).map fun w=>if w < k then n0 six x y w else (ij six y.aN x.turn).getD w 0).map Dt.int) k z)) (k:Int)=some k:=fun z=>ix _ (by rw[List.length_set];exact lB)
   by_cases c:(ij six y.reach x.turn).getD k 0+ft six k x.shift<=x.reach.getD k 0
   . have eR:mB six x y k=x.reach.getD k 0:=if_pos c
     have eT:n0 six x y k=x.aN.getD k 0:=if_pos c;refine .nx (ai (fC (m:=k) 4 (aP (iJ 4 (aa 6 rfl) (ga _ _ 0)) (eJ (aa 2 rfl) rq aw hr (ae (aa 6 rfl) (ae (aV (fs:=t.cJ six x) (aa 0 rfl) T.ao.cl T.aD rfl) ag)) ⟨_,_,rfl,⟨by omega,by omega⟩,rfl⟩)) (aa 6 rfl) iA)
       (ai (fC (m:=k) 5 (aP (iJ 5 (aa 6 rfl) (ga _ _ 0)) (aV (fs:=t.cJ six x) (aa 0 rfl) T.ao.cl T.aK rfl)) (aa 6 rfl) iB)
       (ak (aG (yn (b7 (aV (fs:=t.cJ six x) (aa 0 rfl) T.ao.cl T.aZ rfl) (aa 6 rfl) xr) (iJ 4 (aa 6 rfl) (gs _ _ Fl)))
         (fun h=>ai (fC (m:=k) 4 (b7 (aV (fs:=t.cJ six x) (aa 0 rfl) T.ao.cl T.aZ rfl) (aa 6 rfl) xr) (aa 6 rfl) (G7 _))
           (ak (fC (m:=k) 5 (b7 (aV (fs:=t.cJ six x) (aa 0 rfl) T.ao.cl T.bY rfl) (aa 6 rfl) xt) (aa 6 rfl) (G8 _))))
         (fun h=>absurd c (of_decide_eq_false h)))))) (Le.of ⟨rfl,rfl,rfl,rfl,?_,?_,trivial⟩)
     . rw[List.set_set,jq,<- eR,kQ hk]
     . rw[List.set_set,jq,<- eT,kQ hk]
   . have eR:mB six x y k=(ij six y.reach x.turn).getD k 0+ft six k x.shift:=if_neg c
     have eT:n0 six x y k=(ij six y.aN x.turn).getD k 0+x.many:=if_neg c;refine .nx (ai (fC (m:=k) 4 (aP (iJ 4 (aa 6 rfl) (ga _ _ 0)) (eJ (aa 2 rfl) rq aw hr (ae (aa 6 rfl) (ae (aV (fs:=t.cJ six x) (aa 0 rfl) T.ao.cl T.aD rfl) ag)) ⟨_,_,rfl,⟨by omega,by omega⟩,rfl⟩)) (aa 6 rfl) iA)
       (ai (fC (m:=k) 5 (aP (iJ 5 (aa 6 rfl) (ga _ _ 0)) (aV (fs:=t.cJ six x) (aa 0 rfl) T.ao.cl T.aK rfl)) (aa 6 rfl) iB)
       (ak (aG (yn (b7 (aV (fs:=t.cJ six x) (aa 0 rfl) T.ao.cl T.aZ rfl) (aa 6 rfl) xr) (iJ 4 (aa 6 rfl) (gs _ _ Fl)))
         (fun h=>absurd (of_decide_eq_true h) c)
         (fun h=>aU))))) (Le.of ⟨rfl,rfl,rfl,rfl,?_,?_,trivial⟩)
     . rw[jq,<- eR,kQ hk]
     . rw[jq,<- eT,kQ hk]
 . rw[en]
   exact iI 4 (iI 5 (ak (e5 (nB (n9 T) aw hr (ae (aa 2 rfl) (ae (aP (aV (fs:=t.cJ six x) (aa 0 rfl) T.ao.cl T.aK rfl) (br (fs:=t.cJ six y) (aa 1 rfl) (kM T) aw hr ⟨six,y,rfl,rfl⟩))
     (ae (eJ (aa 2 rfl) jo aw hr (ae (aP (aV (fs:=t.cJ six x) (aa 0 rfl) T.ao.cl T.aL rfl) (br (fs:=t.cJ six y) (aa 1 rfl) (kN T) aw hr ⟨six,y,rfl,rfl⟩)) ag) ⟨_,rfl,rfl⟩)
     (ae (bo (o8 T) aw hr (ae (aV (fs:=t.cJ six x) (aa 0 rfl) T.ao.cl T.aD rfl) (ae (aa 3 rfl) ag)) ⟨_,_,rfl,rfl⟩)
     (ae (aP (aV (fs:=t.cJ six x) (aa 0 rfl) T.ao.cl T.aY rfl) (br (fs:=t.cJ six y) (aa 1 rfl) (gA T) aw hr ⟨six,y,rfl,rfl⟩))
     (ae (aa 4 rfl) (ae (aa 5 rfl) (ae (aP (aP (aV (fs:=t.cJ six x) (aa 0 rfl) T.ao.cl T.bZ rfl) (br (fs:=t.cJ six y) (aa 1 rfl) (kO T) aw hr ⟨six,y,rfl,rfl⟩))
       (bo (vm T) aw hr (ae (aV (fs:=t.cJ six x) (aa 0 rfl) T.ao.cl T.aD rfl) (ae (aa 3 rfl) ag)) ⟨_,_,rfl,⟨⟨by have:=wx.sm;omega,by have:=wx.sm;omega⟩,BZ D5.sm⟩,rfl⟩)) ag)))))))) ⟨six,jn six x y,rfl,rfl⟩))))
theorem eU (six:Bool)(xs:List Str)(d:Str):bx six (xs ++ [d])=jn six (bx six xs) (one six d):=by
 unfold bx;rw[List.foldl_append];rfl
theorem og (six:Bool):∀ n:Nat,tn six n (0,0)=(0,0)
 | 0=>rfl
 | n+1=>by rw[tn,og six n];cases six <;> rfl
theorem lY (six:Bool)(d:Str):(gK six d (0,0) 0).1=if d∈sL then (1,0) else (0,0):=by
 have e:tn six ((0:Int) % wy six).toNat (1,0)=(1,0):=by cases six <;> rfl
 unfold gK;show(if d∈sL then ad (0,0) (tn six ((0:Int) % wy six).toNat (1,0)) else (0,0))=_;rw[e];rfl
theorem xG (six:Bool)(b:Int):(tn six (b % wy six).toNat (1,0)).1.natAbs<=1/\(tn six (b % wy six).toNat (1,0)).2.natAbs<=1:=by
 cases six with
 | false=>
   have e:wy false=4:=rfl;rw[e];have h:b % 4=0\/b % 4=1\/b % 4=2\/b % 4=3:=by omega
   rcases h with h | h | h | h <;> rw[h] <;> decide
 | true=>
   have e:wy true=6:=rfl;rw[e];have h:b % 6=0\/b % 6=1\/b % 6=2\/b % 6=3\/b % 6=4\/b % 6=5:=by omega
   rcases h with h | h | h | h | h | h <;> rw[h] <;> decide
theorem xH (six:Bool)(x:Tr)(d:Str):(jn six x (one six d)).shift.1.natAbs<=x.shift.1.natAbs+1/\(jn six x (one six d)).shift.2.natAbs<=x.shift.2.natAbs+1:=by
 show(x.shift.1+(tn six (x.turn % wy six).toNat (gK six d (0,0) 0).1).1).natAbs<=_/\(x.shift.2+(tn six (x.turn % wy six).toNat (gK six d (0,0) 0).1).2).natAbs<=_;rw[lY];by_cases c:d∈sL
 . rw[if_pos c]
   have:=xG six x.turn;omega
 . rw[if_neg c,og]
   simp
theorem z9 (six:Bool)(d:Str):WF six (one six d):=⟨by unfold one;simp,by unfold one;simp,by
 show(gK six d (0,0) 0).1.1.natAbs < _/\(gK six d (0,0) 0).1.2.natAbs < _;rw[lY];by_cases c:d∈sL
 . rw[if_pos c];decide
 . rw[if_neg c];decide⟩
theorem Aa (six:Bool):WF six (Ay six):=⟨by unfold Ay;simp,by unfold Ay;simp,by show(0:Int).natAbs < _/\(0:Int).natAbs < _;decide⟩
theorem oh (six:Bool):∀ (n:Nat) (xs:List Str),xs.length=n->(bx six xs).shift.1.natAbs<=n/\(bx six xs).shift.2.natAbs<=n/\(bx six xs).reach.length=wn six/\(bx six xs).aN.length=wn six:=by
 intro n
 induction n with
 | zero=>
   intro xs h;have e:xs=[]:=Iu h;subst e;have w:=Aa six;exact⟨Hr _,Hr _,w.rl,w.tl⟩
 | succ n ih=>
   intro xs h;have tm:xs≠[]:=fun e=>by rw[e] at h;cases h
   have e:=Ij tm;have hl:xs.dropLast.length=n:=by rw[IJ];omega
   obtain⟨h1,h2,h3,h4⟩:=ih _ hl;rw[<- e,eU];obtain⟨q1,q2⟩:=xH six (bx six xs.dropLast) (xs.getLast tm);refine⟨by omega,by omega,?_,?_⟩
   . unfold jn;simp
   . unfold jn;simp
theorem vw (six:Bool){xs:List Str}(h:xs.length<=100000):WF six (bx six xs):=by
 obtain⟨h1,h2,h3,h4⟩:=oh six _ xs rfl;exact⟨h3,h4,by omega,by omega⟩
theorem pv (T:Txt K mg t):GF P w K mg base CX 7 "track_of" 2 (qi t):=by
 refine⟨_,_,_,fu T.dE.F jV rfl fun bh A outer s H E G ds r hr hl hR=>?_,(T.g T.dE.a),T.dE.F.kp,T.dE.b⟩;obtain⟨six,xs,rfl,hd,hn,rfl⟩:=hR;have vz:=zD (sO (P:=P) (w:=w) (base:=base) T);have nd:=jV.nd;let S:Nat->List Slot:=fun k=>[.val (.obj (t.pc six) []),.val (.lst (xs.map .str)),.val (t.gL six (bx six (xs.take k))),.df]
 have en:S (xs.map Dt.str).length=[.val (.obj (t.pc six) []),.val (.lst (xs.map .str)),.val (t.gL six (bx six xs)),.df]:=by
   show [_,_,Slot.val (t.gL six (bx six (xs.take (xs.map Dt.str).length))),_]=_;rw[k3,IH]
 refine⟨_,.rt _,ai (ay 2 nd (um (qQ (vv T) aw hr (ae (aa 0 rfl) ag) ⟨six,rfl,rfl⟩)))
   (ai (qH (m:=(xs.map Dt.str).length) 3 S nd rfl PassesOwn.leaving (aa 1 rfl) (Le.of ⟨rfl,rfl,rfl,trivial⟩) (Hr _) (fun k z hk hz=>?_) (.all rfl)) ?_)⟩
 . rw[k3] at hk
   rw[k5,DT hk] at hz;cases hz;have hm:xs[k]∈xs:=List.getElem_mem hk;have e:bx six (xs.take (k+1))=jn six (bx six (xs.take k)) (one six xs[k]):=by
     rw[ID,DT hk];exact eU _ _ _
   have hl:(xs.take k).length<=100000:=by rw[IG];omega
   refine .nx (ak (ay 2 nd (um (oV (fs:=t.cJ six (bx six (xs.take k))) (aa 2 rfl) vz aw hr (ae (um (qQ (ql T) aw hr (ae (aa 0 rfl) (ae (aa 3 rfl) ag)) ⟨six,xs[k],rfl,hd _ hm,rfl⟩)) ag) ⟨six,_,one six xs[k],rfl,⟨vw six hl,z9 six _⟩,rfl⟩)))) (Le.of ⟨rfl,rfl,?_,trivial⟩);show Slot.val (t.gL six (bx six (xs.take (k+1))))=_;rw[e];rfl
 . rw[en]
   exact ak (ax (aa 2 rfl))
theorem pw (six:Bool):∀ (n:Nat) (xs:List Str),xs.length=n->(bx six xs).many=n/\(bx six xs).bQ=(xs.count ("stroke":Str):Nat):=by
 intro n
 induction n with
 | zero=>
   intro xs h;have e:xs=[]:=Iu h;subst e;exact⟨rfl,rfl⟩
 | succ n ih=>
   intro xs h;have tm:xs≠[]:=fun e=>by rw[e] at h;cases h
   have e:=Ij tm;have hl:xs.dropLast.length=n:=by rw[IJ];omega
   obtain⟨h1,h2⟩:=ih _ hl;have ec:xs.count ("stroke":Str)=xs.dropLast.count ("stroke":Str)+if xs.getLast tm="stroke" then 1 else 0:=by
     conv=>lhs;rw[<- e]
     rw[List.count_append,List.count_singleton]
     congr 1
     by_cases c:xs.getLast tm="stroke" <;> simp[c]
   rw[ec]
   conv=>lhs;rw[<- e]
   rw[show(bx six xs).bQ=(bx six (xs.dropLast ++ [xs.getLast tm])).bQ by rw[e],eU];refine⟨?_,?_⟩
   . show(bx six xs.dropLast).many+1=_
     rw[h1];omega
   . show(bx six xs.dropLast).bQ+(if xs.getLast tm="stroke" then 1 else 0)=_
     rw[h2];by_cases c:xs.getLast tm="stroke"
     . rw[if_pos c,if_pos c];omega
     . rw[if_neg c,if_neg c];omega
theorem Ab (six:Bool)(w:Int)(p q:Int×Int):ft six w (ad p q)=ft six w p+ft six w q:=by
 unfold ft ad;cases six
 . simp only[Ic,if_false]
   split
   . rfl
   . split
     . rfl
     . split <;> omega
 . simp only[if_true]
   split
   . omega
   . split
     . omega
     . split
       . omega
       . split
         . omega
         . split <;> omega
theorem vA (six:Bool){w:Nat}(h:w < wn six)(b:Int)(p:Int×Int):ft six (((w:Int) - b) % wy six) p=ft six w (tn six (b % wy six).toNat p):=by
 have hw:=lW six;have h0:=Iq ((w:Int) - b) (IC (dy six));have h1:=Ig ((w:Int) - b) (dy six);have k:=vl six h0 h1 b p;rw[<- k]
 congr 1
 cases six with
 | false=>show(((w:Int) - b) % 4+b) % 4=w;have:w < 4:=h;omega
 | true=>show(((w:Int) - b) % 6+b) % 6=w;have:w < 6:=h;omega
theorem oi (six:Bool)(ns:List Int)(f:Int){w:Nat}(h:w < wn six):(ij six ns f).getD w 0=ns.getD (((w:Int) - f) % wy six).toNat 0:=by
 unfold ij;rw[Bn,k5,HW h];rfl
theorem xJ (six:Bool)(w:Nat)(b:Int):(((w:Int) - b) % wy six).toNat < wn six/\((((w:Int) - b) % wy six).toNat:Int)=((w:Int) - b) % wy six:=by
 have hw:=lW six;have h0:=Iq ((w:Int) - b) (IC (dy six));have h1:=Ig ((w:Int) - b) (dy six);omega
theorem dG {f:Nat->Int}{n k:Nat}(h:k < n):((th n).map f).getD k 0=f k:=by
 rw[Bn,k5,HW h];rfl
noncomputable def D6 (p q:Int):Int:=if q<=p then p else q
theorem vB (six:Bool)(x y:Tr){w:Nat}(h:w < wn six):(jn six x y).reach.getD w 0=D6 (x.reach.getD w 0) (y.reach.getD (((w:Int) - x.turn) % wy six).toNat 0+ft six w x.shift):=by
 show((th (wn six)).map (mB six x y)).getD w 0=_;rw[dG h];unfold mB D6;rw[oi six _ _ h]
theorem vC (six:Bool)(x y:Tr){w:Nat}(h:w < wn six):(jn six x y).aN.getD w 0=if y.reach.getD (((w:Int) - x.turn) % wy six).toNat 0+ft six w x.shift<=x.reach.getD w 0 then x.aN.getD w 0 else y.aN.getD (((w:Int) - x.turn) % wy six).toNat 0+x.many:=by
 show((th (wn six)).map (n0 six x y)).getD w 0=_;rw[dG h];unfold n0;rw[oi six _ _ h,oi six _ _ h]
theorem xK (p q r:Int×Int):cr p (ad q r)=cr p q+cr p r:=by
 unfold cr ad;simp only[Int.mul_add];omega
theorem list_eq {six:Bool}{a b:List Int}(ha:a.length=wn six)(hb:b.length=wn six)(h:∀ w,w < wn six->a.getD w 0=b.getD w 0):a=b:=by
 refine List.ext_getElem (by omega) fun i h1 h2=>?_
 have:=h i (by omega);rw[Bn,Bn,DT h1,DT h2] at this;exact this
noncomputable def fM (six:Bool)(xs:List Str)(k:Nat):Int×Int:=(bx six (xs.take k)).shift
theorem vD (six:Bool)(xs:List Str):0<=(bx six xs).turn/\(bx six xs).turn < wy six:=by
 by_cases h:xs=[]
 . subst h;exact⟨Int.le_refl _,dy six⟩
 . rw[<- Ij h,eU]
   exact⟨Iq _ (IC (dy six)),Ig _ (dy six)⟩
theorem vE (six:Bool)(xs:List Str)(d:Str):gK six d (bx six xs).shift (bx six xs).turn=((bx six (xs ++ [d])).shift,(bx six (xs ++ [d])).turn):=by
 rw[eU];unfold gK jn;refine Prod.ext ?_ ?_
 . show(if d∈sL then ad (bx six xs).shift (tn six ((bx six xs).turn % wy six).toNat (1,0)) else (bx six xs).shift)=ad (bx six xs).shift (tn six ((bx six xs).turn % wy six).toNat (gK six d (0,0) 0).1)
   rw[lY];by_cases c:d∈sL
   . rw[if_pos c,if_pos c]
   . rw[if_neg c,if_neg c,og]
     unfold ad;simp
 . show((bx six xs).turn+eQ d) % wy six=((bx six xs).turn+(0+eQ d) % wy six) % wy six
   rw[Int.add_emod_emod,Int.zero_add]
noncomputable def rec (six:Bool)(xs:List Str)(w:Int):Nat->Int×Int
 | 0=>(0,0)
 | j+1=>if (rec six xs w j).1 < ft six w (fM six xs j) then (ft six w (fM six xs j),j) else rec six xs w j
theorem pz (six:Bool)(xs:List Str)(d:Str)(w:Int):∀ j,j<=xs.length+1->rec six (xs ++ [d]) w j=rec six xs w j
 | 0,_=>rfl
 | j+1,h=>by
   rw[rec,rec,pz six xs d w j (by omega)];have e:fM six (xs ++ [d]) j=fM six xs j:=by
     unfold fM;rw[List.take_append_of_le_length (by omega)]
   rw[e]
theorem pA (six:Bool)(w:Int):ft six w (0,0)=0:=by
 unfold ft;cases six <;> simp
theorem rA (six:Bool){w:Nat}(hw:w < wn six):∀ (n:Nat) (xs:List Str),xs.length=n->rec six xs w (n+1)=((bx six xs).reach.getD w 0,(bx six xs).aN.getD w 0)/\ft six w (bx six xs).shift<=(bx six xs).reach.getD w 0:=by
 intro n
 induction n with
 | zero=>
   intro xs h;have e:xs=[]:=Iu h;subst e;have e1:(bx six []).reach.getD w 0=0:=by
     show(FH (wn six) (0:Int)).getD w 0=0;rw[Bn,HY];split <;> rfl
   have e2:(bx six []).aN.getD w 0=0:=e1;have e3:ft six w (fM six [] 0)=0:=pA six w;have e4:ft six w (bx six []).shift=0:=pA six w;rw[e1,e2,e4,rec,rec,e3];simp
 | succ n ih=>
   intro xs h;have tm:xs≠[]:=fun e=>by rw[e] at h;cases h
   have e:=Ij tm;have hl:xs.dropLast.length=n:=by rw[IJ];omega
   generalize xs.getLast tm=d at e;generalize xs.dropLast=ys at e hl;subst e;obtain⟨h1,h2⟩:=ih ys hl;rw[rec,pz six ys d w (n+1) (by omega),h1];have es:fM six (ys ++ [d]) (n+1)=(bx six (ys ++ [d])).shift:=by
     unfold fM;rw[List.take_of_length_le (by rw[Ip];simp;omega)]
   rw[es,eU,vB six _ _ hw,vC six _ _ hw];obtain⟨b1,b2⟩:=xJ six w (bx six ys).turn;have r1:(one six d).reach.getD (((w:Int) - (bx six ys).turn) % wy six).toNat 0=ir six d (((w:Int) - (bx six ys).turn) % wy six).toNat:=dG b1;have t1:(one six d).aN.getD (((w:Int) - (bx six ys).turn) % wy six).toNat 0=if ir six d (((w:Int) - (bx six ys).turn) % wy six).toNat < 1 then ir six d (((w:Int) - (bx six ys).turn) % wy six).toNat else 1:=dG (f:=fun k=>if ir six d k < 1 then ir six d k else 1) b1
   rw[r1,t1];unfold ir;rw[b2,vA six hw];have ec:ft six w (jn six (bx six ys) (one six d)).shift=ft six w (bx six ys).shift+ft six w (tn six ((bx six ys).turn % wy six).toNat (gK six d (0,0) 0).1):=Ab six w _ _;rw[ec];have hm:=(pw six n ys hl).1;rw[hm];generalize ft six w (tn six ((bx six ys).turn % wy six).toNat (gK six d (0,0) 0).1)=D;generalize ft six w (bx six ys).shift=B at h2 ⊢;generalize (bx six ys).reach.getD w 0=A at h2 ⊢;generalize (bx six ys).aN.getD w 0=U;unfold D6;refine⟨?_,?_⟩
   . by_cases c1:D > 0
     . simp only[if_pos c1]
       by_cases c2:D+B<=A
       . simp only[if_pos c2]
         rw[if_neg (by omega)]
       . simp only[if_neg c2]
         rw[if_pos (by omega),if_neg (by omega)];refine Prod.ext ?_ ?_
         . show B+D=D+B;omega
         . show((n+1:Nat):Int)=1+n;omega
     . simp only[if_neg c1]
       rw[if_neg (by omega)];have c2:0+B<=A:=by omega
       simp only[if_pos c2]
   . by_cases c1:D > 0
     . simp only[if_pos c1];split <;> omega
     . simp only[if_neg c1];split <;> omega
theorem qm (T:Txt K mg t):GF P w K mg base CX 2 "_law_is_spot" 2 sI:=by
 refine⟨_,_,_,fu T.eE.F qh rfl fun bh A outer s H E G ds r hr hl hR=>?_,(T.g T.eE.a),T.eE.F.kp,T.eE.b⟩;obtain⟨p,rfl,rfl⟩:=hR;have hu:PyData.eqv (pd (sp p)) (pd (sp p))=true:=eqv_refl _ rfl;exact⟨_,.rt _,(ai (aG (u:=false) (ip (eG (u:=false) (v:=false) (eH (u:=true) (gO (jz T.bP (aa 0 rfl) (mN T.kK Sg.boot_tuple) rfl trivial rfl))) fun _=>(dh (eY (k9 (qK T.fe (aa 0 rfl)) af) rfl)))) (fun h=>nomatch h) (fun h=>aU))
 (ak (ax (p0 (u:=true) (v:=true) (bo (lV T) aw hr (ae (av (aa 0 rfl) af rfl) ag) ⟨_,rfl,rfl⟩) fun _=>(p0 (u:=true) (v:=true) (bo (lV T) aw hr (ae (av (aa 0 rfl) af rfl) ag) ⟨_,rfl,rfl⟩) fun _=>(qG (ui hr.units (aa 0 rfl) (aa 1 rfl) ⟨rfl,rfl⟩ ⟨rfl,rfl⟩ hu)))))))⟩
theorem B1 (p:Int×Int):tn false 3 p=(p.2,-p.1):=by simp[tn,tl]
theorem B2 (p:Int×Int):tn true 2 p=(-p.1 - p.2,p.1):=by simp[tn,tl];omega
theorem B3 (p:Int×Int):tn true 3 p=(-p.1,-p.2):=by simp[tn,tl];omega
theorem B4 (p:Int×Int):tn true 4 p=(p.2,-p.1 - p.2):=by simp[tn,tl];omega
theorem B5 (p:Int×Int):tn true 5 p=(p.1+p.2,-p.1):=by simp[tn,tl];omega
theorem qo (T:Txt K mg t):GF P w K mg base CX 1 "_law_turned" 3 sH:=by
 refine⟨_,_,_,fu T.fH.F de rfl fun bh A outer s H E G ds r hr hl hR=>?_,(T.g T.fH.a),T.fH.F.kp,T.fH.b⟩;obtain⟨six,p,b,rfl,rfl⟩:=hR;cases six with
 | false=>
   refine⟨_,.rt _,(ai (ay 3 de.nd (av (aa 1 rfl) af rfl))
 (ai (ay 4 de.nd (av (aa 1 rfl) af rfl))
 (ai (ay 5 de.nd (eI (ae (aE (ae (aa 3 rfl) (ae (aa 4 rfl) ag)) AA3) (ae (aE (ae (aQ (aa 4 rfl)) (ae (aa 3 rfl) ag)) AA3) (ae (aE (ae (aQ (aa 3 rfl)) (ae (aQ (aa 4 rfl)) ag)) AA3) (ae (aE (ae (aa 4 rfl) (ae (aQ (aa 3 rfl)) ag)) AA3) ag)))) AA3))
 (ai (aG (b8 (aa 0 rfl) af) (fun h=>absurd h (by decide)) (fun h=>aU))
 (ak (ax (b7 (aa 5 rfl) (dW (aa 2 rfl) (aa 0 rfl) (by decide)) ?_)))))))⟩
   have e:wy false=4:=rfl;rw[e];have h:b % 4=0\/b % 4=1\/b % 4=2\/b % 4=3:=by omega
   rcases h with h | h | h | h
   . rw[h];rfl
   . rw[h];rfl
   . rw[h];rfl
   . rw[h,show(3:Int).toNat=3 from rfl,B1];rfl
 | true=>
   refine⟨_,.rt _,(ai (ay 3 de.nd (av (aa 1 rfl) af rfl))
 (ai (ay 4 de.nd (av (aa 1 rfl) af rfl))
 (ai (ay 5 de.nd (eI (ae (aE (ae (aa 3 rfl) (ae (aa 4 rfl) ag)) AA3) (ae (aE (ae (aQ (aa 4 rfl)) (ae (aa 3 rfl) ag)) AA3) (ae (aE (ae (aQ (aa 3 rfl)) (ae (aQ (aa 4 rfl)) ag)) AA3) (ae (aE (ae (aa 4 rfl) (ae (aQ (aa 3 rfl)) ag)) AA3) ag)))) AA3))
 (ai (aG (b8 (aa 0 rfl) af) (fun h=>
     (ak (ay 5 de.nd (eI (ae (aE (ae (aa 3 rfl) (ae (aa 4 rfl) ag)) AA3) (ae (aE (ae (aQ (aa 4 rfl)) (ae (aP (aa 3 rfl) (aa 4 rfl)) ag)) AA3) (ae (aE (ae (dg (aQ (aa 3 rfl)) (aa 4 rfl)) (ae (aa 3 rfl) ag)) AA3) (ae (aE (ae (aQ (aa 3 rfl)) (ae (aQ (aa 4 rfl)) ag)) AA3) (ae (aE (ae (aa 4 rfl) (ae (dg (aQ (aa 3 rfl)) (aa 4 rfl)) ag)) AA3) (ae (aE (ae (aP (aa 3 rfl) (aa 4 rfl)) (ae (aQ (aa 3 rfl)) ag)) AA3) ag)))))) AA3)))) (fun h=>absurd h (by decide)))
 (ak (ax (b7 (aa 5 rfl) (dW (aa 2 rfl) (aa 0 rfl) (by decide)) ?_)))))))⟩
   have e:wy true=6:=rfl;rw[e];have h:b % 6=0\/b % 6=1\/b % 6=2\/b % 6=3\/b % 6=4\/b % 6=5:=by omega
   rcases h with h | h | h | h | h | h
   . rw[h];rfl
   . rw[h];rfl
   . rw[h,show(2:Int).toNat=2 from rfl,B2];rfl
   . rw[h,show(3:Int).toNat=3 from rfl,B3];rfl
   . rw[h,show(4:Int).toNat=4 from rfl,B4];rfl
   . rw[h,show(5:Int).toNat=5 from rfl,B5];rfl
def vF:Rl:=fun ds r=>∃ six z p,ds=[.int (wy six),.int z,sp p]/\(0<=z/\z < wy six)/\r=.ret (.int (ft six z p))
theorem sP (T:Txt K mg t):GF P w K mg base CX 1 "_law_along" 3 vF:=by
 refine⟨_,_,_,fu T.ia.F dU rfl fun bh A outer s H E G ds r hr hl hR=>?_,(T.g T.ia.a),T.ia.F.kp,T.ia.b⟩;obtain⟨six,z,p,rfl,⟨h0,h1⟩,rfl⟩:=hR;cases six with
 | false=>
   exact⟨_,.rt _,(ai (ay 3 dU.nd (av (aa 2 rfl) af rfl))
 (ai (ay 4 dU.nd (av (aa 2 rfl) af rfl))
 (ai (ay 5 dU.nd (eI (ae (aa 3 rfl) (ae (aa 4 rfl) (ae (aQ (aa 3 rfl)) (ae (aQ (aa 4 rfl)) ag)))) AA3))
 (ai (aG (b8 (aa 0 rfl) af) (fun h=>absurd h (by decide)) (fun h=>aU))
 (ak (ax (b7 (aa 5 rfl) (aa 1 rfl) (BW p h0 h1))))))))⟩
 | true=>
   exact⟨_,.rt _,(ai (ay 3 dU.nd (av (aa 2 rfl) af rfl))
 (ai (ay 4 dU.nd (av (aa 2 rfl) af rfl))
 (ai (ay 5 dU.nd (eI (ae (aa 3 rfl) (ae (aa 4 rfl) (ae (aQ (aa 3 rfl)) (ae (aQ (aa 4 rfl)) ag)))) AA3))
 (ai (aG (b8 (aa 0 rfl) af) (fun h=>
     (ak (ay 5 dU.nd (eI (ae (aP (cy af (aa 3 rfl) (iF.ok (HS ⟨by decide,by decide⟩))) (aa 4 rfl)) (ae (aP (aa 3 rfl) (cy af (aa 4 rfl) (iF.ok (HS ⟨by decide,by decide⟩)))) (ae (dg (aa 4 rfl) (aa 3 rfl)) (ae (dg (cy (aQ af) (aa 3 rfl) (iF.ok (HS ⟨by decide,by decide⟩))) (aa 4 rfl)) (ae (dg (aQ (aa 3 rfl)) (cy af (aa 4 rfl) (iF.ok (HS ⟨by decide,by decide⟩)))) (ae (dg (aa 3 rfl) (aa 4 rfl)) ag)))))) AA3)))) (fun h=>absurd h (by decide)))
 (ak (ax (b7 (aa 5 rfl) (aa 1 rfl) (BX p h0 h1))))))))⟩
section
variable {X:Cx}{G:Gr}{E:XK}{dl:List Slot}{e:Expr}{d1 d2:Dt}{pos:Pos}
theorem nD (n1 n2:Nat){a b:Str}{pa pb tp:Pos}{cx:Nat}(hN:X.N.Nodup)(hc:X.calm=true)(he:EE X G dl e (.tup [d1,d2]))(DN:autoParam (X.N[n1]?=some a) jp)(DO:autoParam (X.N[n2]?=some b) jp)(DP:autoParam (Loc X.env.scope a) xF)(Bq:autoParam (Loc X.env.scope b) xF)(DQ:autoParam (X.fn a=true\/X.env.scope.names.lookup a=some .local) xR)(DR:autoParam (X.fn b=true\/X.env.scope.names.lookup b=some .local) xR)(hn:autoParam ((assignEach [.Name a pa,.Name b pb] X.env).length=2) jp)(iV:autoParam ((assignEach [.Name a pa,.Name b pb] X.env).findIdx? (·.1)=none) jp)(q1:autoParam ((assignEach [.Name a pa,.Name b pb] X.env).map (·.2)=assign (.Name a pa) X.env::(assignEach [.Name b pb] X.env).map (·.2)) jp)(q2:autoParam ((assignEach [.Name b pb] X.env).map (·.2)=assign (.Name b pb) X.env::(assignEach [] X.env).map (·.2)) jp)(hs:autoParam (swapsWithSole [.Tuple [.Name a pa,.Name b pb] cx tp] e pos.line X.env=pure false) jp)(hw:autoParam (swappedStores [.Tuple [.Name a pa,.Name b pb] cx tp] e X.env=pure none) jp)(h1:autoParam ((assignEach [.Tuple [.Name a pa,.Name b pb] cx tp] X.env).map (·.2)=[assign (.Tuple [.Name a pa,.Name b pb] cx tp) X.env]) jp):ES X G E dl (.Assign [.Tuple [.Name a pa,.Name b pb] cx tp] e pos) (.nx ((dl.set n1 (.val d1)).set n2 (.val d2))):=
 pX (mW he (tJ hc (iU (fP (pos:=pa) hN DN DP DQ) (iU (fP (pos:=pb) hN DO Bq DR) qv q2) q1) hn iV) hs hw h1) fun D st H zq=>zn zq fun Hf S k=>fun v aA H1 g1 r1=>by
   cases r1 with
   | @tup q vs _ hq rp=>
     cases rp with
     | cons r1 t1=>cases t1 with
       | cons r2 t2=>
         cases t2;exact⟨q,_,rfl,bq g1.sub hq,rfl,_,_,rfl,_,_,rfl,rfl,k _ aA H1 g1.bH (((S.grow g1).set r1).set r2)⟩
end
noncomputable def pick (c p m:Int):Int:=c * 48271 % p % m
noncomputable def G9:List Str:=["stroke","left","step","right","rest","stroke","left"]
noncomputable def xM (c:Int):Str:=G9.getD (pick c 10007 7).toNat "stroke"
theorem xN (c:Int):xM c∈gG:=by
 unfold xM;have h0:0<=pick c 10007 7:=Iq _ (by decide);have h1:pick c 10007 7 < 7:=Ig _ (by decide);generalize pick c 10007 7=k at h0 h1;have h:k=0\/k=1\/k=2\/k=3\/k=4\/k=5\/k=6:=by omega
 rcases h with rfl | rfl | rfl | rfl | rfl | rfl | rfl <;> decide
noncomputable def cellsOf (ns:List Int)(a b:Nat):List Int:=(th (min b ns.length - a)).map fun k=>cellAt ns (a+k)
def Ac:Rl:=fun ds r=>∃ c p m,ds=[.int c,.int p,.int m]/\(0 < p/\0 < m)/\r=.ret (.int (pick c p m))
def xO:Rl:=fun ds r=>∃ (ns:List Int) (a b:Nat),ds=[.kh ns,.int a,.int b]/\(ns.length<=63/\a<=63/\b<=63)/\r=.own (.lst ((cellsOf ns a b).map .int))
def xP:Rl:=fun ds r=>∃ cs:List Int,ds=[.lst (cs.map .int)]/\cs.length<=63/\r=.own (.lst ((cs.map xM).map .str))
def vG:Rl:=fun ds r=>∃ six d p w,ds=[.int (wy six),.str d,sp p,.int w]/\(0<=w/\w < wy six)/\r=.ret (.tup [sp (gK six d p w).1,.int (gK six d p w).2])
noncomputable def cw (six:Bool)(xs:List Str)(n:Nat):List Dt:=(th n).map fun k=>sp (fM six xs k)
def B6:Rl:=fun ds r=>∃ (six:Bool) (xs:List Str),ds=[.int (wy six),.lst (xs.map .str)]/\xs.length<=1000/\r=.ret (.tup [.lst (cw six xs (xs.length+1)),.int (bx six xs).turn])
noncomputable def gT (x:Tr):Dt:=.tup [.int x.many,.int x.turn,sp x.shift,.int x.bQ,.lst (x.reach.map .int),.lst (x.aN.map .int),.int x.gz]
def vH:Rl:=fun ds r=>∃ (six:Bool) (xs:List Str),ds=[.int (wy six),.lst (xs.map .str)]/\xs.length<=1000/\r=.ret (gT (bx six xs))
def Ad:Rl:=fun ds r=>∃ ns:List Int,ds=[.lst (ns.map .int),.lst (ns.map .int)]/\ns.length<=1000/\r=.ret (.bl true)
def rB:Rl:=fun ds r=>∃ six x,ds=[gT x,gT x]/\WF six x/\r=.ret (.bl true)
def Ae (t:iC):Rl:=fun ds r=>∃ six x,ds=[t.gL six x]/\WF six x/\(x.reach.length=wn six)/\r=.ret (gT x)
noncomputable abbrev vI:Scope:=BG ((aH i8).getD 0 (.Pass ⟨0,0,0,0⟩))
theorem vJ:iL vI (ah i8) qU ["_law_k","_law_script"] [0] "_law_k"=true:=by decide +kernel
noncomputable abbrev vK:Scope:=BG ((aH i9).getD 1 (.Pass ⟨0,0,0,0⟩))
theorem vL:iL vK (ah i9) qV ["_law_cell","_law_some"] [1] "_law_cell"=true:=by decide +kernel
theorem xQ (T:Txt K mg t):GF P w K mg base CX 1 "_law_pick" 3 Ac:=by
 refine⟨_,_,_,fu T.jK.F xp rfl fun bh A outer s H E G ds r hr hl hR=>?_,(T.g T.jK.a),T.jK.F.kp,T.jK.b⟩;obtain⟨c,p,m,rfl,⟨hp,hm⟩,rfl⟩:=hR;exact⟨_,.rt _,ak (ax (dW (dW (cy (aa 0 rfl) af (iF.ok (HR ⟨by decide,by decide⟩))) (aa 1 rfl) hp) (aa 2 rfl) hm))⟩
theorem vM (T:Txt K mg t):GF P w K mg base CX 2 "_law_cells" 3 xO:=by
 refine⟨_,_,_,fu T.hZ.F uO rfl fun bh A outer s H E G ds r hr hl hR=>?_,(T.g T.hZ.a),T.hZ.F.kp,T.hZ.b⟩;obtain⟨ns,a,b,rfl,⟨h1,h2,h3⟩,rfl⟩:=hR;have em:(if (ns.length:Int) < (b:Int) then (ns.length:Int) else (b:Int))=((min b ns.length:Nat):Int):=by split <;> omega
 refine⟨_,.ro _,ak (e5 (uy (N:=["_law_k","_law_script"]) (ix:=[0]) rfl (ll vJ) (rH rfl T.c9 (ae (aa 1 rfl) (ae (fB (uo T.q9 rfl (ae (aa 2 rfl) (ae (qJ T.fe (aa 0 rfl)) ag))) (congrArg Dt.int em)) ag))) (p7 ⟨by omega,by omega,by omega,by omega⟩) (fun k hk C fp s' H' G'=>?_) ?_ ?_))⟩
 . have hk:k < min b ns.length - a:=by omega
   rw[show((cellsOf ns a b).map Dt.int).getD k .b4=.int (cellAt ns (a+k)) from fL hk];exact bo (lU T) aw hr (ae (aa 1 rfl) (ae (aa 0 rfl) ag)) ⟨ns,a+k,by rw[Int.natCast_add],by omega,rfl⟩
 . unfold cellsOf
   rw[k3,k3,HX];omega
 . exact Il (cj (by omega))
theorem vN (T:Txt K mg t):GF P w K mg base CX 2 "_law_deeds" 1 xP:=by
 refine⟨_,_,_,fu T.ie.F oZ rfl fun bh A outer s H E G ds r hr hl hR=>?_,(T.g T.ie.a),T.ie.F.kp,T.ie.b⟩;obtain⟨cs,rfl,hn,rfl⟩:=hR;refine⟨_,.ro _,ai (ay 1 oZ.nd (eI (ae aT (ae aT (ae aT (ae aT (ae aT (ae aT (ae aT ag))))))) AA3))
   (ak (e5 (uy (N:=["_law_cell","_law_some"]) (ix:=[1]) rfl (ll vL) (mX (aa 0 rfl)) src_list (fun k hk C fp s' H' G'=>?_) ?_ ?_)))⟩
 . rw[k3] at hk
   have e1:((cs.map xM).map Dt.str).getD k .b4=.str (xM cs[k]):=by
     rw[Bn,k5,k5,DT hk];rfl
   have e2:(cs.map Dt.int).getD k .b4=.int cs[k]:=by
     rw[Bn,k5,DT hk];rfl
   rw[e1,e2];have h0:0<=pick cs[k] 10007 7:=Iq _ (by decide);have h1:pick cs[k] 10007 7 < 7:=Ig _ (by decide);refine b7 (aa 1 rfl) (bo (xQ T) aw hr (ae (aa 0 rfl) (ae af (ae af ag))) ⟨_,_,_,rfl,⟨by decide,by decide⟩,rfl⟩) ?_;unfold xM;generalize pick cs[k] 10007 7=z at h0 h1;have h:z=0\/z=1\/z=2\/z=3\/z=4\/z=5\/z=6:=by omega
   rcases h with rfl | rfl | rfl | rfl | rfl | rfl | rfl <;> rfl
 . simp
 . rw[k3];exact Il (cj (by omega))
theorem sQ (T:Txt K mg t):GF P w K mg base CX 1 "_law_added" 2 rm:=by
 refine⟨_,_,_,fu T.fF.F sD rfl fun bh A outer s H E G ds r hr hl hR=>?_,(T.g T.fF.a),T.fF.F.kp,T.fF.b⟩;obtain⟨p,q,rfl,rfl⟩:=hR;exact⟨_,.rt _,(ak (ax (aE (ae (aP (av (aa 0 rfl) af rfl) (av (aa 1 rfl) af rfl)) (ae (aP (av (aa 0 rfl) af rfl) (av (aa 1 rfl) af rfl)) ag)) AA3)))⟩
theorem sR (T:Txt K mg t):GF P w K mg base CX 1 "_law_cross" 2 rk:=by
 refine⟨_,_,_,fu T.fG.F sE rfl fun bh A outer s H E G ds r hr hl hR=>?_,(T.g T.fG.a),T.fG.F.kp,T.fG.b⟩;obtain⟨p,q,rfl,⟨hp,hq⟩,rfl⟩:=hR;exact⟨_,.rt _,(ak (ax (dg (cy (av (aa 0 rfl) af rfl) (av (aa 1 rfl) af rfl) (rb hp.1 hq.2 (by decide))) (cy (av (aa 0 rfl) af rfl) (av (aa 1 rfl) af rfl) (rb hp.2 hq.1 (by decide))))))⟩
theorem sS (T:Txt K mg t):GF P w K mg base CX 2 "_law_after" 4 vG:=by
 refine⟨_,_,_,fu T.ib.F uT rfl fun bh A outer s H E G ds r hr hl hR=>?_,(T.g T.ib.a),T.ib.F.kp,T.ib.b⟩;obtain⟨six,d,p,z,rfl,⟨h0,h1⟩,rfl⟩:=hR;have ez:z % wy six=z:=Int.emod_eq_of_lt h0 h1;have gl:d∈sL ↔ (d="stroke"\/d="step"):=by simp[sL]
 by_cases c:d∈sL
 . have et:eQ d=0:=by rcases gl.mp c with rfl | rfl <;> decide
   rw[show gK six d p z=(ad p (tn six (z % wy six).toNat (1,0)),z) by unfold gK;rw[if_pos c,et,Int.add_zero,ez]];refine⟨_,.rt _,fV (aG (ip (eG (b9 (aa 1 rfl) aT) fun _=>(dh (b9 (aa 1 rfl) aT)))) (fun h=>ak (ax (aE (ae (bo (sQ T) aw hr (ae (aa 2 rfl) (ae (bo (qo T) aw hr (ae (aa 0 rfl) (ae (aE (ae af (ae af ag)) AA3) (ae (aa 3 rfl) ag))) ⟨six,(1,0),z,rfl,rfl⟩) ag)) ⟨_,_,rfl,rfl⟩) (ae (aa 3 rfl) ag)) AA3))) (fun h=>?_))⟩;rcases gl.mp c with rfl | rfl <;> exact absurd h (by decide)
 . have n1:¬ d="stroke":=fun z=>c (gl.mpr (.inl z))
   have n2:¬ d="step":=fun z=>c (gl.mpr (.inr z))
   have D7:(decide (d="stroke") || decide (d="step"))=false:=by simp[n1,n2]
   by_cases c1:d="left"
   . rw[show gK six d p z=(p,(z+1) % wy six) by unfold gK eQ;rw[if_neg c,if_pos c1]]
     exact⟨_,.rt _,ai (aG (ip (eG (b9 (aa 1 rfl) aT) fun _=>(dh (b9 (aa 1 rfl) aT)))) (fun h=>by rw[D7] at h;cases h) (fun h=>aU)) (fV (aG (b9 (aa 1 rfl) aT) (fun h=>ak (ax (aE (ae (aa 2 rfl) (ae (dW (aP (aa 3 rfl) af) (aa 0 rfl) (dy six)) ag)) AA3))) (fun h=>absurd c1 (of_decide_eq_false h))))⟩
   by_cases c2:d="right"
   . rw[show gK six d p z=(p,(z - 1) % wy six) by unfold gK eQ;rw[if_neg c,if_neg c1,if_pos c2];rfl]
     exact⟨_,.rt _,ai (aG (ip (eG (b9 (aa 1 rfl) aT) fun _=>(dh (b9 (aa 1 rfl) aT)))) (fun h=>by rw[D7] at h;cases h) (fun h=>aU)) (ai (aG (b9 (aa 1 rfl) aT) (fun h=>absurd (of_decide_eq_true h) c1) (fun h=>aU)) (fV (aG (b9 (aa 1 rfl) aT) (fun h=>ak (ax (aE (ae (aa 2 rfl) (ae (dW (dg (aa 3 rfl) af) (aa 0 rfl) (dy six)) ag)) AA3))) (fun h=>absurd c2 (of_decide_eq_false h)))))⟩
   . rw[show gK six d p z=(p,z) by unfold gK eQ;rw[if_neg c,if_neg c1,if_neg c2,Int.add_zero,ez]]
     exact⟨_,.rt _,ai (aG (ip (eG (b9 (aa 1 rfl) aT) fun _=>(dh (b9 (aa 1 rfl) aT)))) (fun h=>by rw[D7] at h;cases h) (fun h=>aU)) (ai (aG (b9 (aa 1 rfl) aT) (fun h=>absurd (of_decide_eq_true h) c1) (fun h=>aU)) (ai (aG (b9 (aa 1 rfl) aT) (fun h=>absurd (of_decide_eq_true h) c2) (fun h=>aU)) (ak (ax (aE (ae (aa 2 rfl) (ae (aa 3 rfl) ag)) AA3)))))⟩
theorem k6 {ds:List Dt}{d:Dt}:fR (ds ++ [d]) (-1)=some d:=by
 unfold L2.fR;have:l3 (ds ++ [d]).length (-1)=some ds.length:=by
   unfold l3;rw[Ip,List.length_singleton];have h:¬ (0:Int)<=-1:=by decide
   simp;omega
 rw[this];simp
theorem iS (six:Bool)(xs:List Str)(n:Nat):cw six xs (n+1)=cw six xs n ++ [sp (fM six xs n)]:=by
 unfold cw;rw[List.range_succ,IM];rfl
theorem gU (six:Bool)(xs:List Str){n k:Nat}(h:k < n):fR (cw six xs n) (k:Int)=some (sp (fM six xs k)):=by
 refine iY ?_;unfold cw;rw[k5,HW h];rfl
theorem rC (six:Bool)(xs:List Str)(k:Nat)(h:xs.length<=1000):sm (fM six xs k):=by
 have:=oh six _ (xs.take k) rfl;have hl:(xs.take k).length<=1000:=by rw[IG];omega
 unfold sm fM;omega
theorem Ag (T:Txt K mg t):GF P w K mg base CX 3 "_law_run" 2 B6:=by
 refine⟨_,_,_,fu T.mR.F uU rfl fun bh A outer s H E G ds r hr hl hR=>?_,(T.g T.mR.a),T.mR.F.kp,T.mR.b⟩;obtain⟨six,xs,rfl,hn,rfl⟩:=hR;have nd:=uU.nd;let S:Nat->List Slot:=fun k=>[.val (.int (wy six)),.val (.lst (xs.map .str)),.own (.lst (cw six xs (k+1))),.val (.int (bx six (xs.take k)).turn),.df,.df]
 have en:S (xs.map Dt.str).length=[.val (.int (wy six)),.val (.lst (xs.map .str)),.own (.lst (cw six xs (xs.length+1))),.val (.int (bx six xs).turn),.df,.df]:=by
   show [_,_,Slot.own (.lst (cw six xs ((xs.map Dt.str).length+1))),Slot.val (.int (bx six (xs.take (xs.map Dt.str).length)).turn),_,_]=_;rw[k3,IH]
 refine⟨_,.rt _,ai (g9 2 nd (p5 (ae (aE (ae af (ae af ag)) AA3) ag) AA3)) (ai (ay 3 nd af)
   (ai (qH (m:=(xs.map Dt.str).length) 4 S nd rfl PassesOwn.leaving (aa 1 rfl) (Le.of ⟨rfl,rfl,rfl,rfl,trivial⟩) (Hr _) (fun k z hk hz=>?_) (.all rfl)) ?_))⟩
 . rw[k3] at hk
   rw[k5,DT hk] at hz;cases hz;have et:xs.take (k+1)=xs.take k ++ [xs[k]]:=by rw[ID,DT hk];rfl
   have st:=vE six (xs.take k) xs[k];rw[<- et] at st;have tt:=vD six (xs.take k);have la:fR (cw six xs (k+1)) (-1)=some (sp (bx six (xs.take k)).shift):=by rw[iS];exact k6
   have Ha:(cw six xs (k+1)).length < sizeLine:=by unfold cw;rw[k3,HX];exact cj (by omega)
   refine .nx (ai (nD 5 3 nd rfl (fB (bo (sS T) aw hr (ae (aa 0 rfl) (ae (aa 4 rfl) (ae (iJ 2 (aQ af) la) (ae (aa 3 rfl) ag)))) ⟨six,xs[k],(bx six (xs.take k)).shift,_,rfl,tt,rfl⟩) (by rw[st])))
     (ak (jC 2 (aa 5 rfl) Ha))) (Le.of ⟨rfl,rfl,?_,rfl,trivial⟩)
   show Slot.own (.lst (cw six xs (k+1+1)))=_;rw[iS six xs (k+1)];rfl
 . rw[en]
   exact iI 2 (ak (ax (aE (ae (aa 2 rfl) (ae (aa 3 rfl) ag)) AA3)))
theorem pB {f:Nat->Int}(k:Nat):((th (k+1)).map f).map Dt.int=((th k).map f).map Dt.int ++ [.int (f k)]:=by
 rw[List.range_succ,IM,IM];rfl
theorem sT (six:Bool)(xs:List Str):(th (wn six)).map (fun(w:Nat)=>(rec six xs w (xs.length+1)).1)=(bx six xs).reach:=by
 have w:=oh six _ xs rfl;refine list_eq (six:=six) (by simp) w.2.2.1 fun v hv=>?_
 rw[dG hv,(rA six hv _ xs rfl).1]
theorem sU (six:Bool)(xs:List Str):(th (wn six)).map (fun(w:Nat)=>(rec six xs w (xs.length+1)).2)=(bx six xs).aN:=by
 have w:=oh six _ xs rfl;refine list_eq (six:=six) (by simp) w.2.2.2 fun v hv=>?_
 rw[dG hv,(rA six hv _ xs rfl).1]
theorem sV (six:Bool)(xs:List Str){k:Nat}(hk:k < xs.length):(bx six (xs.take (k+1))).gz=(bx six (xs.take k)).gz+cr (fM six xs k) (fM six xs (k+1)):=by
 have et:xs.take (k+1)=xs.take k ++ [xs[k]]:=by rw[ID,DT hk];rfl
 unfold fM;rw[et,eU];generalize bx six (xs.take k)=x;show x.gz+0+cr x.shift (tn six (x.turn % wy six).toNat (one six xs[k]).shift)=x.gz+cr x.shift (ad x.shift (tn six (x.turn % wy six).toNat (one six xs[k]).shift));rw[xK,show cr x.shift x.shift=0 by unfold cr;rw[Int.mul_comm];omega];omega
theorem sW (T:Txt K mg t):GF P w K mg base CX 4 "_law_record" 2 vH:=by
 refine⟨_,_,_,fu T.fJ.F mQ rfl fun bh A outer s H E G ds r hr hl hR=>?_,(T.g T.fJ.a),T.fJ.F.kp,T.fJ.b⟩;obtain⟨six,xs,rfl,hn,rfl⟩:=hR;have nd:=mQ.nd;have hw:=lW six;have z6:(wy six).toNat=wn six:=by omega
 have Ct:wn six<=6:=by cases six <;> decide
 have Hb:(cw six xs (xs.length+1)).length=xs.length+1:=by unfold cw;rw[k3,HX]
 let B (reach aN:List Int) (rest:List Slot):List Slot:=[.val (.int (wy six)),.val (.lst (xs.map .str)),.val (.lst (cw six xs (xs.length+1))),.val (.int (bx six xs).turn),.own (.lst (reach.map .int)),.own (.lst (aN.map .int))] ++ rest;let S:Nat->List Slot:=fun k=>B ((th k).map fun(w:Nat)=>(rec six xs w (xs.length+1)).1) ((th k).map fun(w:Nat)=>(rec six xs w (xs.length+1)).2) [.df,.df,.df,.df,.df]
 let A1:Nat->List Slot:=fun k=>B (bx six xs).reach (bx six xs).aN [.df,.df,.df,.df,.val (.int (bx six (xs.take k)).gz)]
 have en:S (wn six)=B (bx six xs).reach (bx six xs).aN [.df,.df,.df,.df,.df]:=by
   show B ((th (wn six)).map fun(w:Nat)=>(rec six xs w (xs.length+1)).1) ((th (wn six)).map fun(w:Nat)=>(rec six xs w (xs.length+1)).2) _=_;rw[sT,sU]
 refine⟨_,.rt _,ai (nD 2 3 nd rfl (bo (Ag T) aw hr (ae (aa 0 rfl) (ae (aa 1 rfl) ag)) ⟨six,xs,rfl,hn,rfl⟩))
   (ai (g9 4 nd (p5 ag AA3)) (ai (g9 5 nd (p5 ag AA3))
   (ai (dB (m:=wn six) 6 S nd rfl PassesOwn.leaving T.c9 (ae (aa 0 rfl) ag) ⟨by omega,by omega⟩ (Le.of ⟨rfl,rfl,rfl,rfl,rfl,rfl,trivial⟩) (by omega) (fun k hk=>?_) (by rw[z6];exact .all rfl)) ?_)))⟩
 . let C:Nat->List Slot:=fun j=>B ((th k).map fun(w:Nat)=>(rec six xs w (xs.length+1)).1) ((th k).map fun(w:Nat)=>(rec six xs w (xs.length+1)).2) [.val (.int k),.val (.int (rec six xs k j).1),.val (.int (rec six xs k j).2),.df,.df]
   have l4:(((th k).map fun(w:Nat)=>(rec six xs w (xs.length+1)).1).map Dt.int).length < sizeLine:=by rw[k3,k3,HX];exact cj (by omega)
   have l5:(((th k).map fun(w:Nat)=>(rec six xs w (xs.length+1)).2).map Dt.int).length < sizeLine:=by rw[k3,k3,HX];exact cj (by omega)
   have D8:((cw six xs (xs.length+1)).length:Int).toNat=xs.length+1:=by rw[Hb];omega
   refine .nx (ai (ay 7 nd af) (ai (ay 8 nd af)
     (ai (dB (o:=.nx (C (xs.length+1))) (m:=xs.length+1) 9 C nd rfl PassesOwn.leaving T.c9 (ae (eZ T.fe (aa 2 rfl)) ag) ⟨by omega,by omega⟩ (Le.of ⟨rfl,rfl,rfl,rfl,rfl,rfl,rfl,rfl,rfl,trivial⟩) (by omega) (fun j hj=>?_) (by rw[D8];exact .all rfl))
     (ai (jC 4 (aa 7 rfl) l4) (ak (jC 5 (aa 8 rfl) l5)))))) (Le.of ⟨rfl,rfl,rfl,rfl,?_,?_,trivial⟩)
   . by_cases c:(rec six xs k j).1 < ft six k (fM six xs j)
     . have er:rec six xs k (j+1)=(ft six k (fM six xs j),(j:Int)):=by rw[rec,if_pos c]
       refine .nx (ak (aG (ym (bo (sP T) aw hr (ae (aa 0 rfl) (ae (aa 6 rfl) (ae (b7 (aa 2 rfl) (aa 9 rfl) (gU six xs hj)) ag))) ⟨six,k,_,rfl,⟨by omega,by omega⟩,rfl⟩) (aa 7 rfl))
         (fun h=>ai (ay 7 nd (bo (sP T) aw hr (ae (aa 0 rfl) (ae (aa 6 rfl) (ae (b7 (aa 2 rfl) (aa 9 rfl) (gU six xs hj)) ag))) ⟨six,k,_,rfl,⟨by omega,by omega⟩,rfl⟩)) (ak (ay 8 nd (aa 9 rfl))))
         (fun h=>absurd c (of_decide_eq_false h)))) (Le.of ⟨rfl,rfl,rfl,rfl,rfl,rfl,rfl,?_,?_,trivial⟩)
       . exact congrArg (fun z=>Slot.val (.int z.1)) er
       . exact congrArg (fun z=>Slot.val (.int z.2)) er
     . have er:rec six xs k (j+1)=rec six xs k j:=by rw[rec,if_neg c]
       refine .nx (ak (aG (ym (bo (sP T) aw hr (ae (aa 0 rfl) (ae (aa 6 rfl) (ae (b7 (aa 2 rfl) (aa 9 rfl) (gU six xs hj)) ag))) ⟨six,k,_,rfl,⟨by omega,by omega⟩,rfl⟩) (aa 7 rfl))
         (fun h=>absurd (of_decide_eq_true h) c) (fun h=>aU))) (Le.of ⟨rfl,rfl,rfl,rfl,rfl,rfl,rfl,?_,?_,trivial⟩)
       . exact congrArg (fun z=>Slot.val (.int z.1)) er
       . exact congrArg (fun z=>Slot.val (.int z.2)) er
   . exact congrArg (fun z=>Slot.own (.lst z)) (pB k)
   . exact congrArg (fun z=>Slot.own (.lst z)) (pB k)
 . rw[en]
   have ea:A1 (xs.map Dt.str).length=B (bx six xs).reach (bx six xs).aN [.df,.df,.df,.df,.val (.int (bx six xs).gz)]:=by
     show B _ _ [_,_,_,_,Slot.val (.int (bx six (xs.take (xs.map Dt.str).length)).gz)]=_;rw[k3,IH]
   obtain⟨hm,D9⟩:=pw six _ xs rfl;have Cs:((xs.map Dt.str).length:Int).toNat=(xs.map Dt.str).length:=by omega
   have B8:(xs.map Dt.str).length=xs.length:=k3 ..;refine ai (ay 10 nd af) (ai (dB (o:=.nx (A1 (xs.map Dt.str).length)) (m:=(xs.map Dt.str).length) 9 A1 nd rfl PassesOwn.leaving T.c9 (ae (eZ T.fe (aa 1 rfl)) ag) ⟨by omega,by omega⟩ (Le.of ⟨rfl,rfl,rfl,rfl,rfl,rfl,rfl,trivial⟩) (by omega) (fun k hk=>?_) (by rw[Cs];exact .all rfl)) ?_)
   . rw[B8] at hk
     refine .nx (ak (ay 10 nd (aP (aa 10 rfl) (bo (sR T) aw hr (ae (b7 (aa 2 rfl) (aa 9 rfl) (gU six xs (k:=k) (by omega))) (ae (b7 (aa 2 rfl) (aP (aa 9 rfl) af) (gU six xs (k:=k+1) (by omega))) ag)) ⟨_,_,rfl,⟨rC six xs _ hn,rC six xs _ hn⟩,rfl⟩)))) (Le.of ⟨rfl,rfl,rfl,rfl,rfl,rfl,?_,trivial⟩);exact congrArg (fun z=>Slot.val (.int z)) (sV six xs hk)
   . rw[ea]
     have la:fR (cw six xs (xs.length+1)) (-1)=some (sp (bx six xs).shift):=by
       rw[iS];have:fM six xs xs.length=(bx six xs).shift:=by unfold fM;rw[IH]
       rw[<- this];exact k6
     exact iI 4 (w:=.lst ((bx six xs).reach.map .int)) (iI 5 (w:=.lst ((bx six xs).aN.map .int)) (ak (ax (fB (aE (ae (eZ T.fe (aa 1 rfl)) (ae (aa 3 rfl) (ae (b7 (aa 2 rfl) (aQ af) la) (ae (uu (xs:=xs) (aa 1 rfl) aT) (ae (aa 4 rfl) (ae (aa 5 rfl) (ae (aa 10 rfl) ag))))))) AA3) (by unfold gT;rw[hm,D9,B8];rfl)))))
theorem fN (six:Bool){ns:List Int}(h:ns.length=wn six):ij six ns 0=ns:=by
 refine list_eq (six:=six) (by unfold ij;simp) h fun v hv=>?_
 rw[oi six _ _ hv]
 congr 1
 have hw:=lW six;rw[Int.sub_zero,Int.emod_eq_of_lt (by omega) (by omega),Ih]
theorem xS (T:Txt K mg t):MF P w K mg base CX 5 t.aj "told" 1 (Ae t):=by
 refine⟨T.ao.cl,_,_,_,fu T.cH.F iy rfl fun bh A outer s H E G ds r hr hl hR=>?_,T.bU,T.cH.b⟩;obtain⟨six,x,rfl,hw,_,rfl⟩:=hR;have e0:tn six ((0:Int) % wy six).toNat x.shift=x.shift:=by cases six <;> rfl
 refine⟨_,.rt _,ak (ax (fB (aE (ae (br (fs:=t.cJ six x) (aa 0 rfl) (kM T) aw hr ⟨six,x,rfl,rfl⟩) (ae (br (fs:=t.cJ six x) (aa 0 rfl) (kN T) aw hr ⟨six,x,rfl,rfl⟩) (ae (nC (fs:=t.cJ six x) (aa 0 rfl) (jM T) aw hr ⟨six,x,0,rfl,rfl⟩)
   (ae (br (fs:=t.cJ six x) (aa 0 rfl) (gA T) aw hr ⟨six,x,rfl,rfl⟩) (ae (jU (iK (fs:=t.cJ six x) (aa 0 rfl) (ik T) aw hr ⟨six,x,0,rfl,hw,rfl⟩)) (ae (jU (iK (fs:=t.cJ six x) (aa 0 rfl) (jN T) aw hr ⟨six,x,0,rfl,hw,rfl⟩))
   (ae (br (fs:=t.cJ six x) (aa 0 rfl) (kO T) aw hr ⟨six,x,rfl,rfl⟩) ag))))))) AA3) ?_))⟩
 rw[e0,fN six hw.rl,fN six hw.tl];rfl
theorem xU (T:Txt K mg t):GF P w K mg base CX 2 "_law_list" 2 Ad:=by
 refine⟨_,_,_,fu T.jL.F qW rfl fun bh A outer s H E G ds r hr hl hR=>?_,(T.g T.jL.a),T.jL.F.kp,T.jL.b⟩;obtain⟨ns,rfl,hn,rfl⟩:=hR;have nd:=qW.nd;have hlen:(ns.map Dt.int).length=ns.length:=k3 ..;have iT:(((ns.map Dt.int).length:Nat):Int).toNat=ns.length:=by omega
 let S:Nat->List Slot:=fun _=>[.val (.lst (ns.map .int)),.val (.lst (ns.map .int)),.df]
 refine⟨_,.rt _,ai (aG (u:=false) (eY (ip (eG (u:=false) (eH (u:=true) (gO (jz T.bP (aa 0 rfl) (mN T.nZ Sg.boot_list) rfl trivial rfl))) fun _=>(dh (eY (v:=false) (k9 (eZ T.fe (aa 0 rfl)) (eZ T.fe (aa 1 rfl))) (by simp))))) rfl) (fun h=>nomatch h) (fun h=>aU))
   (ai (dB (o:=.nx (S ns.length)) (m:=ns.length) 2 S nd rfl PassesOwn.leaving T.c9 (ae (eZ T.fe (aa 1 rfl)) ag) ⟨by omega,by omega⟩ (Le.of ⟨rfl,rfl,trivial⟩) (by omega) (fun k hk=>?_) (by rw[iT];exact .all rfl)) (ak (ax yl)))⟩
 have ix:fR (ns.map Dt.int) (k:Int)=some (.int (ns.getD k 0)):=by
   have:=kP (ns:=ns) (k:=k) (by omega) (by omega);simpa using this
 exact .nx (ak (aG (u:=false) (eY (ip (eG (u:=false) (eH (u:=true) (gO (bo (lV T) aw hr (ae (b7 (aa 0 rfl) (aa 2 rfl) ix) ag) ⟨_,rfl,rfl⟩))) fun _=>(dh (eY (v:=false) (k9 (b7 (aa 0 rfl) (aa 2 rfl) ix) (b7 (aa 1 rfl) (aa 2 rfl) ix)) (by simp))))) rfl) (fun h=>nomatch h) (fun h=>aU))) (Le.of ⟨rfl,rfl,trivial⟩)
theorem vQ (T:Txt K mg t):GF P w K mg base CX 3 "_law_alike" 2 rB:=by
 refine⟨_,_,_,fu T.ig.F o3 rfl fun bh A outer s H E G ds r hr hl hR=>?_,(T.g T.ig.a),T.ig.F.kp,T.ig.b⟩;obtain⟨six,x,rfl,hw,rfl⟩:=hR;have nd:=o3.nd;have Ct:wn six<=6:=by cases six <;> decide
 have h1:=hw.rl;have h2:=hw.tl;let S:Nat->List Slot:=fun _=>[.val (gT x),.val (gT x),.df]
 refine⟨_,.rt _,ai (aG (u:=false) (eY (ip (eG (u:=false) (eH (u:=true) (gO (jz T.bP (aa 0 rfl) (mN T.kK Sg.boot_tuple) rfl trivial rfl))) fun _=>(dh (eY (v:=false) (k9 (qK T.fe (aa 0 rfl)) af) rfl)))) rfl) (fun h=>nomatch h) (fun h=>aU))
   (ai (dB (o:=.nx (S 7)) (m:=7) 2 S nd rfl PassesOwn.leaving T.c9 (ae af ag) ⟨by omega,by omega⟩ (Le.of ⟨rfl,rfl,trivial⟩) (by decide) (fun k hk=>?_) (.all rfl)) (ak (ax yl)))⟩
 have Hc:k=0\/k=1\/k=2\/k=3\/k=4\/k=5\/k=6:=by omega
 rcases Hc with rfl | rfl | rfl | rfl | rfl | rfl | rfl
 case inr.inr.inl=>
   exact .nx (ak (aG (b8 (aa 2 rfl) af) (fun h=>(ak (aG (u:=false) (eH (u:=true) (gO (bo (qm T) aw hr (ae (av (aa 0 rfl) af rfl) (ae (av (aa 1 rfl) af rfl) ag)) ⟨_,rfl,rfl⟩))) (fun h=>nomatch h) (fun h=>aU)))) (fun h=>absurd h (by decide)))) (Le.of ⟨rfl,rfl,trivial⟩)
 case inr.inr.inr.inr.inl=>
   exact .nx (ak (aG (b8 (aa 2 rfl) af) (fun h=>absurd h (by decide)) (fun h=>ak (aG (u:=true) (eY (ip (eG (b8 (aa 2 rfl) af) fun _=>(dh (b8 (aa 2 rfl) af)))) rfl) (fun h=>(ak (aG (u:=false) (eH (u:=true) (gO (bo (xU T) aw hr (ae (av (aa 0 rfl) (aa 2 rfl) rfl) (ae (av (aa 1 rfl) (aa 2 rfl) rfl) ag)) ⟨x.reach,rfl,by omega,rfl⟩))) (fun h=>nomatch h) (fun h=>aU)))) (fun h=>nomatch h))))) (Le.of ⟨rfl,rfl,trivial⟩)
 case inr.inr.inr.inr.inr.inl=>
   exact .nx (ak (aG (b8 (aa 2 rfl) af) (fun h=>absurd h (by decide)) (fun h=>ak (aG (u:=true) (eY (ip (eG (b8 (aa 2 rfl) af) fun _=>(dh (b8 (aa 2 rfl) af)))) rfl) (fun h=>(ak (aG (u:=false) (eH (u:=true) (gO (bo (xU T) aw hr (ae (av (aa 0 rfl) (aa 2 rfl) rfl) (ae (av (aa 1 rfl) (aa 2 rfl) rfl) ag)) ⟨x.aN,rfl,by omega,rfl⟩))) (fun h=>nomatch h) (fun h=>aU)))) (fun h=>nomatch h))))) (Le.of ⟨rfl,rfl,trivial⟩)
 all_goals exact .nx (ak (aG (b8 (aa 2 rfl) af) (fun h=>absurd h (by decide)) (fun h=>ak (aG (u:=false) (eY (ip (eG (b8 (aa 2 rfl) af) fun _=>(dh (b8 (aa 2 rfl) af)))) rfl) (fun h=>nomatch h) (fun h=>ak (aG (u:=false) (eY (ip (eG (u:=false) (eH (u:=true) (gO (bo (lV T) aw hr (ae (av (aa 0 rfl) (aa 2 rfl) rfl) ag) ⟨_,rfl,rfl⟩))) fun _=>(dh (eY (v:=false) (k9 (av (aa 0 rfl) (aa 2 rfl) rfl) (av (aa 1 rfl) (aa 2 rfl) rfl)) (by simp))))) rfl) (fun h=>nomatch h) (fun h=>aU))))))) (Le.of ⟨rfl,rfl,trivial⟩)
section
variable {K:W.Frag}{Hf:Hp}{q a:Addr}{us:List V}{u:HO}
theorem uE {C dx:Addr}{fs:List (Str×V)}(hq:Hf q=some (.lst us))(h:Rd Hf a (.ins C dx fs)):Rd (wc Hf q) a (.ins C dx fs):=by
 rcases h with h | ⟨o,h⟩ | ⟨tg,o,kvs,h,z⟩ | ⟨o,h⟩
 . have ne:a≠q:=fun e=>by rw[e,hq] at h;cases h
   exact .inl (by rw[mO ne];exact h)
 . have ne:a≠q:=fun e=>by rw[e,hq] at h;cases h
   exact .inr (.inl ⟨o,by rw[mO ne];exact h⟩)
 . cases z
 . have ne:a≠q:=fun e=>by rw[e,hq] at h;cases h
   exact .inr (.inr (.inr ⟨o,by rw[mO ne];exact h⟩))
theorem sX (ns:List Int):(ns.map Dt.int).all qS=true:=by
 induction ns with
 | nil=>rfl
 | cons n ns ih=>rw[HV,II,ih];rfl
theorem vS {v:V}{ns:List Int}(hn:0 < ns.length)(hq:Hf q=some (.lst us))(hs:∀ u∈us,∃ s,u=V.str s)(r:Rep K Hf v (.lst (ns.map .int))):Rep K (wc Hf q) v (.lst (ns.map .int)):=by
 cases r with
 | @lst b vs _ h rp=>
   have ne:b≠q:=fun e=>by
     rw[e,hq] at h;cases h;cases ns with
     | nil=>cases hn
     | cons n ns=>
       rw[HV] at rp;cases rp with
       | @cons w _ ws _ r1 _=>
         obtain⟨s,e⟩:=hs w HU;rw[e] at r1;cases r1
   exact .lst (by rw[mO ne];exact h) (jF (sX ns) rp)
theorem Ai {v:V}{t:iC}{six:Bool}{x:Tr}(wf:WF six x)(hq:Hf q=some (.lst us))(hs:∀ u∈us,∃ s,u=V.str s)(r:Rep K Hf v (t.gL six x)):Rep K (wc Hf q) v (t.gL six x):=by
 have w0:0 < wn six:=by cases six <;> decide
 have nt:yu (.lst us):=⟨fun _ e=>(nomatch e),fun _ _ e=>(nomatch e)⟩
 have r:Rep K Hf v (.obj t.aj (t.cJ six x)):=r;cases r with
 | @obj a _ dx fv _ h rf=>
   refine Rep.obj (uE hq h) ?_;have rf:cN K Hf fv [("drawer",.obj (t.pc six) []),("deed_count",.int x.many),("last_way",.int x.turn),("last_spot",sp x.shift),("stroke_count",.int x.bQ),("reaches",.lst (x.reach.map .int)),("touches",.lst (x.aN.map .int)),("crosses",.int x.gz)]:=rf;show cN K (wc Hf q) fv [("drawer",.obj (t.pc six) []),("deed_count",.int x.many),("last_way",.int x.turn),("last_spot",sp x.shift),("stroke_count",.int x.bQ),("reaches",.lst (x.reach.map .int)),("touches",.lst (x.aN.map .int)),("crosses",.int x.gz)];cases rf with
   | cons r1 rf=>cases rf with
   | cons r2 rf=>cases rf with
   | cons r3 rf=>cases rf with
   | cons r4 rf=>cases rf with
   | cons r5 rf=>cases rf with
   | cons r6 rf=>cases rf with
   | cons r7 rf=>cases rf with
   | cons r8 rf=>
     cases rf;cases r1 with
     | obj h1 f1=>
       cases f1;cases r2;cases r3;cases r5;cases r8;exact .cons (.obj (uE hq h1) .nil) (.cons (.int _) (.cons (.int _) (.cons (uD hq nt rfl r4) (.cons (.int _) (.cons (vS (by rw[wf.rl];exact w0) hq hs r6) (.cons (vS (by rw[wf.tl];exact w0) hq hs r7) (.cons (.int _) .nil)))))))
end
section
variable {K:W.Frag}{G:Gr}{st:L2.St}{Hf H:Hp}{dl:List Slot}{ds:List Dt}
theorem Ea (S:cK K G st Hf H dl){n:Nat}(hd:dl[n]?=some (.own (.lst ds))):∃ q vs,Hf q=none/\aS K Hf vs ds/\cK K G st (upd Hf q (.lst vs)) H (dl.set n (.val (.lst ds))):=by
 obtain⟨q,h1,h2,h3,vs,h4,h5⟩:=S.own n _ hd;have hl:n < dl.length:=(Hx.mp hd).1;have sm:aI Hf (upd Hf q (.lst vs)):=aX h2;refine⟨q,vs,h2,h5,⟨S.gr.big,S.gr.bH.trans sm,fun b o hb=>?_,fun b o hb=>?_⟩,by simp[S.len],fun j z hj=>?_,fun j o hj=>?_,fun j k o1 o2 a q1 q2 q3 q4=>?_⟩
 . by_cases e:b=q
   . subst e;rw[au] at hb;cases hb;exact h4
   . rw[ar e] at hb;exact S.gr.sub _ _ hb
 . by_cases e:b=q
   . subst e;exact .inr (.inl h3)
   . rw[ar e] at hb;exact S.gr.new b o hb
 . by_cases e:n=j
   . subst e
     rw[k0 hl] at hj;cases hj;exact⟨_,h1,.lst au (h5.mono sm)⟩
   . rw[k2 e] at hj
     obtain⟨v,z1,z2⟩:=S.val j z hj;exact⟨v,z1,z2.mono sm⟩
 . by_cases e:n=j
   . subst e
     rw[k0 hl] at hj;cases hj
   . rw[k2 e] at hj
     obtain⟨a,z1,z2,z3,z4⟩:=S.own j o hj;have ne:a≠q:=fun z=>by subst z;exact e (S.tf n j _ _ _ hd hj h1 z1)
     exact⟨a,z1,by rw[ar ne];exact z2,z3,z4.grow rfl sm⟩
 . have tr:∀ (j:Nat) o,(dl.set n (.val (.lst ds)))[j]?=some (.own o)->dl[j]?=some (.own o):=fun j o h=>by
     by_cases e:n=j
     . subst e;rw[k0 hl] at h;cases h
     . rw[k2 e] at h;exact h
   exact S.tf j k _ _ a (tr _ _ q1) (tr _ _ q2) q3 q4
end
section
variable {X:Cx}{G:Gr}{dl:List Slot}{e a b:Expr}{ds es:List Dt}{d:Dt}{pos:Pos}
theorem vT {K:W.Frag}{H:Hp}:∀ {vs:List V} {xs:List Str},aS K H vs (xs.map Dt.str)->∀ u∈vs,∃ s,u=V.str s
 | _,[],.nil=>fun u h=>(by cases h)
 | _,x::xs,.cons r t=>fun u h=>by
   cases r;rcases Im.mp h with h | h
   . exact⟨x,h⟩
   . exact vT t u h
theorem vU (n:Nat){t:iC}{six:Bool}{x:Tr}{xs:List Str}(wf:WF six x)(h:EE X G (dl.set n (.val (.lst (xs.map .str)))) e (t.gL six x))(hd:autoParam (dl[n]?=some (.own (.lst (xs.map .str)))) jp):EE X G dl e (t.gL six x):=eW h fun st H Q zq=>k1 zq fun Hf zq=>have S:=zq.1;have k:=zq.2;by
 obtain⟨q,vs,hn,rp,S1⟩:=Ea S hd;refine⟨upd Hf q (.lst vs),S1,fun v aB H' g r=>k v (wc aB q) H' ⟨g.big,fun a o ha=>?_,fun a o ha=>g.sub a o (qT ha).2,fun a o ha=>?_⟩ (Ai wf (g.bH _ _ au) (vT rp) r)⟩
 . have ne:a≠q:=fun e=>by subst e;rw[hn] at ha;cases ha
   rw[mO ne];exact g.bH _ _ (by rw[ar ne];exact ha)
 . obtain⟨ne,hb⟩:=qT ha
   rcases g.new a o hb with⟨o',h1⟩ | h1 | h1
   . rw[ar ne] at h1;exact .inl ⟨o',h1⟩
   . exact .inr (.inl h1)
   . exact .inr (.inr h1)
theorem xV {d1:Dt}(ha:EE X G dl a (.tup (d1::ds)))(hb:EE X G dl b (.tup (d::es)))(hz:ds.length+es.length+2<=1000):EE X G dl (.BinOp a .Add b pos) (.tup (d1::ds ++ d::es)):=
 eW (tN wM ha hb) fun st H Q zq=>zn zq fun Hf S k=>fun v aA H1 g1 r1=>⟨aA,S.grow g1,fun w dz H2 g2 r2=>by
   cases r1 with
   | @tup p vs _ h1 q1=>
     cases r2 with
     | @tup p' ws _ h2 q2=>
       have l1:=q1.length;have l2:=q2.length;refine⟨p,p',vs,ws,rfl,rfl,bq (g1.sub.trans g2.big) h1,bq g2.sub h2,fun z=>by rw[z] at l1;simp at l1,by rw[l1,l2];simp;exact Il (cj (by omega)),fun z=>by rw[z] at l2;simp at l2,fun _ r hr=>?_⟩;have ga:bj dz H2 (upd dz r (.tup (vs ++ ws))) (upd H2 r (.tup (vs ++ ws))):=.alloc g2.sub hr;exact k _ _ _ ((g1.trans g2).trans ga) (.tup (.of au) ((q1.mono (g2.trans ga).bH).append (q2.mono ga.bH)))⟩
end
theorem l0:∀ xs:List Str,pD (xs.map Dt.str)=xs.map PyData.str
 | []=>by simp[pD]
 | x::xs=>by rw[HV,pD,l0 xs];simp[pd]
theorem Aj {d:Str}(h:d∈gG):PyData.strOk d=true:=by
 have:d="stroke"\/d="step"\/d="left"\/d="right"\/d="rest":=by simpa [gG] using h
 rcases this with rfl | rfl | rfl | rfl | rfl <;> decide +kernel
theorem gW (xs:List Str)(hd:∀ d∈xs,d∈gG):wa (.lst (xs.map .str)):=by
 have h1:ff (xs.map Dt.str)=true:=by
   clear hd
   induction xs with
   | nil=>simp[ff]
   | cons x xs ih=>rw[HV,ff,ih];simp[Sg.plain]
 have h2:∀ ys:List Str,(∀ d∈ys,d∈gG)->PyData.canLayAll0 (ys.map PyData.str)=true/\PyData.depthAll (ys.map PyData.str)=0:=by
   intro ys
   induction ys with
   | nil=>intro _;simp[PyData.canLayAll0,PyData.depthAll]
   | cons y ys ih=>
     intro h;have q:=ih fun d hd=>h d (HB _ hd)
     have s:=Aj (h y HU);rw[HV];simp[PyData.canLayAll0,PyData.depthAll,PyData.canLay0,PyData.depth,q,s]
 refine⟨by rw[Sg.plain];exact h1,?_⟩;unfold SeqAt.shaped;rw[pd,l0];simp[PyData.canLay0,PyData.depth,h2 xs hd]
theorem rD (xs:List Str):PyData.eqv (pd (.lst (xs.map .str))) (pd (.lst []))=decide (xs=[]):=by
 rw[pd,pd,l0];cases xs with
 | nil=>simp[pD,PyData.eqv,PyData.eqvAll]
 | cons x xs=>simp[pD,PyData.eqv,PyData.eqvAll]
theorem xW (n:Nat)(xs:List Str):(FH n xs).flatten.length=n * xs.length:=len_rep xs n
theorem vV (n:Nat)(xs:List Str):(FH n (xs.map Dt.str)).flatten=(FH n xs).flatten.map .str:=by
 induction n with
 | zero=>rfl
 | succ n ih=>rw[HQ,Ib,ih,HQ,Ib,IM]
def rE (t:iC):List Dt->List Dt->List Dt->List Dt->Dt->Prop:=fun as ds xs ys d6=>∃ six x,as=[t.gL six x]/\WF six x/\ds=[.int x.many,.int x.turn,sp x.shift,.int x.bQ]/\xs=x.reach.map .int/\ys=x.aN.map .int/\d6=.int x.gz
theorem vW {X:Cx}{G:Gr}{dl:List Slot}{e:Expr}{a b:List Dt}(h:a=b)(he:EO X G dl e (.lst a)):EE X G dl e (.lst b):=by rw[<- h];exact jU he
def B9 (t:iC):Rl:=fun ds r=>∃ six x,ds=[t.gL six x]/\WF six x/\r=.ret (gT x)
theorem vX (T:Txt K mg t):dA P w K mg base CX 6 t.cb t.dq ["self"] (BM K 1 (rE t)):=by
 obtain⟨oc,od,kV,doc,pm,an,bh,ct,l7,e,lk,gX⟩:=T.cH.F.ex;rw[e] at lk ⊢;refine qz lk gX iy (fun vs H Q E ⟨Hf,as,ds,xs,ys,d6,s,rp,hl,_⟩=>by rw[rp.length,hl];rfl) fun A outer s H vs Q E hr ⟨Hf,as,ds,xs,ys,d6,sm,rp,hl,hR,hk⟩=>?_
 obtain⟨six,x,rfl,hw,rfl,rfl,rfl,rfl⟩:=hR;have e0:tn six ((0:Int) % wy six).toNat x.shift=x.shift:=by cases six <;> rfl
 have sl:slots gi [t.gL six x]=[.val (t.gL six x)]:=rfl;have S0:=jy (N:=gi) sm rp;rw[sl] at S0;refine⟨_,qu (pH (tT (eX (br (G:=⟨Hf,H⟩) (dl:=[.val (t.gL six x)]) (fs:=t.cJ six x) (aa 0 rfl) (kM T) aw hr ⟨six,x,rfl,rfl⟩) (eX (br (G:=⟨Hf,H⟩) (dl:=[.val (t.gL six x)]) (fs:=t.cJ six x) (aa 0 rfl) (kN T) aw hr ⟨six,x,rfl,rfl⟩) (eX (fB (nC (G:=⟨Hf,H⟩) (dl:=[.val (t.gL six x)]) (fs:=t.cJ six x) (aa 0 rfl) (jM T) aw hr ⟨six,x,0,rfl,rfl⟩) (by rw[e0]))
   (eX (br (G:=⟨Hf,H⟩) (dl:=[.val (t.gL six x)]) (fs:=t.cJ six x) (aa 0 rfl) (gA T) aw hr ⟨six,x,rfl,rfl⟩) (eX (yo (iK (G:=⟨Hf,H⟩) (dl:=[.val (t.gL six x)]) (fs:=t.cJ six x) (aa 0 rfl) (ik T) aw hr ⟨six,x,0,rfl,hw,rfl⟩) (by rw[fN six hw.rl])) (eX (yo (iK (G:=⟨Hf,H⟩) (dl:=[.val (t.gL six x)]) (fs:=t.cJ six x) (aa 0 rfl) (jN T) aw hr ⟨six,x,0,rfl,hw,rfl⟩) (by rw[fN six hw.tl]))
   (eX (br (G:=⟨Hf,H⟩) (dl:=[.val (t.gL six x)]) (fs:=t.cJ six x) (aa 0 rfl) (kO T) aw hr ⟨six,x,rfl,rfl⟩) tS))))))))),?_⟩
 refine⟨Hf,S0,fun v0 aA H1 g1 r0=>⟨aA,S0.grow g1,fun v1 dz H2 g2 r1=>⟨dz,(S0.grow g1).grow g2,fun v2 rZ H3 g3 r2=>⟨rZ,((S0.grow g1).grow g2).grow g3,fun v3 Hd H4 g4 r3=>⟨Hd,(((S0.grow g1).grow g2).grow g3).grow g4,fun p He H5 g5 n5 m5 o5=>⟨He,((((S0.grow g1).grow g2).grow g3).grow g4).grow g5,fun q Hg H6 g6 n6 m6 o6=>⟨Hg,(((((S0.grow g1).grow g2).grow g3).grow g4).grow g5).grow g6,fun v6 Fm H7 g7 r6=>⟨Iv rfl,fun a ha=>?_⟩⟩⟩⟩⟩⟩⟩⟩;obtain⟨vx,hx,rx⟩:=o5;obtain⟨vy,hy,ry⟩:=o6;have Hh:=g6.trans g7;have ga:bj Fm H7 (upd Fm a (.tup [v0,v1,v2,v3,.ref p,.ref q,v6])) (upd H7 a (.tup [v0,v1,v2,v3,.ref p,.ref q,v6])):=.alloc g7.sub ha;have gx:=Hh.trans ga;have gy:=g7.trans ga;have Fn:=((((g1.trans g2).trans g3).trans g4).trans g5)
 have pq:p≠q:=aJ hx n6;refine hk a p q _ _ (Fn.trans gx) ⟨⟨[v0,v1,v2,v3],v6,.of au,.cons (r0.mono ((((g2.trans g3).trans g4).trans g5).trans gx).bH) (.cons (r1.mono (((g3.trans g4).trans g5).trans gx).bH) (.cons (r2.mono ((g4.trans g5).trans gx).bH) (.cons (r3.mono (g5.trans gx).bH) .nil))),r6.mono ga.bH⟩,⟨vx,gx.big _ _ hx,rx.mono gx.bH⟩,⟨vy,gy.big _ _ hy,ry.mono gy.bH⟩,pq,mP gx hx m5,mP gy hy m6,?_,?_⟩
 . exact(((g1.trans g2).trans g3).trans g4).big.free n5
 . exact Fn.big.free n6
theorem Ak (T:Txt K mg t):GF P w K mg base CX 5 "_law_by_methods" 1 (B9 t):=by
 refine⟨_,_,_,fu T.cI.F iz rfl fun bh A outer s H E G ds r hr hl hR=>?_,(T.g T.cI.a),T.cI.F.kp,T.cI.b⟩;obtain⟨six,x,rfl,hw,rfl⟩:=hR;have nd:=iz.nd;have e0:sp (tn six ((0:Int) % wy six).toNat x.shift)=sp x.shift:=by cases six <;> rfl
 have eR:ij six x.reach 0=x.reach:=fN six hw.rl;have eT:ij six x.aN 0=x.aN:=fN six hw.tl;refine⟨_,.rt _,ai (ay 1 nd (d:=.tup [.int x.many,.int x.turn,sp x.shift,.int x.bQ]) (aE (ae (br (fs:=t.cJ six x) (aa 0 rfl) (kM T) aw hr ⟨six,x,rfl,rfl⟩) (ae (br (fs:=t.cJ six x) (aa 0 rfl) (kN T) aw hr ⟨six,x,rfl,rfl⟩) (ae (fB (nC (fs:=t.cJ six x) (aa 0 rfl) (jM T) aw hr ⟨six,x,0,rfl,rfl⟩) e0) (ae (br (fs:=t.cJ six x) (aa 0 rfl) (gA T) aw hr ⟨six,x,rfl,rfl⟩) ag)))) AA3))
   (ak (ax (xV (d1:=.int x.many) (ds:=[.int x.turn,sp x.shift,.int x.bQ]) (d:=.lst (x.reach.map .int)) (es:=[.lst (x.aN.map .int),.int x.gz]) (aa 1 rfl) (aE (ae (vW (congrArg (List.map Dt.int) eR) (iK (fs:=t.cJ six x) (aa 0 rfl) (ik T) aw hr ⟨six,x,0,rfl,hw,rfl⟩)) (ae (vW (congrArg (List.map Dt.int) eT) (iK (fs:=t.cJ six x) (aa 0 rfl) (jN T) aw hr ⟨six,x,0,rfl,hw,rfl⟩)) (ae (br (fs:=t.cJ six x) (aa 0 rfl) (kO T) aw hr ⟨six,x,rfl,rfl⟩) ag))) AA3) AA3)))⟩
theorem Al (T:Txt K mg t):dA P w K mg base CX 12 t.jg t.lK ["_law_script"] (vj K):=by
 refine fu T.o4.F uW rfl fun bh A outer s H E G ds r hr hl hR=>?_
 obtain⟨ns,hlen,rfl,rfl⟩:=hR;have nd:=uW.nd;obtain⟨six,e6⟩:∃ six,4+2 * (cellAt ns 0 % 2)=wy six:=by
   have:cellAt ns 0 % 2=0\/cellAt ns 0 % 2=1:=by omega
   rcases this with h | h
   . exact⟨false,by rw[h];rfl⟩
   . exact⟨true,by rw[h];rfl⟩
 let cs:=cellsOf ns 3 63;have HK:cs.length<=60:=by show(cellsOf ns 3 63).length<=60;unfold cellsOf;rw[k3,HX];omega
 let f0:=cs.map xM;have HL:f0.length<=60:=by show(cs.map xM).length<=60;rw[k3];omega
 have md:∀ l:List Int,∀ d∈l.map xM,d∈gG:=fun l d h=>by
   obtain⟨c,_,rfl⟩:=List.mem_map.mp h;exact xN c
 obtain⟨fi,Hi,Hj,Fp⟩:∃ fi:List Str,((cellAt ns 1 % 4=1/\f0≠[]/\fi=(FH (400 / f0.length) f0).flatten)\/(¬ (cellAt ns 1 % 4=1/\f0≠[])/\fi=f0))/\fi.length<=400/\∀ d∈fi,d∈gG:=by
   by_cases c:cellAt ns 1 % 4=1/\f0≠[]
   . refine⟨_,.inl ⟨c.1,c.2,rfl⟩,?_,fun d hd=>?_⟩
     . rw[xW];exact Nat.div_mul_le_self _ _
     . obtain⟨l,hl,hd⟩:=List.mem_flatten.mp hd
       rw[List.eq_of_mem_replicate hl] at hd;exact md _ d hd
   . exact⟨f0,.inr ⟨c,rfl⟩,by omega,md _⟩
 have Hk:∀ k:Nat,k<=1000->k<=sizeLine:=fun k hk=>Il (cj hk)
 obtain⟨x,hx⟩:∃ x,x=bx six fi:=⟨_,rfl⟩
 have wf:WF six x:=by rw[hx];exact vw six (by omega)
 have Eb:rB [gT x,gT x] (.ret (.bl true)):=⟨six,x,rfl,wf,rfl⟩
 have Ec:wa (.lst (fi.map .str)):=gW fi Fp;have Hl:PyData.eqv (pd (.lst (fi.map .str))) (pd (.lst (fi.map .str)))=true:=eqv_refl _ Ec.1;let tl:List Dt:=[.int x.many,.int x.turn,sp x.shift,.int x.bQ,.lst (x.reach.map .int),.lst (x.aN.map .int),.int x.gz]
 let D:Slot->Slot->Slot->Slot->List Slot:=fun a4 a5 a6 a7=>[.val (.kh ns),.val (.int (wy six)),.val (.lst (fi.map .str)),.val (gT x),a4,a5,a6,a7]
 refine⟨_,.rt _,?_⟩;refine ai (ay 1 nd (fB (aP af (cy af (dW (bo (lU T) aw hr (ae (aa 0 rfl) (ae af ag)) ⟨ns,0,rfl,by decide,rfl⟩) af (by decide)) (iF.ok (HS ⟨by decide,by decide⟩)))) (congrArg Dt.int e6))) ?_;refine ai (dl1:=[.val (.kh ns),.val (.int (wy six)),.val (.lst (f0.map .str)),.df,.df,.df,.df,.df]) (ay 2 nd (jU (qQ (vN T) aw hr (ae (jU (qQ (vM T) aw hr (ae (aa 0 rfl) (ae af (ae af ag))) ⟨ns,3,63,rfl,⟨hlen,by decide,by decide⟩,rfl⟩)) ag) ⟨cs,rfl,by omega,rfl⟩))) ?_;refine ai (dl1:=[.val (.kh ns),.val (.int (wy six)),.val (.lst (fi.map .str)),.df,.df,.df,.df,.df]) ?ifF ?_
 case ifF=>
   rcases Hi with⟨h1,h2,h3⟩ | ⟨h1,h2⟩
   . have hp:0 < f0.length:=List.length_pos_iff.mpr h2
     have ed:(400:Int) / (((f0.map Dt.str).length:Nat):Int)=((400 / f0.length:Nat):Int):=by rw[k3];rfl
     have hb:400 / f0.length<=400:=Nat.div_le_self _ _;have hL:(0:Int) < ((f0.map Dt.str).length:Int)/\((f0.map Dt.str).length:Int).natAbs.log2 < 9000:=by
       rw[k3,Int.natAbs_natCast];exact⟨by omega,IA (Nat.log2_le_self _) (by omega)⟩
     have eF:∀ {X:Cx} {G:Gr} {dl:List Slot} {z:Expr},EO X G dl z (.lst (FH (((400 / f0.length:Nat):Int)).toNat (f0.map Dt.str)).flatten)->EE X G dl z (.lst (fi.map .str)):=fun h=>by
       have:=jU h;rw[Ih,vV,<- h3] at this;exact this
     refine aG (u:=true) (eY (ip (ua (b8 (dW (bo (lU T) aw hr (ae (aa 0 rfl) (ae af ag)) ⟨ns,1,rfl,by decide,rfl⟩) af (by decide)) af) fun _=>(qF (qL (u:=!decide (f0=[])) hr.units (aa 2 rfl) (eI ag AA3) (gW f0 (md _)) (gW [] (fun _ h=>nomatch h)) (by rw[rD]))))) (by rw[decide_eq_true h1,decide_eq_false h2];rfl)) (fun h=>?_) (fun h=>nomatch h);refine ak (ay 2 nd (eF (p6 (aa 2 rfl) (fB (qE af (eZ T.fe (aa 2 rfl)) hL) (congrArg Dt.int ed)) (Int.le_trans (by decide) (Int.natCast_nonneg _)) (Int.lt_of_le_of_lt (Int.ofNat_le.mpr hb) (by decide)) ?_)))
     . rw[Ih,k3,Nat.mul_comm]
       exact Hk _ (Ik (Nat.div_mul_le_self _ _) (by decide))
   . subst h2
     refine aG (u:=false) (eY (ip (ua (b8 (dW (bo (lU T) aw hr (ae (aa 0 rfl) (ae af ag)) ⟨ns,1,rfl,by decide,rfl⟩) af (by decide)) af) fun _=>(qF (qL (u:=!decide (f0=[])) hr.units (aa 2 rfl) (eI ag AA3) (gW f0 (md _)) (gW [] (fun _ h=>nomatch h)) (by rw[rD]))))) ?_) (fun h=>nomatch h) (fun h=>aU);by_cases c1:cellAt ns 1 % 4=1
     . have c2:f0=[]:=Classical.byContradiction fun z=>h1 ⟨c1,z⟩
       rw[decide_eq_true c2];simp
     . rw[decide_eq_false c1];rfl
 refine ai (dl1:=D .df .df .df .df) (ay 3 nd (fB (bo (sW T) aw hr (ae (aa 1 rfl) (ae (aa 2 rfl) ag)) ⟨six,fi,rfl,by omega,rfl⟩) (by rw[hx]))) ?_;refine ai (dl1:=D (.own (.lst (fi.map .str))) .df .df .df) (g9 4 nd (xc T.nZ (aa 2 rfl))) ?_;refine ai (dl1:=D (.own (.lst (fi.map .str))) (.val (t.gL six x)) .df .df) (ay 5 nd (vU 4 (xs:=fi) wf (fB (bo (pv T) aw hr (ae (bo (sJ T) aw hr (ae (aa 1 rfl) ag) ⟨six,rfl,rfl⟩) (ae (aa 4 rfl) ag)) ⟨six,fi,rfl,Fp,by omega,rfl⟩) (by rw[hx])))) ?_;refine zI 6 4 nd (by decide) (xi (fs:=t.cJ six x) (R:=rE t) (aa 5 rfl) T.ao.cl T.bU (vX T) aw hr T.cH.b ⟨six,x,rfl,wf,rfl,rfl,rfl,rfl⟩) rfl ?_;let DA:Slot->Addr->Addr->List Slot:=fun a7 a h=>D (.val (.cls h)) (.val (t.gL six x)) (.val (.cls a)) a7
 have no:∀ (d:Dt) (u:Bool) (a h:Addr),e7 (DA (if u then .val d else .df) a h):=fun d u a h i o z=>by
   rcases i with _ | _ | _ | _ | _ | _ | _ | _ | i
   all_goals first | cases z | (cases u <;> cases z)
 have Fq:∀ a h,e7 (DA .df a h):=no .b4 false;have Cc:∀ d a h,e7 (DA (.val d) a h):=fun d=>no d true
 show j9 _ _ (lr _ _ _ (DA .df) _ _ _ _ _ _);refine BQ 6 4 Fq (fun a h=>rfl) (fun a h=>rfl) (fun a h=>ip (eG (u:=false) (v:=false) (eH (u:=true) (gO (bo (vQ T) aw hr (ae (aa 6 rfl) (ae (aa 3 rfl) ag)) Eb))) fun _=>eG (u:=false) (v:=false) (eH (u:=true) (gO (bo (vQ T) aw hr (ae (bo (Ak T) aw hr (ae (aa 5 rfl) ag) ⟨six,x,rfl,wf,rfl⟩) (ae (aa 3 rfl) ag)) Eb))) fun _=>dh (qL (d1:=.lst (fi.map .str)) (d2:=.lst (fi.map .str)) hr.units (aa 4 rfl) (aa 2 rfl) Ec Ec (by rw[Hl];rfl)))) ?_;let bD:Dt:=.bl (decide (x.shift=(0,0)));refine nE (dl1:=DA (.val bD)) Fq (fun G' a h=>ay 7 nd (br (fs:=t.cJ six x) (aa 5 rfl) (sN T) aw hr ⟨six,x,rfl,rfl⟩)) ?_;refine nE (dl1:=DA (.val bD)) (Cc _) (fun G' a h=>aG (u:=false) (ip (eG (u:=false) (v:=false) (eH (u:=true) (gO (jz T.bP (aa 7 rfl) (mN T.nY Sg.boot_bool) rfl trivial rfl))) fun _=>dh (qL (d1:=bD) (d2:=bD) hr.units (aa 7 rfl) (ui hr.units (av (d:=sp x.shift) (ds:=tl) (aa 3 rfl) af rfl) (aE (ae af (ae af ag)) AA3) ⟨rfl,rfl⟩ ⟨rfl,rfl⟩ (pk x.shift)) ⟨rfl,rfl⟩ ⟨rfl,rfl⟩ (by rw[eqv_refl _ rfl];rfl)))) (fun h=>nomatch h) (fun _=>aU)) ?_;have w6:wn six<=6/\0 < wn six:=by cases six <;> decide
 refine sy 6 (Cc _) (fun a h=>rfl) rfl (fun a h=>af) (by rw[k3,wf.rl];exact IA w6.1 (by decide)) ?_;refine uH (m':=0) 6 (Cc _) (fun a h=>rfl) rfl (fun a h=>af) (fun a h=>af) (by rw[k3,wf.tl];cases six <;> rfl) ?_;refine nE (dl1:=DA (.val bD)) (Cc _) (fun G' a h=>wZ (uq (iK (fs:=t.cJ six x) (aa 5 rfl) (ik T) aw hr ⟨six,x,0,rfl,wf,rfl⟩))) ?_;refine xj 4 (Cc _) (fun a h=>rfl) (fun a h=>aT) (by rw[k3];exact IA Hj (by decide)) (fun a h=>?_);exact ak (ax (bo (vQ T) aw hr (ae (br (fs:=t.cJ six x) (aa 5 rfl) (xS T) aw hr ⟨six,x,rfl,wf,wf.rl,rfl⟩) (ae (aa 3 rfl) ag)) Eb))
end Pf
end
theorem x0 {p:List PySem.Value->Prop}(h:p []):∀ us:List PySem.Value,us.length=0->p us
 | [],_=>h
theorem x3 {p:List PySem.Value->Prop}{n:Nat}(h:∀ a us,us.length=n->p (a::us)):∀ us:List PySem.Value,us.length=n+1->p us
 | a::us,e=>h a us (Nat.succ.inj e)
namespace PySem.W.Fast
theorem tw14050004463070673184:True:=⟨⟩
theorem tw17336661225545725768:True:=⟨⟩
theorem tw5268314264565324308:True:=⟨⟩
theorem tw5616906552302869524:True:=⟨⟩
theorem tw12998199151769419448:True:=⟨⟩
theorem tw2164451070394318344:True:=⟨⟩
theorem tw1263986910776515111:True:=⟨⟩
theorem tw8288538043497301042:True:=⟨⟩
theorem tw8735826649711967579:True:=⟨⟩
theorem tw6952063038792164307:True:=⟨⟩
theorem tw6516697781234239717:True:=⟨⟩
theorem tw17971263891849672163:True:=⟨⟩
theorem tw12184727830927651270:True:=⟨⟩
theorem tw15007796125586737298:True:=⟨⟩
theorem tw4141904388348065179:True:=⟨⟩
theorem tw9687345129106230855:True:=⟨⟩
theorem tw13118040216297431686:True:=⟨⟩
theorem tw5755518475266001139:True:=⟨⟩
theorem tw5033784763067197816:True:=⟨⟩
theorem tw11820688890902935424:True:=⟨⟩
theorem tw9007469006220414883:True:=⟨⟩
theorem tw18324353434875868886:True:=⟨⟩
theorem tw15540809580747964970:True:=⟨⟩
theorem tw17022111636534465463:True:=⟨⟩
theorem tw12651727151780844008:True:=⟨⟩
theorem tw9814528070025969265:True:=⟨⟩
theorem tw14613353015506457289:True:=⟨⟩
theorem tw6446248759972993934:True:=⟨⟩
theorem tw2602291535304972825:True:=⟨⟩
theorem tw2367175950336935389:True:=⟨⟩
theorem tw322075514904390586:True:=⟨⟩
theorem tw11901888834894316421:True:=⟨⟩
theorem tw10873172250529552071:True:=⟨⟩
theorem tw12072138158121373800:True:=⟨⟩
theorem tw4997048101333541586:True:=⟨⟩
theorem tw16551013526181229696:True:=⟨⟩
theorem tw13054365708066130708:True:=⟨⟩
theorem tw2738892256501474870:True:=⟨⟩
theorem tw12398122035810279249:True:=⟨⟩
theorem tw12554510076237717269:True:=⟨⟩
theorem tw11072356832706135956:True:=⟨⟩
theorem tw5064574687174543859:True:=⟨⟩
theorem tw16659351622339617922:True:=⟨⟩
theorem tw15834331576144741443:True:=⟨⟩
theorem tw11201079477695935547:True:=⟨⟩
theorem tw6733536357132483493:True:=⟨⟩
theorem tw15645432255948007702:True:=⟨⟩
theorem tw2458952342411097415:True:=⟨⟩
theorem tw17385287630235722602:True:=⟨⟩
theorem tw896891043867066973:True:=⟨⟩
theorem tw16959659412008828518:True:=⟨⟩
theorem tw274892463838461815:True:=⟨⟩
theorem tw8274177881326380114:True:=⟨⟩
theorem tw3711660133407554380:True:=⟨⟩
theorem tw2688318514915906585:True:=⟨⟩
theorem tw9984052530965418752:True:=⟨⟩
theorem tw8912217454657659366:True:=⟨⟩
theorem tw7212397865309847880:True:=⟨⟩
theorem tw16816038971459107038:True:=⟨⟩
theorem tw16430877017082666594:True:=⟨⟩
theorem tw18259710934160800674:True:=⟨⟩
theorem tw8688554252735013939:True:=⟨⟩
theorem tw10014708070714941716:True:=⟨⟩
theorem tw2216409595730776947:True:=⟨⟩
theorem tw14502168129602786148:True:=⟨⟩
theorem tw7853689305177554423:True:=⟨⟩
theorem tw10856378095525906022:True:=⟨⟩
theorem tw15906336481300098419:True:=⟨⟩
theorem tw9151203849712757942:True:=⟨⟩
theorem tw2850661635947584787:True:=⟨⟩
theorem tw16512312114905598213:True:=⟨⟩
theorem tw10704914319931471786:True:=⟨⟩
theorem tw2481465860832023595:True:=⟨⟩
theorem tw6719395219604581273:True:=⟨⟩
theorem tw13433712111408084351:True:=⟨⟩
theorem tw9635043802118376875:True:=⟨⟩
theorem tw12603136526196850575:True:=⟨⟩
theorem tw12547007524267004163:True:=⟨⟩
theorem tw17542159783868971569:True:=⟨⟩
theorem tw16962508754636696363:True:=⟨⟩
theorem tw7389631676949031011:True:=⟨⟩
theorem tw4212062293237820686:True:=⟨⟩
theorem tw9987557938535727461:True:=⟨⟩
theorem tw3425347216751938433:True:=⟨⟩
theorem tw3450569579878708174:True:=⟨⟩
theorem tw6832556842360496386:True:=⟨⟩
theorem tw3833603231783779052:True:=⟨⟩
theorem tw10991564451838761776:True:=⟨⟩
theorem tw7012140047962665745:True:=⟨⟩
theorem tw17641619096367284474:True:=⟨⟩
theorem tw15012744415992380960:True:=⟨⟩
theorem tw10531026866687744825:True:=⟨⟩
theorem tw8932927415567413120:True:=⟨⟩
theorem tw11365553422464259598:True:=⟨⟩
theorem tw14194338533296950896:True:=⟨⟩
theorem tw9616521871288978076:True:=⟨⟩
theorem tw4513027702026443546:True:=⟨⟩
theorem tw4985363474330952246:True:=⟨⟩
theorem tw14927307230786047117:True:=⟨⟩
theorem tw14786053009272748175:True:=⟨⟩
theorem tw11539435567269240207:True:=⟨⟩
theorem tw17046611908704504072:True:=⟨⟩
theorem tw11447611977693568051:True:=⟨⟩
theorem tw7727346865198699936:True:=⟨⟩
theorem tw10945362704816549442:True:=⟨⟩
theorem tw3873985726639854828:True:=⟨⟩
theorem tw942725140319326675:True:=⟨⟩
theorem tw8900649933641720704:True:=⟨⟩
theorem tw15668948809112570688:True:=⟨⟩
theorem tw14890717314089880208:True:=⟨⟩
theorem tw15163832485879341168:True:=⟨⟩
end PySem.W.Fast
open PySem PySem.W PyProof.Rows
set_option maxRecDepth 100000 in
set_option maxHeartbeats 0 in
theorem PySem.Challenge.cw_strokegrow_k26_tracks_as_drawn_holds : PySem.Challenge.rw_strokegrow_k26_tracks_as_drawn.Holds := by
 w_on;o_law;k_head;(case hw=>w_witness2)
 k_fill
 refine L2.t5 (l:=PySem.Challenge.rw_strokegrow_k26_tracks_as_drawn) (n:=63) (k:=12) (x:="_law_script") (CX:=Pf.CX) (sp:=fun K=>Pf.vj K) rfl (by decide) rfl ⟨rfl,by decide,by decide⟩ (fun w h Y=>PySem.W.kIn_of Y) ?F ?S ?C
 case F=>
   intro w mg fa h KX G Bm;have T:∃ t,Pf.Txt (L2.Ex KX) mg t∧t.jg=fa:=by
     dsimp only [L2.Ex];obtain⟨t,T,e⟩:∃ t,Pf.Txt _ mg t∧t.jg=_:=by
       refine' Pf.zR KX G ?_ ?_ ?_ ?_ ?_ ?_ ?_ ?_ ?_ ?_ ?_ ?_ ?_ ?_ ?_ ?_ ?_ ?_ ?_ ?_ ?_ ?_ ?_ ?_ ?_ ?_ ?_ ?_ ?_ ?_ ?_ ?_ ?_ ?_ ?_ ?_ ?_ ?_ ?_ ?_ ?_ ?_ ?_ ?_ ?_ ?_ ?_ ?_ ?_ ?_ ?_ ?_ ?_ ?_ ?_ ?_ ?_ ?_ ?_ ?_ ?_ ?_ ?_ ?_ ?_ ?_ ?_ ?_ ?_ ?_ ?_ ?_ ?_ ?_ ?_ ?_ ?_ ?_ ?_ ?_ ?_ ?_ ?_ ?_ ?_ ?_ ?_ ?_ ?_ ?_ ?_ ?_ ?_ ?_ ?_ ?_ ?_ ?_ ?_ ?_ ?_ ?_ ?_ ?_ ?_ ?_ ?_ ?_ ?_ ?_ ?_
       any_goals first
        | exact Pf.zN (by k_is) (by k_is) (by k_is) (by k_is) (by refine fun _ _ _ _ _ _=>?_;(repeat refine x3 fun _=>?_);exact x0 rfl)
        | exact Pf.zL (by k_is) (by k_is) (by k_is) (by refine fun _ _ _ _ _ _=>?_;(repeat refine x3 fun _=>?_);exact x0 rfl)
        | exact Pf.zM (by k_is) (by k_is) (by k_is) (by refine fun _ _ _ _ _ _=>?_;(repeat refine x3 fun _=>?_);exact x0 rfl)
        | exact Pf.zO (by k_is) (by k_is) (by k_is) (by k_is) (by k_is) (by k_is)
        | exact L2.Meth.mk (by k_is) (by k_is) (by k_is)
        | exact L2.Mk.mk (by k_is) (by k_is) (by k_is) (by k_is)
        | exact Sg.zu.mk (by k_is) (by k_is) (by k_is)
        | k_is
        | kernel_rfl
     refine⟨t,T,?_⟩;have e0:=Bm.symm.trans (T.g T.o4.a);cases e0;rfl
   obtain⟨t,T,e⟩:=T;subst e;refine' ⟨t.lK,?b,fun base kb nb=>Pf.Al T⟩;exact Pf.zS T
 case S=>exact fun K H a ns hl hO hS=>Pf.zV hl hS
 case C=>exact fun H s e s' h=>h
