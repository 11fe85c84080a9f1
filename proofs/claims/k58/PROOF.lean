import PyProof.Rows.All
import Wide.All
import OpenK.AllK
import Wide.FinOn
import Lean
import PyProof.EqAt
import PyProof.EqKinds
import PyProof.TupleCall
import PyProof.WalksEnum
import PyProof.EnumMake
import PyProof.ZipIter
import PyProof.ReprStr
import PyProof.StrBlockG
import PyProof.StrWalks
import PyProof.FString5
import PyProof.ConsumeWalk
import PyProof.SumAny
import PyProof.StrCalls2
import KE.KDictList
import PyProof.Draws
import PyProof.StrBlock2
import PyProof.DictIter
import PyProof.ExcInit
import PyProof.ExcClass3
import PyProof.FString
import PyProof.FitsInt
import PyProof.StrLawsRepr
import PyProof.Rows.Range3
import PyProof.StrCalls
import PyProof.ListRange
import PyProof.AttrMissHeap
import KE.KDictOf
import PyProof.StrCalls3
import PyProof.FactsAll.dict_2
import PyProof.MeetsIn
import PyProof.Cells
import KE.KDictSum
import PyProof.DictWalks
import KE.KRevIter
import PyProof.FactsAll.subtypes_3
import PyProof.Rows.SortWalk
import KE.KSortedM
import PyProof.Rows.SortStr
import PyProof.MinMaxWalk
import PyProof.WalkInts
import PyProof.SeqI3
import PyProof.Rows.CallKwBuiltin
import KE.KUnpack
import PySem.Challenge.RW_strokegrow_k58_stretches_refused
theorem jpp (h:True:=by rfl):True:=h
def jp:Lean.Syntax:=jpp._auto_1
theorem jOp (h:True:=by decide):True:=h
def jO:Lean.Syntax:=jOp._auto_1
theorem xzp (h:True:=by first | exact aaJ rfl | exact aaA (aaJ rfl) | exact aaA (aaA rfl)):True:=h
def xz:Lean.Syntax:=xzp._auto_1
theorem xLp (h:True:=by intro _;rfl):True:=h
def xL:Lean.Syntax:=xLp._auto_1
theorem vbp (h:True:=by first | exact aaJ rfl | exact aaA rfl):True:=h
def vb:Lean.Syntax:=vbp._auto_1
theorem v6p (h:True:=by first | exact .inl rfl | exact .inr rfl | assumption):True:=h
def v6:Lean.Syntax:=v6p._auto_1
theorem wlp (h:True:=by intro _ _;rfl):True:=h
def wl:Lean.Syntax:=wlp._auto_1
theorem wrp (h:True:=by first | exact .inl rfl | exact .inr rfl):True:=h
def wr:Lean.Syntax:=wrp._auto_1
theorem wvp (h:True:=by with_unfolding_all rfl):True:=h
def wv:Lean.Syntax:=wvp._auto_1
theorem AA3 {a b:Nat}(h:autoParam (Nat.ble a b=true) jp):a<=b:=Nat.le_of_ble_eq_true h
set_option Elab.async false
set_option linter.all false
set_option maxRecDepth 100000
section
set_option genSizeOf false
set_option genInjectivity false
open List renaming length_map→aaa, getElem?_eq_getElem→aab, getD_eq_getElem?_getD→aae, getElem?_map→aaf, getElem?_set_self→aag, getElem?_set_ne→aah, getElem?_eq_some_iff→aaj, replicate→aal, range→aan, size_toArray→aao, map_map→aar, map_cons→aas, mem_append_right→aat, getElem?_eq_none→aau, length_append→aaw, getElem?_append_left→aay, mem_cons→aaz, getElem?_append_right→aaB, length_take→aaD, filter_eq_self→aaG, mem_cons_of_mem→aaI, mem_map→aaK, length_cons→aaL, lookup_cons→aaM, getElem_mem→aaN, getElem?_range→aaP, append_nil→aaT, getElem?_replicate→aaU, length_range→aa6, getElem_map→aa8, eq_nil_of_length_eq_zero→aa9, dropLast_concat_getLast→abf, getElem?_cons_succ→aby, mem_cons_self→abz, pairwise_iff_getElem→abB, flatten_cons→abE, length→abI, mem_iff_getElem→abJ, take_add_one→abL, replicate_succ→abM, mem_append→abN, map_append→abO, length_drop→abU, take_length→abV, mem_of_getElem?→abX, find?_cons→abZ, take_of_length_le→ab0, length_dropLast→ab2, sum_cons→ab3, mem_singleton→ab9, nodup_cons→aca, getElem_take→acb, flatMap_cons→acd, length_reverse→acj, any_cons→acn, mem_filterMap→aco, lookup→acp, filter_cons_of_neg→acq, filter_cons_of_pos→acr, mem_range→acs, all_eq_true→acB, all_cons→acC, mem_append_left→acE, range'→acG, length_set→acI, filterMap_cons→acJ, map_congr_left→acK, flatten_append→acL
open Exists renaming elim→aac
open PySem.Heap renaming get?_push_of_some→aad, lt_size→aak, get?_push_size→aaq, size_push→abK, get?_update_self→ab1, SameBut→ab5, get?_update_other→ab7, FlyingW→acg, get?_none_of_le→acD, MadeExcOf→acM
open Nat renaming le_refl→aai, lt_of_lt_of_le→aam, ne_of_lt→aap, le_trans→aax, le_of_ble_eq_true→aaF, lt_of_le_of_lt→aaO, zero_le→abh, le_succ→abD, lt_irrefl→abF, le_of_lt→abG, lt_succ_self→abR, succ_ne_self→ach, le_add_right→aci, ne_of_gt→acu, lt_succ_of_lt→acw, le_of_not_lt→acz, pow_le_pow_right→acF
open Bool renaming false_ne_true→aav, and_eq_true→aaE, false_eq_true→abA, eq_iff_iff→acH
open Or renaming inr→aaA, inl→aaJ
open Int renaming emod_nonneg→aaC, emod_lt_of_pos→aaH, toNat_natCast→abn, ne_of_gt→abW, emod_eq_of_lt→acx
open Array renaming length_toList→ab4, getElem?_eq_some_iff→acf, getElem?_toList→acy
open Option renaming map_eq_some_iff→ab8, isSome_iff_exists→ack
theorem zn {α:Sort u}{p q r:α->Prop}(h:∃ x,p x∧q x)(f:∀ x,p x->q x->r x):∃ x,p x∧r x:=Exists.elim h fun x h=>⟨x,h.1,f x h.1 h.2⟩
namespace L2
open PySem PySem.Spec PyProof.Rows
noncomputable abbrev Key:=Sum Int Str
noncomputable def zY:Key->Value->Bool
 | .inl k,v=>Value.isInt k v
 | .inr x,v=>Value.isStrOf x v
noncomputable def aaQ (w:World):Key->Int
 | .inl k=>hashInt k
 | .inr x=>hashStr w x
theorem dw:∀ {k:Key} {v:Value},zY k v=true->(∃ i t,k=Sum.inl i/\v=Value.int i t)\/(∃ x t,k=Sum.inr x/\v=Value.str x t)
 | .inl i,v,h=>by
   obtain⟨t,e⟩:=Value.isInt_shape (k:=i) (v:=v) h;exact .inl ⟨i,t,rfl,e⟩
 | .inr x,v,h=>by
   obtain⟨t,e⟩:=Value.isStrOf_shape (x:=x) (v:=v) h;exact .inr ⟨x,t,rfl,e⟩
theorem Iy (i:Int)(t:Tok):zY (.inl i) (.int i t)=true:=by simp[zY,Value.isInt]
theorem Iz (x:Str)(t:Tok):zY (.inr x) (.str x t)=true:=by simp[zY,Value.isStrOf]
theorem Tb (a b:Int):decide ((Sum.inl a:Key)=Sum.inl b)=(a == b):=by
 by_cases e:a=b
 . subst e;simp
 . have h:¬ (Sum.inl a:Key)=Sum.inl b:=fun q=>e (Sum.inl.inj q)
   rw[decide_eq_false h];exact(beq_eq_false_iff_ne.mpr e).symm
theorem Tc (a b:Str):decide ((Sum.inr a:Key)=Sum.inr b)=decide (a=b):=by
 by_cases e:a=b
 . subst e;simp
 . have h:¬ (Sum.inr a:Key)=Sum.inr b:=fun q=>e (Sum.inr.inj q)
   rw[decide_eq_false h,decide_eq_false e]
theorem Td (a:Int)(b:Str):decide ((Sum.inl a:Key)=Sum.inr b)=false:=decide_eq_false (fun q=>nomatch q)
theorem Te (a:Str)(b:Int):decide ((Sum.inr a:Key)=Sum.inl b)=false:=decide_eq_false (fun q=>nomatch q)
noncomputable def dj (prog:Program)(w:World):PySem.KeyKind prog w Key where
 is:=zY
 hash:=aaQ w
 inj:=fun v a b ha hb=>by
   rcases dw ha with⟨i,t,rfl,rfl⟩ | ⟨x,t,rfl,rfl⟩
   . rcases dw hb with⟨j,u,rfl,e⟩ | ⟨y,u,rfl,e⟩
     . injection e with e1 _;rw[e1]
     . exact nomatch e
   . rcases dw hb with⟨j,u,rfl,e⟩ | ⟨y,u,rfl,e⟩
     . exact nomatch e
     . injection e with e1 _;rw[e1]
 byValue:=fun k v h=>by
   rcases dw h with⟨i,t,rfl,rfl⟩ | ⟨x,t,rfl,rfl⟩ <;> rfl
 pyHash:=fun hv h=>by
   rcases dw hv with⟨i,t,rfl,rfl⟩ | ⟨x,t,rfl,rfl⟩
   . exact wpAny_pyHash_int h
   . exact wpAny_pyHash_str h
 eqBool:=fun hu hv h=>by
   rcases dw hu with⟨i,t,rfl,rfl⟩ | ⟨x,t,rfl,rfl⟩
   . rcases dw hv with⟨j,u,rfl,rfl⟩ | ⟨y,u,rfl,rfl⟩
     . rw[Tb] at h;exact wpAny_eqBool_int h
     . rw[Td] at h;exact SeqAt.EqAt.int_str i t y u _ _ _ _ h
   . rcases dw hv with⟨j,u,rfl,rfl⟩ | ⟨y,u,rfl,rfl⟩
     . rw[Te] at h;exact SeqAt.EqAt.str_int x t j u _ _ _ _ h
     . rw[Tc] at h;exact wpAny_eqBool_str h
 «strs»:=fun k x t v h=>by
   rcases dw h with⟨i,u,rfl,e⟩ | ⟨y,u,rfl,e⟩
   . exact nomatch e
   . injection e with e1 _
     subst e1;cases v <;> rfl
theorem Cu (prog:Program)(w:World)(i:Int)(t:Tok):(dj prog w).is (.inl i) (.int i t)=true:=Iy i t
theorem Cv (prog:Program)(w:World)(x:Str)(t:Tok):(dj prog w).is (.inr x) (.str x t)=true:=Iz x t
set_option genInjectivity true in
inductive V where
 | cz | bl (b:Bool) | int (i:Int) | str (x:Str) | Kz (b:Array UInt8) | RD (b:UInt64) | ref (a:Addr) | ty (n:String)
 deriving DecidableEq
def RelV:V->Value->Prop
 | .cz,u=>u=Value.none
 | .bl b,u=>u=Value.bool b
 | .int i,u=>∃ t,u=Value.int i t
 | .str x,u=>∃ t,u=Value.str x t
 | .Kz b,u=>∃ t,u=Value.bytes b t
 | .RD b,u=>∃ t,u=Value.float b t
 | .ref a,u=>u=Value.ref a
 | .ty n,u=>u=Value.type n
abbrev Vals:List V->List Value->Prop:=Paired RelV
theorem Vals.length {xs:List V}{us:List Value}(r:Vals xs us):xs.length=us.length:=Paired.length r
theorem Vals.get:∀ {xs:List V} {us:List Value} {i:Nat} {x:V},Vals xs us->xs[i]?=some x->∃ u,us[i]?=some u/\RelV x u
 | _,_,_,_,.nil,e=>by simp at e
 | _,_,0,_,.cons r _,e=>by simp at e;subst e;exact⟨_,rfl,r⟩
 | _,_,i+1,x,.cons _ t,e=>by
   obtain⟨u,h1,h2⟩:=Vals.get (i:=i) (x:=x) t (by simpa using e);exact⟨u,by simpa using h1,h2⟩
theorem Vals.set {x:V}{u:Value}(r:RelV x u):∀ {xs:List V} {us:List Value} (i:Nat),Vals xs us->Vals (xs.set i x) (us.set i u)
 | _,_,_,.nil=>.nil
 | _,_,0,.cons _ t=>.cons r t
 | _,_,i+1,.cons q t=>.cons q (Vals.set r i t)
theorem Vals.append:∀ {xs ys:List V} {us ws:List Value},Vals xs us->Vals ys ws->Vals (xs ++ ys) (us ++ ws)
 | _,_,_,_,.nil,s=>s
 | _,_,_,_,.cons r t,s=>.cons r (Vals.append t s)
theorem Vals.take:∀ {xs:List V} {us:List Value} (n:Nat),Vals xs us->Vals (xs.take n) (us.take n)
 | _,_,0,_=>.nil
 | _,_,_+1,.nil=>.nil
 | _,_,n+1,.cons r t=>.cons r (Vals.take n t)
theorem Vals.drop:∀ {xs:List V} {us:List Value} (n:Nat),Vals xs us->Vals (xs.drop n) (us.drop n)
 | _,_,0,r=>r
 | _,_,_+1,.nil=>.nil
 | _,_,n+1,.cons _ t=>Vals.drop n t
def qV:Option V->Option Value->Prop
 | some v,some u=>RelV v u
 | none,none=>True
 | _,_=>False
def KV {κ:Type}:List (κ×V)->List (κ×Value)->Prop:=Paired fun(p:κ×V) (q:κ×Value)=>p.1=q.1/\RelV p.2 q.2
noncomputable def kV:Key->V
 | .inl i=>.int i
 | .inr x=>.str x
inductive FD where
 | int (i:Int)
 | fw (kds:List (Key×Int))
 | lst (ns:List Int)
 | tup (K:W.Frag) (ns:List Int)
 | obj (C:Addr) (fs:List (Str×FD))
noncomputable abbrev kU:=List (Addr×(Nat->List (Key×FD)))
set_option genInjectivity true in
inductive HO where
   | lst (xs:List V)
   | tup (xs:List V)
   | dK (kvs:List (Key×V)) | dT (kvs:List (List Key×V))
   | set (S:Int->Bool) (n:Nat)
   | ins (C dx:Addr) (fs:List (Str×V))
   | own (x:Addr)
   | xd (fs:List (Str×V))
   | met (f x:Addr)
   | Z4 (lo hi:Int)
   | bJ (o:Obj) (u:HO)
   | RE (ps:Array Value)
   | ext (φ:Heap->Prop)
   | memo (ls:kU)
 | bT (ls:kU) (ns:List Nat)
   | part (p:Addr)
   | kd (tg:Option (Addr×Nat)) (o:Obj) (kvs:List (Key×V))
   | kx (o:Obj) (u:HO)
noncomputable abbrev Hp:=Addr->Option HO
noncomputable def upd (H:Hp)(a:Addr)(o:HO):Hp:=fun b=>if b=a then some o else H b
theorem ak {H:Hp}{a:Addr}{o:HO}:upd H a o a=some o:=by unfold upd;rw[if_pos rfl]
theorem ag {H:Hp}{a b:Addr}{o:HO}(h:b≠a):upd H a o b=H b:=by unfold upd;rw[if_neg h]
theorem wk {H:Hp}{a:Addr}{o u:HO}:upd (upd H a o) a u=upd H a u:=by
 funext b;unfold upd;split <;> rfl
theorem Xe {H:Hp}{a b:Addr}{o u:HO}(h:H a=some o)(h':H b=some u)(d:o≠u):a≠b:=by
 intro e;subst e;rw[h] at h';exact d (Option.some.inj h')
theorem ax {H:Hp}{a b:Addr}{o:HO}(h:H a=some o)(h':H b=none):a≠b:=by
 intro e;subst e;rw[h] at h';cases h'
def nr:Option HO->Prop
 | some (.memo _)=>True
 | some (.bT _ _)=>True
 | some (.part _)=>True
 | _=>False
def Kept:HO->Prop
 | .kd _ _ _=>True
 | .kx _ _=>True
 | .tup _=>True
 | _=>False
def TupAt (K:W.Frag)(H:Hp)(a:Addr)(xs:List V):Prop:=
 H a=some (.tup xs) \/
   ∃ (o:Obj) (aJ:Array Value) (n:Nat),K.lookup a=some o/\o.cls=.type "tuple"/\o.data=.seq aJ n/\aJ.size<=sizeLine/\Vals xs aJ.toList
mutual
inductive Fz (H:Hp):V->FD->Prop
 | int (i:Int):Fz H (.int i) (.int i)
 | fw {a:Addr} {tg:Option (Addr×Nat)} {o:Obj} {kds:List (Key×Int)}:H a=some (.kd tg o (kds.map fun kd=>(kd.1,V.int kd.2)))->Fz H (.ref a) (.fw kds)
 | lst {a:Addr} {o:Obj} {ns:List Int}:H a=some (.kx o (.lst (ns.map V.int)))->Fz H (.ref a) (.lst ns)
 | tup {a:Addr} {K:W.Frag} {ns:List Int}:TupAt K H a (ns.map V.int)->Fz H (.ref a) (.tup K ns)
 | obj {a C dx:Addr} {o:Obj} {fv:List (Str×V)} {fs:List (Str×FD)}:H a=some (.kx o (.ins C dx fv))->KA H fv fs->Fz H (.ref a) (.obj C fs)
inductive KA (H:Hp):List (Str×V)->List (Str×FD)->Prop
 | nil:KA H [] []
 | cons {k:Str} {v:V} {d:FD} {vs:List (Str×V)} {ds:List (Str×FD)}:Fz H v d->KA H vs ds->KA H ((k,v)::vs) ((k,d)::ds)
end
inductive t8 (H:Hp):List (Key×V)->List (Key×FD)->Prop
 | nil:t8 H [] []
 | cons {k:Key} {v:V} {d:FD} {kvs:List (Key×V)} {kds:List (Key×FD)}:Fz H v d->t8 H kvs kds->t8 H ((k,v)::kvs) ((k,d)::kds)
def Tf (H:Hp)(p:Addr)(i:Nat)(aJ:List Value)(fd:List (Key×FD)):Prop:=∃ q o kvs,aJ[i]?=some (.ref q)/\H q=some (.kd (some (p,i)) o kvs)/\t8 H kvs fd
def GS (H:Hp)(h:Heap)(p:Addr)(f:Nat->List (Key×FD))(n:Nat):Prop:=∃ aJ c,h.get? p=some { cls:=.type "list",data:=.seq (aJ:List Value).toArray c}/\aJ.length=n/\∀ i,i < n->Tf H p i aJ (f i)
def xn (H:Hp)(h:Heap)(a:Addr)(ls:kU)(ns:List Nat):Prop:=(∃ f,ls[0]?=some (a,f))/\ls.length=ns.length/\(∀ (j:Nat) (p:Addr) (f:Nat->List (Key×FD)),ls[j]?=some (p,f)->(p=a\/H p=some (.part a)))/\(ls.map (·.1)).Nodup/\(∀ n∈ns,n<=10000)/\∀ (j:Nat) (p:Addr) (f:Nat->List (Key×FD)) (n:Nat),ls[j]?=some (p,f)->ns[j]?=some n->GS H h p f n
section
variable (P:Program)(w:World)
def aM (H:Hp)(h:Heap)(a:Addr):HO->Prop
 | .lst xs=>xs.length<=sizeLine/\∃ (aJ:List Value) (n:Nat),Vals xs aJ/\h.get? a=some { cls:=.type "list",data:=.seq aJ.toArray n}
 | .tup xs=>xs.length<=sizeLine/\∃ aJ:List Value,Vals xs aJ/\IsTup h a aJ.toArray
 | .dK kvs=>kvs.length<=sizeLine/\(a == sysModules)=false/\∃ vs,KV kvs vs/\h.DictOf (dj P w) a vs
 | .dT kvs=>kvs.length<=sizeLine/\(a == sysModules)=false/\∃ xs:List (List Key×Addr×Value),
     Paired (fun(p:List Key×V) (q:List Key×Addr×Value)=>p.1=q.1/\H q.2.1=some (.tup (p.1.map kV))/\RelV p.2 q.2.2) kvs xs /\
     ∃ o es ep,h.get? a=some o/\o.ExactDict/\o.data=.dict es ep/\es.toList=xs.map (entryOfKey (tupleKind (dj P w)))/\(xs.map (·.1)).Nodup
 | .set S n=>h.SetOf (intKind P w) a S n
 | .ins C dx fs=>H dx=some (.own a)/\fs.length<=1000/\dx≠a/\h.get? a=some (W.instObj C dx) /\
     ∃ mA,h.Ns1 dx mA/\(∀ f,qV (fs.lookup f) (mA f))/\PySem.Within mA (fs.map (·.1))
 | .own _=>∃ o,h.get? a=some o
 | .xd fs=>∃ mA,h.Ns1 a mA/\∀ f,qV (fs.lookup f) (mA f)
 | .Z4 lo hi=>∃ t u v,h.get? a=some { cls:=.type "range",data:=.fields #[.int lo t,.int hi u,.int 1 v]}
 | .bJ o u=>h.get? a=some o/\aM H h a u
 | .RE ps=>h.get? a=some { cls:=.none,data:=.fields ps}
 | .met f x=>h.get? a=some (W.methodObj (.ref f) (.ref x))
 | .ext φ=>φ h/\(∃ o,h.get? a=some o)/\∀ h1 h2:Heap,φ h1->(∀ o,h1.get? a=some o->h2.get? a=some o)->φ h2
 | .memo ls=>(∃ o,h.get? a=some o)/\∃ n,0 < n/\xn H h a ls (aal ls.length n)
 | .bT ls ns=>(∃ o,h.get? a=some o)/\xn H h a ls ns
 | .part _=>∃ o,h.get? a=some o
 | .kd tg o kvs=>h.get? a=some o/\(kvs.length<=sizeLine/\(a == sysModules)=false/\∃ vs,KV kvs vs/\h.DictOf (dj P w) a vs) /\
     ∀ p i,tg=some (p,i)->nr (H p)/\∃ aJ c,h.get? p=some { cls:=.type "list",data:=.seq (aJ:List Value).toArray c}/\aJ[i]?=some (.ref a)
 | .kx o u=>h.get? a=some o/\aM H h a u
def pJ (H:Hp)(h:Heap):Prop:=∀ a o,H a=some o->aM P w H h a o
end
section
variable {P:Program}{w:World}{H H':Hp}{h h':Heap}{a:Addr}{o:HO}
theorem aM.lt (x:aM P w H h a o):a < h.objs.size:=by
 cases o with
 | lst xs=>obtain⟨_,_,_,_,e⟩:=x;exact aak e
 | tup xs=>obtain⟨_,_,_,p⟩:=x;exact p.lt
 | dK kvs=>obtain⟨_,_,_,_,o,_,_,e,_⟩:=x;exact aak e
 | dT kvs=>obtain⟨_,_,_,_,o,_,_,e,_⟩:=x;exact aak e
 | set S n=>obtain⟨o,_,_,_,e,_⟩:=x;exact aak e
 | ins C dx fs=>obtain⟨_,_,_,e,_⟩:=x;exact aak e
 | own y=>obtain⟨_,e⟩:=x;exact aak e
 | xd fs=>obtain⟨_,⟨_,_,_,e,_⟩,_⟩:=x;exact aak e
 | Z4 lo hi=>obtain⟨_,_,_,e⟩:=x;exact aak e
 | bJ ob u=>obtain⟨e,_⟩:=x;exact aak e
 | RE ps=>exact aak (show h.get? a=some _ from x)
 | met f y=>exact aak (show h.get? a=some _ from x)
 | ext φ=>obtain⟨_,⟨_,e⟩,_⟩:=x;exact aak e
 | memo ls=>obtain⟨⟨_,e⟩,_⟩:=x;exact aak e
 | bT ls ns=>obtain⟨⟨_,e⟩,_⟩:=x;exact aak e
 | part y=>obtain⟨_,e⟩:=x;exact aak e
 | kd tg ob kvs=>exact aak x.1
 | kx ob u=>exact aak x.1
theorem Paired.Tg {α β:Type}{F G:α->β->Prop}:∀ {l₁:List α} {l₂:List β},Paired F l₁ l₂->(∀ a b,F a b->G a b)->Paired G l₁ l₂
 | _,_,.nil,_=>.nil
 | _,_,.cons r t,f=>.cons (f _ _ r) (Paired.Tg t f)
structure Kp (H H':Hp):Prop where
 st:∀ b u,H b=some u->Kept u->H' b=some u
 mem:∀ b,nr (H b)->nr (H' b)
 part:∀ b x,H b=some (.part x)->H' b=some (.part x)
theorem Kp.kd (kp:Kp H H')(b:Addr)(tg:Option (Addr×Nat))(o:Obj)(kvs:List (Key×V))(e:H b=some (.kd tg o kvs)):H' b=some (.kd tg o kvs):=kp.st b _ e trivial
theorem Kp.refl:Kp H H:=⟨fun _ _ e _=>e,fun _ e=>e,fun _ _ e=>e⟩
theorem Kp.of (s:∀ b u,H b=some u->H' b=some u):Kp H H':=⟨fun _ _ e _=>s _ _ e,fun b e=>by
 cases q:H b with
 | none=>rw[q] at e;exact e.elim
 | some u=>rw[s b u q,<- q];exact e,fun _ _ e=>s _ _ e⟩
theorem TupAt.kp {K:W.Frag}{xs:List V}(k:∀ b u,H b=some u->Kept u->H' b=some u)(h:TupAt K H a xs):TupAt K H' a xs:=h.imp (fun e=>k _ _ e trivial) id
mutual
theorem Fz.st (k:∀ b u,H b=some u->Kept u->H' b=some u):∀ {v:V} {d:FD},Fz H v d->Fz H' v d
 | _,_,.int i=>.int i
 | _,_,.fw e=>.fw (k _ _ e trivial)
 | _,_,.lst e=>.lst (k _ _ e trivial)
 | _,_,.tup e=>.tup (e.kp k)
 | _,_,.obj e f=>.obj (k _ _ e trivial) (KA.st k f)
theorem KA.st (k:∀ b u,H b=some u->Kept u->H' b=some u):∀ {v:List (Str×V)} {d:List (Str×FD)},KA H v d->KA H' v d
 | _,_,.nil=>.nil
 | _,_,.cons h t=>.cons (Fz.st k h) (KA.st k t)
end
theorem Fz.kp (kp:Kp H H'){v:V}{d:FD}(h:Fz H v d):Fz H' v d:=h.st kp.st
theorem t8.kp (kp:Kp H H'):∀ {kvs:List (Key×V)} {kds:List (Key×FD)},t8 H kvs kds->t8 H' kvs kds
 | _,_,.nil=>.nil
 | _,_,.cons h t=>.cons (h.kp kp) (t8.kp kp t)
theorem GS.kp {p:Addr}{f:Nat->List (Key×FD)}{n:Nat}(kp:Kp H H')(x:GS H h p f n)(k:∀ u,h.get? p=some u->h'.get? p=some u):GS H' h' p f n:=by
 obtain⟨aJ,c,e,hl,hi⟩:=x;exact⟨aJ,c,k _ e,hl,fun i hn=>let ⟨q,o,kvs,h1,h2,h3⟩:=hi i hn;⟨q,o,kvs,h1,kp.kd _ _ _ _ h2,h3.kp kp⟩⟩
theorem xn.kp {ls:kU}{ns:List Nat}(kp:Kp H H')(x:xn H h a ls ns)(k:∀ b u,b=a\/H b=some (.part a)->h.get? b=some u->h'.get? b=some u):xn H' h' a ls ns:=by
 obtain⟨h1,h2,h3,h4,h5,h6⟩:=x;exact⟨h1,h2,fun j p f e=>(h3 j p f e).imp id fun z=>kp.part _ _ z,h4,h5,fun j p f n e1 e2=>(h6 j p f n e1 e2).kp kp fun u e=>k p u (h3 j p f e1) e⟩
def Xf (h:Heap)(p:Addr)(i:Nat)(c:Addr):Prop:=∃ aJ n,h.get? p=some { cls:=.type "list",data:=.seq (aJ:List Value).toArray n}/\aJ[i]?=some (.ref c)
theorem aM.RF (x:aM P w H h a o)(k:∀ b u,(b=a\/H b=some (.own a)\/H b=some (.part a))->h.get? b=some u->h'.get? b=some u)(ho:∀ b,H b=some (.own a)->H' b=some (.own a))(ht:∀ b xs,H b=some (.tup xs)->H' b=some (.tup xs))(kp:Kp H H')(hl:∀ p i c,nr (H p)->Xf h p i c->Xf h' p i c):aM P w H' h' a o:=by
 induction o with
 | lst xs=>obtain⟨z,aJ,n,r,e⟩:=x;exact⟨z,aJ,n,r,k _ _ (.inl rfl) e⟩
 | tup xs=>obtain⟨z,aJ,r,ob,e,c⟩:=x;exact⟨z,aJ,r,ob,k _ _ (.inl rfl) e,c⟩
 | dK kvs=>obtain⟨z,y,vs,r,ob,es,ep,e,c⟩:=x;exact⟨z,y,vs,r,ob,es,ep,k _ _ (.inl rfl) e,c⟩
 | dT kvs=>
   obtain⟨z,y,xs,r,ob,es,ep,e,c⟩:=x;exact⟨z,y,xs,Paired.Tg r fun p q z=>⟨z.1,ht _ _ z.2.1,z.2.2⟩,ob,es,ep,k _ _ (.inl rfl) e,c⟩
 | set S n=>obtain⟨ob,es,ep,t,e,c⟩:=x;exact⟨ob,es,ep,t,k _ _ (.inl rfl) e,c⟩
 | ins C dx fs=>
   obtain⟨d,z,ne,e,mA,⟨od,es,ep,e2,c⟩,r⟩:=x;exact⟨ho _ d,z,ne,k _ _ (.inl rfl) e,mA,⟨od,es,ep,k _ _ (.inr (.inl d)) e2,c⟩,r⟩
 | own y=>obtain⟨ob,e⟩:=x;exact⟨ob,k _ _ (.inl rfl) e⟩
 | xd fs=>obtain⟨mA,⟨od,es,ep,e,c⟩,r⟩:=x;exact⟨mA,⟨od,es,ep,k _ _ (.inl rfl) e,c⟩,r⟩
 | Z4 lo hi=>obtain⟨t,u,v,e⟩:=x;exact⟨t,u,v,k _ _ (.inl rfl) e⟩
 | bJ ob u ih=>obtain⟨e,q⟩:=x;exact⟨k _ _ (.inl rfl) e,ih q⟩
 | RE ps=>
   have e:h.get? a=some { cls:=.none,data:=.fields ps}:=x;show h'.get? a=some { cls:=.none,data:=.fields ps};exact k a _ (.inl rfl) e
 | met f y=>
   have e:h.get? a=some (W.methodObj (.ref f) (.ref y)):=x;show h'.get? a=some (W.methodObj (.ref f) (.ref y));exact k a _ (.inl rfl) e
 | ext φ=>obtain⟨p,⟨o,e⟩,st⟩:=x;exact⟨st _ _ p fun o q=>k _ _ (.inl rfl) q,⟨o,k _ _ (.inl rfl) e⟩,st⟩
 | memo ls=>
   obtain⟨⟨o,e⟩,n,hn,q⟩:=x;refine⟨⟨o,k _ _ (.inl rfl) e⟩,n,hn,q.kp kp fun b u hb=>k b u ?_⟩;rcases hb with z | z
   . exact .inl z
   . exact .inr (.inr z)
 | bT ls ns=>
   obtain⟨⟨o,e⟩,q⟩:=x;refine⟨⟨o,k _ _ (.inl rfl) e⟩,q.kp kp fun b u hb=>k b u ?_⟩;rcases hb with z | z
   . exact .inl z
   . exact .inr (.inr z)
 | part y=>obtain⟨o,e⟩:=x;exact⟨o,k _ _ (.inl rfl) e⟩
 | kd tg ob kvs=>
   obtain⟨e,⟨z,y,vs,r,ob',es,ep,e',c⟩,q⟩:=x;refine⟨k _ _ (.inl rfl) e,⟨z,y,vs,r,ob',es,ep,k _ _ (.inl rfl) e',c⟩,fun p i ht=>?_⟩;obtain⟨q1,q2⟩:=q p i ht;exact⟨kp.mem _ q1,hl p i _ q1 q2⟩
 | kx ob u ih=>obtain⟨e,q⟩:=x;exact⟨k _ _ (.inl rfl) e,ih q⟩
theorem aM.qW (x:aM P w H h a o)(k:∀ b u,(b=a\/H b=some (.own a)\/nr (H b))->h.get? b=some u->h'.get? b=some u)(ho:∀ b,H b=some (.own a)->H' b=some (.own a))(ht:∀ b xs,H b=some (.tup xs)->H' b=some (.tup xs))(kp:Kp H H'):aM P w H' h' a o:=
 x.RF (fun b u hb=>k b u (by
   rcases hb with z | z | z
   . exact .inl z
   . exact .inr (.inl z)
   . exact .inr (.inr (by rw[z];trivial)))) ho ht kp fun p i c hm ⟨aJ,n,e,q⟩=>⟨aJ,n,k p _ (.inr (.inr hm)) e,q⟩
theorem pJ.lt (x:pJ P w H h)(e:H a=some o):a < h.objs.size:=(x a o e).lt
theorem pJ.fresh (x:pJ P w H h)(e:h.objs.size<=a):H a=none:=by
 cases q:H a with
 | none=>rfl
 | some u=>exact absurd (aam (x.lt q) e) (abF _)
theorem pJ.kept (x:pJ P w H h)(k:∀ b u,h.get? b=some u->h'.get? b=some u):pJ P w H h':=fun a o e=>
 (x a o e).qW (fun b u _ q=>k b u q) (fun _ q=>q) (fun _ _ q=>q) .refl
theorem pJ.laid (x:pJ P w H h)(k:∀ b u,h.get? b=some u->h'.get? b=some u)(hp:h.objs.size<=a)(new:aM P w (upd H a o) h' a o):pJ P w (upd H a o) h':=fun b u e=>by
 have hn:=x.fresh hp;by_cases hb:b=a
 . subst hb;rw[ak] at e;cases e;exact new
 . rw[ag hb] at e
   exact(x b u e).qW (fun c v _ q=>k c v q) (fun c q=>by rw[ag (ax q hn)];exact q) (fun c xs q=>by rw[ag (ax q hn)];exact q) (.of fun c u q=>by rw[ag (ax q hn)];exact q)
end
def Rd (H:Hp)(a:Addr)(u:HO):Prop:=H a=some u\/(∃ o,H a=some (.bJ o u))\/(∃ tg o kvs,H a=some (.kd tg o kvs)/\u=.dK kvs)\/∃ o,H a=some (.kx o u)
theorem Rd.of {H:Hp}{a:Addr}{u:HO}(h:H a=some u):Rd H a u:=.inl h
theorem Rd.ok {P:Program}{w:World}{H:Hp}{h:Heap}{a:Addr}{u:HO}(r:Rd H a u)(x:pJ P w H h):aM P w H h a u:=by
 rcases r with r | ⟨o,r⟩ | ⟨tg,o,kvs,r,rfl⟩ | ⟨o,r⟩
 . exact x a u r
 . obtain⟨_,q⟩:=x a _ r
   exact q
 . obtain⟨_,q,_⟩:=x a _ r
   exact q
 . obtain⟨_,q⟩:=x a _ r
   exact q
def WO:Option HO->Prop
 | some (.lst _)=>True
 | some (.dK _)=>True
 | some (.dT _)=>True
 | some (.set _ _)=>True
 | some (.ins _ _ _)=>True
 | some (.ext _)=>True
 | _=>False
section
variable {P:Program}{w:World}{H:Hp}{h h':Heap}{x e:Addr}{o':HO}
theorem pJ.write (ok:pJ P w H h)(mu:WO (H x))(he:e=x\/H e=some (.own x))(k:∀ b u,b≠e->h.get? b=some u->h'.get? b=some u)(WQ:∃ u,h'.get? e=some u)(new:aM P w (upd H x o') h' x o'):pJ P w (upd H x o') h':=fun b u q=>by
 have AK:∀ c y,H c=some (.own y)->c≠x:=fun c y r z=>by subst z;rw[r] at mu;exact mu
 have aaR:∀ c xs,H c=some (.tup xs)->c≠x:=fun c xs r z=>by subst z;rw[r] at mu;exact mu
 by_cases hb:b=x
 . subst hb;rw[ak] at q;cases q;exact new
 . rw[ag hb] at q
   by_cases sF:b=e
   . have q':H b=some (.own x):=by
       rcases he with z | z
       . exact absurd (sF.trans z) hb
       . rw[sF];exact z
     rw[q] at q';cases q';obtain⟨v,hv⟩:=WQ;exact⟨v,by rw[sF];exact hv⟩
   . have nkd:∀ c u,H c=some u->¬ WO (some u)->c≠x:=fun c u r nm z=>by subst z;rw[r] at mu;exact nm mu
     have nmm:∀ c,nr (H c)->c≠x:=fun c r z=>by
       subst z;cases qq:H c with
       | none=>rw[qq] at r;exact r
       | some u=>rw[qq] at r mu;cases u <;> first | exact mu | exact r
     refine(ok b u q).qW (fun c v hc r=>k c v ?_ r) (fun c r=>by rw[ag (AK c b r)];exact r) (fun c xs r=>by rw[ag (aaR c xs r)];exact r) ⟨fun c u r kq=>by rw[ag (nkd c _ r (by cases u <;> first | exact(show False from kq).elim | exact fun z=>z))];exact r,fun c r=>by rw[ag (nmm c r)];exact r,fun c y r=>by rw[ag (nkd c _ r fun z=>z)];exact r⟩;rcases hc with rfl | hc | hc
     . exact sF
     . rintro rfl
       rcases he with z | z
       . exact AK c b hc z
       . rw[hc] at z;cases z;exact hb rfl
     . rintro rfl
       rcases he with z | z
       . exact nmm c hc z
       . rw[z] at hc;exact hc
end
structure Un (fs ex:List Addr)(H H':Hp)(h h':Heap):Prop where
 keep:∀ b o,h.get? b=some o->H b=none->b ∉ fs->b ∉ ex->h'.get? b=some o
 slot:∀ b o,h.get? b=some o->H b=none->b∈fs->b ∉ ex->∃ sl,h'.get? b=some { o with slots:=sl}
 free:∀ b o,h.get? b=some o->H b=none->b ∉ ex->H' b=none
 there:∀ b o,h.get? b=some o->b ∉ ex->∃ o',h'.get? b=some o'
 t9:∀ b xs,H b=some (.tup xs)->H' b=some (.tup xs)
 sG:∀ b o u,H b=some (.bJ o u)->H' b=some (.bJ o u)
 ua:∀ b ps,H b=some (.RE ps)->∃ more,H' b=some (.RE (ps ++ more))
section
variable {fs ex:List Addr}{H H1:Hp}{h h1 h':Heap}{a x e:Addr}{o:HO}
theorem Un.any (u:Un fs ex H H1 h h1){b:Addr}{ob:Obj}(q:h.get? b=some ob)(n:H b=none)(hx:b ∉ ex):∃ sl,h1.get? b=some { ob with slots:=sl}:=by
 by_cases hb:b∈fs
 . exact u.slot b ob q n hb hx
 . exact⟨ob.slots,u.keep b ob q n hb hx⟩
theorem Un.kept (k:∀ b u,h.get? b=some u->h'.get? b=some u):Un fs ex H H h h':=
 ⟨fun b ob q _ _ _=>k b ob q,fun b ob q _ _ _=>⟨ob.slots,k b ob q⟩,fun _ _ _ n _=>n,fun b ob q _=>⟨ob,k b ob q⟩,fun _ _ q=>q,fun _ _ _ q=>q,fun _ ps q=>⟨#[],by rw[q];simp⟩⟩
theorem Un.refl:Un fs ex H H h h:=Un.kept fun _ _ q=>q
theorem Un.laid (k:∀ b u,h.get? b=some u->h'.get? b=some u)(hp:h.objs.size<=a)(hn:H a=none):Un fs ex H (upd H a o) h h' where
 keep:=fun b u q _ _ _=>k b u q
 slot:=fun b u q _ _ _=>⟨u.slots,k b u q⟩
 free:=fun b u q n _=>by rw[ag (aap (aam (aak q) hp))];exact n
 there:=fun b u q _=>⟨u,k b u q⟩
 t9:=fun b xs q=>by rw[ag (ax q hn)];exact q
 sG:=fun b u xs q=>by rw[ag (ax q hn)];exact q
 ua:=fun b ps q=>⟨#[],by rw[ag (ax q hn),q];simp⟩
theorem Un.write (mu:WO (H x))(he:e=x\/H e=some (.own x))(k:∀ b u,b≠e->h.get? b=some u->h'.get? b=some u)(WQ:∃ u,h'.get? e=some u):Un fs ex H (upd H x o) h h':=by
 have hx:∀ b,H b=none->b≠x:=fun b n z=>by subst z;rw[n] at mu;exact mu
 have hb:∀ b,H b=none->b≠e:=fun b n z=>by
   subst z;rcases he with r | r
   . exact hx b n r
   . rw[n] at r;cases r
 have hm:∀ b u,H b=some u->¬ WO (some u)->b≠x:=fun b u q nm z=>by subst z;rw[q] at mu;exact nm mu
 refine⟨fun b u q n _ _=>k b u (hb b n) q,fun b u q n _ _=>⟨u.slots,k b u (hb b n) q⟩,fun b u q n _=>by rw[ag (hx b n)];exact n,fun b u q _=>?_,
   fun b xs q=>by rw[ag (hm b _ q fun z=>z)];exact q,fun b u xs q=>by rw[ag (hm b _ q fun z=>z)];exact q,fun b ps q=>⟨#[],by rw[ag (hm b _ q fun z=>z),q];simp⟩⟩
 by_cases sF:b=e
 . subst sF;exact WQ
 . exact⟨u,k b u sF q⟩
end
noncomputable def b8 (h:Heap)(H:Hp):List Addr:=(aan h.objs.size).filter fun a=>(H a).isSome
noncomputable def AL (h:Heap)(H:Hp):Heap:=PySem.W.hideAll h (b8 h H)
theorem IA (h:Heap)(H:Hp):(AL h H).objs.size=h.objs.size:=W.hideAll_size _ _
theorem KC {h:Heap}{H:Hp}{b:Addr}{o:Obj}(e:h.get? b=some o)(n:H b=none):(AL h H).get? b=some o:=
 W.hideAll_get _ e fun hm=>by
   have q:(H b).isSome=true:=(List.mem_filter.mp hm).2;rw[n] at q;simp at q
theorem OY {h:Heap}{H:Hp}{b:Addr}{o:Obj}(e:(AL h H).get? b=some o):h.get? b=some o/\H b=none:=by
 have e':h.get? b=some o:=W.of_hideAll (b8 h H) e;refine⟨e',?_⟩;cases q:H b with
 | none=>rfl
 | some x=>
   have hm:b∈b8 h H:=List.mem_filter.mpr ⟨acs.mpr (aak e'),by simp[q]⟩;have z:(AL h H).get? b=none:=W.hideAll_none (b8 h H) hm;rw[z] at e;cases e
noncomputable def OZ (g h:Heap)(L:Addr):List (Addr×Obj):=(aan h.objs.size).filterMap fun a=>if a=L\/(g.get? a).isSome=true then none else (h.get? a).map fun o=>(a,o)
noncomputable def rest (g h:Heap)(L d:Addr):List (Addr×Obj):=(OZ g h L).filter fun p=>decide (p.1≠d)
structure Mod (K:W.Frag)(mg:Str->Option Value)(base:Heap):Prop where
 RG:K.In base
 glob:base.Ns mainGlobals mg
 blt:∃ mb,base.Ns builtinsNs mb/\∀ x:Str,x≠"__name__"->mb x=bootBuiltins x
 nolimit:base.NoLimit
structure Cx where
 prog:Program
 w:World
 K:W.Frag
 mg:Str->Option Value
 base:Heap
 A:Around
 N:List Str
 s₀:Shared
 H₀:Hp
 env:Env
 outer:List Env
 stack:List Env
 ex:List Addr
 fn:Str->Bool
 calm:Bool
 pn:List (Addr×Obj)
 xe:Value->Shared->Prop
noncomputable def kY (l:List Env):List Addr:=l.filterMap (·.frame)
noncomputable abbrev Cx.fs (X:Cx):List Addr:=kY X.outer
def vC (sc:Scope)(x:Str):Prop:=sc.names.lookup x=some .local\/sc.names.lookup x=some .cell\/sc.names.lookup x=some .free
def Loc (sc:Scope)(x:Str):Prop:=sc.names.lookup x=some .local\/sc.names.lookup x=some .cell
def Look (env:Env)(h:Heap)(m:Str->Option Value)(x:Str)(u:Value):Prop:=
 (env.kindOf x=some .local/\m x=some u)\/((env.kindOf x=some .cell\/env.kindOf x=some .free)/\∃ c,env.cells.lookup x=some c/\h.IsCell c (some u))
structure Cx.Ok (X:Cx):Prop where
 mod:Mod X.K X.mg X.base
 kind:X.env.scope.kind=.function
 glob:X.env.globals=mainGlobals
 blt:X.env.builtins=builtinsNs
 above:X.s₀.heap.objs.size<=X.env.locals
 inj:∀ x y c,X.env.cells.lookup x=some c->X.env.cells.lookup y=some c->x=y
 has:∀ x,(X.env.kindOf x=some .cell\/X.env.kindOf x=some .free)->∃ c,X.env.cells.lookup x=some c
 O0:∀ x c,X.fn x=true->X.env.cells.lookup x=some c->X.s₀.heap.objs.size<=c
 hd:X.calm=true->X.A.handled=none
 frames:X.A.frames=some X.stack
 RH:X.stack=X.outer\/(X.stack=X.env::X.outer/\X.env.frame=some X.env.locals)
 Kl:∀ b∈X.ex,b≠X.env.locals/\∀ x c,X.env.cells.lookup x=some c->c≠b
 bs:∀ b o,X.base.get? b=some o->X.s₀.heap.get? b=some o/\X.H₀ b=none
 Cw:X.base.objs.size<=X.s₀.heap.objs.size
 xp:∀ b o,X.base.get? b=some o->b ∉ X.ex
 xq:∀ b∈X.ex,b ∉ X.fs
 pR:X.s₀.heap.FunFrames X.base X.outer
 GU:∀ b∈X.fs,X.H₀ b=none
structure Inv (X:Cx)(pins:List (Addr×Obj))(σ:List (Option V))(H:Hp)(s:Shared):Prop where
 ok:X.Ok
 os:s.os=X.s₀.os
 bare:AllBare s.gens
 base:Un X.fs X.ex X.H₀ H X.s₀.heap s.heap
 loc:∃ m,s.heap.Ns X.env.locals m/\∀ (i:Nat) (x:Str) (v:V),X.N[i]?=some x->σ[i]?=some (some v)->vC X.env.scope x->∃ u,RelV v u/\Look X.env s.heap m x u
 cell:∀ x c,X.env.cells.lookup x=some c->∃ v,s.heap.IsCell c v
 free:H X.env.locals=none
 mf:∀ x c,X.env.cells.lookup x=some c->H c=none
 pin:∀ p∈X.pn ++ pins,s.heap.get? p.1=some p.2/\H p.1=none/\p.1≠X.env.locals/\p.1 ∉ X.fs/\∀ v,p.2.data≠.cell v
 aR:pJ X.prog X.w H s.heap
 len:σ.length=X.N.length
section
variable {X:Cx}{pins:List (Addr×Obj)}{σ:List (Option V)}{H H':Hp}{s:Shared}{h':Heap}
theorem Cx.Ok.Th (ok:X.Ok){b:Addr}{o:Obj}(e:X.base.get? b=some o):b ∉ X.fs:=fun hb=>by
 have:=(ok.pR.mem hb).1;rw[e] at this;cases this
theorem Inv.bs (I:Inv X pins σ H s):∀ b o,X.base.get? b=some o->s.heap.get? b=some o/\H b=none:=fun b o e=>
 ⟨I.base.keep b o (I.ok.bs b o e).1 (I.ok.bs b o e).2 (I.ok.Th e) (I.ok.xp b o e),I.base.free b o (I.ok.bs b o e).1 (I.ok.bs b o e).2 (I.ok.xp b o e)⟩
theorem Inv.bk (I:Inv X pins σ H s):∀ b o,X.base.get? b=some o->s.heap.get? b=some o:=fun b o e=>(I.bs b o e).1
theorem Inv.mod (I:Inv X pins σ H s):Mod X.K X.mg X.base:=I.ok.mod
theorem Inv.ke (I:Inv X pins σ H s):X.K.In s.heap:=I.ok.mod.RG.keeps I.bk
theorem Inv.lt (I:Inv X pins σ H s):X.env.locals < s.heap.objs.size:=let ⟨_,hn,_⟩:=I.loc;hn.lt
theorem Inv.sz (I:Inv X pins σ H s):X.s₀.heap.objs.size<=s.heap.objs.size:=aax I.ok.above (abG I.lt)
theorem Inv.aaS (I:Inv X pins σ H s){a:Addr}(h:s.heap.objs.size<=a):a ∉ X.fs:=fun hb=>by
 obtain⟨_,o,ho,_⟩:=I.ok.pR.mem hb;exact absurd (aam (aak ho) (aax I.sz h)) (abF _)
theorem Inv.zZ (I:Inv X pins σ H s):∀ x c,X.env.cells.lookup x=some c->c≠X.env.locals:=fun x c e z=>by
 obtain⟨v,o,ho,hd⟩:=I.cell x c e;obtain⟨m,⟨o',es,ep,KG,WR,_⟩,_⟩:=I.loc;rw[z,KG] at ho;cases ho;rw[WR] at hd;cases hd
theorem Inv.pR (I:Inv X pins σ H s):s.heap.FunFrames X.base X.outer:=by
 have all:∀ (l:List Env),(∀ b∈kY l,b∈X.fs)->X.s₀.heap.FunFrames X.base l->s.heap.FunFrames X.base l:=by
   intro l
   induction l with
   | nil=>intro _ _;trivial
   | cons env r ih=>
     intro hs hl;obtain⟨hk,⟨L,o,hf,hn,ho,hd⟩,hr⟩:=hl;have hL:L∈X.fs:=hs L (by unfold kY;rw[acJ,hf];exact abz);obtain⟨sl,e⟩:=I.base.slot L o ho (I.ok.GU L hL) hL fun z=>I.ok.xq L z hL
     exact⟨hk,⟨L,_,hf,hn,e,hd⟩,ih (fun b hb=>hs b (by unfold kY;rw[acJ,hf];exact aaI _ hb)) hr⟩
 exact all X.outer (fun _ hb=>hb) I.ok.pR
theorem Inv.stack (I:Inv X pins σ H s):s.heap.FunFrames X.base X.stack:=by
 rcases I.ok.RH with e | ⟨e,hf⟩
 . rw[e];exact I.pR
 . rw[e]
   obtain⟨m,hn,_⟩:=I.loc;refine .cons (by rw[I.ok.kind];decide) hf hn ?_ I.pR;exact acD (aax I.ok.Cw I.ok.above)
theorem Inv.xu (I:Inv X pins σ H s):∀ b∈kY X.stack,b∈X.env.locals::X.fs:=fun b hb=>by
 rcases I.ok.RH with e | ⟨e,hf⟩
 . rw[e] at hb;exact aaI _ hb
 . rw[e] at hb
   unfold kY at hb;rw[acJ,hf] at hb;exact hb
theorem Inv.lC (I:Inv X pins σ H s):∀ b∈kY X.stack,H b=none:=fun b hb=>by
 rcases aaz.mp (I.xu b hb) with e | hb
 . rw[e];exact I.free
 . obtain⟨_,o,ho,_⟩:=I.ok.pR.mem hb
   exact I.base.free b o ho (I.ok.GU b hb) fun z=>I.ok.xq b z hb
theorem Inv.step {g':Array GenState}{t':Nat}{d':Drawn}{ch:List Addr}(I:Inv X pins σ H s)(Cq:∀ b∈ch,(b∈X.ex\/X.s₀.heap.objs.size<=b)/\b≠X.env.locals/\(∀ x c,X.env.cells.lookup x=some c->c≠b)/\∀ p∈X.pn ++ pins,p.1≠b)(keep:∀ b o,b≠X.env.locals->b ∉ X.fs->b ∉ ch->s.heap.get? b=some o->H b=none->h'.get? b=some o)(slot:∀ b o,b≠X.env.locals->b∈X.fs->b ∉ ch->s.heap.get? b=some o->H b=none->∃ sl,h'.get? b=some { o with slots:=sl})(free:∀ b o,b ∉ ch->s.heap.get? b=some o->H b=none->H' b=none)(there:∀ b o,b ∉ ch->s.heap.get? b=some o->∃ o',h'.get? b=some o')(t9:∀ b xs,H b=some (.tup xs)->H' b=some (.tup xs))(sG:∀ b o u,H b=some (.bJ o u)->H' b=some (.bJ o u))(ua:∀ b ps,H b=some (.RE ps)->∃ more,H' b=some (.RE (ps ++ more)))(ns:∀ m,s.heap.Ns X.env.locals m->h'.Ns X.env.locals m)(aR:pJ X.prog X.w H' h')(hg:AllBare g'):Inv X pins σ H' { s with heap:=h',gens:=g',drawn:=d',toks:=t'}:=by
 have neL:∀ b o,X.s₀.heap.get? b=some o->b≠X.env.locals:=fun b o e=>aap (aam (aak e) I.ok.above)
 have Z5:∀ b o,X.s₀.heap.get? b=some o->b ∉ X.ex->b ∉ ch:=fun b o e hx hb=>by
   rcases (Cq b hb).1 with z | z
   . exact hx z
   . exact absurd (aam (aak e) z) (abF _)
 have cellK:∀ x c,X.env.cells.lookup x=some c->∀ v,s.heap.IsCell c v->h'.IsCell c v:=fun x c e v ⟨o,ho,hd⟩=>by
   have Xg:c ∉ ch:=fun z=>(Cq c z).2.2.1 x c e rfl
   by_cases hc:c∈X.fs
   . obtain⟨sl,q⟩:=slot c o (I.zZ x c e) hc Xg ho (I.mf x c e)
     exact⟨_,q,hd⟩
   . exact⟨o,keep c o (I.zZ x c e) hc Xg ho (I.mf x c e),hd⟩
 refine⟨I.ok,I.os,hg,⟨fun b o e n hb hx=>?_,fun b o e n hb hx=>?_,fun b o e n hx=>?_,fun b o e hx=>?_,fun b xs e=>t9 b xs (I.base.t9 b xs e),fun b o xs e=>sG b o xs (I.base.sG b o xs e),fun b ps e=>?_⟩,?_,fun x c e=>?_,?_,fun x c e=>?_,fun p hp=>?_,aR,I.len⟩
 . exact keep b o (neL b o e) hb (Z5 b o e hx) (I.base.keep b o e n hb hx) (I.base.free b o e n hx)
 . obtain⟨sl,e1⟩:=I.base.slot b o e n hb hx
   obtain⟨sl',e2⟩:=slot b _ (neL b o e) hb (Z5 b o e hx) e1 (I.base.free b o e n hx);exact⟨sl',e2⟩
 . obtain⟨o',e1⟩:=I.base.there b o e hx
   exact free b o' (Z5 b o e hx) e1 (I.base.free b o e n hx)
 . obtain⟨o',e1⟩:=I.base.there b o e hx
   exact there b o' (Z5 b o e hx) e1
 . obtain⟨m1,e1⟩:=I.base.ua b ps e
   obtain⟨m2,e2⟩:=ua b _ e1;exact⟨m1 ++ m2,by rw[e2,Array.append_assoc]⟩
 . obtain⟨m,hn,hl⟩:=I.loc
   refine⟨m,ns m hn,fun i x v e1 e2 e3=>?_⟩;obtain⟨u,r,l⟩:=hl i x v e1 e2 e3;refine⟨u,r,?_⟩;rcases l with l | ⟨k,c,e,z⟩
   . exact .inl l
   . exact .inr ⟨k,c,e,cellK x c e _ z⟩
 . obtain⟨v,z⟩:=I.cell x c e
   exact⟨v,cellK x c e v z⟩
 . obtain⟨m,⟨o,_,_,ho,_⟩,_⟩:=I.loc
   exact free _ o (fun z=>(Cq _ z).2.1 rfl) ho I.free
 . obtain⟨v,o,ho,hd⟩:=I.cell x c e
   exact free c o (fun z=>(Cq c z).2.2.1 x c e rfl) ho (I.mf x c e)
 . obtain⟨e,n,ne,nf,d⟩:=I.pin p hp
   have Xg:p.1 ∉ ch:=fun z=>(Cq p.1 z).2.2.2 p hp rfl
   exact⟨keep p.1 p.2 ne nf Xg e n,free p.1 p.2 Xg e n,ne,nf,d⟩
theorem Inv.un {t':Nat}(I:Inv X pins σ H s)(u:Un X.fs [] H H' s.heap h')(aR:pJ X.prog X.w H' h'):Inv X pins σ H' { s with heap:=h',toks:=t'}:=by
 obtain⟨m,⟨o,es,ep,ho,r⟩,_⟩:=id I.loc;obtain⟨sl,hL⟩:=u.any ho I.free (by simp);exact I.step (g':=s.gens) (d':=s.drawn) (ch:=[]) (fun _ z=>nomatch z) (fun b o _ hb _ e n=>u.keep b o e n hb (by simp)) (fun b o _ hb _ e n=>u.slot b o e n hb (by simp)) (fun b o _ e n=>u.free b o e n (by simp)) (fun b o _ e=>u.there b o e (by simp)) u.t9 u.sG u.ua (fun m' hm=>by
   obtain⟨o',O1,ep',KG,r'⟩:=hm;rw[ho] at KG;cases KG;exact⟨_,O1,ep',hL,r'⟩) aR I.bare
theorem Inv.call {g':Array GenState}{t':Nat}{d':Drawn}{ch:List Addr}(I:Inv X pins σ H s)(u:Un (kY X.stack) ch H H' s.heap h')(aR:pJ X.prog X.w H' h')(hg:AllBare g')(Cq:∀ b∈ch,(b∈X.ex\/X.s₀.heap.objs.size<=b)/\b≠X.env.locals/\(∀ x c,X.env.cells.lookup x=some c->c≠b)/\∀ p∈X.pn ++ pins,p.1≠b):Inv X pins σ H' { s with heap:=h',gens:=g',drawn:=d',toks:=t'}:=by
 obtain⟨m,⟨o,es,ep,ho,r⟩,_⟩:=id I.loc;obtain⟨sl,hL⟩:=u.any ho I.free fun z=>(Cq _ z).2.1 rfl
 exact I.step (ch:=ch) Cq (fun b o hL hb hc e n=>u.keep b o e n (fun z=>(aaz.mp (I.xu b z)).elim hL hb) hc) (fun b o _ _ hc e n=>u.any e n hc) (fun b o hc e n=>u.free b o e n hc) (fun b o hc e=>u.there b o e hc) u.t9 u.sG u.ua (fun m' hm=>by
   obtain⟨o',O1,ep',KG,r'⟩:=hm;rw[ho] at KG;cases KG;exact⟨_,O1,ep',hL,r'⟩) aR hg
theorem Inv.turned {t':Nat}{it:Addr}(I:Inv X pins σ H s)(k:∀ b o,b≠it->s.heap.get? b=some o->h'.get? b=some o)(hn:H it=none)(hL:it≠X.env.locals)(h1:it∈X.ex\/X.s₀.heap.objs.size<=it)(h2:∀ x c,X.env.cells.lookup x=some c->c≠it)(h3:∀ p∈X.pn ++ pins,p.1≠it):Inv X pins σ H { s with heap:=h',toks:=t'}:=by
 have Xh:∀ b u,H b=some u->b≠it:=fun b u e z=>by rw[z,hn] at e;cases e
 refine I.step (g':=s.gens) (d':=s.drawn) (ch:=[it]) (fun b hb=>?_) (fun b o _ _ hc e _=>k b o (fun z=>hc (by simp[z])) e) (fun b o _ _ hc e _=>⟨o.slots,k b o (fun z=>hc (by simp[z])) e⟩) (fun _ _ _ _ n=>n)
   (fun b o hc e=>⟨o,k b o (fun z=>hc (by simp[z])) e⟩) (fun _ _ e=>e) (fun _ _ _ e=>e) (fun b ps e=>⟨#[],by rw[e];simp⟩) (fun m hm=>?_) (fun b u e=>?_) I.bare
 . have e:b=it:=by simpa using hb
   subst e;exact⟨h1,hL,h2,h3⟩
 . obtain⟨o,es,ep,ho,r⟩:=hm
   exact⟨o,es,ep,k _ o (Ne.symm hL) ho,r⟩
 . refine(I.aR b u e).qW (fun c v hc q=>k c v ?_ q) (fun _ q=>q) (fun _ _ q=>q) .refl
   rcases hc with z | z | z
   . rw[z];exact Xh b u e
   . exact Xh c _ z
   . exact fun z'=>by rw[z',hn] at z;exact z
theorem Inv.tok (I:Inv X pins σ H s)(t:Nat):Inv X pins σ H { s with toks:=t}:=I.un (h':=s.heap) (t':=t) Un.refl I.aR
theorem Inv.kept {t':Nat}(I:Inv X pins σ H s)(k:∀ b u,s.heap.get? b=some u->h'.get? b=some u):Inv X pins σ H { s with heap:=h',toks:=t'}:=I.un (Un.kept k) (I.aR.kept k)
theorem Inv.laid {a:Addr}{o:HO}{t':Nat}(I:Inv X pins σ H s)(k:∀ b u,s.heap.get? b=some u->h'.get? b=some u)(hp:s.heap.objs.size<=a)(new:aM X.prog X.w (upd H a o) h' a o):Inv X pins σ (upd H a o) { s with heap:=h',toks:=t'}:=I.un (Un.laid k hp (I.aR.fresh hp)) (I.aR.laid k hp new)
theorem Inv.write {x e:Addr}{o:HO}{t':Nat}(I:Inv X pins σ H s)(mu:WO (H x))(he:e=x\/H e=some (.own x))(k:∀ b u,b≠e->s.heap.get? b=some u->h'.get? b=some u)(WQ:∃ u,h'.get? e=some u)(new:aM X.prog X.w (upd H x o) h' x o):Inv X pins σ (upd H x o) { s with heap:=h',toks:=t'}:=I.un (Un.write mu he k WQ) (I.aR.write mu he k WQ new)
theorem Inv.GV {Aa:List (Addr×Obj)}(I:Inv X pins σ H s)(h:∀ p∈Aa,s.heap.get? p.1=some p.2/\H p.1=none/\p.1≠X.env.locals/\p.1 ∉ X.fs/\∀ v,p.2.data≠.cell v):Inv X Aa σ H s:=
 ⟨I.ok,I.os,I.bare,I.base,I.loc,I.cell,I.free,I.mf,fun p hp=>(abN.mp hp).elim (fun z=>I.pin p (acE _ z)) (h p),I.aR,I.len⟩
theorem xv {N:List Str}(hN:N.Nodup){i j:Nat}{x:Str}(a:N[i]?=some x)(b:N[j]?=some x):i=j:=by
 obtain⟨h1,e1⟩:=aaj.mp a;obtain⟨h2,e2⟩:=aaj.mp b;exact(List.getElem_inj hN).mp (e1.trans e2.symm)
theorem ub {M:Model}{A:Around}{E:Value->Shared->Prop}{i:Nat}{x:Str}{v:V}{u:Value}{Q:Unit->Shared->Prop}(I:Inv X pins σ H s)(hN:X.N.Nodup)(hi:X.N[i]?=some x)(hx:Loc X.env.scope x)(r:RelV v u)(h:∀ s',Inv X pins (σ.set i (some v)) H s'->(∃ a,ab5 a s.heap s'.heap/\(a=X.env.locals\/X.env.cells.lookup x=some a))->Q () s')(hf:autoParam (X.fn x=true\/X.env.scope.names.lookup x=some .local) v6):wpAny M A (storeName X.env x u) Q E s:=by
 obtain⟨m,hn,hl⟩:=id I.loc;have Ti:(X.env.scope.kind == .class || (X.env.scope.kind == .module && X.env.locals != X.env.globals))=false:=by rw[I.ok.kind];rfl
 have Z6:i < σ.length:=by rw[I.len];exact(aaj.mp hi).1
 have zZ:=I.zZ;have tracked:∀ {a:Addr} {h':Heap},(∃ o,s.heap.get? a=some o/\H a=none)->ab5 a s.heap h'->pJ X.prog X.w H h':=fun {a h'} ha hs b ob e=>by
   obtain⟨_,_,KH⟩:=ha;refine(I.aR b ob e).qW (fun c w' hc q=>(hs.2 c ?_).trans q) (fun _ q=>q) (fun _ _ q=>q) .refl
   rintro rfl
   rcases hc with rfl | hc | hc
   . rw[KH] at e;cases e
   . rw[KH] at hc;cases hc
   . rw[KH] at hc;exact hc
 rcases hx with hk | hk
 . refine wpAny_storeName_local hk hn (fun h' sD hs=>?_) Ti
   obtain⟨oL,_,_,hoL,_⟩:=id hn;refine h _ ⟨I.ok,I.os,I.bare,⟨fun b o e n hb hx=>?_,fun b o e n hb hx=>?_,I.base.free,fun b o e hx=>?_,I.base.t9,I.base.sG,I.base.ua⟩,⟨_,sD,fun j y v' e1 e2 e3=>?_⟩,fun y c e=>?_,I.free,I.mf,fun p hp=>?_,tracked ⟨oL,hoL,I.free⟩ hs,by simpa using I.len⟩ ⟨_,hs,.inl rfl⟩
   . exact(hs.2 b (aap (aam (aak e) I.ok.above))).trans (I.base.keep b o e n hb hx)
   . obtain⟨sl,e1⟩:=I.base.slot b o e n hb hx
     exact⟨sl,(hs.2 b (aap (aam (aak e) I.ok.above))).trans e1⟩
   . obtain⟨o',e1⟩:=I.base.there b o e hx
     exact⟨o',(hs.2 b (aap (aam (aak e) I.ok.above))).trans e1⟩
   . by_cases hj:j=i
     . subst hj
       rw[hi] at e1;cases e1;rw[aag Z6] at e2;cases e2;exact⟨u,r,.inl ⟨hk,by simp⟩⟩
     . rw[aah (Ne.symm hj)] at e2
       obtain⟨u',r',q⟩:=hl j y v' e1 e2 e3;refine⟨u',r',?_⟩;rcases q with⟨k,e⟩ | ⟨k,c,e,z⟩
       . refine .inl ⟨k,?_⟩
         have:y≠x:=fun e=>hj (xv hN e1 (e ▸ hi))
         simp[this,e]
       . exact .inr ⟨k,c,e,z.sameBut hs (zZ y c e)⟩
   . obtain⟨w',z⟩:=I.cell y c e
     exact⟨w',z.sameBut hs (zZ y c e)⟩
   . obtain⟨e,n,ne,nf,d⟩:=I.pin p hp
     exact⟨(hs.2 p.1 ne).trans e,n,ne,nf,d⟩
 . have hfn:X.fn x=true:=by
     rcases hf with z | z
     . exact z
     . rw[z] at hk;cases hk
   obtain⟨c,hc⟩:=I.ok.has x (.inl hk);obtain⟨w',z⟩:=I.cell x c hc;refine wpAny_storeName_cell I.ok.kind hk hc z (fun h' EK hs=>?_);obtain⟨oc,GW,aaV⟩:=id z;refine h { s with heap:=h'} ⟨I.ok,I.os,I.bare,⟨fun b o e n hb hx=>?_,fun b o e n hb hx=>?_,I.base.free,fun b o e hx=>?_,I.base.t9,I.base.sG,I.base.ua⟩,⟨m,hn.sameBut hs (Ne.symm (zZ x c hc)),fun j y v' e1 e2 e3=>?_⟩,fun y c' e=>?_,I.free,I.mf,fun p hp=>?_,tracked ⟨oc,GW,I.mf x c hc⟩ hs,by simpa using I.len⟩ ⟨c,hs,.inr hc⟩
   . exact(hs.2 b (aap (aam (aak e) (I.ok.O0 x c hfn hc)))).trans (I.base.keep b o e n hb hx)
   . obtain⟨sl,e1⟩:=I.base.slot b o e n hb hx
     exact⟨sl,(hs.2 b (aap (aam (aak e) (I.ok.O0 x c hfn hc)))).trans e1⟩
   . obtain⟨o',e1⟩:=I.base.there b o e hx
     exact⟨o',(hs.2 b (aap (aam (aak e) (I.ok.O0 x c hfn hc)))).trans e1⟩
   . by_cases hj:j=i
     . subst hj
       rw[hi] at e1;cases e1;rw[aag Z6] at e2;cases e2;exact⟨u,r,.inr ⟨.inl hk,c,hc,EK⟩⟩
     . rw[aah (Ne.symm hj)] at e2
       obtain⟨u',r',q⟩:=hl j y v' e1 e2 e3;refine⟨u',r',?_⟩;rcases q with q | ⟨k,c',e,z'⟩
       . exact .inl q
       . refine .inr ⟨k,c',e,z'.sameBut hs ?_⟩
         rintro rfl
         exact hj (xv hN e1 (I.ok.inj _ _ _ e hc ▸ hi))
   . by_cases Xi:c'=c
     . subst Xi;exact⟨_,EK⟩
     . obtain⟨w2,z2⟩:=I.cell y c' e
       exact⟨w2,z2.sameBut hs Xi⟩
   . obtain⟨e,n,ne,nf,d⟩:=I.pin p hp
     refine⟨(hs.2 p.1 ?_).trans e,n,ne,nf,d⟩;intro q;rw[q,GW] at e;have q':oc=p.2:=Option.some.inj e;exact d w' (by rw[<- q'];exact aaV)
theorem sH {M:Model}{A:Around}{E:Value->Shared->Prop}{i:Nat}{x:Str}{v:V}{u:Value}{Q:Unit->Shared->Prop}(I:Inv X pins σ H s)(hN:X.N.Nodup)(hi:X.N[i]?=some x)(hx:Loc X.env.scope x)(r:RelV v u)(h:∀ s',Inv X pins (σ.set i (some v)) H s'->Q () s')(hf:autoParam (X.fn x=true\/X.env.scope.names.lookup x=some .local) v6):wpAny M A (storeName X.env x u) Q E s:=
 ub I hN hi hx r (fun s' I' _=>h s' I') hf
theorem Inv.xw {s':Shared}{ch:List Addr}(I:Inv X pins σ H s)(ho:s'.os=s.os)(u:Un (kY X.stack) ch H H' s.heap s'.heap)(aR:pJ X.prog X.w H' s'.heap)(hg:AllBare s'.gens)(Cq:∀ b∈ch,(b∈X.ex\/X.s₀.heap.objs.size<=b)/\b≠X.env.locals/\(∀ x c,X.env.cells.lookup x=some c->c≠b)/\∀ p∈X.pn ++ pins,p.1≠b):Inv X pins σ H' s':=by
 obtain⟨h',g',d',t',o'⟩:=s';have e:o'=s.os:=ho;subst e;exact I.call (g':=g') (t':=t') (d':=d') u aR hg Cq
end
abbrev XK:=Value->Option Addr->Hp->Prop
noncomputable abbrev St:=List (Option V)
abbrev VK:=V->Hp->Prop
abbrev TE:=St->Hp->VK->Prop
abbrev TT:=St->Hp->(Bool->Hp->Prop)->Prop
abbrev TA:=St->Hp->(List V->Hp->Prop)->Prop
structure Ends where
 nx:St->Hp->Prop
 rt:VK
 bk:St->Hp->Prop:=fun _ _=>False
 ct:St->Hp->Prop:=fun _ _=>False
abbrev TS:=Ends->St->Hp->Prop
def EP (X:Cx)(pins:List (Addr×Obj))(σ:St)(Q:VK)(u:Value)(s':Shared):Prop:=∃ v H',Inv X pins σ H' s'/\RelV v u/\Q v H'
def TP (X:Cx)(pins:List (Addr×Obj))(σ:St)(Q:Bool->Hp->Prop)(b:Bool)(s':Shared):Prop:=∃ H',Inv X pins σ H' s'/\Q b H'
def AP (X:Cx)(pins:List (Addr×Obj))(σ:St)(Q:List V->Hp->Prop)(us:List Value)(s':Shared):Prop:=∃ vs H',Inv X pins σ H' s'/\Vals vs us/\Q vs H'
def SP (X:Cx)(pins:List (Addr×Obj))(D:Ends)(f:Flow)(s':Shared):Prop:=
 match f with
 | .next=>∃ σ' H',Inv X pins σ' H' s'/\D.nx σ' H'
 | .brk=>∃ σ' H',Inv X pins σ' H' s'/\D.bk σ' H'
 | .cont=>∃ σ' H',Inv X pins σ' H' s'/\D.ct σ' H'
 | .ret u=>∃ v σ' H',Inv X pins σ' H' s'/\RelV v u/\D.rt v H'
def PE (X:Cx)(e:Expr)(t:TE):Prop:=
 ∀ (pins:List (Addr×Obj)) (s:Shared) (σ:St) (H:Hp) (Q:VK),Inv X pins σ H s->t σ H Q->wpAny (model X.prog X.w) X.A (eval e X.env) (EP X pins σ Q) X.xe s
def PT (X:Cx)(e:Expr)(t:TT):Prop:=
 ∀ (pins:List (Addr×Obj)) (s:Shared) (σ:St) (H:Hp) (Q:Bool->Hp->Prop),Inv X pins σ H s->t σ H Q->wpAny (model X.prog X.w) X.A (isTrue e X.env (eval e X.env)) (TP X pins σ Q) X.xe s
def PW (X:Cx)(e:Expr)(t:TT):Prop:=
 ∀ (whole:Sem Value) (pins:List (Addr×Obj)) (s:Shared) (σ:St) (H:Hp) (Q:Bool->Hp->Prop),Inv X pins σ H s->t σ H Q->wpAny (model X.prog X.w) X.A (isTrue e X.env whole) (TP X pins σ Q) X.xe s
theorem PW.pt {X:Cx}{e:Expr}{t:TT}(h:PW X e t):PT X e t:=h _
def PA (X:Cx)(es:List Expr)(t:TA):Prop:=
 ∀ (pos:Pos) (pins:List (Addr×Obj)) (s:Shared) (σ:St) (H:Hp) (Q:List V->Hp->Prop),Inv X pins σ H s->t σ H Q->wpAny (model X.prog X.w) X.A (spliced (backTo pos (starEach es X.env))) (AP X pins σ Q) X.xe s
def PS (X:Cx)(st:Stmt)(t:TS):Prop:=
 ∀ (pins:List (Addr×Obj)) (s:Shared) (σ:St) (H:Hp) (D:Ends),Inv X pins σ H s->t D σ H->wpAny (model X.prog X.w) X.A (exec st X.env) (SP X pins D) X.xe s
def Cy (X:Cx)(st:List Stmt)(t:TS):Prop:=
 ∀ (pins:List (Addr×Obj)) (s:Shared) (σ:St) (H:Hp) (D:Ends),Inv X pins σ H s->t D σ H->wpAny (model X.prog X.w) X.A (execs st X.env) (SP X pins D) X.xe s
theorem bZ {α:Type}{t:Sem α}{Q Q':α->Shared->Prop}{M:Model}{A:Around}{E:Value->Shared->Prop}{s:Shared}(h:wpAny M A t Q E s)(hQ:∀ a s,Q a s->Q' a s):wpAny M A t Q' E s:=wpAny_mono h hQ fun _ _ x=>x
section
variable {X:Cx}
def aaW (i:Nat):TE:=fun σ H Q=>∃ v,σ[i]?=some (some v)/\Q v H
def tC (v:V):TE:=fun _ H Q=>Q v H
theorem gU {i:Nat}{x:Str}{pos:Pos}(hN:X.N[i]?=some x)(hv:vC X.env.scope x)(hd:autoParam ((x == ("__debug__":Str))=false) jO)(mh:autoParam ((x == ("__classdict__":Str))=false) jO):PE X (.Name x pos) (aaW i):=by
 intro pins s σ H Q I h;obtain⟨v,e,h⟩:=h;obtain⟨m,hn,hl⟩:=I.loc;obtain⟨u,r,l⟩:=hl i x v hN e hv;have fin:EP X pins σ Q u s:=⟨v,H,I,r,h⟩
 rcases l with⟨hk,hm⟩ | ⟨hk,c,hc,RI⟩
 . exact wpAny_Name (wpAny_loadName_local I.ok.kind hk hn hm fin) hd
 . rcases hk with hk | hk
   . exact wpAny_Name (wpAny_loadName_cell I.ok.kind hk hc RI fin) hd
   . exact wpAny_Name (wpAny_loadName_free I.ok.kind hk hc RI fin mh) hd
theorem Tj {i j pos}:PE X (.Constant (.int i) j pos) (tC (.int i)):=fun _ _ _ H _ I h=>wpAny_Constant_int ⟨.int i,H,I.tok _,⟨_,rfl⟩,h⟩
theorem Tn {j pos}:PE X (.Constant .none j pos) (tC .cz):=fun _ _ _ H _ I h=>Constant_none ⟨.cz,H,I,rfl,h⟩
theorem KI {x j pos}:PE X (.Constant (.str x) j pos) (tC (.str x)):=fun _ _ _ H _ I h=>Calls.Constant_str ⟨.str x,H,I.tok _,⟨_,rfl⟩,h⟩
def Gl (X:Cx)(x:Str):Prop:=X.env.kindOf x=some .globalImplicit
theorem lD {E:Value->Shared->Prop}{pins:List (Addr×Obj)}{s:Shared}{σ:St}{H:Hp}{x:Str}{u:Value}{pos:Pos}{Q:Value->Shared->Prop}(I:Inv X pins σ H s)(hg:Gl X x)(hm:X.mg x=some u)(h:Q u s)(hd:autoParam ((x == ("__debug__":Str))=false) jO):wpAny (model X.prog X.w) X.A (eval (.Name x pos) X.env) Q E s:=
 Calls.Name_function_global I.ok.kind hg (Calls.loadGlobal_global (by rw[I.ok.glob];exact I.mod.glob.keeps I.bk) hm h) hd
theorem rN {E:Value->Shared->Prop}{pins:List (Addr×Obj)}{s:Shared}{σ:St}{H:Hp}{x:Str}{u:Value}{pos:Pos}{Q:Value->Shared->Prop}(I:Inv X pins σ H s)(hg:Gl X x)(hm:X.mg x=none)(hv:bootBuiltins x=some u)(h:Q u s)(hn:autoParam (x≠"__name__") jO)(hd:autoParam ((x == ("__debug__":Str))=false) jO):wpAny (model X.prog X.w) X.A (eval (.Name x pos) X.env) Q E s:=by
 obtain⟨mb,h1,h2⟩:=I.mod.blt;exact Calls.Name_function_global I.ok.kind hg (Calls.loadGlobal_builtin (by rw[I.ok.glob];exact I.mod.glob.keeps I.bk) hm (by rw[I.ok.blt];exact h1.keeps I.bk) ((h2 x hn).trans hv) h) hd
theorem GX {x:Str}{v:V}{u:Value}{pos:Pos}(hg:Gl X x)(hm:X.mg x=some u)(r:RelV v u)(hd:autoParam ((x == ("__debug__":Str))=false) jO):PE X (.Name x pos) (tC v):=
 fun _ _ _ H _ I h=>lD I hg hm ⟨v,H,I,r,h⟩ hd
theorem O2 {x:Str}{v:V}{u:Value}{pos:Pos}(hg:Gl X x)(hm:X.mg x=none)(hv:bootBuiltins x=some u)(r:RelV v u)(hn:autoParam (x≠"__name__") jO)(hd:autoParam ((x == ("__debug__":Str))=false) jO):PE X (.Name x pos) (tC v):=
 fun _ _ _ H _ I h=>rN I hg hm hv ⟨v,H,I,r,h⟩ hn hd
variable {a b:Expr}{ta tb:TE}{pos:Pos}
def PC (X:Cx)(op:CmpOp)(a b:Expr)(t:TE):Prop:=
 ∀ (pins:List (Addr×Obj)) (s:Shared) (σ:St) (H:Hp) (Q:VK),Inv X pins σ H s->t σ H Q ->
   wpAny (model X.prog X.w) X.A (eval a X.env) (fun v s₁=>wpAny (model X.prog X.w) X.A (eval b X.env) (fun u s₂=>wpAny (model X.prog X.w) X.A (compareOp op v u) (EP X pins σ Q) X.xe s₂) X.xe s₁) X.xe s
theorem KJ (b:Expr){op:CmpOp}(h:op≠.In)(h2:op≠.NotIn):behindInMarks op b=false:=by
 have e1:(op == CmpOp.In)=false:=by cases op <;> first | rfl | exact absurd rfl h
 have e2:(op == CmpOp.NotIn)=false:=by cases op <;> first | rfl | exact absurd rfl h2
 cases b <;> simp[behindInMarks,e1,e2]
def aaX (ta:TE):TE:=fun σ H Q=>ta σ H fun x H1=>Q (.bl (decide (x=.cz))) H1
theorem RelV.KL {x:V}{v:Value}(r:RelV x v):(v == Value.none)=decide (x=.cz):=by
 cases x with
 | cz=>cases r;rfl
 | bl _=>cases r;rfl
 | int _=>obtain⟨t,rfl⟩:=r;rfl
 | str _=>obtain⟨t,rfl⟩:=r;rfl
 | Kz _=>obtain⟨t,rfl⟩:=r;rfl
 | RD _=>obtain⟨t,rfl⟩:=r;rfl
 | ref _=>cases r;rfl
 | ty _=>cases r;rfl
theorem To {j pos'}(ha:PE X a ta):PC X .Is a (.Constant .none j pos') (aaX ta):=by
 intro pins s σ H Q I h;refine bZ (ha pins s σ H _ I h) fun v s1 zq=>?_;obtain⟨x,H1,I1,r1,q1⟩:=zq
 exact Constant_none (is_none_gen ⟨.bl _,H1,I1,by rw[r1.KL];rfl,q1⟩)
def tB (t:TE):TT:=fun σ H Q=>t σ H fun x H1=>∃ c,x=.bl c/\Q c H1
theorem EU {op:CmpOp}{t:TE}(h:PC X op a b t)(h1:behindInMarks op b=false:=by first | exact KJ _ (by decide) (by decide) | rfl):PT X (.Compare a [op] [b] pos) (tB t):=by
 intro pins s σ H Q I hw;refine wpAny_isTrue_Compare1 (bZ (h pins s σ H _ I hw) fun v s1 h1=>bZ h1 fun u s2 h2=>bZ h2 fun c s3 zq=>?_) h1;obtain⟨x,H1,I1,r1,q1⟩:=zq;obtain⟨d,rfl,q⟩:=q1;cases r1;exact wpAny_truthy_bool ⟨H1,I1,q⟩
theorem Tp {e:Expr}{t:TE}(h:PE X e t)(he:autoParam (∀ whole,isTrue e X.env whole=(do let v <- whole;standAt e.pos;holding [v] (truthy v))) xL):PT X e (tB t):=by
 intro pins s σ H Q I hw;refine isTrue_plain (bZ (h pins s σ H _ I hw) fun v s1 zq=>?_) (he _);obtain⟨x,H1,I1,r1,q1⟩:=zq;obtain⟨d,rfl,q⟩:=q1;cases r1;exact wpAny_truthy_bool ⟨H1,I1,q⟩
variable {tA Z7:TT}{rest:List Expr}
def aaY (t u:TT):TT:=fun σ H Q=>t σ H fun c H1=>if c=true then u σ H1 Q else Q false H1
def tOr (t u:TT):TT:=fun σ H Q=>t σ H fun c H1=>if c=true then Q true H1 else u σ H1 Q
def aaZ (t:TT):TT:=fun σ H Q=>t σ H fun c H1=>Q (!c) H1
theorem pw_and1 (ha:PT X a tA):PW X (.BoolOp .And [a] pos) tA:=by
 intro wh pins s σ H Q I h;refine isTrue_and (bZ (ha pins s σ H Q I h) fun c s1 e=>?_);cases c with
 | true=>exact isTrue_and_nil e
 | false=>exact e
theorem pw_or1 (ha:PT X a tA):PW X (.BoolOp .Or [a] pos) tA:=by
 intro wh pins s σ H Q I h;refine isTrue_or (bZ (ha pins s σ H Q I h) fun c s1 e=>?_);cases c with
 | false=>exact isTrue_or_nil e
 | true=>exact e
theorem pw_and (ha:PT X a tA)(hb:PW X (.BoolOp .And (b::rest) pos) Z7):PW X (.BoolOp .And (a::b::rest) pos) (aaY tA Z7):=by
 intro wh pins s σ H Q I h;refine isTrue_and (bZ (ha pins s σ H _ I h) fun c s1 ⟨H1,I1,q1⟩=>?_);cases c with
 | true=>exact hb wh pins s1 σ H1 Q I1 q1
 | false=>exact⟨H1,I1,q1⟩
theorem pw_or (ha:PT X a tA)(hb:PW X (.BoolOp .Or (b::rest) pos) Z7):PW X (.BoolOp .Or (a::b::rest) pos) (tOr tA Z7):=by
 intro wh pins s σ H Q I h;refine isTrue_or (bZ (ha pins s σ H _ I h) fun c s1 ⟨H1,I1,q1⟩=>?_);cases c with
 | true=>exact⟨H1,I1,q1⟩
 | false=>exact hb wh pins s1 σ H1 Q I1 q1
theorem Tq (ha:PT X a tA):PT X (.UnaryOp .Not a pos) (aaZ tA):=by
 intro pins s σ H Q I h;exact isTrue_not (ha pins s σ H (fun c H1=>Q (!c) H1) I h)
def Xj (ta tb:TE):TE:=fun σ H Q=>ta σ H fun x H1=>∃ c,x=.bl c/\if c=true then tb σ H1 Q else Q (.bl false) H1
theorem Ts {op}{t:TE}(h:PE X a t):PE X (.BoolOp op [a] pos) t:=fun pins s σ H Q I hw=>BoolOp_one (h pins s σ H Q I hw)
theorem KN (ha:PE X a ta)(hb:PE X (.BoolOp .And (b::rest) pos) tb):PE X (.BoolOp .And (a::b::rest) pos) (Xj ta tb):=by
 intro pins s σ H Q I h;refine BoolOp_and (bZ (ha pins s σ H _ I h) fun v s1 zq=>?_);obtain⟨x,H1,I1,r1,q1⟩:=zq;obtain⟨c,rfl,q1⟩:=q1;cases r1;refine wpAny_truthy_bool ?_;cases c with
 | true=>exact hb pins s1 σ H1 Q I1 q1
 | false=>exact⟨.bl false,H1,I1,rfl,q1⟩
def tIf (t:TT)(ta tb:TE):TE:=fun σ H Q=>t σ H fun c H1=>if c=true then ta σ H1 Q else tb σ H1 Q
theorem Cz {c:Expr}(hc:PT X c tA)(ha:PE X a ta)(hb:PE X b tb):PE X (.IfExp c a b pos) (tIf tA ta tb):=by
 intro pins s σ H Q I h;refine wpAny_IfExp (bZ (hc pins s σ H _ I h) fun d s1 ⟨H1,I1,q1⟩=>?_);cases d with
 | true=>exact ha pins s1 σ H1 Q I1 q1
 | false=>exact hb pins s1 σ H1 Q I1 q1
end
def pL (K:PySem.W.Frag)(H:Hp)(a:Addr)(xs:List V):Prop:=
 Rd H a (.lst xs) \/
   ∃ (o:Obj) (aJ:Array Value) (n:Nat),K.lookup a=some o/\o.cls=.type "list"/\o.dict=none/\o.data=.seq aJ n/\aJ.size<=sizeLine/\Vals xs aJ.toList
abbrev EL (K:PySem.W.Frag)(H:Hp)(a:Addr)(xs:List V):Prop:=TupAt K H a xs
noncomputable def aa0:Value->Option V
 | .none=>some .cz
 | .bool b=>some (.bl b)
 | .int i _=>some (.int i)
 | .str x _=>some (.str x)
 | .bytes b _=>some (.Kz b)
 | .float b _=>some (.RD b)
 | .ref a=>some (.ref a)
 | .type n=>some (.ty n)
 | _=>none
theorem RelV.abs {x:V}{u:Value}(r:RelV x u):aa0 u=some x:=by
 cases x with
 | cz=>cases r;rfl
 | bl _=>cases r;rfl
 | int _=>obtain⟨t,rfl⟩:=r;rfl
 | str _=>obtain⟨t,rfl⟩:=r;rfl
 | Kz _=>obtain⟨t,rfl⟩:=r;rfl
 | RD _=>obtain⟨t,rfl⟩:=r;rfl
 | ref _=>cases r;rfl
 | ty _=>cases r;rfl
theorem RelV.inj {x y:V}{u:Value}(r:RelV x u)(q:RelV y u):x=y:=Option.some.inj (r.abs.symm.trans q.abs)
theorem Vals.inj:∀ {xs ys:List V} {us:List Value},Vals xs us->Vals ys us->xs=ys
 | _,_,_,.nil,.nil=>rfl
 | _,_,_,.cons r t,.cons r' t'=>by rw[r.inj r',Vals.inj t t']
section
variable {X:Cx}{pins:List (Addr×Obj)}{σ:St}{H:Hp}{s:Shared}{a:Addr}{xs ys:List V}
theorem pL.of {K:W.Frag}(h:H a=some (.lst xs)):pL K H a xs:=.inl (.inl h)
theorem EL.of {K:W.Frag}(h:H a=some (.tup xs)):EL K H a xs:=.inl h
theorem Inv.list (I:Inv X pins σ H s)(h:pL X.K H a xs):∃ aJ:List Value,Vals xs aJ/\PlainL s.heap a aJ.toArray/\xs.length<=sizeLine:=by
 rcases h with h | ⟨o,aJ,n,hk,hc,hd,hs,hz,r⟩
 . obtain⟨z,aJ,n,r,e⟩:=h.ok I.aR
   exact⟨aJ,r,⟨_,n,e,rfl,rfl,rfl⟩,z⟩
 . refine⟨aJ.toList,r,⟨o,n,I.ke a o hk,hc,hd,by simpa using hs⟩,?_⟩
   have e:=r.length;simp only[ab4] at e;omega
theorem Inv.tuple (I:Inv X pins σ H s)(h:EL X.K H a xs):∃ aJ:List Value,Vals xs aJ/\IsTup s.heap a aJ.toArray/\xs.length<=sizeLine:=by
 rcases h with h | ⟨o,aJ,n,hk,hc,hs,hz,r⟩
 . obtain⟨z,aJ,r,p⟩:=(show aM X.prog X.w H s.heap a (.tup xs) from I.aR a _ h)
   exact⟨aJ,r,p,z⟩
 . refine⟨aJ.toList,r,⟨o,I.ke a o hk,hc,n,by simpa using hs⟩,?_⟩
   have e:=r.length;simp only[ab4] at e;omega
theorem Inv.CA (I:Inv X pins σ H s)(h:pL X.K H a xs)(h':pL X.K H a ys):xs=ys:=by
 obtain⟨aJ,r,⟨o,n,e,_,_,d⟩,_⟩:=I.list h;obtain⟨its',r',⟨o',n',e',_,_,d'⟩,_⟩:=I.list h';rw[e] at e';cases e';rw[d] at d';injection d' with d1 _
 have:aJ=its':=by simpa using congrArg Array.toList d1
 subst this;exact r.inj r'
end
section
variable {X:Cx}{st:Stmt}{rest:List Stmt}{t u:TS}{e:Expr}{te:TE}{pos:Pos}
def Xk:TS:=fun D σ H=>D.nx σ H
def aa1 (t u:TS):TS:=fun D σ H=>t { D with nx:=u D} σ H
theorem O3:Cy X [] Xk:=fun _ _ σ H _ I h=>wpAny_execs_nil ⟨σ,H,I,h⟩
theorem nK (h1:PS X st t)(h2:Cy X rest u):Cy X (st::rest) (aa1 t u):=by
 intro pins s σ H D I h;refine wpAny_execs_cons (bZ (h1 pins s σ H { D with nx:=u D} I h) fun f s1 q=>?_);cases f with
 | next=>
   obtain⟨σ',H',I',q⟩:=q;exact h2 pins s1 σ' H' D I' q
 | ret v=>exact q
 | brk=>exact q
 | cont=>exact q
theorem mU (h1:PS X st t):Cy X [st] t:=by
 intro pins s σ H D I h;refine wpAny_execs_cons (bZ (h1 pins s σ H D I h) fun f s1 q=>?_);cases f with
 | next=>exact wpAny_execs_nil q
 | ret v=>exact q
 | brk=>exact q
 | cont=>exact q
theorem Inv.quiet {pins:List (Addr×Obj)}{σ:St}{H:Hp}{s:Shared}(I:Inv X pins σ H s):interactive X.env=false:=by simp[interactive,I.ok.kind]
def Xl (te:TE):TS:=fun D σ H=>te σ H fun _ H1=>D.nx σ H1
theorem kf (he:PE X e te)(hs:autoParam (swapsWith e none pos.line X.env=pure false) jp):PS X (.Expr e pos) (Xl te):=by
 intro pins s σ H D I h;exact wpAny_Expr_any (bZ (he pins s σ H _ I h) fun v s1 ⟨x,H1,I1,r1,q1⟩=>⟨σ,H1,I1,q1⟩) I.quiet hs
def aa2 (te:TE):TS:=fun D σ H=>te σ H D.rt
theorem EV (he:PE X e te):PS X (.Return (some e) pos) (aa2 te):=by
 intro pins s σ H D I h;exact wpAny_Return_some (bZ (he pins s σ H _ I h) fun v s1 ⟨x,H1,I1,r1,q1⟩=>⟨x,σ,H1,I1,r1,q1⟩)
def aa3 (c:TT)(t u:TS):TS:=fun D σ H=>c σ H fun b H1=>if b=true then t D σ H1 else u D σ H1
theorem RJ {c:Expr}{a b:List Stmt}{tc:TT}(hc:PT X c tc)(ha:Cy X a t)(hb:Cy X b u):PS X (.If c a b pos) (aa3 tc t u):=by
 intro pins s σ H D I h;refine wpAny_If (bZ (hc pins s σ H _ I h) fun d s1 ⟨H1,I1,q1⟩=>?_);cases d with
 | true=>exact ha pins s1 σ H1 D I1 q1
 | false=>exact hb pins s1 σ H1 D I1 q1
def Tt:TS:=fun _ _ _=>False
theorem ue {sts:List Stmt}:Cy X sts Tt:=fun _ _ _ _ _ _ h=>h.elim
end
abbrev TG:=V->St->Hp->(St->Hp->Prop)->Prop
abbrev Tu:=List V->St->Hp->(St->Hp->Prop)->Prop
def PG (X:Cx)(target:Expr)(t:TG):Prop:=
 ∀ (pins:List (Addr×Obj)) (s:Shared) (σ:St) (H:Hp) (v:V) (u:Value) (Q:St->Hp->Prop),Inv X pins σ H s->RelV v u->t v σ H Q ->
   wpAny (model X.prog X.w) X.A (assign target X.env u) (fun _ s'=>∃ σ' H',Inv X pins σ' H' s'/\Q σ' H') X.xe s
def Z8 (X:Cx)(ts:List Expr)(t:Tu):Prop:=
 ∀ (pins:List (Addr×Obj)) (s:Shared) (σ:St) (H:Hp) (vs:List V) (us:List Value) (Q:St->Hp->Prop),Inv X pins σ H s->Vals vs us->t vs σ H Q ->
   wpAny (model X.prog X.w) X.A (assignInOrder ((assignEach ts X.env).map (·.2)) us) (fun _ s'=>∃ σ' H',Inv X pins σ' H' s'/\Q σ' H') X.xe s
abbrev Tv:=V->V->V->Hp->(Hp->Prop)->Prop
def Xm (X:Cx)(t:Tv):Prop:=
 ∀ (pins:List (Addr×Obj)) (s:Shared) (σ:St) (H:Hp) (o i v:V) (ov iv u:Value) (Q:Hp->Prop),Inv X pins σ H s->RelV o ov->RelV i iv->RelV v u->t o i v H Q ->
   wpAny (model X.prog X.w) X.A (setItem ov iv u) (fun _ s'=>∃ H',Inv X pins σ H' s'/\Q H') X.xe s
section
variable {X:Cx}{pos:Pos}
def rm (i:Nat):TG:=fun v σ H Q=>Q (σ.set i (some v)) H
theorem dM {i:Nat}{x:Str}(hN:X.N.Nodup)(hi:X.N[i]?=some x)(hx:Loc X.env.scope x)(hf:autoParam (X.fn x=true\/X.env.scope.names.lookup x=some .local) v6):PG X (.Name x pos) (rm i):=by
 intro pins s σ H v u Q I r h;exact wpAny_assign_Name (sH I hN hi hx r (fun s' I'=>⟨_,H,I',h⟩) hf)
def Tw:Tu:=fun vs σ H Q=>vs=[]/\Q σ H
def CB (t:TG)(u:Tu):Tu:=fun vs σ H Q=>∃ v r,vs=v::r/\t v σ H fun σ' H'=>u r σ' H' Q
theorem wq:Z8 X [] Tw:=by
 intro pins s σ H vs us Q I r h;obtain⟨e,h⟩:=h;subst e;cases r;exact assignInOrder_nil ⟨σ,H,I,h⟩
theorem il {e:Expr}{es:List Expr}{t:TG}{u:Tu}(h1:PG X e t)(h2:Z8 X es u)(hs:autoParam ((assignEach (e::es) X.env).map (·.2)=assign e X.env::(assignEach es X.env).map (·.2)) jp):Z8 X (e::es) (CB t u):=by
 intro pins s σ H vs us Q I r h;obtain⟨v,vr,e1,h⟩:=h;subst e1;cases r with
 | cons r rr=>
   rw[hs];refine assignInOrder_cons (bZ (h1 pins s σ H _ _ _ I r h) fun _ s1 zq=>?_);obtain⟨σ1,H1,I1,q1⟩:=zq;exact h2 pins s1 σ1 H1 _ _ Q I1 rr q1
def Tx (K:W.Frag)(n:Nat)(t:Tu):TG:=fun v σ H Q=>∃ a xs,v=.ref a/\EL K H a xs/\xs.length=n/\t xs σ H Q
theorem AM {es:List Expr}{k:Nat}{t:Tu}{n:Nat}(hc:X.calm=true)(h:Z8 X es t)(hn:autoParam ((assignEach es X.env).length=n) jp)(jQ:autoParam ((assignEach es X.env).findIdx? (·.1)=none) jp):PG X (.Tuple es k pos) (Tx X.K n t):=by
 intro pins s σ H v u Q I r hw;obtain⟨a,xs,e1,hq,hl,hw⟩:=hw;subst e1;cases r;obtain⟨aJ,rv,ht,hz⟩:=I.tuple hq;refine assign_Tuple_tuple (I.ok.hd hc) ht (by simp[hn,<- hl,rv.length]) jQ fun h' hx=>?_
 have I1:Inv X pins σ H { s with heap:=h'}:=I.kept (t':=s.toks) fun b o e=>hx b o (aap (aak e)) e
 exact h pins _ σ H xs _ Q I1 (by simpa using rv) hw
def aa4 (to ti:TE)(t:Tv):TG:=fun v σ H Q=>to σ H fun o H1=>ti σ H1 fun i H2=>t o i v H2 fun H3=>Q σ H3
theorem Tz {o i:Expr}{to ti:TE}{t:Tv}(ho:PE X o to)(hi:PE X i ti)(hs:Xm X t)
   (ha:autoParam (∀ v,assign (.Subscript o i pos) X.env v=(do
     let ov <- holding [v] (eval o X.env);let iv <- holding [v,ov] (eval i X.env)
     standAt pos
     holding [v,ov,iv] (setItem ov iv v)
     release [v,ov,iv] [])) xL):PG X (.Subscript o i pos) (aa4 to ti t):=by
 intro pins s σ H v u Q I r h;rw[ha];refine wpAny_bind (wpAny_holding (bZ (ho pins s σ H _ I h) fun ov s1 zq=>?_));obtain⟨x,H1,I1,r1,q1⟩:=zq;refine wpAny_bind (wpAny_holding (bZ (hi pins s1 σ H1 _ I1 q1) fun iv s2 zq=>?_));obtain⟨y,H2,I2,r2,q2⟩:=zq;refine wpAny_bind (wpAny_standAt (wpAny_bind (wpAny_holding (bZ (hs pins s2 σ H2 x y v ov iv u _ I2 r1 r2 r q2) fun _ s3 ⟨H3,I3,q3⟩=>?_))));exact wpAny_release ⟨σ,H3,I3,q3⟩
def Xn (te:TE)(g:TG):TS:=fun D σ H=>te σ H fun x H1=>g x σ H1 D.nx
theorem KO {tg e:Expr}{te:TE}{g:TG}(he:PE X e te)(hg:PG X tg g)(hs:autoParam (swapsWithSole [tg] e pos.line X.env=pure false) jp)(hw:autoParam (swappedStores [tg] e X.env=pure none) jp)(h1:autoParam ((assignEach [tg] X.env).map (·.2)=[assign tg X.env]) jp):PS X (.Assign [tg] e pos) (Xn te g):=by
 intro pins s σ H D I h;refine wpAny_Assign_stores (bZ (he pins s σ H _ I h) fun v s1 zq=>?_) hs hw;obtain⟨x,H1,I1,r1,q1⟩:=zq;rw[h1];exact bZ (hg pins s1 σ H1 x v _ I1 r1 q1) fun _ s2 q=>q
theorem AN {i:Nat}{x:Str}{e:Expr}{te:TE}{pos':Pos}(hN:X.N.Nodup)(hi:X.N[i]?=some x)(hx:Loc X.env.scope x)(he:PE X e te)(hs:autoParam (swapsWith e (some (.Name x pos')) pos.line X.env=pure false) jp)(hf:autoParam (X.fn x=true\/X.env.scope.names.lookup x=some .local) v6):PS X (.Assign [.Name x pos'] e pos) (Xn te (rm i)):=by
 intro pins s σ H D I h;refine wpAny_Assign_Name (bZ (he pins s σ H _ I h) fun v s1 zq=>?_) hs;obtain⟨y,H1,I1,r1,q1⟩:=zq;exact sH I1 hN hi hx r1 (fun s2 I2=>⟨_,H1,I2,q1⟩) hf
end
section
variable {X:Cx}{pos:Pos}
def TB (c:TT)(tb:TS):TS:=fun D σ H=>∃ W:Nat->St->Hp->Prop,(∃ m,W m σ H)/\∀ m σ H,W m σ H ->
 c σ H fun b H1=>if b=true then ∃ N:St->Hp->Prop,(∀ σ' H',N σ' H'->∃ m',m' < m/\W m' σ' H')/\tb { D with nx:=N,ct:=N,bk:=D.nx} σ H1 else D.nx σ H1
theorem CC {c:Expr}{body:List Stmt}{tc:TT}{tb:TS}(hp:PassesOwn (model X.prog X.w) X.A X.env X.xe)(hc:PT X c tc)(hb:Cy X body tb):PS X (.While c body [] pos) (TB tc tb):=by
 intro pins s σ H D I h;obtain⟨W,⟨m0,w0⟩,turn⟩:=h;refine wpAny_While (codeAny_whileLoop (fun n s'=>∃ σ' H',Inv X pins σ' H' s'/\W n σ' H') ?_ m0 ⟨σ,H,I,w0⟩)
 rintro n s1 ⟨σ1,H1,I1,w1⟩
 refine wpAny_passesOwn hp (bZ (hc pins s1 σ1 H1 _ I1 (turn n σ1 H1 w1)) fun b s2 ⟨H2,I2,q2⟩=>?_);cases b with
 | true=>
   obtain⟨N,hN,q2⟩:=q2;rw[if_pos rfl];refine wpAny_passesOwn hp (bZ (hb pins s2 σ1 H2 _ I2 q2) fun f s3 q3=>?_);cases f with
   | next=>
     obtain⟨σ3,H3,I3,n3⟩:=q3;obtain⟨m',hm,w3⟩:=hN σ3 H3 n3;exact⟨m',hm,σ3,H3,I3,w3⟩
   | cont=>
     obtain⟨σ3,H3,I3,n3⟩:=q3;obtain⟨m',hm,w3⟩:=hN σ3 H3 n3;exact⟨m',hm,σ3,H3,I3,w3⟩
   | brk=>exact q3
   | ret v=>exact q3
 | false=>
   rw[if_neg aav];exact wpAny_execs_nil ⟨σ1,H2,I2,q2⟩
end
structure It where
 go:Nat->Hp->Prop
 OH:Nat->Hp->V->Hp->Prop
 stop:Nat->Hp->Prop
def mi (X:Cx)(pins:List (Addr×Obj))(H:Hp)(b:Addr):Prop:=
 H b=none/\b≠X.env.locals/\b ∉ X.fs/\(b∈X.ex\/X.s₀.heap.objs.size<=b)/\(∀ x c,X.env.cells.lookup x=some c->c≠b)/\∀ p∈X.pn ++ pins,p.1≠b
theorem Inv.zl {X:Cx}{pins:List (Addr×Obj)}{σ:St}{H H':Hp}{s:Shared}{b:Addr}(I:Inv X pins σ H s)(hb:s.heap.objs.size<=b)(hn:H' b=none):mi X pins H' b:=by
 refine⟨hn,acu (aam I.lt hb),I.aaS hb,.inr (aax I.sz hb),fun x c e z=>?_,fun p hp z=>?_⟩
 . obtain⟨v,q⟩:=I.cell x c e
   exact absurd (aam q.lt (by rw[z];exact hb)) (abF _)
 . exact absurd (aam (aak (I.pin p hp).1) (by rw[z];exact hb)) (abF _)
structure Turn (P:Program)(w:World)(K:W.Frag)(tg:Expr)(J:It)(fp:List Addr)(it:Addr)(tn:Nat->Heap->Prop):Prop where
 mem:it∈fp
 obj:∀ i h,tn i h->∀ b∈fp,∃ o,h.get? b=some o/\∀ v,o.data≠.cell v
 keep:∀ i h h',tn i h->(∀ b∈fp,∀ o,h.get? b=some o->h'.get? b=some o)->tn i h'
 item:∀ (X:Cx),X.prog=P->X.w=w->X.K=K->X.calm=true->∀ (i:Nat) (pins:List (Addr×Obj)) (s:Shared) (σ:St) (H:Hp) (E:Value->Shared->Prop),Inv X pins σ H s->(∀ b∈fp,mi X pins H b)->tn i s.heap->J.go i H ->
   wpAny (model P w) X.A (pyNext (.ref it)) (fun r s1=>∃ u,r=some u /\
     wpAny (model P w) X.A (letOwnedTupleGo tg (.ref it) u) (fun _ s2=>∃ x H',Inv X pins σ H' s2/\RelV x u/\J.OH i H x H'/\tn (i+1) s2.heap/\∀ b∈fp,H' b=none) E s1) E s
 done:∀ (X:Cx),X.prog=P->X.w=w->X.K=K->X.calm=true->∀ (i:Nat) (pins:List (Addr×Obj)) (s:Shared) (σ:St) (H:Hp) (E:Value->Shared->Prop),Inv X pins σ H s->(∀ b∈fp,mi X pins H b)->tn i s.heap->J.stop i H ->
   wpAny (model P w) X.A (pyNext (.ref it)) (fun r s1=>r=none/\Inv X pins σ H s1) E s
 self:∀ (A:Around) (i:Nat) (s:Shared) (Q:Value->Shared->Prop) (E:Value->Shared->Prop),tn i s.heap->Q (.ref it) s->wpAny (model P w) A (pyIter (.ref it)) Q E s
abbrev TI:=St->Hp->(It->Hp->Prop)->Prop
def PIE (X:Cx)(pins:List (Addr×Obj))(σ:St)(tg:Expr)(R:It->Hp->Prop)(TC:Value)(s2:Shared):Prop:=
 ∃ (it:Addr) (fp:List Addr) (tn:Nat->Heap->Prop) (J:It) (H':Hp),TC=.ref it/\Inv X pins σ H' s2/\Turn X.prog X.w X.K tg J fp it tn/\tn 0 s2.heap/\(∀ b∈fp,mi X pins H' b)/\R J H'
def PI (X:Cx)(tg iter:Expr)(wi:TI):Prop:=
 ∀ (pins:List (Addr×Obj)) (s:Shared) (σ:St) (H:Hp) (R:It->Hp->Prop),Inv X pins σ H s->wi σ H R ->
   wpAny (model X.prog X.w) X.A (eval iter X.env) (fun v s1=>wpAny (model X.prog X.w) X.A (pyIter v) (PIE X pins σ tg R) X.xe s1) X.xe s
theorem GY {M:Model}{A:Around}{E:Value->Shared->Prop}{s:Shared}{tg:Expr}{it:Addr}{u:Value}{o:Obj}{n:String}{vs:Array Value}{Q:Unit->Shared->Prop}(ho:s.heap.get? it=some o)(hc:o.cls=.type n)(hd:o.data=.fields vs)(hn:["enumerate","zip","dict_itemiterator","dict_reverseitemiterator","odict_iterator","itertools.zip_longest","itertools.pairwise"].contains n=false)(hQ:Q () s):wpAny M A (letOwnedTupleGo tg (.ref it) u) Q E s:=by
 unfold letOwnedTupleGo;cases tg <;> first
   | exact wpAny_pure hQ
   | (cases u <;> first
       | exact wpAny_pure hQ
       | (refine wpAny_bind (wpAny_load ho ?_)
          rw[hc,hd];show wpAny M A (if (["enumerate","zip","dict_itemiterator","dict_reverseitemiterator","odict_iterator","itertools.zip_longest","itertools.pairwise"].contains n && vs[0]? == some (rawInt _))=true then _ else _) Q E s;rw[if_neg (by intro h;rw[hn,Bool.false_and] at h;cases h)];exact wpAny_pure hQ))
noncomputable def Xo (K:W.Frag)(a:Addr):It:=
 ⟨fun i H=>∃ xs x,pL K H a xs/\xs[i]?=some x,fun i H x H'=>H'=H/\∀ xs,pL K H a xs->xs[i]?=some x,fun i H=>∃ xs,pL K H a xs/\xs.length<=i⟩
noncomputable def TF (lo:Int)(n:Nat):It:=⟨fun i _=>i < n,fun i H x H'=>H'=H/\x=.int (lo+i),fun i _=>n<=i⟩
theorem IB {P:Program}{w:World}{K:W.Frag}{tg:Expr}(a it:Addr):Turn P w K tg (Xo K a) [it] it (fun i h=>h.IsListIter it a i) where
 mem:=by simp
 obj:=fun i h st b hb=>by
   have e:b=it:=by simpa using hb
   subst e;obtain⟨o,e,c,d⟩:=st;exact⟨o,e,fun v z=>by rw[d] at z;cases z⟩
 keep:=fun i h h' st k=>st.at fun o e=>k it (by simp) o e
 item:=by
   intro X hP hw hK hc i pins s σ H E I hf st hg;subst hP hw hK;obtain⟨xs,x,hq,hx⟩:=hg;obtain⟨aJ,rv,p,hz⟩:=I.list hq;obtain⟨u,hu,ru⟩:=rv.get hx;obtain⟨f0,f1,f2,f3,f4,f5⟩:=hf it (by simp);refine wpAny_pyNext_list_item st p.isList (x:=u) (by simpa using hu) fun h' lr sb=>?_
   have I1:Inv X pins σ H { s with heap:=h'}:=I.turned (t':=s.toks) (fun b o hb e=>(sb.2 b hb).trans e) f0 f1 f3 f4 f5;obtain⟨o,e,c,d⟩:=id lr;exact⟨u,rfl,GY (s:={ s with heap:=h'}) e c d (by decide) ⟨x,H,I1,ru,⟨rfl,fun ys hy=>by rw[I.CA hy hq];exact hx⟩,lr,fun b hb=>(hf b hb).1⟩⟩
 done:=by
   intro X hP hw hK hc i pins s σ H E I hf st hg;subst hP hw hK;obtain⟨xs,hq,hx⟩:=hg;obtain⟨aJ,rv,p,hz⟩:=I.list hq;obtain⟨f0,f1,f2,f3,f4,f5⟩:=hf it (by simp);have hl:=rv.length;exact wpAny_pyNext_list_end (I.ok.hd hc) st p.isList (by simp;omega) fun h' eb=>⟨rfl,I.turned (t':=s.toks) (fun b o hb e=>eb b o hb e) f0 f1 f3 f4 f5⟩
 self:=fun _ _ _ _ _ st h=>wpAny_pyIter_listiter st h
theorem EX {P:Program}{w:World}{K:PySem.W.Frag}{tg:Expr}(it:Addr)(lo:Int)(n:Nat):Turn P w K tg (TF lo n) [it] it (fun i h=>IsRangeIter h it (lo+(i:Nat) * 1) ((n:Int) - (i:Nat)) 1) where
 mem:=by simp
 obj:=fun i h st b hb=>by
   have e:b=it:=by simpa using hb
   subst e;exact⟨_,st,fun v z=>by
     have z':Data.fields _=Data.cell v:=z;cases z'⟩
 keep:=fun i h h' st k=>k it (by simp) _ st
 item:=by
   intro X hP hw hK hc i pins s σ H E I hf st hg;subst hP hw hK;obtain⟨f0,f1,f2,f3,f4,f5⟩:=hf it (by simp);have W:=Walks.range (prog:=X.prog) (w:=X.w) (I.ok.hd hc) it lo 1 n;refine W.item i s _ _ hg st fun v h' tk hv lr kk=>?_
   obtain⟨t,rfl⟩:=hv;have I1:Inv X pins σ H { s with heap:=h',toks:=tk}:=I.turned (fun b o hb e=>kk b o (by simpa using hb) e) f0 f1 f3 f4 f5;refine⟨_,rfl,GY (s:={ s with heap:=h',toks:=tk}) (n:="range_iterator") lr rfl rfl (by decide) ⟨.int (lo+i),H,I1,⟨t,?_⟩,⟨rfl,rfl⟩,lr,fun b hb=>(hf b hb).1⟩⟩;rw[Int.mul_one]
 done:=by
   intro X hP hw hK hc i pins s σ H E I hf st hg;subst hP hw hK;obtain⟨f0,f1,f2,f3,f4,f5⟩:=hf it (by simp);exact wpAny_pyNext_range_end (I.ok.hd hc) st (by have:n<=i:=hg;omega) fun h' eb=>⟨rfl,I.turned (t':=s.toks) (fun b o hb e=>eb b o hb e) f0 f1 f3 f4 f5⟩
 self:=fun _ _ _ _ _ st h=>wpAny_pyIter_rangeiter st h
section
variable {X:Cx}{tg:Expr}
def KP (K:W.Frag)(tl:TE):TI:=fun σ H R=>tl σ H fun x H1=>∃ a,x=.ref a/\(∃ xs,pL K H1 a xs)/\R (Xo K a) H1
theorem mV {l:Expr}{tl:TE}(hl:PE X l tl):PI X tg l (KP X.K tl):=by
 intro pins s σ H R I h;refine bZ (hl pins s σ H _ I h) fun v s1 zq=>?_;obtain⟨x,H1,I1,r1,q1⟩:=zq
 obtain⟨a,e,⟨xs,hq⟩,q⟩:=q1;subst e;cases r1;obtain⟨aJ,rv,p,hz⟩:=I1.list hq;refine wpAny_pyIter_list p.isList ?_;refine⟨s1.heap.objs.size,[s1.heap.objs.size],_,_,H1,rfl,I1.kept (t':=s1.toks) fun b o e=>aad _ e,IB a _,⟨_,aaq _ rfl,rfl,rfl⟩,fun b hb=>?_,q⟩;have e:b=s1.heap.objs.size:=by simpa using hb
 subst e;exact I1.zl (aai _) (I1.aR.fresh (aai _))
theorem KQ {pins:List (Addr×Obj)}{σ:St}{H:Hp}{s:Shared}{R:It->Hp->Prop}{E:Value->Shared->Prop}{lo hi:Int}{t u v:Tok}{tk:Nat}(I:Inv X pins σ H s)(h1:-(2 ^ 62)<=lo)(h2:lo < 2 ^ 62)(h3:-(2 ^ 62)<=hi)(h4:hi < 2 ^ 62)(q:R (TF lo (hi - lo).toNat) H):wpAny (model X.prog X.w) X.A (pyIter (.ref s.heap.objs.size)) (PIE X pins σ tg R) E { s with heap:=s.heap.push { cls:=.type "range",data:=.fields #[.int lo t,.int hi u,.int 1 v]},toks:=tk}:=by
 refine wpAny_pyIter_range (IsRange.new ..) (small_one h1 h2 h3 h4) ?_;have I1:Inv X pins σ H { s with heap:=s.heap.push { cls:=.type "range",data:=.fields #[.int lo t,.int hi u,.int 1 v]},toks:=tk}:=I.kept fun b o e=>aad _ e
 refine⟨(s.heap.push { cls:=.type "range",data:=.fields #[.int lo t,.int hi u,.int 1 v]}).objs.size,[(s.heap.push { cls:=.type "range",data:=.fields #[.int lo t,.int hi u,.int 1 v]}).objs.size],_,_,H,rfl,
   I1.kept (t':=tk) fun b o e=>aad _ e,EX _ lo (hi - lo).toNat,?_,fun b hb=>?_,q⟩
 . have e1:lo+((0:Nat):Int) * 1=lo:=by simp
   have e2:(((hi - lo).toNat:Nat):Int) - ((0:Nat):Int)=Builtin.Range.rangeSize lo hi 1:=by rw[rangeSize_one];split <;> omega
   show IsRangeIter _ _ (lo+((0:Nat):Int) * 1) ((((hi - lo).toNat:Nat):Int) - ((0:Nat):Int)) 1;rw[e1,e2];exact aaq _ rfl
 . have e:b=(s.heap.push { cls:=.type "range",data:=.fields #[.int lo t,.int hi u,.int 1 v]}).objs.size:=by simpa using hb
   subst e;exact I1.zl (aai _) (I1.aR.fresh (aai _))
def RK (ta:TA):TI:=fun σ H R=>ta σ H fun vs H1=>∃ j:Int,vs=[.int j]/\-(2 ^ 62)<=j/\j < 2 ^ 62/\R (TF 0 j.toNat) H1
theorem uf {a:Expr}{ta:TA}{p pos:Pos}(hg:Gl X "range")(hm:X.mg "range"=none)(ha:PA X [a] ta)(hs:autoParam (starEach [a] X.env=[(false,eval a X.env)]) jp):PI X tg (.Call (.Name "range" p) [a] [] pos) (RK ta):=by
 intro pins s σ H R I h;refine Call_ (rN I hg hm boot_range (PyProof.Rows.callWith_type1 (bZ (ha pos pins s σ H _ I h) fun us s1 zq=>?_) hs rfl));obtain⟨vs,H1,I1,r1,q1⟩:=zq;obtain⟨j,e,q1,q2,q⟩:=q1;subst e;cases r1 with
 | cons r rr=>
   cases rr;obtain⟨t,rfl⟩:=r;exact call_range_1 (KQ I1 (by omega) (by omega) q1 q2 (by simpa using q))
def aa5 (wi:TI)(g:TG)(tb:TS):TS:=fun D σ H=>wi σ H fun J H1=>∃ W:Nat->Nat->St->Hp->Prop,(∃ m,W 0 m σ H1)/\∀ i m σ H,W i m σ H ->
 (J.stop i H/\D.nx σ H)\/(J.go i H/\∃ N:St->Hp->Prop,(∀ σ' H',N σ' H'->∃ m',m' < m/\W (i+1) m' σ' H')/\∀ x H',J.OH i H x H'->g x σ H' fun σ2 H2=>tb { D with nx:=N,ct:=N,bk:=D.nx} σ2 H2)
noncomputable def ug (fp:List Addr)(h:Heap):List (Addr×Obj):=fp.filterMap fun b=>(h.get? b).map fun o=>(b,o)
theorem gj {fp:List Addr}{h:Heap}{b:Addr}{o:Obj}(hb:b∈fp)(e:h.get? b=some o):(b,o)∈ug fp h:=aco.mpr ⟨b,hb,by rw[e];rfl⟩
theorem IC {fp:List Addr}{h:Heap}{p:Addr×Obj}(hp:p∈ug fp h):p.1∈fp/\h.get? p.1=some p.2:=by
 obtain⟨b,hb,e⟩:=aco.mp hp;cases q:h.get? b with
 | none=>rw[q] at e;cases e
 | some o=>
   rw[q] at e;have e':(b,o)=p:=Option.some.inj e;subst e';exact⟨hb,q⟩
theorem Inv.pinned {pins:List (Addr×Obj)}{σ:St}{H:Hp}{s:Shared}{fp:List Addr}(I:Inv X pins σ H s)(hf:∀ b∈fp,mi X pins H b)(ho:∀ b∈fp,∃ o,s.heap.get? b=some o/\∀ v,o.data≠.cell v):Inv X (pins ++ ug fp s.heap) σ H s:=
 I.GV fun p hp=>(abN.mp hp).elim (fun z=>I.pin p (aat _ z)) fun z=>by
   obtain⟨hb,e⟩:=IC z;obtain⟨f0,f1,f2,_⟩:=hf p.1 hb;obtain⟨o,e',d⟩:=ho p.1 hb;rw[e] at e';cases e';exact⟨e,f0,f1,f2,d⟩
theorem Inv.kH {pins pl:List (Addr×Obj)}{σ:St}{H:Hp}{s:Shared}(I:Inv X (pins ++ pl) σ H s):Inv X pins σ H s:=I.GV fun p hp=>I.pin p (aat _ (acE _ hp))
theorem AO {iter:Expr}{body:List Stmt}{wi:TI}{g:TG}{tb:TS}{pos:Pos}(hp:PassesOwn (model X.prog X.w) X.A X.env X.xe)(hc:X.calm=true)(hi:PI X tg iter wi)(hg:PG X tg g)(hb:Cy X body tb)(hs:autoParam (∀ x,foldedSetIterable iter X.env x=pure x) xL):PS X (.For tg iter body [] pos) (aa5 wi g tb):=by
 intro pins s σ H D I h;refine wpAny_For (bZ (hi pins s σ H _ I h) fun v s1 h1=>bZ h1 fun TC s2 h2=>?_) hs;obtain⟨it,fp,tn,J,H2,e,I2,T,EY,f2,W,⟨m0,w0⟩,turn⟩:=h2;subst e;have rO:∀ {H':Hp},(∀ b∈fp,H' b=none)->∀ b∈fp,mi X pins H' b:=fun hn b hb=>⟨hn b hb,(f2 b hb).2⟩
 refine codeAny_forLoop_any (fun n s'=>∃ i σ' H',Inv X pins σ' H' s'/\tn i s'.heap/\(∀ b∈fp,H' b=none)/\W i n σ' H') ?_ m0 ⟨0,σ,H2,I2,EY,fun b hb=>(f2 b hb).1,w0⟩
 rintro n s3 ⟨i,σ3,H3,I3,Z9,fr3,w3⟩
 rcases turn i n σ3 H3 w3 with⟨stop,qn⟩ | ⟨go,N,hN,step⟩
 . refine wpAny_passesOwn hp (bZ (T.done X rfl rfl rfl hc i pins s3 σ3 H3 X.xe I3 (rO fr3) Z9 stop) fun r s4 ⟨hr,I4⟩=>?_)
   subst hr;exact wpAny_execs_nil ⟨σ3,H3,I4,qn⟩
 . refine wpAny_passesOwn hp (bZ (T.item X rfl rfl rfl hc i pins s3 σ3 H3 X.xe I3 (rO fr3) Z9 go) fun r s4 ⟨u,hr,h4⟩=>?_)
   subst hr;refine wpAny_passesOwn hp (bZ h4 fun _ s5 zq=>?_);obtain⟨x,H5,I5,r5,y5,Km,OI⟩:=zq;have I5':=I5.pinned (rO OI) (T.obj _ _ Km);refine wpAny_passesOwn hp (bZ (hg _ s5 σ3 H5 x u _ I5' r5 (step x H5 y5)) fun _ s6 zq=>?_);obtain⟨σ6,H6,I6,q6⟩:=zq;refine wpAny_passesOwn hp (bZ (hb _ s6 σ6 H6 _ I6 q6) fun f s7 q7=>?_);have again:∀ {σ7:St} {H7:Hp},Inv X (pins ++ ug fp s5.heap) σ7 H7 s7->N σ7 H7->∃ m,m < n/\∃ i σ' H',Inv X pins σ' H' s7/\tn i s7.heap/\(∀ b∈fp,H' b=none)/\W i m σ' H':=fun {σ7 H7} I7 n7=>by
     obtain⟨m',hm,w7⟩:=hN σ7 H7 n7;refine⟨m',hm,i+1,σ7,H7,I7.kH,T.keep _ _ _ Km fun b hb o e=>(I7.pin (b,o) (aat _ (aat _ (gj hb e)))).1,fun b hb=>?_,w7⟩;obtain⟨o,e,d⟩:=T.obj _ _ Km b hb;exact(I7.pin (b,o) (aat _ (aat _ (gj hb e)))).2.1
   cases f with
   | next=>obtain⟨σ7,H7,I7,n7⟩:=q7;exact again I7 n7
   | cont=>obtain⟨σ7,H7,I7,n7⟩:=q7;exact again I7 n7
   | brk=>obtain⟨σ7,H7,I7,q7⟩:=q7;exact⟨σ7,H7,I7.kH,q7⟩
   | ret v=>obtain⟨x7,σ7,H7,I7,r7,q7⟩:=q7;exact⟨x7,σ7,H7,I7.kH,r7,q7⟩
end
theorem CD {K:PySem.W.Frag}{a:Addr}{xs:List V}{g:TG}{tb:TS}{D:Ends}{σ:St}{H:Hp}(Pv:Nat->St->Hp->Prop)(h0:Pv 0 σ H)(hl:∀ i σ H,i<=xs.length->Pv i σ H->pL K H a xs)(hs:∀ i x σ H,xs[i]?=some x->Pv i σ H->g x σ H fun σ2 H2=>tb { D with nx:=Pv (i+1),ct:=Pv (i+1),bk:=D.nx} σ2 H2)(hd:∀ σ H,Pv xs.length σ H->D.nx σ H):∃ W:Nat->Nat->St->Hp->Prop,(∃ m,W 0 m σ H)/\∀ i m σ H,W i m σ H->((Xo K a).stop i H/\D.nx σ H)\/((Xo K a).go i H/\∃ N:St->Hp->Prop,(∀ σ' H',N σ' H'->∃ m',m' < m/\W (i+1) m' σ' H')/\∀ x H',(Xo K a).OH i H x H'->g x σ H' fun σ2 H2=>tb { D with nx:=N,ct:=N,bk:=D.nx} σ2 H2):=by
 refine⟨fun i m σ H=>m=xs.length - i/\i<=xs.length/\Pv i σ H,⟨xs.length,by simp,abh _,h0⟩,?_⟩
 rintro i m σ H ⟨rfl,hi,p⟩
 have q:=hl i σ H hi p;by_cases dS:i < xs.length
 . refine .inr ⟨⟨xs,xs[i],q,by simp[dS]⟩,Pv (i+1),fun σ' H' p'=>⟨xs.length - (i+1),by omega,rfl,dS,p'⟩,fun x H' y=>?_⟩
   obtain⟨e,y⟩:=y;subst e;exact hs i x σ _ (y xs q) p
 . have e:i=xs.length:=by omega
   subst e;exact .inl ⟨⟨xs,q,aai _⟩,hd σ H p⟩
theorem ID {lo:Int}{n:Nat}{g:TG}{tb:TS}{D:Ends}{σ:St}{H:Hp}(Pv:Nat->St->Hp->Prop)(h0:Pv 0 σ H)(hs:∀ i σ H,i < n->Pv i σ H->g (.int (lo+i)) σ H fun σ2 H2=>tb { D with nx:=Pv (i+1),ct:=Pv (i+1),bk:=D.nx} σ2 H2)(hd:∀ σ H,Pv n σ H->D.nx σ H):∃ W:Nat->Nat->St->Hp->Prop,(∃ m,W 0 m σ H)/\∀ i m σ H,W i m σ H->((TF lo n).stop i H/\D.nx σ H)\/((TF lo n).go i H/\∃ N:St->Hp->Prop,(∀ σ' H',N σ' H'->∃ m',m' < m/\W (i+1) m' σ' H')/\∀ x H',(TF lo n).OH i H x H'->g x σ H' fun σ2 H2=>tb { D with nx:=N,ct:=N,bk:=D.nx} σ2 H2):=by
 refine⟨fun i m σ H=>m=n - i/\i<=n/\Pv i σ H,⟨n,by simp,abh _,h0⟩,?_⟩
 rintro i m σ H ⟨rfl,hi,p⟩
 by_cases dS:i < n
 . refine .inr ⟨dS,Pv (i+1),fun σ' H' p'=>⟨n - (i+1),by omega,rfl,dS,p'⟩,fun x H' y=>?_⟩
   obtain⟨e,y⟩:=y;subst e y;exact hs i σ _ dS p
 . have e:i=n:=by omega
   subst e;exact .inl ⟨aai _,hd σ H p⟩
abbrev R2:=V->V->Hp->VK->Prop
def qX (X:Cx)(f:Value->Value->Sem Value)(r:R2):Prop:=
 ∀ (pins:List (Addr×Obj)) (s:Shared) (σ:St) (H:Hp) (x y:V) (v u:Value) (Q:VK),Inv X pins σ H s->RelV x v->RelV y u->r x y H Q ->
   wpAny (model X.prog X.w) X.A (f v u) (EP X pins σ Q) X.xe s
def UnR (X:Cx)(f:Value->Sem Value)(r:V->Hp->VK->Prop):Prop:=
 ∀ (pins:List (Addr×Obj)) (s:Shared) (σ:St) (H:Hp) (x:V) (v:Value) (Q:VK),Inv X pins σ H s->RelV x v->r x H Q ->
   wpAny (model X.prog X.w) X.A (f v) (EP X pins σ Q) X.xe s
def mj (X:Cx)(f:Value)(r:List V->Hp->VK->Prop):Prop:=
 ∀ (pins:List (Addr×Obj)) (s:Shared) (σ:St) (H:Hp) (xs:List V) (us:List Value) (Q:VK),Inv X pins σ H s->Vals xs us->r xs H Q ->
   wpAny (model X.prog X.w) X.A (call f us) (EP X pins σ Q) X.xe s
def Xp (r:R2)(ta tb:TE):TE:=fun σ H Q=>ta σ H fun x H1=>tb σ H1 fun y H2=>r x y H2 Q
def tUn (r:V->Hp->VK->Prop)(ta:TE):TE:=fun σ H Q=>ta σ H fun x H1=>r x H1 Q
def rI (C:Int->Int->Prop)(g:Int->Int->V):R2:=fun x y H Q=>∃ i j,x=.int i/\y=.int j/\C i j/\Q (g i j) H
def O4 (g:Int->Int->V):R2:=fun x y H Q=>∃ i j,x=.int i/\y=.int j/\Q (g i j) H
def rU (g:Int->V):V->Hp->VK->Prop:=fun x H Q=>∃ i,x=.int i/\Q (g i) H
section
variable {X:Cx}{a b:Expr}{ta tb:TE}{pos:Pos}
theorem TH (ha:PE X a ta)(hb:PE X b tb){pins:List (Addr×Obj)}{s:Shared}{σ:St}{H:Hp}{R:V->V->Hp->Prop}(I:Inv X pins σ H s)(h:ta σ H fun x H1=>tb σ H1 fun y H2=>R x y H2){Q:Value->Shared->Prop}{f:Value->Value->Sem Value}(hf:∀ v u s2 x y H2,Inv X pins σ H2 s2->RelV x v->RelV y u->R x y H2->wpAny (model X.prog X.w) X.A (f v u) Q X.xe s2):wpAny (model X.prog X.w) X.A (eval a X.env) (fun v s₁=>wpAny (model X.prog X.w) X.A (eval b X.env) (fun u s₂=>wpAny (model X.prog X.w) X.A (f v u) Q X.xe s₂) X.xe s₁) X.xe s:=by
 refine bZ (ha pins s σ H _ I h) fun v s1 zq=>?_;obtain⟨x,H1,I1,r1,q1⟩:=zq
 refine bZ (hb pins s1 σ H1 _ I1 q1) fun u s2 zq=>?_;obtain⟨y,H2,I2,r2,q2⟩:=zq
 exact hf v u s2 x y H2 I2 r1 r2 q2
theorem RL {op:Operator}{r:R2}(ho:qX X (binaryOp op) r)(ha:PE X a ta)(hb:PE X b tb):PE X (.BinOp a op b pos) (Xp r ta tb):=by
 intro pins s σ H Q I h;exact wpAny_BinOp (TH ha hb I h fun v u s2 x y H2 I2 rx ry q=>ho pins s2 σ H2 x y v u Q I2 rx ry q)
theorem Xq {op:UnaryOp}{r:V->Hp->VK->Prop}(ho:UnR X (unaryOp op) r)(ha:PE X a ta):PE X (.UnaryOp op a pos) (tUn r ta):=by
 intro pins s σ H Q I h;exact UnaryOp_ (bZ (ha pins s σ H _ I h) fun v s1 ⟨x,H1,I1,r1,q1⟩=>ho pins s1 σ H1 x v Q I1 r1 q1)
theorem opI {f:Value->Value->Sem Value}{C:Int->Int->Prop}{g:Int->Int->Int}(rule:∀ (i j:Int) (t u:Tok) (s:Shared) (Q:Value->Shared->Prop) (E:Value->Shared->Prop),C i j->Q (.int (g i j) s.toks) { s with toks:=s.toks+1}->wpAny (model X.prog X.w) X.A (f (.int i t) (.int j u)) Q E s):qX X f (rI C fun i j=>.int (g i j)):=by
 intro pins s σ H x y v u Q I rx ry h;obtain⟨i,j,rfl,rfl,hc,q⟩:=h;obtain⟨t,rfl⟩:=rx;obtain⟨t',rfl⟩:=ry;exact rule i j t t' s _ _ hc ⟨.int (g i j),H,I.tok _,⟨_,rfl⟩,q⟩
theorem Xr {f:Value->Value->Sem Value}{g:Int->Int->Int}(rule:∀ (i j:Int) (t u:Tok) (s:Shared) (Q:Value->Shared->Prop) (E:Value->Shared->Prop),Q (.int (g i j) s.toks) { s with toks:=s.toks+1}->wpAny (model X.prog X.w) X.A (f (.int i t) (.int j u)) Q E s):qX X f (O4 fun i j=>.int (g i j)):=by
 intro pins s σ H x y v u Q I rx ry h;obtain⟨i,j,rfl,rfl,q⟩:=h;obtain⟨t,rfl⟩:=rx;obtain⟨t',rfl⟩:=ry;exact rule i j t t' s _ _ ⟨.int (g i j),H,I.tok _,⟨_,rfl⟩,q⟩
theorem O5 {f:Value->Value->Sem Value}{g:Int->Int->Bool}(rule:∀ (i j:Int) (t u:Tok) (s:Shared) (Q:Value->Shared->Prop) (E:Value->Shared->Prop),Q (.bool (g i j)) s->wpAny (model X.prog X.w) X.A (f (.int i t) (.int j u)) Q E s):qX X f (O4 fun i j=>.bl (g i j)):=by
 intro pins s σ H x y v u Q I rx ry h;obtain⟨i,j,rfl,rfl,q⟩:=h;obtain⟨t,rfl⟩:=rx;obtain⟨t',rfl⟩:=ry;exact rule i j t t' s _ _ ⟨.bl (g i j),H,I,rfl,q⟩
def Xs (i j:Int):Prop:=0<=j/\j<=1000000/\i.natAbs < 2 ^ 64
def zm (i j:Int):Prop:=(-(2 ^ 64) < i/\i < 2 ^ 64)\/(-(2 ^ 64) < j/\j < 2 ^ 64)
theorem zm.ok {i j:Int}(h:zm i j):IntMulOk i j:=by
 rcases h with⟨h1,h2⟩ | ⟨h1,h2⟩
 . exact .of_left (intBits_le_64 h1 h2)
 . exact .of_right (intBits_le_64 h1 h2)
theorem TJ:qX X (binaryOp .Add) (O4 fun i j=>.int (i+j)):=Xr fun _ _ _ _ _ _ _ q=>add_int q
theorem TK:qX X (binaryOp .Sub) (O4 fun i j=>.int (i - j)):=Xr fun _ _ _ _ _ _ _ q=>sub_int q
theorem TL:qX X (binaryOp .Mod) (rI (fun _ j=>0 < j) fun i j=>.int (i % j)):=opI fun i j _ _ _ _ _ hc q=>by
 have h1:(0:Int) < j:=hc;exact mod_int' (by omega) (by rw[Int.fmod_eq_emod_of_nonneg i (by omega)];exact q)
theorem TM:qX X (binaryOp .Pow) (rI Xs fun i j=>.int (i ^ j.toNat)):=opI fun _ _ _ _ _ _ _ hc q=>pow_int_small hc.1 hc.2.1 hc.2.2 q
theorem unI {f:Value->Sem Value}{g:Int->Int}(rule:∀ (i:Int) (t:Tok) (s:Shared) (Q:Value->Shared->Prop) (E:Value->Shared->Prop),Q (.int (g i) s.toks) { s with toks:=s.toks+1}->wpAny (model X.prog X.w) X.A (f (.int i t)) Q E s):UnR X f (rU fun i=>.int (g i)):=by
 intro pins s σ H x v Q I rx h;obtain⟨i,rfl,q⟩:=h;obtain⟨t,rfl⟩:=rx;exact rule i t s _ _ ⟨.int (g i),H,I.tok _,⟨_,rfl⟩,q⟩
theorem TN:UnR X (unaryOp .USub) (rU fun i=>.int (-i)):=unI fun _ _ _ _ _ q=>neg_int q
end
noncomputable def TQ:V->V->Bool
 | .cz,.cz=>true | .cz,.int _=>true | .int _,.cz=>true | .cz,.bl _=>true | .bl _,.cz=>true | .cz,.str _=>true | .str _,.cz=>true
 | .int _,.int _=>true | .bl _,.bl _=>true | .str _,.str _=>true | .Kz _,.Kz _=>true
 | .int _,.str _=>true | .str _,.int _=>true | .bl _,.str _=>true | .str _,.bl _=>true
 | _,_=>false
def rEq:R2:=fun x y H Q=>TQ x y=true/\Q (.bl (decide (x=y))) H
theorem wt {i j:Int}:decide (V.int i=V.int j)=(i == j):=by
 rw[acH];simp
theorem TR {i j:Bool}:decide (V.bl i=V.bl j)=(i == j):=by
 rw[acH];simp
theorem AQ {i j:Str}:decide (V.str i=V.str j)=(i == j):=by
 rw[acH];simp
theorem O6 {i j:Array UInt8}:decide (V.Kz i=V.Kz j)=(i.toList == j.toList):=by
 rw[acH];cases i;cases j;simp
section
variable {X:Cx}{a b c:Expr}{ta tb tc:TE}{pos:Pos}
theorem gW {pins:List (Addr×Obj)}{σ:St}{H:Hp}{s:Shared}{Q:VK}{k k':Bool}(I:Inv X pins σ H s)(q:Q (.bl k) H)(e:k=k'):EP X pins σ Q (.bool k') s:=by
 subst e;exact⟨.bl k,H,I,rfl,q⟩
theorem KR:qX X (compareOp .Eq) rEq:=by
 intro pins s σ H x y v u Q I rx ry h;obtain⟨hs,q⟩:=h;cases x with
 | cz=>
   cases rx;cases y with
   | cz=>cases ry;exact PySem.EqNone.eq_none_none (gW I q (by simp))
   | bl j=>cases ry;exact PySem.EqNone.eq_none_bool (gW I q (by simp))
   | int j=>obtain⟨t',rfl⟩:=ry;exact PySem.EqNone.eq_none_int (gW I q (by simp))
   | str j=>obtain⟨t',rfl⟩:=ry;exact PySem.EqNone.eq_none_str (gW I q (by simp))
   | _=>exact absurd (show false=true from hs) aav
 | bl i=>
   cases rx;cases y with
   | cz=>cases ry;exact PySem.EqNone.eq_bool_none (gW I q (by simp))
   | bl j=>cases ry;exact eq_bool (gW I q TR)
   | str j=>obtain⟨t',rfl⟩:=ry;exact PySem.EqMixed.eq_bool_str (gW I q (by simp))
   | _=>exact absurd (show false=true from hs) aav
 | int i=>
   obtain⟨t,rfl⟩:=rx;cases y with
   | cz=>cases ry;exact PySem.EqNone.eq_int_none (gW I q (by simp))
   | int j=>obtain⟨t',rfl⟩:=ry;exact eq_int (gW I q wt)
   | str j=>obtain⟨t',rfl⟩:=ry;exact PySem.EqMixed.eq_int_str (gW I q (by simp))
   | _=>exact absurd (show false=true from hs) aav
 | str i=>
   obtain⟨t,rfl⟩:=rx;cases y with
   | cz=>cases ry;exact PySem.EqNone.eq_str_none (gW I q (by simp))
   | bl j=>cases ry;exact PySem.EqMixed.eq_str_bool (gW I q (by simp))
   | int j=>obtain⟨t',rfl⟩:=ry;exact PySem.EqMixed.eq_str_int (gW I q (by simp))
   | str j=>obtain⟨t',rfl⟩:=ry;exact eq_str (gW I q AQ)
   | _=>exact absurd (show false=true from hs) aav
 | Kz i=>
   obtain⟨t,rfl⟩:=rx;cases y with
   | Kz j=>obtain⟨t',rfl⟩:=ry;exact W.eq_bytes (gW I q O6)
   | _=>exact absurd (show false=true from hs) aav
 | _=>cases y <;> exact absurd (show false=true from hs) aav
theorem Xt:qX X (compareOp .Lt) (O4 fun i j=>.bl (decide (i < j))):=O5 fun _ _ _ _ _ _ _ q=>lt_int q
theorem KS:qX X (compareOp .LtE) (O4 fun i j=>.bl (decide (i<=j))):=O5 fun _ _ _ _ _ _ _ q=>le_int q
theorem Xu:qX X (compareOp .Gt) (O4 fun i j=>.bl (decide (j < i))):=O5 fun _ _ _ _ _ _ _ q=>gt_int q
theorem Xv:qX X (compareOp .GtE) (O4 fun i j=>.bl (decide (j<=i))):=O5 fun _ _ _ _ _ _ _ q=>ge_int q
theorem nu (b:Expr){op:CmpOp}(h:autoParam (op≠.In) jO)(h2:autoParam (op≠.NotIn) jO):behindInMarks op b=false:=by
 have e1:(op == CmpOp.In)=false:=by cases op <;> first | rfl | exact absurd rfl h
 have e2:(op == CmpOp.NotIn)=false:=by cases op <;> first | rfl | exact absurd rfl h2
 cases b <;> simp[behindInMarks,e1,e2]
theorem O7 {op:CmpOp}{r:R2}(ho:qX X (compareOp op) r)(ha:PE X a ta)(hb:PE X b tb)(hm:behindInMarks op b=false):PE X (.Compare a [op] [b] pos) (Xp r ta tb):=by
 intro pins s σ H Q I h;exact wpAny_Compare1 (TH ha hb I h fun v u s2 x y H2 I2 rx ry q=>ho pins s2 σ H2 x y v u Q I2 rx ry q) hm
def Xw (t:TE):TT:=fun σ H Q=>t σ H fun x H'=>∃ k,x=.bl k/\Q k H'
theorem O8 {op:CmpOp}{r:R2}(ho:qX X (compareOp op) r)(ha:PE X a ta)(hb:PE X b tb)(hm:behindInMarks op b=false):PT X (.Compare a [op] [b] pos) (Xw (Xp r ta tb)):=by
 intro pins s σ H Q I h;refine wpAny_isTrue_Compare1 (bZ (ha pins s σ H _ I h) fun v s1 ⟨x,H1,I1,r1,q1⟩=>bZ (hb pins s1 σ H1 _ I1 q1) fun u s2 ⟨y,H2,I2,r2,q2⟩=>
   bZ (ho pins s2 σ H2 x y v u _ I2 r1 r2 q2) fun c s3 zq=>?_) hm;obtain⟨z,H3,I3,r3,k,e,q3⟩:=zq
 subst e;cases r3;exact wpAny_truthy_bool ⟨H3,I3,q3⟩
def TU (r r':R2)(ta tb tc:TE):TE:=fun σ H Q=>ta σ H fun x H1=>tb σ H1 fun y H2=>r x y H2 fun z H3=>∃ k,z=.bl k /\
 (if k=true then tc σ H3 fun w' H4=>r' y w' H4 Q else Q (.bl false) H3)
theorem KU {op TV:CmpOp}{r r':R2}(ho:qX X (compareOp op) r)(KG:qX X (compareOp TV) r')(ha:PE X a ta)(hb:PE X b tb)(hc:PE X c tc)(hm:autoParam (lastMarks [op,TV] [b,c]=false) wv):PE X (.Compare a [op,TV] [b,c] pos) (TU r r' ta tb tc):=by
 intro pins s σ H Q I h;refine Compare_chain (bZ (ha pins s σ H _ I h) fun v s1 ⟨x,H1,I1,r1,q1⟩=>chain_link (bZ (hb pins s1 σ H1 _ I1 q1) fun u s2 ⟨y,H2,I2,r2,q2⟩=>
   bZ (ho pins s2 σ H2 x y v u _ I2 r1 r2 q2) fun d s3 zq=>?_)) hm;obtain⟨z,H3,I3,r3,k,e,q3⟩:=zq
 subst e;cases r3;refine wpAny_truthy_bool ?_;cases k with
 | false=>exact ite_ff ⟨.bl false,H3,I3,rfl,q3⟩
 | true=>exact ite_tt (chain_last (bZ (hc pins s3 σ H3 _ I3 q3) fun w' s4 ⟨z',H4,I4,r4,q4⟩=>KG pins s4 σ H4 y z' u w' Q I4 r2 r4 q4))
theorem nv:(sizeLine:Nat) < 2 ^ 63:=by rw[sizeLine_eq];decide
theorem EZ:qX X (binaryOp .Add) (fun x y H Q=>∃ i j,x=.str i/\y=.str j/\i.length+j.length<=sizeLine/\Q (.str (i ++ j)) H):=by
 intro pins s σ H x y v u Q I rx ry h;obtain⟨i,j,rfl,rfl,hz,q⟩:=h;obtain⟨t,rfl⟩:=rx;obtain⟨t',rfl⟩:=ry;exact add_str (fun t' tk=>⟨.str (i ++ j),H,I.tok _,⟨_,rfl⟩,q⟩) hz
theorem vals1 {x:V}{us:List Value}(r:Vals [x] us):∃ u,us=[u]/\RelV x u:=by
 cases r with
 | cons r1 r2=>cases r2;exact⟨_,rfl,r1⟩
theorem vals2 {x y:V}{us:List Value}(r:Vals [x,y] us):∃ u w',us=[u,w']/\RelV x u/\RelV y w':=by
 cases r with
 | cons r1 r2=>
   cases r2 with
   | cons r3 r4=>cases r4;exact⟨_,_,rfl,r1,r3⟩
theorem IE (hc:X.calm=true):mj X (.builtin "max") (fun xs H Q=>∃ i j,xs=[.int i,.int j]/\Q (.int (if j > i then j else i)) H):=by
 intro pins s σ H xs us Q I r h;obtain⟨i,j,rfl,q⟩:=h;obtain⟨u,w',rfl,⟨t,rfl⟩,⟨t',rfl⟩⟩:=vals2 r;refine max_two_ints (I.ok.hd hc) fun h' tk k=>⟨_,H,I.kept k,?_,q⟩
 by_cases hj:j > i
 . rw[if_pos hj,if_pos hj];exact⟨_,rfl⟩
 . rw[if_neg hj,if_neg hj];exact⟨_,rfl⟩
theorem IF (hc:X.calm=true):mj X (.builtin "min") (fun xs H Q=>∃ i j,xs=[.int i,.int j]/\Q (.int (if j < i then j else i)) H):=by
 intro pins s σ H xs us Q I r h;obtain⟨i,j,rfl,q⟩:=h;obtain⟨u,w',rfl,⟨t,rfl⟩,⟨t',rfl⟩⟩:=vals2 r;refine min_two_ints (I.ok.hd hc) fun h' tk k=>⟨_,H,I.kept k,?_,q⟩
 by_cases hj:j < i
 . rw[if_pos hj,if_pos hj];exact⟨_,rfl⟩
 . rw[if_neg hj,if_neg hj];exact⟨_,rfl⟩
end
structure E1 (h:Heap)(x dx C:Addr)(mA:Str->Option Value):Prop where
 obj:h.get? x=some (W.instObj C dx)
 ns:h.Ns1 dx mA
 ne:dx≠x
theorem IG {h:Heap}{dx:Addr}{mA:Str->Option Value}(n:h.Ns1 dx mA):∃ od,h.get? dx=some od/\∀ name,W.lookIn name od=some (mA name):=by
 obtain⟨o,es,ep,ho,hd,hk,_,hm⟩:=n;refine⟨o,ho,fun name=>?_⟩;have e:=hm name;unfold nsFind findBy at e;rw[<- Array.find?_toList] at e;unfold W.lookIn;rw[hd];dsimp only
 split
 . rename_i y q
   rw[q] at e;exact congrArg some e
 . rename_i q
   rw[q] at e;have a:es.toList.any (·.refKey)=false:=by
     rw[List.any_eq_false];intro y hy;obtain⟨z,t,aa7⟩:=hk y (Array.mem_toList_iff.mp hy);simp[DictEntry.refKey,aa7]
   have a':¬ es.toList.any (·.refKey)=true:=by rw[a];exact aav
   rw[if_neg a'];exact congrArg some e
theorem E1.look {h:Heap}{x dx C:Addr}{mA:Str->Option Value}(I:E1 h x dx C mA):∃ od,W.InstAt h x (W.instObj C dx) C (some od)/\∀ name,W.lookIn name od=some (mA name):=
 let ⟨od,ho,hl⟩:=IG I.ns
 ⟨od,⟨I.obj,rfl,rfl,ho⟩,hl⟩
section
variable {prog:Program}{w:World}{A:Around}{E:Value->Shared->Prop}{s:Shared}{K:W.Frag}{x dx C f:Addr}{mA:Str->Option Value}{name:Str}{v:Value}
theorem get_map {expr:Bool}{Q:Value->Shared->Prop}(X:K.In s.heap)(I:E1 s.heap x dx C mA)(hg:W.plainGet K C name=true)(hh:W.hasDictIn K C=true)(ha:W.findIn K (.ref C) name=some none)(hv:mA name=some v)(hv':W.handedIn v=true)(h:Q v { s with toks:=s.toks+1}):wpAny (model prog w) A (getAttr (.ref x) name expr) Q E s:=by
 obtain⟨od,J,hl⟩:=I.look;exact W.get_value X J (W.plainGet_of hg).1 (W.findObj_own hh ha rfl (by rw[hl,hv])) hv' h
theorem KW {pl:Sem Bool}{Q:Value×List Value->Shared->Prop}(X:K.In s.heap)(I:E1 s.heap x dx C mA)(hg:W.plainGet K C name=true)(hf:W.findIn K (.ref C) name=some (some (.ref f)))(ht:W.isFn K (.ref f)=true)(hv:mA name=none)(h:Q (.ref f,[.ref x]) s):wpAny (model prog w) A (getMethod (.ref x) name pl) Q E s:=by
 obtain⟨od,J,hl⟩:=I.look;exact W.method_fn X J (W.plainGet_of hg).1 (W.plainGet_of hg).2 hf (beq_iff_eq.mp ht) (by show(W.lookIn name od).map (·.isSome)=some false;rw[hl,hv];rfl) h
theorem O9 {ns:List Str}{Q:Unit->Shared->Prop}(X:K.In s.heap)(I:E1 s.heap x dx C mA)
   (hs:W.findIn K (.ref C) "__setattr__"=some (some (.builtin "object.__setattr__"))) (hp:W.plainOver K C=true) (ht:W.takerIn K C name=some none) (hh:W.hasDictIn K C=true)
   (hw:PySem.Within mA ns) (hsz:ns.length<=sizeLine)
   (h:∀ h',E1 h' x dx C (fun y=>if y=name then some v else mA y)->ab5 dx s.heap h'->Q () { s with heap:=h',toks:=s.toks+2}) :
   wpAny (model prog w) A (setAttr (.ref x) name v) Q E s:=by
 obtain⟨od,J,hl⟩:=I.look;refine W.set_plain X J hs (W.osa_open (s:={ s with toks:=s.toks+1}) (r:=none) X J hp ht fun b=>?_);obtain⟨cd,hc,WR⟩:=W.any_some hh;have hx:s.heap.get? x=some ⟨.ref C,some dx,.plain,#[]⟩:=I.obj;refine wpAny_bind (wpAny_pure (wpAny_bind (wpAny_bind (wpAny_loadPart hx (wpAny_bind (W.Looks.here (s:={ s with toks:=s.toks+1}) (W.looks_clsIn X hc) ?_))))));rw[WR];refine wpAny_pure (a:=some dx) (wpAny_bind (wpAny_pure (wpAny_bind ?_)));refine wpAny_nsSet1 (s:={ s with toks:=s.toks+1}) I.ns fun h' WS AR=>?_
 obtain⟨oD,esD,epD,hoD,hdD,KY⟩:=WS.count (PySem.Within.cons name v hw);refine wpAny_bind (wpAny_lookBehind hoD (by rw[hdD];exact pastItsLine_dict (aax KY (by rw[aaL];omega))) ?_);exact wpAny_pure (h _ ⟨(AR.2 _ (Ne.symm I.ne)).trans I.obj,WS,I.ne⟩ AR)
theorem KZ {R:Result->Shared->Prop}{vs:List Value}{kw:List (Str×Value)}(X:K.In s.heap)(hm:W.makesIn K C=true)(hi:W.findIn K (.ref C) "__init__"=some (some (.ref f)))(hf:W.typeIn K (.ref f)=some (.type "function"))(h:codeAny (model prog w) (A.under (.builtin "type.__call__" ⟨.ref C::vs,kw⟩)) (.call (.ref f) ⟨.ref (s.heap.objs.size+1)::vs,kw⟩) (W.InitBack (s.heap.objs.size+1) R) { s with heap:=(s.heap.push W.emptyDict).push (W.instObj C s.heap.objs.size)}):codeAny (model prog w) A (.call (.ref C) ⟨vs,kw⟩) R s:=by
 obtain⟨hh,g,d,t,os⟩:=s;exact W.make_core (W.makes_of X hm) (W.looks_findIn X hi) (fun self=>W.bind_fn X self hf) (.inl rfl) h
theorem IH {R:Result->Shared->Prop}(X:K.In s.heap)(hm:W.makesIn K C=true)(hi:W.findIn K (.ref C) "__init__"=some (some (.builtin "object.__init__")))(hb:∀ self,W.Looks (model prog w) s.heap (bindSpecial (.builtin "object.__init__") self) (.builtin "object.__init__",[self]))(h:codeAny (model prog w) (A.under (.builtin "type.__call__" ⟨[.ref C],[]⟩)) (.call (.builtin "object.__init__") ⟨[.ref (s.heap.objs.size+1)],[]⟩) (W.InitBack (s.heap.objs.size+1) R) { s with heap:=(s.heap.push W.emptyDict).push (W.instObj C s.heap.objs.size)}):codeAny (model prog w) A (.call (.ref C) ⟨[],[]⟩) R s:=by
 obtain⟨hh,g,d,t,os⟩:=s;exact W.make_core (W.makes_of X hm) (W.looks_findIn X hi) hb (.inr ⟨rfl,rfl⟩) h
end
noncomputable def fP (f:Str)(v:V):List (Str×V)->List (Str×V)
 | []=>[(f,v)]
 | (g,x)::r=>if g=f then (g,v)::r else (g,x)::fP f v r
theorem pS (f g:Str)(v:V):∀ fs:List (Str×V),(fP f v fs).lookup g=if g=f then some v else fs.lookup g
 | []=>by
   show acp g [(f,v)]=_;by_cases h:g=f
   . have hb:(g == f)=true:=beq_iff_eq.mpr h
     simp only[acp,hb,if_pos h]
   . have hb:(g == f)=false:=beq_eq_false_iff_ne.mpr h
     simp only[acp,hb,if_neg h]
 | (k,x)::r=>by
   have ih:=pS f g v r;rw[show fP f v ((k,x)::r)=(if k=f then (k,v)::r else (k,x)::fP f v r) from rfl];by_cases hk:k=f
   . rw[if_pos hk]
     by_cases h:g=k
     . have hb:(g == k)=true:=beq_iff_eq.mpr h
       simp only[acp,hb,if_pos (h.trans hk)]
     . have hb:(g == k)=false:=beq_eq_false_iff_ne.mpr h
       simp only[acp,hb,if_neg (fun e:g=f=>h (e.trans hk.symm))]
   . rw[if_neg hk]
     by_cases h:g=k
     . have hb:(g == k)=true:=beq_iff_eq.mpr h
       simp only[acp,hb,if_neg (fun e:g=f=>hk (h.symm.trans e))]
     . have hb:(g == k)=false:=beq_eq_false_iff_ne.mpr h
       simp only[acp,hb];exact ih
theorem uh (f:Str)(v:V):∀ fs:List (Str×V),f∈(fP f v fs).map (·.1)/\∀ g,g∈fs.map (·.1)->g∈(fP f v fs).map (·.1)
 | []=>⟨by simp[fP],fun g h=>by simp at h⟩
 | (k,x)::r=>by
   obtain⟨i1,i2⟩:=uh f v r;rw[show fP f v ((k,x)::r)=(if k=f then (k,v)::r else (k,x)::fP f v r) from rfl];by_cases hk:k=f
   . rw[if_pos hk]
     subst hk;exact⟨by simp,fun g h=>by simpa using h⟩
   . rw[if_neg hk]
     refine⟨?_,fun g h=>?_⟩
     . rw[aas]
       exact aaI _ i1
     . rw[aas] at h ⊢
       rcases aaz.mp h with e | e
       . exact aaz.mpr (.inl e)
       . exact aaI _ (i2 g e)
theorem vh (f:Str)(v:V):∀ fs:List (Str×V),(fP f v fs).length<=fs.length+1
 | []=>by simp[fP]
 | (k,x)::r=>by
   have ih:=vh f v r;rw[show fP f v ((k,x)::r)=(if k=f then (k,v)::r else (k,x)::fP f v r) from rfl];by_cases hk:k=f
   . rw[if_pos hk,aaL,aaL];omega
   . rw[if_neg hk,aaL,aaL];omega
theorem qV.some_of {v:V}{o:Option Value}(r:qV (some v) o):∃ u,o=some u/\RelV v u:=by
 cases o with
 | none=>exact(show False from r).elim
 | some u=>exact⟨u,rfl,r⟩
theorem qV.none_of {o:Option Value}(r:qV none o):o=none:=by
 cases o with
 | none=>rfl
 | some u=>exact(show False from r).elim
theorem Ab {v:V}{u:Value}(r:RelV v u):W.handedIn u=true:=by
 cases v with
 | cz=>cases (show u=Value.none from r);rfl
 | bl b=>cases (show u=Value.bool b from r);rfl
 | int i=>obtain⟨t,e⟩:=(show ∃ t,u=Value.int i t from r);cases e;rfl
 | str x=>obtain⟨t,e⟩:=(show ∃ t,u=Value.str x t from r);cases e;rfl
 | Kz b=>obtain⟨t,e⟩:=(show ∃ t,u=Value.bytes b t from r);cases e;rfl
 | RD b=>obtain⟨t,e⟩:=(show ∃ t,u=Value.float b t from r);cases e;rfl
 | ref a=>cases (show u=Value.ref a from r);rfl
 | ty n=>cases (show u=Value.type n from r);rfl
section
variable {P:Program}{w:World}{H:Hp}{h:Heap}{a C dx:Addr}{fs:List (Str×V)}
theorem wu (aR:pJ P w H h)(e:Rd H a (.ins C dx fs)):∃ mA,E1 h a dx C mA/\(∀ f,qV (fs.lookup f) (mA f))/\PySem.Within mA (fs.map (·.1))/\fs.length<=1000/\H dx=some (.own a):=by
 obtain⟨d,z,ne,ob,mA,n,r,q⟩:=(show aM P w H h a (.ins C dx fs) from e.ok aR)
 exact⟨mA,⟨ob,n,ne⟩,r,q,z,d⟩
end
structure wz (K:W.Frag)(C:Addr):Prop where
 pg:W.plainGet K C Str.empty=true
 hd:W.hasDictIn K C=true
 po:W.plainOver K C=true
 sa:W.findIn K (.ref C) "__setattr__"=some (some (.builtin "object.__setattr__"))
theorem wz.get {K:W.Frag}{C:Addr}(c:wz K C)(f:Str):W.plainGet K C f=true:=c.pg
def bW (K:W.Frag)(C:Addr)(f:Str):Prop:=W.findIn K (.ref C) f=some none
theorem bW.Xx {K:W.Frag}{C:Addr}{f:Str}(n:bW K C f):W.takerIn K C f=some none:=by
 unfold W.takerIn;rw[show W.findIn K (.ref C) f=some none from n];rfl
structure Con (K:W.Frag)(C:Addr)(f:Str)(v:V)(u:Value):Prop where
 at_:W.findIn K (.ref C) f=some (some u)
 rel:RelV v u
 get:W.specialIn K u "__get__"=some none
 cp:W.copiedNames.contains f=false
structure Meth (K:W.Frag)(C:Addr)(m:Str)(f:Addr):Prop where
 at_:W.findIn K (.ref C) m=some (some (.ref f))
 fn:W.isFn K (.ref f)=true
 kp:W.keepIn K (.ref f)=true
section
variable {X:Cx}{pins:List (Addr×Obj)}{σ:St}{H:Hp}{s:Shared}{a C dx:Addr}{fs:List (Str×V)}{f:Str}{v:V}{A:Around}{E:Value->Shared->Prop}
theorem E2 {b:Bool}{Q:Value->Shared->Prop}(I:Inv X pins σ H s)(e:Rd H a (.ins C dx fs))(c:wz X.K C)(n:bW X.K C f)(l:fs.lookup f=some v)(h:∀ u s',Inv X pins σ H s'->RelV v u->Q u s'):wpAny (model X.prog X.w) A (getAttr (.ref a) f b) Q E s:=by
 obtain⟨mA,O,r,_,_,_⟩:=wu I.aR e;obtain⟨u,hu,ru⟩:=qV.some_of (v:=v) (o:=mA f) (by rw[<- l];exact r f);exact get_map I.ke O (c.get f) c.hd n hu (Ab ru) (h u _ (I.tok _) ru)
theorem rP {m:Str}{g:Addr}{pl:Sem Bool}{Q:Value×List Value->Shared->Prop}(I:Inv X pins σ H s)(e:Rd H a (.ins C dx fs))(c:wz X.K C)(k:Meth X.K C m g)(l:fs.lookup m=none)(h:Q (.ref g,[.ref a]) s):wpAny (model X.prog X.w) A (getMethod (.ref a) m pl) Q E s:=by
 obtain⟨mA,O,r,_,_,_⟩:=wu I.aR e;have hn:mA m=none:=qV.none_of (by rw[<- l];exact r m);exact KW I.ke O (c.get m) k.at_ k.fn hn h
theorem E3 {y:V}{u:Value}{Q:Unit->Shared->Prop}(I:Inv X pins σ H s)(e:H a=some (.ins C dx fs))(c:wz X.K C)(n:bW X.K C f)(hl:fs.length < 1000)(ry:RelV y u)(h:∀ s',Inv X pins σ (upd H a (.ins C dx (fP f y fs))) s'->Q () s'):wpAny (model X.prog X.w) A (setAttr (.ref a) f u) Q E s:=by
 obtain⟨mA,O,r,wi,_,ho⟩:=wu I.aR (.of e);have hz:(fs.map (·.1)).length<=sizeLine:=by rw[aaa,sizeLine_eq];omega
 refine O9 I.ke O c.sa c.po n.Xx c.hd wi hz fun h' O' sb=>h _ ?_
 have hd:∃ o,h'.get? dx=some o:=let ⟨o,_,_,e',_⟩:=O'.ns;⟨o,e'⟩;refine I.write (x:=a) (e:=dx) (by rw[e];exact True.intro) (.inr ho) (fun b q hb z=>(sb.2 b hb).trans z) hd ?_;refine⟨by rw[ag O.ne];exact ho,?_,O.ne,O'.obj,_,O'.ns,fun g=>?_,fun g hg=>?_⟩
 . have:=vh f y fs;omega
 . show qV ((fP f y fs).lookup g) (if g=f then some u else mA g)
   rw[pS];by_cases q:g=f
   . rw[if_pos q,if_pos q];exact ry
   . rw[if_neg q,if_neg q];exact r g
 . by_cases q:g=f
   . rw[q];exact(uh f y fs).1
   . refine(uh f y fs).2 g (wi g fun z=>hg ?_)
     show(if g=f then some u else mA g)=none;rw[if_neg q];exact z
theorem Inv.made (I:Inv X pins σ H s):Inv X pins σ (upd (upd H s.heap.objs.size (.own (s.heap.objs.size+1))) (s.heap.objs.size+1) (.ins C s.heap.objs.size [])) { s with heap:=(s.heap.push W.emptyDict).push (W.instObj C s.heap.objs.size)}:=by
 have e1:(s.heap.push W.emptyDict).get? s.heap.objs.size=some W.emptyDict:=aaq s.heap rfl;have e2:((s.heap.push W.emptyDict).push (W.instObj C s.heap.objs.size)).get? (s.heap.objs.size+1)=some (W.instObj C s.heap.objs.size):=by
   have:=aaq (s.heap.push W.emptyDict) (o:=W.instObj C s.heap.objs.size) rfl
   rwa [abK] at this
 have e3:(s.heap.push W.emptyDict).Ns s.heap.objs.size (fun _=>none):=⟨W.emptyDict,#[],_,e1,rfl,(fun e he=>absurd he (by simp)),fun _=>rfl⟩
 have I1:=I.laid (a:=s.heap.objs.size) (o:=.own (s.heap.objs.size+1)) (h':=s.heap.push W.emptyDict) (t':=s.toks) (fun b u q=>aad _ q) (aai _) ⟨_,e1⟩;refine I1.laid (a:=s.heap.objs.size+1) (o:=.ins C s.heap.objs.size []) (t':=s.toks) (fun b u q=>aad _ q) (Nat.le_of_eq (abK _ _)) ?_;have ne:s.heap.objs.size≠s.heap.objs.size+1:=aap (abR _);refine⟨by rw[ag ne,ak],abh _,ne,e2,fun _=>none,(Heap.Ns1.of_empty e3).at fun o q=>aad _ q,fun _=>True.intro,fun y hy=>absurd rfl hy⟩
theorem GZ {prog:Program}{w:World}{env:Env}{e:Expr}{f:Str}{pos:Pos}{s:Shared}{Q:Value->Shared->Prop}(hb:attributeBase e f env (eval e env)=eval e env)(h:wpAny (model prog w) A (eval e env) (fun o s₁=>wpAny (model prog w) A (getAttr o f true) Q E s₁) E s):wpAny (model prog w) A (eval (.Attribute e f pos) env) Q E s:=
 Attribute_any_ h (by rw[arm_eval_Attribute,hb])
end
def aba (K:PySem.W.Frag)(ta:TE)(f:Str):TE:=fun σ H Q=>ta σ H fun x H1=>∃ a C dx fs v,x=.ref a/\Rd H1 a (.ins C dx fs)/\wz K C/\bW K C f/\fs.lookup f=some v/\Q v H1
def abb (K:PySem.W.Frag)(ta tv:TE)(f:Str):TS:=fun D σ H=>tv σ H fun y H1=>ta σ H1 fun x H2=>∃ a C dx fs,x=.ref a/\H2 a=some (.ins C dx fs)/\wz K C/\bW K C f/\fs.length < 1000 /\
 D.nx σ (upd H2 a (.ins C dx (fP f y fs)))
section
variable {X:Cx}{o e value:Expr}{f:Str}{pos pos':Pos}{ta tv:TE}
theorem xy (he:PE X e ta)(hb:attributeBase e f X.env (eval e X.env)=eval e X.env):PE X (.Attribute e f pos) (aba X.K ta f):=by
 intro pins s σ H Q I h;refine GZ hb (bZ (he pins s σ H _ I h) fun u s1 zq=>?_);obtain⟨x,H1,I1,rx,a,C,dx,fs,v,ex,ea,c,n,l,q⟩:=zq;subst ex;obtain rfl:u=Value.ref a:=rx;exact E2 I1 ea c n l fun u' s2 I2 ru=>⟨v,H1,I2,ru,q⟩
theorem xA (ha:PE X o ta)(hv:PE X value tv)(hs:swapsWith value (some (.Attribute o f pos')) pos.line X.env=pure false):PS X (.Assign [.Attribute o f pos'] value pos) (abb X.K ta tv f):=by
 intro pins s σ H D I h;refine plainObj_wpAny_Assign_Attribute (bZ (hv pins s σ H _ I h) fun u s1 ⟨y,H1,I1,ry,q⟩=>bZ (ha pins s1 σ H1 _ I1 q) fun ov s2 zq=>?_) hs;obtain⟨x,H2,I2,rx,a,C,dx,fs,ex,ea,c,n,l,q2⟩:=zq;subst ex;obtain rfl:ov=Value.ref a:=rx;exact E3 I2 ea c n l ry fun s3 I3=>⟨σ,_,I3,q2⟩
end
section
variable {X:Cx}{pins:List (Addr×Obj)}{σ:St}{H:Hp}{s:Shared}{A:Around}{E:Value->Shared->Prop}{Q:Value->Shared->Prop}{c:Value}{b:Bool}
inductive vD (K:W.Frag)(H:Hp):V->Value->Prop where
 | cz:vD K H .cz (.type "NoneType")
 | bl (x:Bool):vD K H (.bl x) (.type "bool")
 | int (i:Int):vD K H (.int i) (.type "int")
 | str (x:Str):vD K H (.str x) (.type "str")
 | RD (x:UInt64):vD K H (.RD x) (.type "float")
 | lst {a:Addr} {xs:List V} (e:H a=some (.lst xs)):vD K H (.ref a) (.type "list")
 | bJ {a:Addr} {o:Obj} {xs:List V} (e:H a=some (.bJ o (.lst xs))):vD K H (.ref a) (.type "list")
 | tup {a:Addr} {xs:List V} (e:H a=some (.tup xs)):vD K H (.ref a) (.type "tuple")
 | dK {a:Addr} {kvs:List (Key×V)} (e:H a=some (.dK kvs)):vD K H (.ref a) (.type "dict")
 | dT {a:Addr} {kvs:List (List Key×V)} (e:H a=some (.dT kvs)):vD K H (.ref a) (.type "dict")
 | ins {a C dx:Addr} {fs:List (Str×V)} (e:Rd H a (.ins C dx fs)) (cl:wz K C) (ha:W.findIn K (.ref C) "__class__"=some (some (.builtin "object.__class__")))
     (hn:W.specialIn K (.builtin "object.__class__") "__get__"=some (some (.builtin "getset_descriptor.__get__"))) (TX:W.takesIn K (.builtin "object.__class__")=some true)
     (hm:W.mroIn K C (.type "object")=some true):vD K H (.ref a) (.ref C)
theorem uk {x:V}{u t:Value}(I:Inv X pins σ H s)(rx:RelV x u)(ty:vD X.K H x t)(e:W.kitOne X.K t c=some b)(h:∀ tk,Q (.bool b) { s with toks:=tk}):wpAny (model X.prog X.w) A (call (.builtin "isinstance") [u,c]) Q E s:=by
 cases ty with
 | cz=>cases (show u=Value.none from rx);exact W.kia_one W.kitx_none I.ke True.intro e (fun z=>nomatch z) h
 | bl y=>cases (show u=Value.bool y from rx);exact W.kia_one W.kitx_bool I.ke True.intro e (fun z=>nomatch z) h
 | int i=>obtain⟨t,q⟩:=(show ∃ t,u=Value.int i t from rx);cases q;exact W.kia_one W.kitx_int I.ke True.intro e (fun z=>nomatch z) h
 | str y=>obtain⟨t,q⟩:=(show ∃ t,u=Value.str y t from rx);cases q;exact W.kia_one W.kitx_str I.ke True.intro e (fun z=>nomatch z) h
 | RD y=>obtain⟨t,q⟩:=(show ∃ t,u=Value.float y t from rx);cases q;exact W.kia_one W.kitx_float I.ke True.intro e (fun z=>nomatch z) h
 | @lst a xs ea=>
   cases (show u=Value.ref a from rx);obtain⟨_,_,n,_,h1⟩:=(show aM X.prog X.w H s.heap a (.lst xs) from I.aR a _ ea)
   exact W.kia_one W.kitx_list I.ke ⟨_,h1,rfl⟩ e (fun z=>nomatch z) h
 | @bJ a ob xs ea=>
   cases (show u=Value.ref a from rx);obtain⟨_,_,_,n,_,h1⟩:=(show aM X.prog X.w H s.heap a (.bJ ob (.lst xs)) from I.aR a _ ea)
   exact W.kia_one W.kitx_list I.ke ⟨_,h1,rfl⟩ e (fun z=>nomatch z) h
 | @tup a xs ea=>
   cases (show u=Value.ref a from rx);obtain⟨_,_,_,p⟩:=(show aM X.prog X.w H s.heap a (.tup xs) from I.aR a _ ea)
   obtain⟨o,h1,h2,_⟩:=p;exact W.kia_one W.kitx_tuple I.ke ⟨o,h1,h2⟩ e (fun z=>nomatch z) h
 | @dK a kvs ea=>
   cases (show u=Value.ref a from rx);obtain⟨_,_,vs,_,p⟩:=(show aM X.prog X.w H s.heap a (.dK kvs) from I.aR a _ ea)
   obtain⟨o,es,ep,h1,h2,_⟩:=p;exact W.kia_one W.kitx_dict I.ke ⟨o,h1,h2.1⟩ e (fun z=>nomatch z) h
 | @dT a kvs ea=>
   cases (show u=Value.ref a from rx);obtain⟨_,_,xs,_,o,es,ep,h1,h2,_⟩:=(show aM X.prog X.w H s.heap a (.dT kvs) from I.aR a _ ea)
   exact W.kia_one W.kitx_dict I.ke ⟨o,h1,h2.1⟩ e (fun z=>nomatch z) h
 | @ins a C dx fs ea cl ha hn TX hm=>
   cases (show u=Value.ref a from rx);obtain⟨mA,O,_⟩:=wu I.aR ea;obtain⟨od,J,_⟩:=O.look;exact W.kia_one (W.kitx_own (cl.get _) cl.hd ha hn TX hm) I.ke J e (fun z=>nomatch z) h
end
structure dk (k:Nat)(A:Around):Prop where
 hd:A.handled=none
 dp:A.depth+3 * k+5 < recursionLimit
 un:A.units+16 * k+200 < cLine
theorem dk.mono {j k:Nat}{A:Around}(r:dk k A)(h:j<=k):dk j A:=⟨r.hd,by have:=r.dp;omega,by have:=r.un;omega⟩
theorem dk.deeper {k:Nat}{A:Around}(r:dk (k+1) A)(env:Env):dk k (A.deeper env):=
 ⟨r.hd,by have:=r.dp;show A.depth+1+3 * k+5 < _;omega,by have:=r.un;show A.units+3+16 * k+200 < _;omega⟩
theorem E4 {A:Around}{C:Addr}{us:List Value}{kw:List (Str×Value)}:(A.under (.builtin "type.__call__" ⟨.ref C::us,kw⟩)).depth=A.depth+1:=by
 first | rfl | simp[Around.under,Code.weight,Code.isCreation,Code.isGuard,Code.isCaller,Code.frames,Code.isFrame,guardIds]
theorem E5 {A:Around}{C:Addr}{us:List Value}{kw:List (Str×Value)}:(A.under (.builtin "type.__call__" ⟨.ref C::us,kw⟩)).units=A.units+1:=by
 first | rfl | simp[Around.under,Code.cUnits,Code.frames,Code.isFrame]
theorem dk.make {k:Nat}{A:Around}(r:dk (k+1) A)(C:Addr)(us:List Value)(kw:List (Str×Value)):dk k (A.under (.builtin "type.__call__" ⟨.ref C::us,kw⟩)):=
 ⟨r.hd,by have:=r.dp;rw[E4];omega,by have:=r.un;rw[E5];omega⟩
theorem dk.depth {k:Nat}{A:Around}(r:dk k A):A.depth < recursionLimit:=by have:=r.dp;omega
theorem dk.units {k:Nat}{A:Around}(r:dk k A):A.units+64 < cLine:=by have:=r.un;omega
def Xy:TA:=fun _ H Q=>Q [] H
def Xz (ta:TE)(tr:TA):TA:=fun σ H Q=>ta σ H fun x H1=>tr σ H1 fun xs H2=>Q (x::xs) H2
section
variable {X:Cx}{e:Expr}{es:List Expr}{te:TE}{t:TA}{pos:Pos}
theorem oA:PA X [] Xy:=fun _ _ _ _ H Q I h=>Calls.spliced_nil ⟨[],H,I,.nil,h⟩
theorem kg (ha:PE X e te)(hr:PA X es t)(hs:autoParam (starEach (e::es) X.env=(false,eval e X.env)::starEach es X.env) jp):PA X (e::es) (Xz te t):=by
 intro pos pins s σ H Q I h;rw[hs];show wpAny _ _ (spliced ((false,eval e X.env)::backTo pos (starEach es X.env))) _ _ s;refine Calls.spliced_cons (bZ (ha pins s σ H _ I h) fun u s1 zq=>?_);obtain⟨x,H1,I1,r1,q1⟩:=zq;exact bZ (hr pos pins s1 σ H1 _ I1 q1) fun us s2 ⟨xs,H2,I2,r2,q2⟩=>⟨x::xs,H2,I2,.cons r1 r2,q2⟩
def abd (t:TA):TE:=fun σ H Q=>t σ H fun xs H1=>xs.length<=sizeLine/\∀ p,H1 p=none->Q (.ref p) (upd H1 p (.tup xs))
def abe (t:TA):TE:=fun σ H Q=>t σ H fun xs H1=>xs.length<=sizeLine/\∀ p,H1 p=none->Q (.ref p) (upd H1 p (.lst xs))
theorem TY {x1}(h:PA X es t):PE X (.Tuple es x1 pos) (abd t):=by
 intro pins s σ H Q I hq;refine wpAny_Tuple_spliced (bZ (h pos pins s σ H _ I hq) fun us s1 ⟨xs,H1,I1,r,z,q⟩=>⟨by rw[<- r.length];exact z,?_⟩);have hf:H1 s1.heap.objs.size=none:=I1.aR.fresh (aai _);refine⟨.ref s1.heap.objs.size,upd H1 s1.heap.objs.size (.tup xs),I1.laid (t':=s1.toks) (fun b u e=>aad _ e) (aai _) ?_,rfl,q _ hf⟩;exact⟨z,us,r,⟨_,aaq _ rfl,rfl,_,rfl⟩⟩
theorem xB (h:PA X es t):PE X (.List es pos) (abe t):=by
 intro pins s σ H Q I hq;refine wpAny_List_spliced (bZ (h pos pins s σ H _ I hq) fun us s1 ⟨xs,H1,I1,r,z,q⟩=>⟨by rw[<- r.length];exact z,?_⟩);have hf:H1 s1.heap.objs.size=none:=I1.aR.fresh (aai _);refine⟨.ref s1.heap.objs.size,upd H1 s1.heap.objs.size (.lst xs),I1.laid (t':=s1.toks) (fun b u e=>aad _ e) (aai _) ?_,rfl,q _ hf⟩;exact⟨z,us,0,r,aaq _ rfl⟩
end
abbrev Sp:=List V->Hp->VK->XK->Prop
abbrev qu:=List Env->Hp->Shared->XK->Value->Shared->Prop
structure CF (P:Program)(w:World)(K:W.Frag)(mg:Str->Option Value)(base:Heap)(A:Around)(outer:List Env)(s:Shared)(H:Hp):Prop where
 frames:A.frames=some outer
 mod:Mod K mg base
 bs:∀ b o,base.get? b=some o->s.heap.get? b=some o/\H b=none
 Cw:base.objs.size<=s.heap.objs.size
 pR:s.heap.FunFrames base outer
 GU:∀ b∈kY outer,H b=none
 aR:pJ P w H s.heap
 bare:AllBare s.gens
def CE (outer:List Env)(P:Program)(w:World)(H:Hp)(s:Shared)(Q:VK)(u:Value)(s':Shared):Prop:=
 ∃ v H',s'.os=s.os/\AllBare s'.gens/\Un (kY outer) [] H H' s.heap s'.heap/\pJ P w H' s'.heap/\RelV v u/\Q v H'
def CR (CX:qu)(outer:List Env)(P:Program)(w:World)(H:Hp)(s:Shared)(Q:VK)(E:XK)(r:Result)(s':Shared):Prop:=
 match r with
 | .ok (.ret u)=>CE outer P w H s Q u s'
 | .ok _=>False
 | .error e=>CX outer H s E e s'
structure jh (P:Program)(w:World)(K:W.Frag)(mg:Str->Option Value)(base:Heap)(CX:qu)(k:Nat)(f:Addr)(fd:FuncData)(ps:List Str)(sp:Sp):Prop where
 len:∀ vs H Q E,sp vs H Q E->vs.length=ps.length
 run:∀ (A:Around) (outer:List Env) (s:Shared) (H:Hp) (args:Args) (us:List Value) (vs:List V) (Q:VK) (E:XK),dk k A->CF P w K mg base A outer s H->BindsTo s fd args (ps.zip us)->Vals vs us->sp vs H Q E ->
   codeAny (model P w) A (.call (.ref f) args) (CR CX outer P w H s Q E) s
theorem CF.make {P:Program}{w:World}{K:W.Frag}{mg:Str->Option Value}{base:Heap}{A:Around}{outer:List Env}{s:Shared}{H:Hp}(e:CF P w K mg base A outer s H)(C:Addr)(us:List Value)(kw:List (Str×Value)):CF P w K mg base (A.under (.builtin "type.__call__" ⟨.ref C::us,kw⟩)) outer s H:=⟨by first | exact e.frames | (simpa [Around.under,Code.envs,Code.isFrame,pushEnvs] using e.frames),e.mod,e.bs,e.Cw,e.pR,e.GU,e.aR,e.bare⟩
section
variable {X:Cx}{pins:List (Addr×Obj)}{σ:St}{H:Hp}{s s':Shared}
theorem Inv.Pa (I:Inv X pins σ H s):CF X.prog X.w X.K X.mg X.base X.A X.stack s H:=
 ⟨I.ok.frames,I.ok.mod,I.bs,aax I.ok.Cw I.sz,I.stack,I.lC,I.aR,I.bare⟩
theorem Inv.after {Q:VK}{u:Value}(I:Inv X pins σ H s)(h:CE X.stack X.prog X.w H s Q u s'):EP X pins σ Q u s':=by
 obtain⟨v,H',os,bare,un,aR,r,q⟩:=h;obtain⟨hh,g,d,t,os'⟩:=s';obtain rfl:os'=s.os:=os;exact⟨v,H',I.call (h':=hh) (g':=g) (d':=d) (t':=t) (ch:=[]) un aR bare (fun b z=>absurd z (by simp)),r,q⟩
end
def XA (sp:Sp)(dvs:List V)(E:XK)(t:TA):TE:=fun σ H Q=>t σ H fun vs H1=>sp (vs ++ dvs) H1 Q E
def RN (C:Addr)(m:Str)(sp:Sp)(dvs:List V)(E:XK)(ta:TE)(t:TA):TE:=fun σ H Q=>ta σ H fun x H1=>∃ a dx fs,x=.ref a/\Rd H1 a (.ins C dx fs)/\fs.lookup m=none /\
 t σ H1 fun vs H2=>sp (x::(vs ++ dvs)) H2 Q E
def XB (C:Addr)(sp:Sp)(dvs:List V)(E:XK)(t:TA):TE:=fun σ H Q=>t σ H fun vs H1=>∀ x dx,H1 x=none->H1 dx=none->dx≠x ->
 sp (.ref x::(vs ++ dvs)) (upd (upd H1 dx (.own x)) x (.ins C dx [])) (fun v H2=>v=.cz/\Q (.ref x) H2) E
def Binds (K:PySem.W.Frag)(fd:FuncData)(ps:List Str)(ds:List Value):Prop:=
 ∀ (s:Shared) (us:List Value),K.In s.heap->(us ++ ds).length=ps.length->BindsTo s fd ⟨us,[]⟩ (ps.zip (us ++ ds))
theorem Binds.all {K:W.Frag}{fd:FuncData}{ps:List Str}(h:∀ us:List Value,us.length=ps.length->bindArgs fd ⟨us,[]⟩=pure (ps.zip us)):Binds K fd ps []:=fun s us _ hl=>by
 rw[aaT] at hl ⊢;exact .of_eq (h us hl)
def Passes (CX:qu)(X:Cx)(E:XK):Prop:=∀ (pins:List (Addr×Obj)) (σ:St) (H:Hp) (s:Shared) (e:Value) (s':Shared),Inv X pins σ H s->CX X.stack H s E e s'->X.xe e s'
section
variable {X:Cx}{CX:qu}{k:Nat}{f C:Addr}{fd:FuncData}{ps:List Str}{sp:Sp}{dvs:List V}{ds:List Value}{E:XK}{x m:Str}{p pos apos:Pos}{e o:Expr}{es:List Expr}{ta:TE}{t:TA}
theorem E6 {pins:List (Addr×Obj)}{σ:St}{H:Hp}{s:Shared}{Q:VK}{us:List Value}{vs:List V}(F:jh X.prog X.w X.K X.mg X.base CX k f fd ps sp)(hr:dk k X.A)(hb:Binds X.K fd ps ds)(hd:Vals dvs ds)(hx:Passes CX X E)(I:Inv X pins σ H s)(r:Vals vs us)(h:sp (vs ++ dvs) H Q E):wpAny (model X.prog X.w) X.A (call (.ref f) us) (EP X pins σ Q) X.xe s:=by
 have r2:Vals (vs ++ dvs) (us ++ ds):=r.append hd;have hl:(us ++ ds).length=ps.length:=by rw[<- r2.length];exact F.len _ _ _ _ h
 refine wpAny_call (codeAny_mono (F.run X.A X.stack s H ⟨us,[]⟩ (us ++ ds) (vs ++ dvs) Q E hr I.Pa (hb s us I.ke hl) r2 h) fun r s' hq=>?_);cases r with
 | error e=>exact hx pins σ H s e s' I hq
 | ok fl=>
   cases fl with
   | ret u=>exact I.after hq
   | next=>exact False.elim hq
   | brk=>exact False.elim hq
   | cont=>exact False.elim hq
theorem AU (F:jh X.prog X.w X.K X.mg X.base CX k f fd ps sp)(hr:dk k X.A)(hg:Gl X x)(hm:X.mg x=some (.ref f))(hk:W.keepIn X.K (.ref f)=true)(hb:Binds X.K fd ps ds)(hd:Vals dvs ds)(hx:Passes CX X E)(ha:PA X (e::es) t)(jg:autoParam ((x == ("__debug__":Str))=false) jO)(he:autoParam (starEach (e::es) X.env=(false,eval e X.env)::starEach es X.env) jp)(kW:autoParam ((backTo pos (starEach es X.env)).any (·.1)=false) jp):PE X (.Call (.Name x p) (e::es) [] pos) (XA sp dvs E t):=by
 intro pins s σ H Q I h;refine wpAny_Call_Name_kw (lD I hg hm ?_ jg);refine W.callWith_K (h₀:=X.base) I.ok.mod.RG hk (bZ (ha pos pins s σ H _ I h) fun us s1 ⟨vs,H1,I1,r,q⟩=>⟨I1.ke,?_⟩) he kW;exact E6 F hr hb hd hx I1 r q
theorem AV {pl:Sem Bool}(he:PE X o ta)(c:wz X.K C)(hm:Meth X.K C m f)(F:jh X.prog X.w X.K X.mg X.base CX k f fd ps sp)(hr:dk k X.A)(hb:Binds X.K fd ps ds)(hd:Vals dvs ds)(hx:Passes CX X E)(ha:PA X (e::es) t)
   (jQ:autoParam (starEach (e::es) X.env=(false,eval e X.env)::starEach es X.env) jp) (kW:autoParam ((backTo pos (starEach es X.env)).any (·.1)=false) jp)
   (ht:autoParam (eval (.Call (.Attribute o m apos) (e::es) [] pos) X.env=(do
     let ov <- eval o X.env
     standAt apos.atName
     let (f,first) <- holding [ov] (getMethod ov m pl)
     callWith pos f first (backTo pos (starEach (e::es) X.env)) (backToKw pos (keywordEach [] X.env)))) jp) :
   PE X (.Call (.Attribute o m apos) (e::es) [] pos) (RN C m sp dvs E ta t):=by
 intro pins s σ H Q I h;refine W.methodCall_KW (pl:=pl) (bZ (he pins s σ H _ I h) fun u s1 zq=>?_) ht;obtain⟨x,H1,I1,rx,a,dx,fs,ex,ea,l,q⟩:=zq;subst ex;obtain rfl:u=Value.ref a:=rx;refine rP I1 ea c hm l ?_;refine W.callWith_K (first:=[.ref a]) (h₀:=X.base) I.ok.mod.RG hm.kp (bZ (ha pos pins s1 σ H1 _ I1 q) fun us s2 ⟨vs,H2,I2,r,q2⟩=>⟨I2.ke,?_⟩) jQ kW;exact E6 (us:=.ref a::us) (vs:=.ref a::vs) F hr hb hd hx I2 (.cons rfl r) q2
theorem CG {pl:Sem Bool}(he:PE X o ta)(c:wz X.K C)(hm:Meth X.K C m f)(F:jh X.prog X.w X.K X.mg X.base CX k f fd ps sp)(hr:dk k X.A)(hb:Binds X.K fd ps ds)(hd:Vals dvs ds)(hx:Passes CX X E)
   (ht:autoParam (eval (.Call (.Attribute o m apos) [] [] pos) X.env=(do
     let ov <- eval o X.env
     standAt apos.atName
     let (f,first) <- holding [ov] (getMethod ov m pl)
     callWith pos f first (backTo pos (starEach [] X.env)) (backToKw pos (keywordEach [] X.env)))) jp) :
   PE X (.Call (.Attribute o m apos) [] [] pos) (RN C m sp dvs E ta Xy):=by
 intro pins s σ H Q I h;refine W.methodCall_KW (pl:=pl) (bZ (he pins s σ H _ I h) fun u s1 zq=>?_) ht;obtain⟨x,H1,I1,rx,a,dx,fs,ex,ea,l,q⟩:=zq;subst ex;obtain rfl:u=Value.ref a:=rx;refine rP I1 ea c hm l ?_;exact W.callWith_K0 (first:=[.ref a]) I1.ke hm.kp (E6 (us:=[.ref a]) (vs:=[.ref a]) F hr hb hd hx I1 (.cons rfl .nil) q)
structure Mk (K:W.Frag)(C f:Addr):Prop where
 makes:W.makesIn K C=true
 init:W.findIn K (.ref C) "__init__"=some (some (.ref f))
 fn:W.isFn K (.ref f)=true
 kp:W.keepIn K (.ref C)=true
theorem K0 {pins:List (Addr×Obj)}{σ:St}{H:Hp}{s:Shared}{Q:VK}{us:List Value}{vs:List V}(M:Mk X.K C f)(F:jh X.prog X.w X.K X.mg X.base CX k f fd ps sp)(hr:dk (k+1) X.A)(hb:Binds X.K fd ps ds)(hd:Vals dvs ds)(hx:Passes CX X E)(I:Inv X pins σ H s)(r:Vals vs us)(h:∀ x dx,H x=none->H dx=none->dx≠x->sp (.ref x::(vs ++ dvs)) (upd (upd H dx (.own x)) x (.ins C dx [])) (fun v H2=>v=.cz/\Q (.ref x) H2) E):wpAny (model X.prog X.w) X.A (call (.ref C) us) (EP X pins σ Q) X.xe s:=by
 have hq:=h (s.heap.objs.size+1) s.heap.objs.size (I.aR.fresh (abD _)) (I.aR.fresh (aai _)) (aap (abR _));have I2:=Inv.made (C:=C) I;have r2:Vals (V.ref (s.heap.objs.size+1)::(vs ++ dvs)) (Value.ref (s.heap.objs.size+1)::(us ++ ds)):=.cons rfl (r.append hd);have hl:(Value.ref (s.heap.objs.size+1)::us ++ ds).length=ps.length:=by
   have e:=r2.length;rw[F.len _ _ _ _ hq] at e;exact e.symm
 refine wpAny_call (KZ (f:=f) I.ke M.makes M.init (beq_iff_eq.mp M.fn) (codeAny_mono (F.run _ X.stack _ _ ⟨Value.ref (s.heap.objs.size+1)::us,[]⟩ (Value.ref (s.heap.objs.size+1)::(us ++ ds)) _ _ E (hr.make C us [])
   (I2.Pa.make C us []) (hb _ (Value.ref (s.heap.objs.size+1)::us) I2.ke hl) r2 hq) fun r s' K1=>?_))
 cases r with
 | error e=>exact hx pins σ _ _ e s' I2 K1
 | ok fl=>
   cases fl with
   | ret u=>
     obtain⟨v,H',I3,rv,ev,q3⟩:=I2.after K1;subst ev;exact⟨rv,⟨V.ref (s.heap.objs.size+1),H',I3,rfl,q3⟩⟩
   | next=>exact False.elim K1
   | brk=>exact False.elim K1
   | cont=>exact False.elim K1
theorem G3 (M:Mk X.K C f)(F:jh X.prog X.w X.K X.mg X.base CX k f fd ps sp)(hr:dk (k+1) X.A)(hg:Gl X x)(hm:X.mg x=some (.ref C))(hb:Binds X.K fd ps ds)(hd:Vals dvs ds)(hx:Passes CX X E)(ha:PA X (e::es) t)(jg:autoParam ((x == ("__debug__":Str))=false) jO)(he:autoParam (starEach (e::es) X.env=(false,eval e X.env)::starEach es X.env) jp)(kW:autoParam ((backTo pos (starEach es X.env)).any (·.1)=false) jp):PE X (.Call (.Name x p) (e::es) [] pos) (XB C sp dvs E t):=by
 intro pins s σ H Q I h;refine wpAny_Call_Name_kw (lD I hg hm ?_ jg);refine W.callWith_K (h₀:=X.base) I.ok.mod.RG M.kp (bZ (ha pos pins s σ H _ I h) fun us s1 ⟨vs,H1,I1,r,q⟩=>⟨I1.ke,?_⟩) he kW;exact K0 M F hr hb hd hx I1 r q
end
section
variable {fd:FuncData}{ps ks:List Str}
structure abg (K:W.Frag)(fd:FuncData)(ps ks:List Str)(g:List Value->List Value->List Value)(gV:List V->List V->List V):Prop where
 to:∀ (s:Shared) (us ws:List Value),K.In s.heap->(g us ws).length=ps.length->BindsTo s fd ⟨us,ks.zip ws⟩ (ps.zip (g us ws))
 rel:∀ {vs:List V} {us:List Value} {zs:List V} {ws:List Value},Vals vs us->Vals zs ws->Vals (gV vs zs) (g us ws)
end
structure aq (N P:List Str)(sc:Scope):Prop where
 kind:sc.kind=.function
 co:sc.isCoroutine=false
 gen:sc.isGenerator=false
 nd:N.Nodup
 pre:N.take P.length=P
 par:∀ x∈P,sc.names.lookup x=some .local\/sc.names.lookup x=some .cell
 TZ:∀ y∈sc.names,y.2≠.free
theorem Ac {kindOf:Str->Option NameKind}{x:Str}:∀ {binds:List (Str×Value)} {m:Str->Option Value},(∀ v,(x,v) ∉ binds)->bindL kindOf binds m x=m x
 | [],_,_=>rfl
 | (n,v)::r,m,h=>by
   unfold bindL;rw[Ac fun w hw=>h w (aaI _ hw)]
   split
   . have:x≠n:=by rintro rfl;exact h v abz
     simp[this]
   . rfl
theorem Ad {kindOf:Str->Option NameKind}{x:Str}:∀ {binds:List (Str×Value)} {m:Str->Option Value},(∀ v,(x,v) ∉ binds)->bindC kindOf binds m x=m x
 | [],_,_=>rfl
 | (n,v)::r,m,h=>by
   unfold bindC;rw[Ad fun w hw=>h w (aaI _ hw)]
   split
   . rfl
   . have:x≠n:=by rintro rfl;exact h v abz
     simp[this]
theorem Ae {kindOf:Str->Option NameKind}{x:Str}{v:Value}:∀ {P:List Str} {vs:List Value} {i:Nat} {m:Str->Option Value},P.Nodup->P[i]?=some x->vs[i]?=some v->kindOf x=some .local->bindL kindOf (P.zip vs) m x=some v
 | [],_,_,_,_,h,_,_=>by simp at h
 | _::_,[],_,_,_,_,h,_=>by simp at h
 | p::P,w::vs,0,m,nd,h1,h2,hk=>by
   simp at h1 h2;subst h1;subst h2;show bindL kindOf ((p,w)::P.zip vs) m p=_;unfold bindL;rw[Ac fun v hv=>(aca.mp nd).1 (List.of_mem_zip hv).1,if_pos hk];simp
 | p::P,w::vs,i+1,m,nd,h1,h2,hk=>by
   show bindL kindOf ((p,w)::P.zip vs) m x=_;unfold bindL;exact Ae (i:=i) (aca.mp nd).2 (by simpa using h1) (by simpa using h2) hk
theorem Af {kindOf:Str->Option NameKind}{x:Str}{v:Value}:∀ {P:List Str} {vs:List Value} {i:Nat} {m:Str->Option Value},P.Nodup->P[i]?=some x->vs[i]?=some v->kindOf x≠some .local->bindC kindOf (P.zip vs) m x=some v
 | [],_,_,_,_,h,_,_=>by simp at h
 | _::_,[],_,_,_,_,h,_=>by simp at h
 | p::P,w::vs,0,m,nd,h1,h2,hk=>by
   simp at h1 h2;subst h1;subst h2;show bindC kindOf ((p,w)::P.zip vs) m p=_;unfold bindC;rw[Ad fun v hv=>(aca.mp nd).1 (List.of_mem_zip hv).1,if_neg hk];simp
 | p::P,w::vs,i+1,m,nd,h1,h2,hk=>by
   show bindC kindOf ((p,w)::P.zip vs) m x=_;unfold bindC;exact Af (i:=i) (aca.mp nd).2 (by simpa using h1) (by simpa using h2) hk
noncomputable def start (N:List Str)(vs:List V):St:=vs.map some ++ aal (N.length - vs.length) none
noncomputable def pM (CX:qu)(P:Program)(w:World)(K:W.Frag)(mg:Str->Option Value)(base:Heap)(N:List Str)(qual:Str)(scope:Scope)(f:Addr)(cd:Value)(A:Around)(outer:List Env)(s:Shared)(H:Hp)(E:XK):Cx where
 prog:=P
 w:=w
 K:=K
 mg:=mg
 base:=base
 A:=A.deeper (envOfC qual scope s.heap.objs.size f cd)
 N:=N
 s₀:=s
 H₀:=H
 env:=envOfC qual scope s.heap.objs.size f cd
 outer:=outer
 stack:=envOfC qual scope s.heap.objs.size f cd::outer
 ex:=[]
 calm:=true
 fn:=fun _=>true
 pn:=[]
 xe:=fun e s'=>wpAny (model P w) (A.deeper (envOfC qual scope s.heap.objs.size f cd)) (leaving (envOfC qual scope s.heap.objs.size f cd) e) (fun _ T2=>CX outer H s E e T2) (fun e' T2=>CX outer H s E e' T2) s'
theorem CH {sc:Scope}{n:Nat}{x:Str}(h:sc.names.lookup x=some .cell):∃ c,(cellsFrom n sc.names []).lookup x=some c:=by
 have q:=W.cellsFrom_some sc.names n [] (.inl h);exact ack.mp q
theorem II {CX:qu}{P:Program}{w:World}{K:W.Frag}{mg:Str->Option Value}{base:Heap}{N ps:List Str}{qual:Str}{scope:Scope}{f:Addr}{cd:Value}{A:Around}{outer:List Env}{s s1:Shared}{H:Hp}{E:XK}{us:List Value}{vs:List V}(S:aq N ps scope)(hd:A.handled=none)(e0:CF P w K mg base A outer s H)(hl:vs.length=ps.length)(r:Vals vs us)(x:InCallC s s.heap.objs.size (bindL (envOfC qual scope s.heap.objs.size f cd).kindOf (ps.zip us) fun _=>none) (cellsFrom (s.heap.objs.size+1) scope.names []) (bindC (envOfC qual scope s.heap.objs.size f cd).kindOf (ps.zip us) fun _=>none) s1):Inv (pM CX P w K mg base N qual scope f cd A outer s H E) [] (start N vs) H s1:=by
 have kW:ps.length<=N.length:=by have:=congrArg abI S.pre;rw[aaD] at this;omega
 obtain⟨h1,tk,rfl,hk⟩:=x.done;have XC:∀ b:Addr,b ∉ (pM CX P w K mg base N qual scope f cd A outer s H E).ex:=fun b z=>absurd (show b∈([]:List Addr) from z) (by simp)
 refine⟨⟨e0.mod,S.kind,rfl,rfl,aai _,fun y z c h1 h2=>?_,fun y hy=>?_,fun y c _ h=>?_,fun _=>hd,Around.frames_deeper e0.frames,.inr ⟨rfl,rfl⟩,fun b z=>absurd z (XC b),e0.bs,e0.Cw,fun b _ _=>XC b,fun b z=>absurd z (XC b),e0.pR,e0.GU⟩,
   rfl,e0.bare,Un.kept hk,⟨_,x.toInCall.ns,fun i y v h1 h2 h3=>?_⟩,fun y c h=>⟨_,x.cell y c h⟩,e0.aR.fresh (aai _),fun y c h=>?_,fun p hp=>absurd (show p∈([]:List (Addr×Obj)) from hp) (by simp),e0.aR.kept hk,?_⟩
 . exact name_of_addr x.apart (PySem.mem_of_lookup h1) (PySem.mem_of_lookup h2)
 . have hy:scope.names.lookup y=some .cell\/scope.names.lookup y=some .free:=hy
   rcases hy with hy | hy
   . exact CH hy
   . exact absurd rfl (S.TZ _ (PySem.mem_of_lookup hy))
 . exact abG (x.above y c (PySem.mem_of_lookup h))
 . have hi:i < vs.length:=by
     unfold start at h2;by_cases hi:i < vs.length
     . exact hi
     . rw[aaB (by simpa using hi)] at h2
       rw[aaU] at h2
       split at h2 <;> cases h2
   have ha:vs[i]?=some v:=by
     unfold start at h2;rw[aay (by simpa using hi),aaf] at h2;cases e:vs[i]? with
     | none=>rw[e] at h2;cases h2
     | some a=>rw[e] at h2;cases h2;rfl
   obtain⟨u,hu,rv⟩:=r.get ha;have hp:ps[i]?=some y:=by
     rw[<- S.pre,List.getElem?_take_of_lt (by omega)];exact h1
   have ndP:ps.Nodup:=by rw[<- S.pre];exact S.nd.sublist (List.take_sublist _ _)
   refine⟨u,rv,?_⟩;rcases S.par y (abX hp) with k | k
   . exact .inl ⟨k,Ae ndP hp hu k⟩
   . obtain⟨c,e⟩:=CH (n:=s.heap.objs.size+1) k
     refine .inr ⟨.inl k,c,e,?_⟩;have q:=x.cell y c e;rw[Af ndP hp hu (by show scope.names.lookup y≠_;rw[k];decide)] at q;exact q
 . exact e0.aR.fresh (abG (x.above y c (PySem.mem_of_lookup h)))
 . unfold start
   show _=N.length;rw[aaw,aaa,List.length_replicate];omega
theorem CI {CX:qu}{P:Program}{w:World}{K:W.Frag}{mg:Str->Option Value}{base:Heap}{k:Nat}{f:Addr}{name qual:Str}{params:Arguments}{body:List Stmt}{scope:Scope}{dV kV doc pm bc ct oc:Value}{an od:Option Addr}{wA:Array (Option Value)}{N ps:List Str}{sp:Sp}(lk:K.lookup f=some ⟨oc,od,.func (W.fnOf name qual params body scope dV kV doc pm an bc ct),wA⟩)(mh:W.codeIn K bc qual=true)(S:aq N ps scope)(len:∀ vs H Q E,sp vs H Q E->vs.length=ps.length)(nL:∀ (A:Around) (outer:List Env) (s:Shared) (H:Hp) (vs:List V) (Q:VK) (E:XK),dk k (A.deeper (envOfC qual scope s.heap.objs.size f bc))->sp vs H Q E->∃ t,Cy (pM CX P w K mg base N qual scope f bc A outer s H E) body t/\t { nx:=fun _ H'=>Q .cz H',rt:=Q} (start N vs) H):jh P w K mg base CX (k+1) f (W.fnOf name qual params body scope dV kV doc pm an bc ct) ps sp:=by
 refine⟨len,fun A outer s H args us vs Q E hr e0 hb r RO=>?_⟩;have hl:=len _ _ _ _ RO;have KX:K.In s.heap:=e0.mod.RG.keeps fun b o e=>(e0.bs b o e).1
 have lim:s.heap.NoLimit:=e0.mod.nolimit.keeps fun b o e=>(e0.bs b o e).1
 have XD:∀ y∈ps.zip us,scope.names.lookup y.1=some .local\/(scope.names.lookup y.1=some .cell/\((cellsFrom (s.heap.objs.size+1) scope.names []).lookup y.1).isSome=true):=fun⟨n,v⟩ hy=>by
   rcases S.par n (List.of_mem_zip hy).1 with q | q
   . exact .inl q
   . exact .inr ⟨q,W.cellsFrom_some _ _ _ (.inl q)⟩
 refine codeAny_call_function hr.depth (KX _ _ lk) rfl S.co S.gen rfl (W.codeRec_of KX mh) (hb _ _ _ _ ?_);refine wpAny_newFunctionEnv_cells S.kind XD fun env he s1 x=>?_
 subst he;refine⟨lim.keeps x.toInCall.keep,codeAny_func ?_⟩;obtain⟨t,ht,hq⟩:=nL A outer s H vs Q E (hr.deeper _) RO;have I:Inv (pM CX P w K mg base N qual scope f bc A outer s H E) [] (start N vs) H s1:=II S hr.hd e0 hl r x;refine wpAny_mono (ht [] s1 (start N vs) H _ I hq) (fun fl s' hs=>?_) fun e s' hs=>hs
 have fin:∀ {σ':St} {H':Hp} {v:V} {u:Value},Inv (pM CX P w K mg base N qual scope f bc A outer s H E) [] σ' H' s'->RelV v u->Q v H'->CE outer P w H s Q u s':=
   fun {σ' H' v u} J rv q=>⟨v,H',J.os,J.bare,J.base,J.aR,rv,q⟩
 cases fl with
 | ret u=>
   obtain⟨v,σ',H',J,rv,q⟩:=hs;exact fin J rv q
 | next=>
   obtain⟨σ',H',J,q⟩:=hs;exact fin (v:=V.cz) (u:=Value.none) J rfl q
 | brk=>
   obtain⟨_,_,_,q⟩:=hs;exact False.elim q
 | cont=>
   obtain⟨_,_,_,q⟩:=hs;exact False.elim q
section
variable {X:Cx}{x:Str}{p pos:Pos}{e:Expr}{es:List Expr}{t:TA}{id T:String}{r:List V->Hp->VK->Prop}
def tCB (r:List V->Hp->VK->Prop)(t:TA):TE:=fun σ H Q=>t σ H fun vs H1=>r vs H1 Q
theorem ip (hc:mj X (.builtin id) r)(hg:Gl X x)(hm:X.mg x=none)(hv:bootBuiltins x=some (.builtin id))(ha:PA X (e::es) t)(hn:autoParam (x≠"__name__") jO)(jg:autoParam ((x == ("__debug__":Str))=false) jO)(he:autoParam (starEach (e::es) X.env=(false,eval e X.env)::starEach es X.env) jp)(kW:autoParam ((backTo pos (starEach es X.env)).any (·.1)=false) jp):PE X (.Call (.Name x p) (e::es) [] pos) (tCB r t):=by
 intro pins s σ H Q I h;refine wpAny_Call_Name_kw (rN I hg hm hv ?_ hn jg);exact PyProof.Rows.callWith_builtin1 (bZ (ha pos pins s σ H _ I h) fun us s1 ⟨vs,H1,I1,r1,q1⟩=>hc pins s1 σ H1 vs us Q I1 r1 q1) he kW
theorem qv (hc:mj X (.type T) r)(hg:Gl X x)(hm:X.mg x=none)(hv:bootBuiltins x=some (.type T))(ha:PA X (e::es) t)(hn:autoParam (x≠"__name__") jO)(jg:autoParam ((x == ("__debug__":Str))=false) jO)(he:autoParam (starEach (e::es) X.env=(false,eval e X.env)::starEach es X.env) jp)(kW:autoParam ((backTo pos (starEach es X.env)).any (·.1)=false) jp):PE X (.Call (.Name x p) (e::es) [] pos) (tCB r t):=by
 intro pins s σ H Q I h;refine wpAny_Call_Name_kw (rN I hg hm hv ?_ hn jg);exact PyProof.Rows.callWith_type1 (bZ (ha pos pins s σ H _ I h) fun us s1 ⟨vs,H1,I1,r1,q1⟩=>hc pins s1 σ H1 vs us Q I1 r1 q1) he kW
end
end L2
namespace HT
open PySem PyProof.Rows
section
noncomputable def CJ (n d:Nat):Option Int->Nat
 | none=>d
 | some v=>if v < 0 then (v+(n:Int)).toNat else min v.toNat n
theorem K2 (n d:Nat):CJ n d none=d:=rfl
theorem Pb (n d k:Nat):CJ n d (some (k:Int))=min k n:=by
 show(if (k:Int) < 0 then ((k:Int)+(n:Int)).toNat else min (k:Int).toNat n)=min k n;rw[if_neg (by omega),abn]
end
end HT
namespace L2
open PySem PySem.Spec PyProof.Rows
abbrev TO:=St->Hp->(Option Int->Hp->Prop)->Prop
def PO (X:Cx)(e:Option Expr)(t:TO):Prop:=
 ∀ (pins:List (Addr×Obj)) (s:Shared) (σ:St) (H:Hp) (Q:Option Int->Hp->Prop),Inv X pins σ H s->t σ H Q ->
   wpAny (model X.prog X.w) X.A (evalPart e X.env) (fun u s'=>∃ o H',Inv X pins σ H' s'/\IsPart u o/\Q o H') X.xe s
def Pd:TO:=fun _ H Q=>Q none H
def XE (t:TE):TO:=fun σ H Q=>t σ H fun x H1=>∃ i,x=.int i/\Q (some i) H1
section
variable {X:Cx}{e:Expr}{te:TE}{lo hi:Option Expr}{tl th:TO}{pos p2:Pos}
theorem G4:PO X none Pd:=by
 intro pins s σ H Q I h;rw[evalPart_none];exact wpAny_pure ⟨none,H,I,.none,h⟩
theorem G5 (h:PE X e te):PO X (some e) (XE te):=by
 intro pins s σ H Q I hw;rw[evalPart_some];refine bZ (h pins s σ H _ I hw) fun u s1 zq=>?_;obtain⟨x,H1,I1,r1,q1⟩:=zq
 obtain⟨i,rfl,q⟩:=q1;obtain⟨t,rfl⟩:=r1;exact⟨some i,H1,I1,.int i t,q⟩
def SlR (X:Cx)(r:V->Option Int->Option Int->Hp->VK->Prop):Prop:=
 ∀ (pins:List (Addr×Obj)) (s:Shared) (σ:St) (H:Hp) (x:V) (v vl vu:Value) (lo hi:Option Int) (sl:Addr) (Q:VK),Inv X pins σ H s->RelV x v->s.heap.IsSliceOf sl vl vu .none->IsPart vl lo->IsPart vu hi->r x lo hi H Q ->
   ∃ T id,typeLookup (.type T) "__getitem__"=pure (some (.builtin id))/\s.TypeIs v T/\wpAny (model X.prog X.w) X.A (getItem v (.ref sl)) (EP X pins σ Q) X.xe s
def tSl (r:V->Option Int->Option Int->Hp->VK->Prop)(te:TE)(tl th:TO):TE:=fun σ H Q=>te σ H fun x H1=>tl σ H1 fun l H2=>th σ H2 fun u H3=>r x l u H3 Q
theorem CK {r:V->Option Int->Option Int->Hp->VK->Prop}(hr:SlR X r)(he:PE X e te)(hl:PO X lo tl)(hu:PO X hi th):PE X (.Subscript e (.Slice lo hi none p2) pos) (tSl r te tl th):=by
 intro pins s σ H Q I h;refine Subscript_ (bZ (he pins s σ H _ I h) fun v s1 zq=>?_);obtain⟨x,H1,I1,r1,q1⟩:=zq;refine wpAny_Slice (bZ (hl pins s1 σ H1 _ I1 q1) fun vl s2 ⟨l,H2,I2,pl,q2⟩=>bZ (hu pins s2 σ H2 _ I2 q2) fun vu s3 zq=>?_);obtain⟨u,H3,I3,pu,q3⟩:=zq;rw[evalPart_none];refine wpAny_pure ?_;have I4:Inv X pins σ H3 { s3 with heap:=s3.heap.push { cls:=.type "slice",data:=.fields #[vl,vu,.none]}}:=I3.kept (t':=s3.toks) fun b ob q=>aad _ q
 obtain⟨T,id,hT,ht,hg⟩:=hr pins { s3 with heap:=s3.heap.push { cls:=.type "slice",data:=.fields #[vl,vu,.none]}} σ H3 x v vl vu l u s3.heap.objs.size Q I4 r1 (Heap.IsSliceOf.new ..) pl pu q3;show wpAny (model X.prog X.w) X.A (subscriptTail e (.Slice lo hi none p2) v (.ref s3.heap.objs.size)) (EP X pins σ Q) X.xe { s3 with heap:=s3.heap.push { cls:=.type "slice",data:=.fields #[vl,vu,.none]}};exact tail_any (ops:=[.ref s3.heap.objs.size,v]) ht hT hg (by with_unfolding_all rfl)
noncomputable def IJ (xs:List V)(lo hi:Option Int):List V:=(xs.drop (HT.CJ xs.length 0 lo)).take (HT.CJ xs.length xs.length hi - HT.CJ xs.length 0 lo)
theorem CL (xs:List V)(lo hi:Option Int):(IJ xs lo hi).length<=xs.length:=by
 unfold IJ;rw[aaD,abU];omega
theorem CM:mj X (.type "tuple") (fun xs H Q=>∃ a ys,xs=[.ref a]/\EL X.K H a ys/\Q (.ref a) H):=by
 intro pins s σ H xs us Q I r h;obtain⟨a,ys,rfl,ha,q⟩:=h;obtain⟨u,rfl,ru⟩:=vals1 r;cases ru;obtain⟨aJ,_,p1,_⟩:=I.tuple ha;exact call_tuple_same (items:=aJ.toArray) p1 ⟨.ref a,H,I,rfl,q⟩
end
noncomputable def CN (n:Nat)(i:Int):Option Nat:=if 0<=i then (if i < n then some i.toNat else none) else if -(n:Int)<=i then some (i+n).toNat else none
noncomputable def pA {α:Type}(xs:List α)(i:Int):Option α:=(CN xs.length i).bind fun j=>xs[j]?
theorem G6 {n:Nat}{i:Int}{j:Nat}(h:CN n i=some j):seqIndex? i n=some j/\j < n/\-(n:Int)<=i/\i < n:=by
 unfold CN at h;by_cases h0:0<=i
 . rw[if_pos h0] at h
   by_cases h1:i < n
   . rw[if_pos h1] at h
     have e:i.toNat=j:=Option.some.inj h;exact⟨by rw[seqIndex_of h0 h1,e],by omega,by omega,h1⟩
   . rw[if_neg h1] at h;cases h
 . rw[if_neg h0] at h
   by_cases h1:-(n:Int)<=i
   . rw[if_pos h1] at h
     have e:(i+n).toNat=j:=Option.some.inj h;exact⟨by rw[seqIndex_neg (by omega) h1,e],by omega,h1,by omega⟩
   . rw[if_neg h1] at h;cases h
theorem AW {α:Type}{xs:List α}{i:Int}{v:α}(h:pA xs i=some v):∃ j,seqIndex? i xs.length=some j/\xs[j]?=some v/\j < xs.length/\-(xs.length:Int)<=i/\i < xs.length:=by
 unfold pA at h;cases e:CN xs.length i with
 | none=>rw[e] at h;cases h
 | some j=>
   rw[e] at h;obtain⟨h1,h2,h3,h4⟩:=G6 e;exact⟨j,h1,h,h2,h3,h4⟩
theorem lE {α:Type}{xs:List α}{j:Nat}{v:α}(h:xs[j]?=some v):pA xs (j:Int)=some v:=by
 have hj:j < xs.length:=(aaj.mp h).1;have e:CN xs.length (j:Int)=some j:=by
   unfold CN;rw[if_pos (by omega),if_pos (by omega)];simp
 unfold pA;rw[e];exact h
theorem K3 {α:Type}(xs:List α)(v:α):pA (xs ++ [v]) (-1)=some v:=by
 have hl:(xs ++ [v]).length=xs.length+1:=by simp
 have e:CN (xs ++ [v]).length (-1)=some xs.length:=by
   unfold CN;rw[hl,if_neg (by decide),if_pos (by omega)]
   congr 1
   omega
 unfold pA;rw[e];show(xs ++ [v])[xs.length]?=some v;simp
def lF (b:Expr):Prop:=∀ o i,subscripted b false o i=operate [o,i] (getItem o i)
def WT (X:Cx)(r:R2):Prop:=
 ∀ (value slice:Expr) (pins:List (Addr×Obj)) (s:Shared) (σ:St) (H:Hp) (x y:V) (v u:Value) (Q:VK),Inv X pins σ H s->RelV x v->RelV y u->r x y H Q ->
   subscripted slice false v u=operate [v,u] (getItem v u)->wpAny (model X.prog X.w) X.A (subscriptTail value slice v u) (EP X pins σ Q) X.xe s
def WU (X:Cx)(id:String)(r:V->List V->Hp->VK->Prop):Prop:=
 ∀ (pins:List (Addr×Obj)) (s:Shared) (σ:St) (H:Hp) (x:V) (xs:List V) (v:Value) (us:List Value) (Q:VK),Inv X pins σ H s->RelV x v->Vals xs us->r x xs H Q ->
   wpAny (model X.prog X.w) X.A (call (.builtin id) (v::us)) (EP X pins σ Q) X.xe s
section
variable {X:Cx}{a b:Expr}{ta tb:TE}{pos:Pos}
theorem xC {r:R2}(hr:WT X r)(ha:PE X a ta)(hb:PE X b tb)(hs:lF b):PE X (.Subscript a b pos) (Xp r ta tb):=by
 intro pins s σ H Q I h;exact Subscript_ (TH ha hb I h fun v u s2 x y H2 I2 rx ry q=>hr a b pins s2 σ H2 x y v u Q I2 rx ry q (hs _ _))
def abi (K:W.Frag):R2:=fun x y H Q=>∃ p xs i v,x=.ref p/\y=.int i/\pL K H p xs/\pA xs i=some v/\Q v H
def abj (K:W.Frag):R2:=fun x y H Q=>∃ p xs i v,x=.ref p/\y=.int i/\EL K H p xs/\pA xs i=some v/\Q v H
def abk:R2:=fun x y H Q=>∃ z i c,x=.str z/\y=.int i/\z.length<=sizeLine/\pA z.cps.toList i=some c/\Q (.str ⟨#[c]⟩) H
theorem AX:WT X (abi X.K):=by
 intro value slice pins s σ H x y v u Q I rx ry h hs;obtain⟨p,xs,i,z,rfl,rfl,hq,he,q⟩:=h;cases rx;obtain⟨t,rfl⟩:=ry;obtain⟨aJ,r,pl,hz⟩:=I.list hq;obtain⟨j,h1,h2,h3,h4,h5⟩:=AW he;obtain⟨w,ew,Pe⟩:=r.get h2;have hl:=r.length;have hn:=nv;have fin:EP X pins σ Q w s:=⟨z,H,I,Pe,q⟩
 by_cases h0:0<=i
 . have hj:i.toNat=j:=by
     rw[seqIndex_of h0 h5] at h1;exact Option.some.inj h1
   exact item_listR pl.isList h0 (by omega) (by rw[hj];simpa using ew) fin hs
 . have hj:(i+(aJ.toArray.size:Int)).toNat=j:=by
     rw[seqIndex_neg (by omega) h4] at h1;rw[aao,<- hl];exact Option.some.inj h1
   exact subscriptTail_builtinR (x:=w) pl.isList.typeIs slot_list_getitem.lookup
     (wpAny_getItem_list_neg (Q:=fun r s'=>r=w/\EP X pins σ Q r s') pl.isList (by omega) (by rw[aao] <;> omega) (by omega) (by rw[hj];simpa using ew) ⟨rfl,fin⟩) hs
theorem T3:WT X (abj X.K):=by
 intro value slice pins s σ H x y v u Q I rx ry h hs;obtain⟨p,xs,i,z,rfl,rfl,hq,he,q⟩:=h;cases rx;obtain⟨t,rfl⟩:=ry;obtain⟨aJ,r,pl,hz⟩:=I.tuple hq;obtain⟨j,h1,h2,h3,h4,h5⟩:=AW he;obtain⟨w,ew,Pe⟩:=r.get h2;have hl:=r.length;have hn:=nv;have fin:EP X pins σ Q w s:=⟨z,H,I,Pe,q⟩
 exact subscriptTail_builtinR (x:=w) pl.typeIs slot_tuple_getitem.lookup
   (getItem_tuple (j:=j) (Q:=fun r s'=>r=w/\EP X pins σ Q r s') pl (by omega) (by omega) (by rw[aao,<- hl];exact h1) (by simpa using ew) ⟨rfl,fin⟩) hs
theorem T4:WT X abk:=by
 intro value slice pins s σ H x y v u Q I rx ry h hs;obtain⟨z,i,c,rfl,rfl,hz,he,q⟩:=h;obtain⟨t,rfl⟩:=rx;obtain⟨t',rfl⟩:=ry;obtain⟨j,h1,h2,h3,h4,h5⟩:=AW he;have hl:z.cps.toList.length=z.length:=by simp[Str.length]
 rw[hl] at h1 h4 h5;have hn:=nv;exact tail_any (typeIs_str s z t) slot_str_getitem.lookup (getItem_str (c:=c) (by
   have e1:decide (i < -(2 ^ 63:Int))=false:=decide_eq_false (by omega);have e2:decide (i >= 2 ^ 63)=false:=decide_eq_false (by omega);rw[e1,e2,Bool.or_false]) (by rw[h1];simpa using h2) ⟨.str ⟨#[c]⟩,H,I.tok _,⟨_,rfl⟩,q⟩) hs
theorem E7 (aJ:List Value)(n j:Nat)(u:Value):Obj.mapSeq (·.setIfInBounds j u) { cls:=.type "list",data:=.seq aJ.toArray n}={ cls:=.type "list",data:=.seq (aJ.set j u).toArray n}:=by
 simp[Obj.mapSeq]
theorem Inv.lst {pins:List (Addr×Obj)}{σ:St}{H:Hp}{s:Shared}{p:Addr}{xs:List V}(I:Inv X pins σ H s)(h:H p=some (.lst xs)):∃ (aJ:List Value) (n:Nat),Vals xs aJ/\s.heap.get? p=some { cls:=.type "list",data:=.seq aJ.toArray n}/\xs.length<=sizeLine:=by
 obtain⟨z,aJ,n,r,e⟩:=I.aR p _ h;exact⟨aJ,n,r,e,z⟩
theorem Inv.T5 {pins:List (Addr×Obj)}{σ:St}{H:Hp}{s:Shared}{p:Addr}{xs ys:List V}{aJ its':List Value}{n n':Nat}{f:Obj->Obj}(I:Inv X pins σ H s)(h:H p=some (.lst xs))(ho:s.heap.get? p=some { cls:=.type "list",data:=.seq aJ.toArray n})(hf:f { cls:=.type "list",data:=.seq aJ.toArray n}={ cls:=.type "list",data:=.seq its'.toArray n'})(r:Vals ys its')(hz:ys.length<=sizeLine)(t:Nat):Inv X pins σ (upd H p (.lst ys)) { s with heap:=s.heap.update p f,toks:=t}:=by
 have e:(s.heap.update p f).get? p=some { cls:=.type "list",data:=.seq its'.toArray n'}:=by
   rw[ab1 f ho (by rw[hf] <;> rfl),hf]
 refine I.write (x:=p) (e:=p) (by rw[h];trivial) (.inl rfl) (fun b u hb q=>(ab7 _ _ (Ne.symm hb)).trans q) ⟨_,e⟩ ?_;exact⟨hz,its',n',r,e⟩
def XG:V->V->V->Hp->(Hp->Prop)->Prop:=fun o i v H Q=>∃ p xs k j,o=.ref p/\i=.int k/\H p=some (.lst xs)/\CN xs.length k=some j/\Q (upd H p (.lst (xs.set j v)))
theorem set_list:Xm X XG:=by
 intro pins s σ H o i v ov iv u Q I ro ri rv h;obtain⟨p,xs,k,j,rfl,rfl,hp,hj,q⟩:=h;cases ro;obtain⟨t,rfl⟩:=ri;obtain⟨aJ,n,r,ho,hz⟩:=I.lst hp;obtain⟨h1,h2,h3,h4⟩:=G6 hj;have hl:=r.length;have hn:=nv;have I':Inv X pins σ (upd H p (.lst (xs.set j v))) { s with heap:=s.heap.update p (Obj.mapSeq (·.setIfInBounds j u))}:=
   I.T5 hp ho (E7 aJ n j u) (r.set rv j) (by rw[acI];exact hz) s.toks
 by_cases h0:0<=k
 . have hk:k.toNat=j:=by
     rw[seqIndex_of h0 h4] at h1;exact Option.some.inj h1
   exact W.ki_setAt ho h0 (by omega) (by rw[aao,<- hl];exact h4) (by rw[hk];exact⟨_,I',q⟩)
 . have hk:(k+(aJ.toArray.size:Int)).toNat=j:=by
     rw[seqIndex_neg (by omega) h3] at h1;rw[aao,<- hl];exact Option.some.inj h1
   exact W.ki_setBack ho (by omega) (by rw[aao,<- hl];exact h3) (by omega) (by rw[hk];exact⟨_,I',q⟩)
theorem AY (lo hi:Option Int)(n:Nat):(sliceBounds lo hi none n).1=((HT.CJ n 0 lo:Nat):Int)/\(sliceBounds lo hi none n).2.1=((HT.CJ n n hi:Nat):Int)/\(sliceBounds lo hi none n).2.2=1:=by
 refine⟨?_,?_,rfl⟩
 . cases lo with
   | none=>simp[sliceBounds,HT.CJ]
   | some i=>
     simp only[sliceBounds,HT.CJ,Option.getD_none,show(1:Int) > 0 by decide,if_true];by_cases h:i < 0
     . simp only[h,if_true] <;> omega
     . simp only[h,if_false] <;> omega
 . cases hi with
   | none=>simp[sliceBounds,HT.CJ]
   | some i=>
     simp only[sliceBounds,HT.CJ,Option.getD_none,show(1:Int) > 0 by decide,if_true];by_cases h:i < 0
     . simp only[h,if_true] <;> omega
     . simp only[h,if_false] <;> omega
theorem zo (aJ:List Value)(lo hi:Option Int):slicePick aJ.toArray lo hi none=((aJ.drop (HT.CJ aJ.length 0 lo)).take (HT.CJ aJ.length aJ.length hi - HT.CJ aJ.length 0 lo)).toArray:=by
 obtain⟨h1,h2,h3⟩:=AY lo hi aJ.toArray.size;unfold slicePick;rw[h1,h2,h3];simp only[sliceRange_one,pick_run,aao] <;> rfl
def abl (K:W.Frag):V->Option Int->Option Int->Hp->VK->Prop:=fun x lo hi H Q=>∃ a xs,x=.ref a/\pL K H a xs/\∀ p,H p=none->Q (.ref p) (upd H p (.lst (IJ xs lo hi)))
theorem Pg:SlR X (abl X.K):=by
 intro pins s σ H x v vl vu lo hi sl Q I rx hs pl pu h;obtain⟨a,xs,rfl,hx,q⟩:=h;cases rx;obtain⟨aJ,r,ht,hz⟩:=I.list hx;have hlen:=r.length;refine⟨"list",_,slot_list_getitem.lookup,ht.isList.typeIs,?_⟩;refine wpAny_getItem_list_slice ht.isList hs pl pu .none (by simp) ?_ (by rw[aao] <;> omega);rw[zo,<- hlen];refine⟨.ref s.heap.objs.size,_,I.laid (t':=s.toks) (o:=.lst (IJ xs lo hi)) (fun b ob q=>aad _ q) (aai _) ?_,rfl,q _ (I.aR.fresh (aai _))⟩;exact⟨aax (CL xs lo hi) hz,_,0,(r.drop (HT.CJ xs.length 0 lo)).take (HT.CJ xs.length xs.length hi - HT.CJ xs.length 0 lo),aaq _ rfl⟩
noncomputable def sI:V->Bool
 | .cz=>true
 | .bl _=>true
 | .int _=>true
 | .str _=>true
 | _=>false
noncomputable def OJ:V->V->Bool
 | .cz,.cz=>true
 | .bl a,.bl b=>a == b
 | .bl a,.int b=>(if a then 1 else 0) == b
 | .int a,.bl b=>a == (if b then 1 else 0)
 | .int a,.int b=>a == b
 | .str a,.str b=>a == b
 | _,_=>false
theorem T6 {A:Around}{s:Shared}{y x:V}{u v:Value}(ry:RelV y u)(rx:RelV x v)(fy:sI y=true)(fx:sI x=true):SeqAt.EqAt A s u v (OJ y x):=by
 cases y with
 | cz=>
   cases ry;cases x with
   | cz=>cases rx;exact SeqAt.EqAt.same _
   | bl b=>cases rx;exact SeqAt.EqAt.none_bool b
   | int b=>obtain⟨t,rfl⟩:=rx;exact SeqAt.EqAt.none_int b t
   | str b=>obtain⟨t,rfl⟩:=rx;exact SeqAt.EqAt.none_str b t
   | _=>exact absurd (show false=true from fx) aav
 | bl a=>
   cases ry;cases x with
   | cz=>cases rx;exact SeqAt.EqAt.bool_none a
   | bl b=>cases rx;exact SeqAt.EqAt.bool_bool a b
   | int b=>obtain⟨t,rfl⟩:=rx;exact SeqAt.EqAt.bool_int a b t
   | str b=>obtain⟨t,rfl⟩:=rx;exact SeqAt.EqAt.bool_str a b t
   | _=>exact absurd (show false=true from fx) aav
 | int a=>
   obtain⟨t',rfl⟩:=ry;cases x with
   | cz=>cases rx;exact SeqAt.EqAt.int_none a t'
   | bl b=>cases rx;exact SeqAt.EqAt.int_bool a t' b
   | int b=>obtain⟨t,rfl⟩:=rx;exact SeqAt.EqAt.int_int a t' b t
   | str b=>obtain⟨t,rfl⟩:=rx;exact SeqAt.EqAt.int_str a t' b t
   | _=>exact absurd (show false=true from fx) aav
 | str a=>
   obtain⟨t',rfl⟩:=ry;cases x with
   | cz=>cases rx;exact SeqAt.EqAt.str_none a t'
   | bl b=>cases rx;exact SeqAt.EqAt.str_bool a t' b
   | int b=>obtain⟨t,rfl⟩:=rx;exact SeqAt.EqAt.str_int a t' b t
   | str b=>obtain⟨t,rfl⟩:=rx;exact SeqAt.EqAt.str_str a t' b t
   | _=>exact absurd (show false=true from fx) aav
 | _=>exact absurd (show false=true from fy) aav
noncomputable def E8 (x:V)(u:Value):Bool:=match u with
 | .none=>OJ .cz x
 | .bool b=>OJ (.bl b) x
 | .int i _=>OJ (.int i) x
 | .str z _=>OJ (.str z) x
 | _=>false
theorem K4 {x y:V}{u:Value}(r:RelV y u)(f:sI y=true):E8 x u=OJ y x:=by
 cases y with
 | cz=>cases r;rfl
 | bl b=>cases r;rfl
 | int i=>obtain⟨t,rfl⟩:=r;rfl
 | str z=>obtain⟨t,rfl⟩:=r;rfl
 | _=>exact absurd (show false=true from f) aav
theorem sJ {x:V}:∀ {xs:List V} {us:List Value},Vals xs us->xs.all sI=true->us.any (E8 x)=xs.any fun y=>OJ y x
 | _,_,.nil,_=>rfl
 | y::xs,u::us,.cons r t,f=>by
   rw[acC,aaE] at f;rw[acn,acn,K4 r f.1,sJ t f.2]
theorem pT {A:Around}{s:Shared}{x:V}{v:Value}(rx:RelV x v)(fx:sI x=true):∀ {xs:List V} {us:List Value},Vals xs us->xs.all sI=true->∀ u∈us,SeqAt.EqAt A s u v (E8 x u)
 | _,_,.nil,_=>fun u hu=>by cases hu
 | y::xs,u::us,.cons r t,f=>fun u' hu=>by
   rw[acC,aaE] at f;rcases aaz.mp hu with rfl | hu
   . rw[K4 r f.1];exact T6 r rx f.1 fx
   . exact pT rx fx t f.2 u' hu
noncomputable def XH (x:V)(xs:List V):Bool:=xs.any fun y=>OJ y x
def rIn (K:W.Frag)(neg:Bool):R2:=fun x y H Q=>∃ p xs,y=.ref p/\(pL K H p xs\/EL K H p xs)/\sI x=true/\xs.all sI=true/\Q (.bl (if neg then !XH x xs else XH x xs)) H
theorem um:qX X (compareOp .In) (rIn X.K false):=by
 intro pins s σ H x y v u Q I rx ry h;obtain⟨p,xs,rfl,hq,fx,fs,q⟩:=h;cases ry;rcases hq with hq | hq
 . obtain⟨aJ,r,pl,hz⟩:=I.list hq
   refine SeqAt.in_listAt (E8 x) pl.isList (fun w hw=>pT rx fx r fs w (by simpa using hw)) ⟨.bl _,H,I,rfl,?_⟩;rw[show aJ.toArray.any (E8 x)=aJ.any (E8 x) by simp,sJ r fs];exact q
 . obtain⟨aJ,r,pl,hz⟩:=I.tuple hq
   refine SeqAt.in_tupleAt (E8 x) pl (fun w hw=>pT rx fx r fs w (by simpa using hw)) ⟨.bl _,H,I,rfl,?_⟩;rw[show aJ.toArray.any (E8 x)=aJ.any (E8 x) by simp,sJ r fs];exact q
theorem sL:qX X (compareOp .NotIn) (rIn X.K true):=by
 intro pins s σ H x y v u Q I rx ry h;obtain⟨p,xs,rfl,hq,fx,fs,q⟩:=h;cases ry;rcases hq with hq | hq
 . obtain⟨aJ,r,pl,hz⟩:=I.list hq
   refine SeqAt.notIn_listAt (E8 x) pl.isList (fun w hw=>pT rx fx r fs w (by simpa using hw)) ⟨.bl _,H,I,rfl,?_⟩;rw[show aJ.toArray.any (E8 x)=aJ.any (E8 x) by simp,sJ r fs];exact q
 . obtain⟨aJ,r,pl,hz⟩:=I.tuple hq
   refine SeqAt.notIn_tupleAt (E8 x) pl (fun w hw=>pT rx fx r fs w (by simpa using hw)) ⟨.bl _,H,I,rfl,?_⟩;rw[show aJ.toArray.any (E8 x)=aJ.any (E8 x) by simp,sJ r fs];exact q
theorem sM:mj X (.builtin "len") (fun xs H Q=>∃ p ys,xs=[.ref p]/\(pL X.K H p ys\/EL X.K H p ys)/\Q (.int ys.length) H):=by
 intro pins s σ H xs us Q I r h;obtain⟨p,ys,rfl,hq,q⟩:=h;obtain⟨u,rfl,rx⟩:=vals1 r;cases rx;have hn:=nv;rcases hq with hq | hq
 . obtain⟨aJ,r',pl,hz⟩:=I.list hq
   have hlen:=r'.length;exact Calls.call_len_list pl.isList (by simp only[aao] <;> omega) ⟨.int ys.length,H,I.tok _,⟨s.toks+1,by rw[aao,hlen]⟩,q⟩
 . obtain⟨aJ,r',pl,hz⟩:=I.tuple hq
   have hlen:=r'.length;exact len_tuple pl (by simp only[aao] <;> omega) ⟨.int ys.length,H,I.tok _,⟨s.toks+1,by rw[aao,hlen]⟩,q⟩
theorem AZ:mj X (.builtin "len") (fun xs H Q=>∃ z,xs=[.str z]/\z.length<=sizeLine/\Q (.int z.length) H):=by
 intro pins s σ H xs us Q I r h;obtain⟨z,rfl,hz,q⟩:=h;obtain⟨u,rfl,t,rfl⟩:=vals1 r;have hn:=nv;exact len_str (by omega) ⟨.int z.length,H,I.tok _,⟨_,rfl⟩,q⟩
theorem A0:mj X (.type "list") (fun xs H Q=>∃ p ys,xs=[.ref p]/\(pL X.K H p ys\/EL X.K H p ys)/\∀ l,H l=none->Q (.ref l) (upd H l (.lst ys))):=by
 intro pins s σ H xs us Q I r h;obtain⟨p,ys,rfl,hq,q⟩:=h;obtain⟨u,rfl,rx⟩:=vals1 r;cases rx;have fin:∀ (aJ:List Value),Vals ys aJ->ys.length<=sizeLine->∀ (h':Heap) (c':Nat),(∀ b o',s.heap.get? b=some o'->h'.get? b=some o') ->
     h'.get? s.heap.objs.size=some { cls:=.type "list",dict:=none,data:=.seq aJ.toArray c',slots:=#[]}->EP X pins σ Q (.ref s.heap.objs.size) { s with heap:=h'}:=fun aJ r' hz h' c' kp e=>
   ⟨.ref s.heap.objs.size,_,I.laid (t':=s.toks) kp (aai _) (show aM X.prog X.w _ h' _ (.lst ys) from⟨hz,aJ,c',r',e⟩),rfl,q _ (I.aR.fresh (aai _))⟩
 rcases hq with hq | hq
 . obtain⟨aJ,r',pl,hz⟩:=I.list hq
   have hlen:=r'.length;obtain⟨o,ho,hc,n,hd⟩:=pl.isList;exact call_list_seq p (.inl rfl) ho hc hd (fun h' c' kp e=>fin aJ r' hz h' c' kp e) (by simp only[aao] <;> omega)
 . obtain⟨aJ,r',pl,hz⟩:=I.tuple hq
   have hlen:=r'.length;obtain⟨o,ho,hc,n,hd⟩:=pl;exact call_list_seq p (.inr rfl) ho hc hd (fun h' c' kp e=>fin aJ r' hz h' c' kp e) (by simp only[aao] <;> omega)
def tyV (K:W.Frag)(T:String)(x:V)(H:Hp):Prop:=match x with
 | .str _=>T="str"
 | .int _=>T="int"
 | .ref p=>(T="list"/\∃ xs,pL K H p xs)\/(T="tuple"/\∃ o,K.lookup p=some o/\o.cls=.type "tuple"/\o.dict=none) \/
     (T="dict"/\((∃ kvs,H p=some (.dK kvs))\/(∃ kvs,H p=some (.dT kvs))\/∃ tg o kvs,H p=some (.kd tg o kvs)))\/(T="set"/\∃ S n,H p=some (.set S n)) \/
     (T="list"/\∃ (a:Addr) (ls:kU) (ns:List Nat) (j:Nat) (f:Nat->List (Key×FD)) (N:Nat),H a=some (.bT ls ns)/\ls[j]?=some (p,f)/\ns[j]?=some N)
 | _=>False
theorem K5 {pins:List (Addr×Obj)}{σ:St}{H:Hp}{s:Shared}{T:String}{x:V}{v:Value}(I:Inv X pins σ H s)(r:RelV x v)(ty:tyV X.K T x H):s.TypeIs v T/\∀ a,v=.ref a->∃ ob,s.heap.get? a=some ob/\ob.dict=none:=by
 cases x with
 | str z=>
   obtain⟨t,rfl⟩:=r;cases (show T="str" from ty);exact⟨typeIs_str s z t,fun _ e=>nomatch e⟩
 | int i=>
   obtain⟨t,rfl⟩:=r;cases (show T="int" from ty);exact⟨typeIs_int s i t,fun _ e=>nomatch e⟩
 | ref p=>
   cases r;rcases ty with⟨rfl,xs,hq⟩ | ⟨rfl,o,hk,hc,hd⟩ | ⟨rfl,hk⟩ | ⟨rfl,S,n,hk⟩ | ⟨rfl,a,ls,ns,j,f,N,h1,h2,h3⟩
   . obtain⟨aJ,_,pl,_⟩:=I.list hq
     refine⟨pl.isList.typeIs,fun a e=>?_⟩;cases e;obtain⟨o,n,e,c,hd,_⟩:=pl;exact⟨o,e,hd⟩
   . refine⟨⟨o,I.ke p o hk,hc⟩,fun a e=>?_⟩
     cases e;exact⟨o,I.ke _ o hk,hd⟩
   . have z:∃ o,s.heap.get? p=some o/\o.ExactDict:=by
       rcases hk with⟨kvs,hk⟩ | ⟨kvs,hk⟩ | ⟨tg,ob,kvs,hk⟩
       . obtain⟨_,_,_,_,o,_,_,e,ex,_⟩:=I.aR p _ hk
         exact⟨o,e,ex⟩
       . obtain⟨_,_,_,_,o,_,_,e,ex,_⟩:=I.aR p _ hk
         exact⟨o,e,ex⟩
       . obtain⟨_,⟨_,_,_,_,o,_,_,e,ex,_⟩,_⟩:=I.aR p _ hk
         exact⟨o,e,ex⟩
     obtain⟨o,e,ex⟩:=z;refine⟨⟨o,e,ex.1⟩,fun a e2=>?_⟩;cases e2;exact⟨o,e,ex.2.1⟩
   . obtain⟨o,_,_,_,e,ex,_⟩:=I.aR p _ hk
     refine⟨⟨o,e,ex.1⟩,fun a e2=>?_⟩;cases e2;exact⟨o,e,ex.2.1⟩
   . obtain⟨_,_,_,_,_,_,h6⟩:=(show aM X.prog X.w H s.heap a (.bT ls ns) from I.aR a _ h1)
     obtain⟨aJ,c,e1,e2,e3⟩:=h6 j p f N h2 h3;refine⟨⟨_,e1,rfl⟩,fun a' e4=>?_⟩;cases e4;exact⟨_,e1,rfl⟩
 | _=>exact False.elim ty
def abm (K:W.Frag)(T:String)(r:V->List V->Hp->VK->Prop)(to:TE):TE:=fun σ H Q=>to σ H fun x H1=>tyV K T x H1/\r x [] H1 Q
def tBM (K:W.Frag)(T:String)(r:V->List V->Hp->VK->Prop)(to:TE)(t:TA):TE:=fun σ H Q=>to σ H fun x H1=>tyV K T x H1/\t σ H1 fun xs H2=>r x xs H2 Q
variable {o e:Expr}{es:List Expr}{to:TE}{t:TA}{name:Str}{apos bf:Pos}{T id:String}{r:V->List V->Hp->VK->Prop}
theorem K6 (pa:PlainAttrs T)(slot:Slot T name id)(K7:typeOf (.builtin id)=pure (.type "method_descriptor"))(hm:WU X id r)(ho:PE X o to)(kI:autoParam (attributeBase o name X.env (eval o X.env)=eval o X.env) jp)(kJ:autoParam ((apos.endLine == bf.line)=true) jp):PE X (.Call (.Attribute o name apos) [] [] bf) (abm X.K T r to):=by
 intro pins s σ H Q I h;refine wpAny_Call_method0_late kI kJ (bZ (ho pins s σ H _ I h) fun v s1 zq=>?_);obtain⟨x,H1,I1,r1,ty,q1⟩:=zq;obtain⟨h1,h2⟩:=K5 I1 r1 ty;exact⟨T,id,pa,slot,K7,h1,h2,Calls.callWith_builtin rfl (PySem.evalArgs_none (hm pins s1 σ H1 x [] v [] Q I1 r1 .nil q1))⟩
theorem xD (pa:PlainAttrs T)(slot:Slot T name id)(K7:typeOf (.builtin id)=pure (.type "method_descriptor"))(hm:WU X id r)(ho:PE X o to)(ha:PA X (e::es) t)
   (kI:autoParam (attributeBase o name X.env (eval o X.env)=eval o X.env) jp)
   (xE:autoParam (((backTo bf (starEach (e::es) X.env)).all (fun x=>!x.1) && (backToKw bf (keywordEach [] X.env)).all (fun x=>x.1.isSome)
     && decide ((e::es).length+([]:List Keyword).length+(if ([]:List Keyword).isEmpty then 0 else 1) < 30))=true) jp)
   (kJ:autoParam ((apos.endLine == bf.line)=true) jp) (hs:autoParam (starEach (e::es) X.env=(false,eval e X.env)::starEach es X.env) jp) (T7:autoParam ((backTo bf (starEach es X.env)).any (·.1)=false) jp) :
   PE X (.Call (.Attribute o name apos) (e::es) [] bf) (tBM X.K T r to t):=by
 intro pins s σ H Q I h;refine wpAny_Call_method_late kI xE kJ rfl (bZ (ho pins s σ H _ I h) fun v s1 zq=>?_);obtain⟨x,H1,I1,r1,ty,q1⟩:=zq;obtain⟨h1,h2⟩:=K5 I1 r1 ty;refine⟨T,id,pa,slot,K7,h1,h2,?_⟩;have hA:=ha bf pins s1 σ H1 _ I1 q1;rw[hs] at hA ⊢;refine Calls.callWith_builtin (by show(false || (backTo bf (starEach es X.env)).any (·.1))=false;rw[T7] <;> rfl) (Calls.evalArgs_plain ?_);exact bZ hA fun us s2 ⟨vs,H2,I2,r2,q2⟩=>hm pins s2 σ H2 x vs v us Q I2 r1 r2 q2
end
def MtM (X:Cx)(id:String)(r:V->List V->Hp->VK->Prop):Prop:=
 ∀ (pins:List (Addr×Obj)) (s:Shared) (σ:St) (H:Hp) (x:V) (xs:List V) (v:Value) (us:List Value) (Q:VK),Inv X pins σ H s->RelV x v->Vals xs us->r x xs H Q ->
   wpAny (model X.prog X.w) X.A (call (.builtin id) (v::us)) (EP X pins σ Q) X.xe s
theorem Vals.one:∀ {x:V} {us:List Value},Vals [x] us->∃ u,us=[u]/\RelV x u
 | _,_,.cons r .nil=>⟨_,rfl,r⟩
theorem Vals.zero:∀ {us:List Value},Vals [] us->us=[]
 | _,.nil=>rfl
theorem Vals.dropLast {xs:List V}{us:List Value}(h:Vals xs us):Vals xs.dropLast us.dropLast:=by
 induction h with
 | nil=>exact .nil
 | cons r t ih=>
   cases t with
   | nil=>exact .nil
   | cons q t'=>exact .cons r ih
theorem Vals.rep {xs:List V}{us:List Value}(h:Vals xs us):∀ k:Nat,Vals (aal k xs).flatten (aal k us).flatten
 | 0=>.nil
 | k+1=>by
   rw[abM,abM,abE,abE];exact Vals.append h (Vals.rep h k)
theorem E9 {α:Type}(l:List α):l.eraseIdx (l.length - 1)=l.dropLast:=by
 induction l with
 | nil=>rfl
 | cons a r ih=>
   cases r with
   | nil=>rfl
   | cons b r=>
     have e:(a::b::r).length - 1=((b::r).length - 1)+1:=by
       have h1:(a::b::r).length=r.length+2:=rfl;have h2:(b::r).length=r.length+1:=rfl;omega
     rw[e,List.eraseIdx_cons_succ,ih]
     all_goals rfl
theorem foldl_rep (aJ:List Value):∀ (k:Nat) (acc:List Value),List.foldl (fun x1 x2=>x1 ++ x2) acc.toArray (aal k aJ.toArray)=(acc ++ (aal k aJ).flatten).toArray
 | 0,acc=>by simp
 | k+1,acc=>by
   have e:acc.toArray ++ aJ.toArray=(acc ++ aJ).toArray:=by simp
   have e2:(acc ++ aJ) ++ (aal k aJ).flatten=acc ++ (aal (k+1) aJ).flatten:=by
     rw[abM,abE,List.append_assoc]
   rw[<- e2,<- foldl_rep aJ k (acc ++ aJ),<- e,abM,List.foldl_cons]
section
variable {X:Cx}{pins:List (Addr×Obj)}{σ:St}{H:Hp}{s:Shared}{l:Addr}{xs ys:List V}
theorem Inv.T8 {aJ its':List Value}{n:Nat}{f:Array Value->Array Value}{t':Nat}(I:Inv X pins σ H s)(hH:H l=some (.lst xs))(e:s.heap.get? l=some { cls:=.type "list",data:=.seq aJ.toArray n})(hf:f aJ.toArray=its'.toArray)(hv:Vals ys its')(hz:ys.length<=sizeLine):Inv X pins σ (upd H l (.lst ys)) { s with heap:=s.heap.update l (Obj.mapSeq f),toks:=t'}:=by
 have q:=PySem.IsL.update e f;rw[hf] at q;refine I.write (x:=l) (e:=l) (by rw[hH];exact trivial) (.inl rfl) (fun b' u hb hu=>(ab7 s.heap (Obj.mapSeq f) (Ne.symm hb)).trans hu) ⟨_,q⟩ ?_;exact⟨hz,its',_,hv,q⟩
theorem Inv.XI {aJ:List Value}{t':Nat}(I:Inv X pins σ H s)(hv:Vals ys aJ)(hz:ys.length<=sizeLine):Inv X pins σ (upd H s.heap.objs.size (.lst ys)) { s with heap:=s.heap.push { cls:=.type "list",data:=.seq aJ.toArray},toks:=t'}:=
 I.laid (fun _ _ q=>aad _ q) (aai _) ⟨hz,aJ,0,hv,aaq _ rfl⟩
theorem Inv.fresh (I:Inv X pins σ H s):H s.heap.objs.size=none:=I.aR.fresh (aai _)
theorem Inv.Fb (I:Inv X pins σ H s)(hH:H l=some (.lst xs)):xs.length<=sizeLine/\∃ (aJ:List Value) (n:Nat),Vals xs aJ/\xs.length=aJ.length/\s.heap.get? l=some { cls:=.type "list",data:=.seq aJ.toArray n}:=by
 obtain⟨z,aJ,n,r,e⟩:=I.aR l _ hH;exact⟨z,aJ,n,r,r.length,e⟩
theorem CO {n:Nat}(h:n<=sizeLine):Builtin.List.listTooLong n=false:=by
 unfold Builtin.List.listTooLong;exact decide_eq_false (by omega)
end
section
variable {X:Cx}
def Ph:V->List V->Hp->VK->Prop:=fun x vs H Q=>∃ l xs y,x=.ref l/\vs=[y]/\H l=some (.lst xs)/\xs.length < sizeLine/\Q .cz (upd H l (.lst (xs ++ [y])))
theorem qw:MtM X "list.append" Ph:=by
 intro pins s σ H x vs v us Q I rx rv h;obtain⟨l,xs,y,rfl,rfl,hH,hz,q⟩:=h;cases rx;obtain⟨u,rfl,ru⟩:=rv.one;obtain⟨z,aJ,n,r,hl,e⟩:=I.Fb hH;refine call_meets F.slot_list_append ⟨_,e,rfl⟩ F.entry_list_append (F.args_list_append_2 _ _) (PySem.list_append l aJ.toArray n u (by rw[aao];omega)) ⟨e,?_⟩;refine⟨.cz,_,I.T8 (its':=aJ ++ [u]) hH e (by simp) (r.append (.cons ru .nil)) ?_,rfl,q⟩;rw[aaw,List.length_singleton];omega
def Pj:V->List V->Hp->VK->Prop:=fun x vs H Q=>∃ l b xs zs,x=.ref l/\vs=[.ref b]/\H l=some (.lst xs)/\H b=some (.lst zs)/\xs.length+zs.length<=sizeLine/\Q .cz (upd H l (.lst (xs ++ zs)))
theorem IK:MtM X "list.extend" Pj:=by
 intro pins s σ H x vs v us Q I rx rv h;obtain⟨l,b,xs,zs,rfl,rfl,hH,hB,hz,q⟩:=h;cases rx;obtain⟨u,rfl,ru⟩:=rv.one;cases ru;obtain⟨z,aJ,n,r,hl,e⟩:=I.Fb hH;obtain⟨z2,Fc,n2,r2,RP,e2⟩:=I.Fb hB;have hsz:aJ.toArray.size+Fc.toArray.size<=sizeLine:=by rw[aao,aao];omega
 have K8:¬ (!aJ.toArray.isEmpty && Builtin.List.listTooLong (aJ.toArray.size+Fc.toArray.size))=true:=by
   rw[CO hsz,Bool.and_false];exact aav
 refine call_meets F.slot_list_extend ⟨_,e,rfl⟩ F.entry_list_extend (F.args_list_extend_2 _ _)
   (AutoSeq1.list_extend_list_list_0 l aJ.toArray n b Fc.toArray n2 K8 (by rw[aao];omega) (by omega)) ⟨e,e2,?_⟩
 refine⟨.cz,_,I.T8 (its':=aJ ++ Fc) hH e (by simp) (r.append r2) ?_,rfl,q⟩;rw[aaw];omega
def abo:V->List V->Hp->VK->Prop:=fun x vs H Q=>∃ l xs y,x=.ref l/\vs=[]/\H l=some (.lst xs)/\xs[xs.length - 1]?=some y/\Q y (upd H l (.lst xs.dropLast))
theorem T9:MtM X "list.pop" abo:=by
 intro pins s σ H x vs v us Q I rx rv h;obtain⟨l,xs,y,rfl,rfl,hH,hy,q⟩:=h;cases rx;have hus:=rv.zero;subst hus;obtain⟨z,aJ,n,r,hl,e⟩:=I.Fb hH;obtain⟨u,hu,ru⟩:=r.get hy;have XJ:aJ.toArray[aJ.toArray.size - 1]?=some u:=by
   show aJ.toArray[aJ.length - 1]?=some u;rw[<- acy,<- hl];exact hu
 refine call_meets F.slot_list_pop ⟨_,e,rfl⟩ F.entry_list_pop (F.args_list_pop_1 _) (MeetsSeq.list_pop_last l aJ.toArray n u XJ (by rw[aao];omega)) ⟨e,?_⟩;refine⟨y,_,I.T8 (its':=aJ.dropLast) hH e ?_ r.dropLast ?_,ru,q⟩
 . show aJ.toArray.eraseIdxIfInBounds (aJ.toArray.size - 1)=aJ.dropLast.toArray
   rw[aao,List.eraseIdxIfInBounds_toArray,E9]
 . rw[ab2]
   omega
def abp:R2:=fun x y H Q=>∃ l b xs zs,x=.ref l/\y=.ref b/\H l=some (.lst xs)/\H b=some (.lst zs)/\xs.length+zs.length<=sizeLine/\∀ p,H p=none->Q (.ref p) (upd H p (.lst (xs ++ zs)))
theorem Ua:qX X (binaryOp .Add) abp:=by
 intro pins s σ H x y v u Q I rx ry h;obtain⟨l,b,xs,zs,rfl,rfl,hH,hB,hz,q⟩:=h;cases rx;cases ry;obtain⟨z,aJ,n,r,hl,e⟩:=I.Fb hH;obtain⟨z2,Fc,n2,r2,RP,e2⟩:=I.Fb hB;refine PySem.P.add_list e e2 ?_ (by rw[aao,aao];omega);have ea:aJ.toArray ++ Fc.toArray=(aJ ++ Fc).toArray:=by simp
 rw[ea];exact⟨.ref _,_,I.XI (t':=s.toks) (r.append r2) (by rw[aaw];omega),rfl,q _ I.fresh⟩
def abq:R2:=fun x y H Q=>∃ l k xs,x=.ref l/\y=.int k/\H l=some (.lst xs)/\-(2 ^ 63)<=k/\k < 2 ^ 63/\xs.length * k.toNat<=sizeLine /\
 ∀ p,H p=none->Q (.ref p) (upd H p (.lst (aal k.toNat xs).flatten))
theorem len_rep {α:Type}(xs:List α)(k:Nat):(aal k xs).flatten.length=k * xs.length:=by
 induction k with
 | zero=>simp
 | succ k ih=>rw[abM,abE,aaw,ih,Nat.succ_mul,Nat.add_comm]
theorem Ub:qX X (binaryOp .Mult) abq:=by
 intro pins s σ H x y v u Q I rx ry h;obtain⟨l,k,xs,rfl,rfl,hH,h1,h2,hz,q⟩:=h;cases rx;obtain⟨t,rfl⟩:=ry;obtain⟨z,aJ,n,r,hl,e⟩:=I.Fb hH;have hlen:aJ.toArray.size * k.toNat<=sizeLine:=by rw[aao,<- hl];exact hz
 have abr:¬ aJ.toArray.size * k.toNat > (2 ^ 63 - 1) / 8:=by
   have:(sizeLine:Nat)<=(2 ^ 63 - 1) / 8:=by decide
   omega
 have xF:¬ (!Builtin.List.listFitsIndex k)=true:=by
   rw[fitsIndex_both h1 h2];exact aav
 have K8:¬ Builtin.List.listTooLong (aJ.toArray.size * k.toNat)=true:=by
   rw[CO hlen];exact aav
 have IL:List.foldl (fun x1 x2=>x1 ++ x2) #[] (aal (if aJ.toArray.isEmpty=true then 0 else k.toNat) aJ.toArray)=(aal k.toNat aJ).flatten.toArray:=by
   have f0:∀ m:Nat,List.foldl (fun x1 x2=>x1 ++ x2) #[] (aal m aJ.toArray)=(aal m aJ).flatten.toArray:=fun m=>by
     have:=foldl_rep aJ m [];rw[List.nil_append] at this;exact this
   rw[f0];cases aJ with
   | nil=>simp
   | cons a r'=>rw[if_neg (by simp)]
 refine wpAny_binaryOp_repeat_ref (T:="list") (U:="int") (by decide) ⟨_,e,rfl⟩ (fun s'=>typeIs_int s' k t) noFill_list_mul F.fills_int_mul F.slot_int_rmul repeat_list F.slot_int_index.lookup
   (call_meets F.slot_int_rmul (typeIs_int s k t) F.entry_int_rmul (F.args_int_rmul_2 _ _) (int___rmul___int_list k t l aJ.toArray n)
     ⟨e,rfl,⟨_,e,rfl⟩,call_meets F.slot_list_mul ⟨_,e,rfl⟩ F.entry_list_mul (F.args_list_mul_2 _ _) (AutoListH.list___mul___list_int_3 l aJ.toArray n k t xF abr K8) ⟨e,?_⟩⟩)
 rw[IL];exact⟨.ref _,_,I.XI (t':=s.toks) (r.rep k.toNat) (by rw[len_rep,Nat.mul_comm];exact hz),rfl,q _ I.fresh⟩
end
section
variable {κ:Type}[DecidableEq κ]
noncomputable def pU (kvs:List (κ×V))(k:κ):Option V:=(kvs.find? fun kv=>decide (kv.1=k)).map (·.2)
noncomputable def putK (kvs:List (κ×V))(k:κ)(v:V):List (κ×V):=
 if (kvs.any fun kv=>decide (kv.1=k))=true then kvs.map (fun kv=>if kv.1=k then (kv.1,v) else kv) else kvs ++ [(k,v)]
theorem pV {p:κ×V}{r:List (κ×V)}{k:κ}(e:p.1=k):pU (p::r) k=some p.2:=by simp[pU,abZ,e]
theorem nM {p:κ×V}{r:List (κ×V)}{k:κ}(e:¬ p.1=k):pU (p::r) k=pU r k:=by simp[pU,abZ,e]
theorem sN (k:κ):∀ kvs:List (κ×V),(kvs.any fun kv=>decide (kv.1=k))=(pU kvs k).isSome
 | []=>rfl
 | p::r=>by
   rw[acn];by_cases e:p.1=k
   . simp only[pV e,decide_eq_true e,Bool.true_or,Option.isSome_some]
   . rw[nM e,decide_eq_false e,Bool.false_or];exact sN k r
theorem vi (kvs:List (κ×V))(k:κ)(v:V):(putK kvs k v).length<=kvs.length+1:=by
 unfold putK
 split
 . rw[aaa];omega
 . rw[aaw,aaL,List.length_nil];omega
theorem qV.uo {o:Option V}{u:Option Value}(r:qV o u):o.isSome=u.isSome:=by
 cases o with
 | none=>cases u with
   | none=>rfl
   | some _=>exact(show False from r).elim
 | some _=>cases u with
   | none=>exact(show False from r).elim
   | some _=>rfl
theorem KV.val {kvs:List (κ×V)}{vs:List (κ×Value)}(r:KV kvs vs)(k:κ):qV (pU kvs k) (valueAt vs k):=by
 unfold KV at r
 induction r with
 | nil=>exact True.intro
 | @cons p q ps qs h t ih=>
   obtain⟨h1,h2⟩:=h;by_cases e:p.1=k
   . have e':q.1=k:=h1.symm.trans e
     have b:valueAt (q::qs) k=some q.2:=by simp[valueAt,abZ,e']
     rw[pV e,b];exact h2
   . have e':¬ q.1=k:=fun z=>e (h1.trans z)
     have b:valueAt (q::qs) k=valueAt qs k:=by simp[valueAt,abZ,e']
     rw[nM e,b];exact ih
theorem KV.any {kvs:List (κ×V)}{vs:List (κ×Value)}(r:KV kvs vs)(k:κ):(kvs.any fun kv=>decide (kv.1=k))=vs.any fun kv=>decide (kv.1=k):=by
 unfold KV at r
 induction r with
 | nil=>rfl
 | cons h t ih=>rw[acn,acn,ih,h.1]
theorem KV.Uc {kvs:List (κ×V)}{vs:List (κ×Value)}(r:KV kvs vs)(k:κ){y:V}{u:Value}(ry:RelV y u):KV (kvs.map fun kv=>if kv.1=k then (kv.1,y) else kv) (vs.map fun kv=>if kv.1=k then (kv.1,u) else kv):=by
 unfold KV at r ⊢
 induction r with
 | nil=>exact .nil
 | @cons p q ps qs h t ih=>
   rw[aas,aas];refine .cons ?_ ih;obtain⟨h1,h2⟩:=h;by_cases e:p.1=k
   . rw[if_pos e,if_pos (h1.symm.trans e)];exact⟨h1,ry⟩
   . rw[if_neg e,if_neg (fun z=>e (h1.trans z))];exact⟨h1,h2⟩
theorem KV.put {kvs:List (κ×V)}{vs:List (κ×Value)}(r:KV kvs vs)(k:κ){y:V}{u:Value}(ry:RelV y u):KV (putK kvs k y) (stored vs k u):=by
 unfold putK stored;rw[r.any k];by_cases e:(vs.any fun kv=>decide (kv.1=k))=true
 . rw[if_pos e,if_pos e];exact r.Uc k ry
 . rw[if_neg e,if_neg e];exact Paired.snoc r ⟨rfl,ry⟩
theorem KV.length {kvs:List (κ×V)}{vs:List (κ×Value)}(r:KV kvs vs):kvs.length=vs.length:=Paired.length r
end
theorem CP {P:Program}{w:World}{k:Key}{u:Value}(r:RelV (kV k) u):(dj P w).is k u=true:=by
 cases k with
 | inl i=>obtain⟨t,e⟩:=(show ∃ t,u=Value.int i t from r);subst e;exact Cu P w i t
 | inr x=>obtain⟨t,e⟩:=(show ∃ t,u=Value.str x t from r);subst e;exact Cv P w x t
theorem Ag {P:Program}{w:World}:∀ {ks:List Key} {us:List Value},Vals (ks.map kV) us->ItemsAre (dj P w) ks us
 | [],_,r=>by rw[List.map_nil] at r;cases r;exact .nil
 | k::ks,_,r=>by
   rw[aas] at r;cases r with
   | cons h t=>exact .cons (CP h) (Ag t)
abbrev KT (H:Hp):List (List Key×V)->List (List Key×Addr×Value)->Prop:=Paired fun p q=>p.1=q.1/\H q.2.1=some (.tup (p.1.map kV))/\RelV p.2 q.2.2
theorem KT.val {H:Hp}{kvs:List (List Key×V)}{xs:List (List Key×Addr×Value)}(r:KT H kvs xs)(k:List Key):qV (pU kvs k) ((atKey xs k).map (·.2)):=by
 induction r with
 | nil=>exact True.intro
 | @cons p q ps qs h t ih=>
   obtain⟨h1,_,h2⟩:=h;by_cases e:p.1=k
   . have e':q.1=k:=h1.symm.trans e
     have b:atKey (q::qs) k=some q.2:=by simp[atKey,abZ,e']
     rw[pV e,b];exact h2
   . have e':¬ q.1=k:=fun z=>e (h1.trans z)
     have b:atKey (q::qs) k=atKey qs k:=by simp[atKey,abZ,e']
     rw[nM e,b];exact ih
theorem KT.Uc {H:Hp}{kvs:List (List Key×V)}{xs:List (List Key×Addr×Value)}(r:KT H kvs xs)(k:List Key){y:V}{u:Value}(ry:RelV y u):KT H (kvs.map fun kv=>if kv.1=k then (kv.1,y) else kv) (xs.map (putAt k u)):=by
 induction r with
 | nil=>exact .nil
 | @cons p q ps qs h t ih=>
   rw[aas,aas];refine .cons ?_ ih;obtain⟨h1,h2,h3⟩:=h;unfold putAt;by_cases e:p.1=k
   . rw[if_pos e,if_pos (h1.symm.trans e)];exact⟨h1,h2,ry⟩
   . rw[if_neg e,if_neg (fun z=>e (h1.trans z))];exact⟨h1,h2,h3⟩
theorem KT.put {H:Hp}{kvs:List (List Key×V)}{xs:List (List Key×Addr×Value)}(r:KT H kvs xs)(k:List Key){b:Addr}{y:V}{u:Value}(hb:H b=some (.tup (k.map kV)))(ry:RelV y u):KT H (putK kvs k y) (storedH xs k b u):=by
 have e:(kvs.any fun kv=>decide (kv.1=k))=(atKey xs k).isSome:=by
   rw[sN,(r.val k).uo,Option.isSome_map]
 unfold putK storedH;rw[e];by_cases q:(atKey xs k).isSome=true
 . rw[if_pos q,if_pos q];exact r.Uc k ry
 . rw[if_neg q,if_neg q];exact Paired.snoc r ⟨rfl,hb,ry⟩
theorem KT.keeps {H H':Hp}{kvs:List (List Key×V)}{xs:List (List Key×Addr×Value)}(r:KT H kvs xs)(ht:∀ b ys,H b=some (.tup ys)->H' b=some (.tup ys)):KT H' kvs xs:=
 Paired.Tg r fun _ _ z=>⟨z.1,ht _ _ z.2.1,z.2.2⟩
section
variable {P:Program}{w:World}{H:Hp}{h:Heap}{a:Addr}
theorem RS {u:HO}(ok:pJ P w H h)(e:Rd H a u):aM P w H h a u:=e.ok ok
theorem vj {kvs:List (Key×V)}(ok:pJ P w H h)(e:Rd H a (.dK kvs)):kvs.length<=sizeLine/\(a == sysModules)=false/\∃ vs,KV kvs vs/\h.DictOf (dj P w) a vs:=
 show aM P w H h a (.dK kvs) from RS ok e
theorem RT {kvs:List (Key×V)}(ok:pJ P w H h)(e:H a=some (.dK kvs)):kvs.length<=sizeLine/\(a == sysModules)=false/\∃ vs,KV kvs vs/\h.DictOf (dj P w) a vs:=vj ok (.inl e)
theorem A1 {ks:List Key}(ok:pJ P w H h)(e:H a=some (.tup (ks.map kV))):(tupleKind (dj P w)).is h ks a:=by
 obtain⟨_,aJ,r,o,h1,h2,n,h3⟩:=(show aM P w H h a (.tup (ks.map kV)) from ok a _ e)
 exact⟨o,aJ.toArray,n,h1,h2,h3,by simpa using Ag r⟩
theorem G7 {kvs:List (List Key×V)}(ok:pJ P w H h)(e:Rd H a (.dT kvs)):kvs.length<=sizeLine/\(a == sysModules)=false/\∃ xs,KT H kvs xs/\h.DictOfH (tupleKind (dj P w)) a xs:=by
 obtain⟨z,y,xs,r,o,es,ep,h1,h2,h3,h4,h5⟩:=(show aM P w H h a (.dT kvs) from RS ok e)
 refine⟨z,y,xs,r,o,es,ep,h1,h2,h3,h4,fun x hx=>?_,h5⟩;have all:∀ {l:List (List Key×V)} {m:List (List Key×Addr×Value)},KT H l m->∀ x∈m,(tupleKind (dj P w)).is h x.1 x.2.1:=by
   intro l m q
   induction q with
   | nil=>intro x hx;exact nomatch hx
   | @cons p q ps qs hq t ih=>
     intro x hx;rcases aaz.mp hx with e | hx
     . subst e
       exact A1 ok (by rw[<- hq.1];exact hq.2.1)
     . exact ih x hx
 exact all r x hx
theorem XM {kvs:List (List Key×V)}(ok:pJ P w H h)(e:H a=some (.dT kvs)):kvs.length<=sizeLine/\(a == sysModules)=false/\∃ xs,KT H kvs xs/\h.DictOfH (tupleKind (dj P w)) a xs:=G7 ok (.inl e)
end
def vE (H:Hp)(a:Addr)(y:V)(r:Option V):Prop:=
 (∃ kvs k,Rd H a (.dK kvs)/\y=kV k/\r=pU kvs k)\/∃ kvs k b,Rd H a (.dT kvs)/\y=.ref b/\H b=some (.tup (k.map kV))/\r=pU kvs k
def IM (H:Hp)(a:Addr)(y v:V)(H':Hp):Prop:=
 (∃ kvs k,H a=some (.dK kvs)/\y=kV k/\kvs.length < sizeLine/\H'=upd H a (.dK (putK kvs k v))) \/
 ∃ kvs k b,H a=some (.dT kvs)/\y=.ref b/\H b=some (.tup (k.map kV))/\kvs.length < sizeLine/\H'=upd H a (.dT (putK kvs k v))
theorem vE.k {H:Hp}{a:Addr}{kvs:List (Key×V)}{k:Key}(e:H a=some (.dK kvs)):vE H a (kV k) (pU kvs k):=.inl ⟨kvs,k,.inl e,rfl,rfl⟩
theorem IM.k {H:Hp}{a:Addr}{kvs:List (Key×V)}{k:Key}{v:V}(e:H a=some (.dK kvs))(hl:kvs.length < sizeLine):IM H a (kV k) v (upd H a (.dK (putK kvs k v))):=.inl ⟨kvs,k,e,rfl,hl,rfl⟩
section
variable {X:Cx}{pins:List (Addr×Obj)}{σ:St}{H:Hp}{s:Shared}{a:Addr}{y v:V}{u r:Value}{o:Option V}{A:Around}{E:Value->Shared->Prop}
theorem Inv.big (I:Inv X pins σ H s):sysModules < s.heap.objs.size:=by
 have h:mainGlobals < s.heap.objs.size:=(I.mod.glob.keeps I.bk).lt;exact Nat.lt_trans (by decide) h
theorem IP {Q:Value->Shared->Prop}(hu:A.units+1 < cLine)(I:Inv X pins σ H s)(g:vE H a y (some v))(ry:RelV y u)(h:∀ w' s',Inv X pins σ H s'->RelV v w'->Q w' s'):wpAny (model X.prog X.w) A (getItem (.ref a) u) Q E s:=by
 rcases g with⟨kvs,k,e,ey,l⟩ | ⟨kvs,k,b,e,ey,eb,l⟩
 . subst ey
   obtain⟨z,hd,vs,rel,dd⟩:=vj I.aR e;obtain⟨w',hw,Pe⟩:=qV.some_of (v:=v) (o:=valueAt vs k) (by rw[l];exact rel.val k);exact wpAny_getItem_of (CP ry) dd.mapOf hw (h w' _ (I.tok _) Pe)
 . subst ey
   cases (show u=Value.ref b from ry);obtain⟨z,hd,xs,rel,dd⟩:=G7 I.aR e;obtain⟨w',hw,Pe⟩:=qV.some_of (v:=v) (o:=(atKey xs k).map (·.2)) (by rw[l];exact rel.val k);obtain⟨p,hp,A2⟩:=ab8.mp hw;refine wpAny_getItem_heap (tupleKind_room_in1 hu) (A1 I.aR eb) dd hp ?_;rw[A2];exact h w' _ (I.tok _) Pe
theorem Pk {Q:Value->Shared->Prop}(hu:A.units+1 < cLine)(I:Inv X pins σ H s)(g:vE H a y o)(ry:RelV y u)(h:∀ s',Inv X pins σ H s'->Q (.bool (!o.isSome)) s'):wpAny (model X.prog X.w) A (compareOp .NotIn u (.ref a)) Q E s:=by
 rcases g with⟨kvs,k,e,ey,l⟩ | ⟨kvs,k,b,e,ey,eb,l⟩
 . subst ey
   obtain⟨z,hd,vs,rel,dd⟩:=vj I.aR e;refine wpAny_notIn_of (CP ry) hd dd.mapOf ?_;rw[<- (rel.val k).uo,<- l];exact h _ (I.tok _)
 . subst ey
   cases (show u=Value.ref b from ry);obtain⟨z,hd,xs,rel,dd⟩:=G7 I.aR e;refine wpAny_notIn_heap (tupleKind_room_in1 hu) (A1 I.aR eb) hd dd ?_;have q:=(rel.val k).uo;rw[Option.isSome_map] at q;rw[<- q,<- l];exact h _ (I.tok _)
theorem oB {h':Heap}{t':Nat}{ob:HO}(I:Inv X pins σ H s)(mu:WO (H a))(hs:ab5 a s.heap h')(he:∃ q,h'.get? a=some q)(new:aM X.prog X.w (upd H a ob) h' a ob):Inv X pins σ (upd H a ob) { s with heap:=h',toks:=t'}:=
 I.write (x:=a) (e:=a) mu (.inl rfl) (fun b q hb z=>(hs.2 b hb).trans z) he new
theorem K9 {P:Program}{w:World}{H':Hp}{h':Heap}{kvs:List (Key×V)}{vs:List (Key×Value)}(z:kvs.length<=sizeLine)(hd:(a == sysModules)=false)(rel:KV kvs vs)(dd:h'.DictOf (dj P w) a vs):aM P w H' h' a (.dK kvs):=⟨z,hd,vs,rel,dd⟩
theorem IQ {H':Hp}{Q:Unit->Shared->Prop}(hu:A.units+1 < cLine)(I:Inv X pins σ H s)(g:IM H a y v H')(ry:RelV y u)(rv:RelV v r)(h:∀ s',Inv X pins σ H' s'->Q () s'):wpAny (model X.prog X.w) A (setItem (.ref a) u r) Q E s:=by
 rcases g with⟨kvs,k,e,ey,l,eH⟩ | ⟨kvs,k,b,e,ey,eb,l,eH⟩
 . subst ey eH
   obtain⟨z,hd,vs,rel,dd⟩:=RT I.aR e;have hz:vs.length<=sizeLine:=by rw[<- rel.length];exact z
   have hl:(putK kvs k v).length<=sizeLine:=by have:=vi kvs k v;omega
   refine wpAny_setItem_pairs (hsz:=hz) (CP ry) dd fun h' Ud hs=>h _ ?_
   have he:∃ q,h'.get? a=some q:=let ⟨q,_,_,hq,_⟩:=Ud;⟨q,hq⟩;exact oB I (by rw[e];exact True.intro) hs he (K9 hl hd (rel.put k rv) Ud)
 . subst ey eH
   cases (show u=Value.ref b from ry);obtain⟨z,hd,xs,rel,dd⟩:=XM I.aR e;have hz:xs.length<=sizeLine:=by rw[<- Paired.length rel];exact z
   have hl:(putK kvs k v).length<=sizeLine:=by have:=vi kvs k v;omega
   refine wpAny_setItem_heap (hsz:=hz) (tupleKind_room_in1 hu) (A1 I.aR eb) dd fun h' Ud hs=>h _ ?_
   obtain⟨q,es,ep,hq,h2,h3,h4,_,h5⟩:=Ud;refine oB I (by rw[e];exact True.intro) hs ⟨q,hq⟩ ⟨hl,hd,_,(rel.put k eb rv).keeps fun c ys ec=>?_,q,es,ep,hq,h2,h3,h4,h5⟩;rw[ag (Xe ec e (fun z=>nomatch z))];exact ec
end
def Pl (i:Expr):Prop:=∀ ov iv,subscripted i false ov iv=operate [ov,iv] (getItem ov iv)
theorem Pm {prog:Program}{w:World}{A:Around}{E:Value->Shared->Prop}{s:Shared}{env:Env}{value slice:Expr}{pos:Pos}{T id:String}{Q:Value->Shared->Prop}(hl:typeLookup (.type T) "__getitem__"=pure (some (.builtin id)))(hs:Pl slice)(h:wpAny (model prog w) A (eval value env) (fun o s₁=>wpAny (model prog w) A (eval slice env) (fun i s₂=>s₂.TypeIs o T/\wpAny (model prog w) A (getItem o i) Q E s₂) E s₁) E s):wpAny (model prog w) A (eval (.Subscript value slice pos) env) Q E s:=by
 refine Subscript_ (wpAny_mono h (fun o s₁ h₁=>wpAny_mono h₁ (fun i s₂ h₂=>?_) fun _ _ x=>x) fun _ _ x=>x);obtain⟨hT,h₂⟩:=h₂;unfold subscriptTail;refine wpAny_bind ?_;rw[getitemInPython_of_ne hT.not_modules];refine wpAny_bind (wpAny_specialOf hT hl ?_);have fin:wpAny (model prog w) A (subscripted slice false o i) (fun r s₃=>wpAny (model prog w) A (letTemporaryGo value o r >>= fun _=>pure r) Q E s₃) E s₂:=by
   rw[hs o i];exact wpAny_operating (wpAny_mono h₂ (fun r s₃ h₃=>wpAny_bind (wpAny_letTemporaryGo (wpAny_pure h₃))) fun _ _ x=>x)
 first
   | exact wpAny_pure (wpAny_bind fin)
   | exact wpAny_bind (wpAny_pure (wpAny_bind fin))
   | exact wpAny_bind fin
theorem CQ {X:Cx}{pins:List (Addr×Obj)}{σ:St}{H:Hp}{s:Shared}{a:Addr}{y:V}{o:Option V}(I:Inv X pins σ H s)(g:vE H a y o):s.TypeIs (.ref a) "dict":=by
 rcases g with⟨kvs,k,e,_,_⟩ | ⟨kvs,k,b,e,_,_,_⟩
 . obtain⟨_,_,vs,_,dd⟩:=vj I.aR e
   exact dd.typeIs
 . obtain⟨_,_,xs,_,dd⟩:=G7 I.aR e
   exact dd.typeIs
def XO (td ty:TE):TE:=fun σ H Q=>td σ H fun x H1=>ty σ H1 fun y H2=>∃ a v,x=.ref a/\vE H2 a y (some v)/\Q v H2
def abt (ty td:TE):TE:=fun σ H Q=>ty σ H fun y H1=>td σ H1 fun x H2=>∃ a o,x=.ref a/\vE H2 a y o/\Q (.bl o.isSome) H2
def G8 (ty td:TE):TE:=fun σ H Q=>ty σ H fun y H1=>td σ H1 fun x H2=>∃ a o,x=.ref a/\vE H2 a y o/\Q (.bl (!o.isSome)) H2
def XQ (td ty tv:TE):TS:=fun D σ H=>tv σ H fun v H1=>td σ H1 fun x H2=>ty σ H2 fun y H3=>∃ a H4,x=.ref a/\IM H3 a y v H4/\D.nx σ H4
section
variable {X:Cx}{o i value:Expr}{pos pos':Pos}{td ty tv:TE}
theorem G9 (hu:X.A.units+1 < cLine)(ho:PE X o td)(hi:PE X i ty)(hs:Pl i):PE X (.Subscript o i pos) (XO td ty):=by
 intro pins s σ H Q I h;refine Pm PySem.F.slot_dict_getitem.lookup hs (bZ (ho pins s σ H _ I h) fun u s1 ⟨x,H1,I1,rx,q1⟩=>bZ (hi pins s1 σ H1 _ I1 q1) fun iv s2 zq=>?_);obtain⟨y,H2,I2,ry,a,v,ex,g,q2⟩:=zq;subst ex;obtain rfl:u=Value.ref a:=rx;exact⟨CQ I2 g,IP hu I2 g ry fun w' s3 I3 Pe=>⟨v,H2,I3,Pe,q2⟩⟩
theorem Ah (hu:X.A.units+1 < cLine)(hi:PE X i ty)(ho:PE X o td):PC X .NotIn i o (G8 ty td):=by
 intro pins s σ H Q I h;refine bZ (hi pins s σ H _ I h) fun iv s1 ⟨y,H1,I1,ry,q1⟩=>bZ (ho pins s1 σ H1 _ I1 q1) fun u s2 zq=>?_;obtain⟨x,H2,I2,rx,a,ov,ex,g,q2⟩:=zq
 subst ex;obtain rfl:u=Value.ref a:=rx;exact Pk hu I2 g ry fun s3 I3=>⟨.bl (!ov.isSome),H2,I3,rfl,q2⟩
theorem Hc (hu:X.A.units+1 < cLine)(ho:PE X o td)(hi:PE X i ty)(hv:PE X value tv)(hs:swapsWith value (some (.Subscript o i pos')) pos.line X.env=pure false):PS X (.Assign [.Subscript o i pos'] value pos) (XQ td ty tv):=by
 intro pins s σ H D I h;refine wpAny_Assign_Subscript (bZ (hv pins s σ H _ I h) fun r s1 ⟨v,H1,I1,rv,q1⟩=>bZ (ho pins s1 σ H1 _ I1 q1) fun u s2 ⟨x,H2,I2,rx,q2⟩=>bZ (hi pins s2 σ H2 _ I2 q2) fun iv s3 zq=>?_) hs;obtain⟨y,H3,I3,ry,a,H4,ex,g,q3⟩:=zq;subst ex;obtain rfl:u=Value.ref a:=rx;exact IQ hu I3 g ry rv fun s4 I4=>⟨σ,H4,I4,q3⟩
end
theorem CS {P:Program}{w:World}{H:Hp}(h:Heap)(hb:sysModules < h.objs.size):aM P w H (h.push { cls:=.type "dict",data:=.dict #[]}) h.objs.size (.dK []):=
 ⟨abh _,beq_eq_false_iff_ne.mpr (Ne.symm (aap hb)),[],.nil,Heap.DictOf.new h⟩
def Ue:TE:=fun _ H Q=>∀ p,H p=none->Q (.ref p) (upd H p (.dK []))
section
variable {X:Cx}{pos:Pos}
theorem CT:PE X (.Dict [] [] pos) Ue:=fun pins s σ H Q I h=>
 wpAny_Dict_empty ⟨.ref s.heap.objs.size,_,I.laid (a:=s.heap.objs.size) (o:=.dK []) (t':=s.toks) (fun _ _ q=>aad _ q) (aai _) (CS s.heap I.big),rfl,h _ (I.aR.fresh (aai _))⟩
end
structure M1 (X:Cx)(o:Expr)(m:Str)(apos:Pos)(e:Expr)(bf:Pos):Prop where
 base:attributeBase o m X.env (eval o X.env)=eval o X.env
 few:((backTo bf (starEach [e] X.env)).all (fun x=>!x.1) && (backToKw bf (keywordEach [] X.env)).all (fun x=>x.1.isSome)
   && decide (([e]:List Expr).length+([]:List Keyword).length+(if ([]:List Keyword).isEmpty then 0 else 1) < 30))=true
 line:(apos.endLine == bf.line)=true
 trees:backTo bf (starEach [e] X.env)=[(false,eval e X.env)]
structure M2 (X:Cx)(o:Expr)(m:Str)(apos:Pos)(e f:Expr)(bf:Pos):Prop where
 base:attributeBase o m X.env (eval o X.env)=eval o X.env
 few:((backTo bf (starEach [e,f] X.env)).all (fun x=>!x.1) && (backToKw bf (keywordEach [] X.env)).all (fun x=>x.1.isSome)
   && decide (([e,f]:List Expr).length+([]:List Keyword).length+(if ([]:List Keyword).isEmpty then 0 else 1) < 30))=true
 line:(apos.endLine == bf.line)=true
 trees:backTo bf (starEach [e,f] X.env)=[(false,eval e X.env),(false,eval f X.env)]
end L2
namespace Att
open PySem PySem.W PySem.Calls PyProof.Rows
theorem vF {P:Params}{h:Heap}:∀ (ns:List Int) (vs:List Value),WellAll P h vs (ns.map WData.int)->IntsAre vs ns:=by
 intro ns
 induction ns with
 | nil=>
   intro vs w;rw[List.map_nil] at w;cases w;exact .nil
 | cons n ns ih=>
   intro vs w;rw[aas] at w;cases w with
   | cons a b=>
     cases a;exact .cons _ _ (ih _ b)
theorem IS {l:OpenLaw}{n:Nat}(hn:l.most=some n){P:Params}{h:Heap}{args:List WData}{vals:List Value}(Pn:l.row.toRowW.claim.pre args=true)(Ug:WellAll P h vals args):∃ a vs ns,vals=[Value.ref a]/\args=[WData.list (ns.map WData.int)]/\h.get? a=some { cls:=.type "list",data:=.seq vs.toArray}/\IntsAre vs ns/\ns.length<=n:=by
 have hsh:WShape.hasAll [] args [.list .int]=true:=(pre_splitW Pn).1;have hc:l.pre.holds [] { args:=args}=true:=(pre_splitW Pn).2;obtain⟨d,r,rfl,h1,h2⟩:=hasAllW_cons hsh;obtain rfl:=hasAllW_nil h2;obtain⟨xs,rfl,h3⟩:=hasW_list h1;obtain⟨ns,rfl⟩:=items_int h3;have hlen:ns.length<=n:=by
   unfold OpenLaw.pre at hc;have h4:(WTm.not (.lt (.lit (.int (n:Int))) (.len (.arg 0)))).holds [] { args:=[.list (ns.map .int)]}=true:=by
     have h4:=(holds_andW hc).1;rw[hn] at h4;exact h4
   have h5:=condW_of h4 (w_not (w_lt w_lit (w_len_list (w_arg rfl))));rw[aaa] at h5;refine acz fun q=>?_
   have q':(n:Int) < ((ns.length:Nat):Int):=by omega
   first
     | (rw[decide_eq_true q'] at h5;exact absurd h5 (by decide))
     | (simp at h5;omega)
 cases Ug with
 | cons w1 w2=>
   cases w2;cases w1 with
   | list ho abu=>exact⟨_,_,ns,rfl,rfl,ho,vF ns _ abu,hlen⟩
theorem IT (l:OpenLaw)(args:List WData):l.row.toRowW.claim.post args (.bool true) args=true:=
 postW_of (r:=l.row.toRowW) (X:=(true == true))
   (show WShape.has [] (.bool true) .bool=true by first | rfl | decide | simp[WShape.has,WShape.arms,WShape.armsAll])
   (show(WTm.eq .res (.lit (.bool true))).value [] { args:=args,res:=some (.bool true),after:=args}=some (.bool (true == true)) from w_eq_bool (w_res rfl) w_lit) rfl
theorem CU {l:OpenLaw}{n:Nat}{q:Program}{loose:List Str}{XP:(Str->Option Value)->Heap->Prop}{YP:World->Heap->Prop}{d:DefRec}(hn:l.most=some n)(XR:d.params.defaults=[])(call:∀ (w:World) (s₀ s₁:Shared) (mg mb:Str->Option Value) (fa:Addr) (o:Obj) (pm cd doc:Value) (a:Addr) (vs:List Value) (ns:List Int),Ground q loose [] XP w s₀ mg mb s₁.heap->YP w s₁.heap->s₁.heap.get? fa=some o->o.data=.func (docDef d.name d.params d.body d.scope pm cd doc)->s₁.heap.CodeRec cd d.name->mg d.name=some (.ref fa)->s₁.heap.get? a=some { cls:=.type "list",data:=.seq vs.toArray}->IntsAre vs ns->ns.length<=n->s₁.gens=#[]->codeAny (model l.prog w) callerA (.call (.ref fa) ⟨[.ref a],[]⟩) (fun r s'=>r=.ok (.ret (.bool true))/\OldK s₁.heap s'.heap/\s'.os=s₁.os/\AllBare s'.gens) s₁):WalkO q loose XP YP l.row.toRowW d [] (fun f vs=>PySem.call f vs):=by
 intro w s₀ s₁ mg mb G Y fa o pm cd doc dV kV ho hd mh hD XS hg args vals as Pn afo RU Ug hlo;obtain rfl:dV=.none:=Dflts.none hD XR;obtain rfl:kV=.none:=Dflts.noKw hD;obtain⟨a,vs,ns,rfl,rfl,Uh,hints,hlen⟩:=IS hn Pn Ug;refine enter_call (codeAny_mono (call w s₀ s₁ mg mb fa o pm cd doc a vs ns G Y ho (fd_plain hd) mh XS Uh hints hlen hg) fun r s' hq=>?_);obtain⟨rfl,h2,h3,h4⟩:=hq;exact⟨.inl ⟨.bool true,.bool true,[],rfl,fun _=>rfl,.bool true,IT l _,fun _=>⟨List.Pairwise.nil,fun _ hm=>(nomatch hm)⟩⟩,h2,h3,h4⟩
end Att
namespace L2
open PySem PySem.Spec PyProof.Rows
theorem qx:∀ {vs:List Value} {ns:List Int},IntsAre vs ns->Vals (ns.map V.int) vs
 | _,_,.nil=>.nil
 | _,_,.cons n t h=>.cons ⟨t,rfl⟩ (qx h)
def Po (H:Hp):Prop:=∀ b,H b=none\/∃ o xs,H b=some (.bJ o (.lst xs))
theorem La {P:Program}{w:World}{K:W.Frag}{mg mb:Str->Option Value}{CX:qu}{k:Nat}{fa a:Addr}{fd:FuncData}{x:Str}{sp:Sp}{s₁:Shared}{vs:List Value}{ns:List Int}(KX:K.In s₁.heap)(Kn:s₁.heap.Ns mainGlobals mg)(hb:s₁.heap.Ns builtinsNs mb)(hbb:∀ x:Str,x≠"__name__"->mb x=bootBuiltins x)(abv:s₁.heap.NoLimit)(hg:s₁.gens=#[])(ha:s₁.heap.get? a=some { cls:=.type "list",data:=.seq vs.toArray})(hi:IntsAre vs ns)(hl:ns.length<=sizeLine)(hr:dk k callerA)(F:∀ base:Heap,K.In base->base.Ns mainGlobals mg->jh P w K mg base CX k fa fd [x] sp)(XT:∀ (s:Shared) (u:Value),BindsTo s fd ⟨[u],[]⟩ [(x,u)])(RO:∀ H:Hp,Po H->pL K H a (ns.map V.int)->sp [.ref a] H (fun v _=>v=.bl true) fun _ _ _=>False)(XU:∀ H e s',CX [] H s₁ (fun _ _ _=>False) e s'->False):codeAny (model P w) callerA (.call (.ref fa) ⟨[.ref a],[]⟩) (fun r s'=>r=.ok (.ret (.bool true))/\OldK s₁.heap s'.heap/\s'.os=s₁.os/\AllBare s'.gens) s₁:=by
 have rv:=qx hi;have abw:=hi.length;have core:∀ H:Hp,Po H->pL K H a (ns.map V.int)->pJ P w H s₁.heap->(∀ b,H b≠none->b=a)->(H a≠none->K.lookup a=none) ->
     codeAny (model P w) callerA (.call (.ref fa) ⟨[.ref a],[]⟩) (fun r s'=>r=.ok (.ret (.bool true))/\OldK s₁.heap s'.heap/\s'.os=s₁.os/\AllBare s'.gens) s₁:=by
   intro H hO hS aR hA hK;have Hd:∀ {b:Addr} {o:Obj},s₁.heap.get? b=some o->H b=none->(AL s₁.heap H).get? b=some o:=fun e n=>KC e n
   have XC:∀ {b:Addr} {o:Obj} {es:Array DictEntry} {ep:Nat},s₁.heap.get? b=some o->o.data=.dict es ep->H b=none:=fun {b o es ep} e d=>by
     cases q:H b with
     | none=>rfl
     | some u=>
       have e':b=a:=hA b (by rw[q];simp);subst e';rw[ha] at e;cases e;have d':Data.seq vs.toArray _=Data.dict es ep:=d;cases d'
   have nsK:∀ {b:Addr} {m:Str->Option Value},s₁.heap.Ns b m->(AL s₁.heap H).Ns b m:=fun {b m} ⟨o,es,ep,e,d,r⟩=>⟨o,es,ep,Hd e (XC e d),d,r⟩
   have hKb:K.In (AL s₁.heap H):=fun b o e=>Hd (KX b o e) (by
     cases q:H b with
     | none=>rfl
     | some u=>
       have e':b=a:=hA b (by rw[q];simp);subst e';rw[hK (by rw[q];simp)] at e;cases e)
   have hM:Mod K mg (AL s₁.heap H):=⟨hKb,nsK Kn,⟨mb,nsK hb,hbb⟩,let ⟨mc,h1,h2⟩:=abv;⟨mc,nsK h1,h2⟩⟩
   have e0:CF P w K mg (AL s₁.heap H) callerA [] s₁ H:=⟨rfl,hM,fun b o e=>OY e,Nat.le_of_eq (IA _ _),trivial,fun b hb=>absurd (show b∈([]:List Addr) from hb) (by simp),aR,.of_eq hg⟩
   refine codeAny_mono ((F _ hKb (nsK Kn)).run callerA [] s₁ H ⟨[.ref a],[]⟩ [.ref a] [.ref a] _ _ hr e0 (XT s₁ (.ref a)) (.cons rfl .nil) (RO H hO hS)) fun r s' h=>?_
   cases r with
   | error e=>exact(XU H e s' h).elim
   | ok fl=>
     cases fl with
     | next=>exact False.elim h
     | brk=>exact False.elim h
     | cont=>exact False.elim h
     | ret u=>
       obtain⟨v,H',os,bare,un,abx,r',q⟩:=h;have q':v=.bl true:=q;subst q';obtain rfl:u=Value.bool true:=r';refine⟨rfl,OldK.of_keep fun b o e=>?_,os,bare⟩;cases q:H b with
       | none=>exact un.keep b o e q (by intro z;exact absurd (show b∈([]:List Addr) from z) (by simp)) (by simp)
       | some u=>
         rcases hO b with z | ⟨ob,xs,z⟩
         . rw[q] at z;cases z
         . have z2:=un.sG b ob _ z
           obtain⟨e1,_⟩:=aR b _ z;obtain⟨e2,_⟩:=abx b _ z2;rw[e] at e1;cases e1;exact e2
 cases hk:K.lookup a with
 | some o=>
   have e:=KX a o hk;rw[ha] at e;cases e;refine core (fun _=>none) (fun _=>.inl rfl) (.inr ⟨_,vs.toArray,_,hk,rfl,rfl,rfl,by rw[aao,abw];exact hl,by simpa using rv⟩) (fun b u z=>by have z':(none:Option HO)=some u:=z;cases z') (fun b z=>absurd rfl z) fun z=>absurd rfl z
 | none=>
   refine core (fun b=>if b=a then some (.bJ { cls:=.type "list",data:=.seq vs.toArray} (.lst (ns.map V.int))) else none) (fun b=>?_) (.inl (.inr (.inl ⟨{ cls:=.type "list",data:=.seq vs.toArray},if_pos rfl⟩))) (fun b u z=>?_) (fun b z=>?_) fun _=>hk
   . by_cases hb:b=a
     . exact .inr ⟨_,_,if_pos hb⟩
     . exact .inl (if_neg hb)
   . by_cases hb:b=a
     . have z':=(if_pos hb).symm.trans z
       cases z';subst hb;exact⟨ha,by rw[aaa];exact hl,vs,_,rv,ha⟩
     . have z':=(if_neg hb).symm.trans z
       cases z'
   . by_cases hb:b=a
     . exact hb
     . exact absurd (if_neg hb) z
noncomputable abbrev KOf {K:W.Frag}{h:Heap}(_:K.In h):W.Frag:=K
theorem Pp {l:W.OpenLaw}{n k:Nat}{q:Program}{loose:List Str}{XP:(Str->Option Value)->Heap->Prop}{YP:World->Heap->Prop}{d:DefRec}{K:Params->W.Frag}{CX:World->qu}{sp:World->Sp}{x:Str}(hn:l.most=some n)(WS:n<=sizeLine)(XR:d.params.defaults=[])(hr:dk k callerA)(hY:∀ (w:World) (h:Heap),YP w h->(K w.params).In h)(F:∀ (w:World) (mg:Str->Option Value) (fa:Addr) (h:Heap),(K w.params).In h->h.Ns mainGlobals mg->mg d.name=some (.ref fa)->∃ fd:FuncData,(∀ (s:Shared) (u:Value),BindsTo s fd ⟨[u],[]⟩ [(x,u)])/\∀ base:Heap,(K w.params).In base->base.Ns mainGlobals mg->jh l.prog w (K w.params) mg base (CX w) k fa fd [x] (sp w))(RO:∀ (w:World) (H:Hp) (a:Addr) (ns:List Int),ns.length<=n->Po H->pL (K w.params) H a (ns.map V.int)->sp w [.ref a] H (fun v _=>v=.bl true) fun _ _ _=>False)(XU:∀ (w:World) (H:Hp) (s:Shared) (e:Value) (s':Shared),CX w [] H s (fun _ _ _=>False) e s'->False):W.WalkO q loose XP YP l.row.toRowW d [] (fun f vs=>PySem.call f vs):=by
 refine Att.CU hn XR fun w s₀ s₁ mg mb fa o pm cd doc a vs ns G Y ho hd mh XS Uh hints hlen hg=>?_
 have KX:=hY w _ Y;obtain⟨fd,hb,hF⟩:=F w mg fa _ KX G.T.g XS;exact La KX G.T.g G.T.b G.T.builtins G.T.nolimit hg Uh hints (aax hlen WS) hr hF hb (fun H hO hS=>RO w H a ns hlen hO hS) fun H e s'=>XU w H s₁ e s'
theorem Lb {l:W.OpenLaw}{n k:Nat}{q:Program}{loose:List Str}{XP:(Str->Option Value)->Heap->Prop}{YP:World->Heap->Prop}{d:DefRec}{K:Params->W.Frag}{CX:qu}{sp:W.Frag->Sp}{x:Str}(hn:l.most=some n)(WS:n<=sizeLine)(XR:d.params.defaults=[])(hr:dk k callerA)(hY:∀ (w:World) (h:Heap),YP w h->(K w.params).In h)(F:∀ (w:World) (mg:Str->Option Value) (fa:Addr) (h:Heap),(K w.params).In h->h.Ns mainGlobals mg->mg d.name=some (.ref fa)->∃ fd:FuncData,(∀ (s:Shared) (u:Value),BindsTo s fd ⟨[u],[]⟩ [(x,u)])/\∀ base:Heap,(K w.params).In base->base.Ns mainGlobals mg->jh l.prog w (K w.params) mg base CX k fa fd [x] (sp (K w.params)))(RO:∀ (K:W.Frag) (H:Hp) (a:Addr) (ns:List Int),ns.length<=n->Po H->pL K H a (ns.map V.int)->sp K [.ref a] H (fun v _=>v=.bl true) fun _ _ _=>False)(XU:∀ (H:Hp) (s:Shared) (e:Value) (s':Shared),CX [] H s (fun _ _ _=>False) e s'->False):W.WalkO q loose XP YP l.row.toRowW d [] (fun f vs=>PySem.call f vs):=
 Pp (K:=K) (CX:=fun _=>CX) (sp:=fun w=>sp (K w.params)) hn WS XR hr hY F (fun w H a ns h1 h2 h3=>RO (K w.params) H a ns h1 h2 h3) fun _ H s e s'=>XU H s e s'
noncomputable def inClass (s:Stmt)(j:Nat):Stmt:=match s with
 | .ClassDef _ _ _ body _ _ _ _ _ _ _=>body.getD j (.Pass ⟨0,0,0,0⟩)
 | _=>.Pass ⟨0,0,0,0⟩
noncomputable def cv (s:Stmt):Arguments:=match s with
 | .FunctionDef _ a _ _ _ _ _ _ _ _=>a
 | _=>{ posonlyargs:=[],args:=[],vararg:=none,kwonlyargs:=[],kw_defaults:=[],kwarg:=none,defaults:=[]}
noncomputable def aG (s:Stmt):List Stmt:=match s with
 | .FunctionDef _ _ b _ _ _ _ _ _ _=>b
 | _=>[]
noncomputable def af (s:Stmt):Scope:=match s with
 | .FunctionDef _ _ _ _ _ _ sc _ _ _=>sc
 | _=>{ kind:=.function,names:=[],isGenerator:=false,isCoroutine:=false}
abbrev CX0:qu:=fun _ _ _ _ _ _=>False
abbrev E0:XK:=fun _ _ _=>False
structure Ui (K:W.Frag)(x qual:Str)(st:Stmt)(f:Addr)(fd:FuncData):Prop where
 ex:∃ (oc:Value) (od:Option Addr) (kV doc pm:Value) (an:Option Addr) (bc ct:Value) (wA:Array (Option Value)),
   fd=W.fnOf x qual (cv st) (aG st) (af st) .none kV doc pm an bc ct/\K.lookup f=some ⟨oc,od,.func fd,wA⟩/\W.codeIn K bc qual=true
 kp:W.keepIn K (.ref f)=true
section
variable {K:W.Frag}
theorem Ui.binds {x qual:Str}{st:Stmt}{f:Addr}{fd:FuncData}{ps:List Str}(F:Ui K x qual st f fd)(h:∀ (kV doc pm:Value) (an:Option Addr) (bc ct:Value) (us:List Value),us.length=ps.length->bindArgs (W.fnOf x qual (cv st) (aG st) (af st) .none kV doc pm an bc ct) ⟨us,[]⟩=pure (ps.zip us)):Binds K fd ps []:=by
 obtain⟨oc,od,kV,doc,pm,an,bc,ct,wA,rfl,lk,mh⟩:=F.ex;exact .all (h kV doc pm an bc ct)
theorem xG {x qual:Str}{st:Stmt}{f:Addr}{oc:Value}{od an:Option Addr}{wA:Array (Option Value)}{kV doc pm bc ct:Value}(l:K.lookup f=some ⟨oc,od,.func (W.fnOf x qual (cv st) (aG st) (af st) .none kV doc pm an bc ct),wA⟩)(c:W.codeIn K bc qual=true)(k:W.keepIn K (.ref f)=true):Ui K x qual st f (W.fnOf x qual (cv st) (aG st) (af st) .none kV doc pm an bc ct):=⟨⟨oc,od,kV,doc,pm,an,bc,ct,wA,rfl,l,c⟩,k⟩
end
theorem uq {n:Nat}(h:n<=1000):n < sizeLine:=aaO h (by decide)
theorem CV {A B:Prop}(h:B):if false=true then A else B:=by
 rw[if_neg aav];exact h
theorem CW {A B:Prop}(h:A):if true=true then A else B:=by
 rw[if_pos rfl];exact h
def aH (H H':Hp):Prop:=∀ b o,H b=some o->H' b=some o
theorem aH.refl (H:Hp):aH H H:=fun _ _ h=>h
theorem aH.trans {H H1 H2:Hp}(a:aH H H1)(b:aH H1 H2):aH H H2:=fun c o h=>b c o (a c o h)
theorem aH.free {H H':Hp}(e:aH H H'){l:Addr}(h:H' l=Option.none):H l=Option.none:=by
 cases q:H l with
 | none=>rfl
 | some o=>
   rw[e l o q] at h;cases h
theorem aH.seq {K:W.Frag}{H H':Hp}{a:Addr}{xs:List V}(e:aH H H')(h:pL K H a xs):pL K H' a xs:=by
 rcases h with(h | ⟨o,h⟩ | ⟨_,_,_,_,h⟩ | ⟨o,h⟩) | h
 . exact .inl (.inl (e _ _ h))
 . exact .inl (.inr (.inl ⟨o,e _ _ h⟩))
 . cases h
 . exact .inl (.inr (.inr (.inr ⟨o,e _ _ h⟩)))
 . exact .inr h
end L2
set_option maxHeartbeats 4000000
namespace Sg
open PySem PySem.Spec PyProof.Rows L2 PySem.Builtin PySem.Builtin.Getset_descriptor
def pW (h:Heap)(x D:Addr):Prop:=∃ ox,h.get? x=some ox/\ox.cls=.ref D
theorem pW.ty {M:Model}{h:Heap}{x D:Addr}(I:pW h x D):W.Looks M h (typeOf (.ref x)) (.ref D):=by
 obtain⟨ox,h1,h2⟩:=I;rw[<- h2];exact(W.Looks.ld h1).andThen .now
theorem Lc {prog:Program}{w:World}{A:Around}{E:Value->Shared->Prop}{K:W.Frag}{s:Shared}{x D:Addr}{name:Str}{tk:Tok}{fill expr:Bool}{Q:Value->Shared->Prop}{r:Builtin.ObjectAttr.Found}(X:K.In s.heap)(I:pW s.heap x D)
   (hga:W.findIn K (.ref D) "__getattribute__"=some (some (.builtin "BaseException.__getattribute__"))) (hgt:W.findIn K (.ref D) "__getattr__"=some none) (sF:W.mroIn K D (.type "BaseException")=some true)
   (hf:W.Looks (model prog w) s.heap (Builtin.ObjectAttr.find (.ref x) (.ref D) name) r)
   (h:match r with
     | .bind g a=>wpAny (model prog w) A.in1 (call g [a,.ref x,.ref D]) (fun v s'=>wpAny (model prog w) A (handedOut v) Q E s') (fun _ _=>False) s
     | .value v=>wpAny (model prog w) A (handedOut v) Q E s
     | .missing=>False) :
   wpAny (model prog w) A (getAttrBy (.ref x) (.str name tk) fill expr) Q E s:=by
 obtain⟨hh,gg,d,t,os⟩:=s;have L0:=I.ty (M:=model prog w);have L1:=W.looks_findIn (M:=model prog w) X hga;have L2':=W.looks_findIn (M:=model prog w) X hgt;have L4:=W.looks_mroIn (M:=model prog w) X sF;have f3:=PySem.F.excAttr_ValueError.ga.bind (.ref x);unfold getAttrBy;refine wpAny_holding (wpAny_bind (L0.at (wpAny_bind (L1.at ?_))));have hx2:(Value.builtin "BaseException.__getattribute__" == Value.builtin "object.__getattribute__")=false:=by
   decide +kernel
 simp only[hx2,Bool.and_false,abA,if_false];unfold getAttrByItsOwn hookBefore;refine wpAny_bind (L2'.at ?_);refine wpAny_bind (wpAny_attempt (wpAny_holding ?_));unfold callGetattribute boundAndCalled;have hx0:(expr && onTheHeap (Value.builtin "BaseException.__getattribute__"))=false:=by
   cases expr <;> rfl
 rw[hx0,f3];simp only[abA,if_false];refine wpAny_bind (wpAny_pure ?_);have hbi:W.Looks (model prog w) hh (isInstance (.ref x) (.type "BaseException")) true:=L0.andThen L4;refine wpAny_call (codeAny_call_builtin PySem.F.excAttr_ValueError.ga.plain PySem.F.entry_bexc_ga (@W.check_slot (model prog w) _ _ _ "BaseException.__getattribute__" "BaseException" "__getattribute__" (.ref x) [.str name tk] [] _ (by decide +kernel) (by decide +kernel) hbi (PySem.F.args_bexc_ga _ _) ?_));unfold Builtin.«object.__getattribute__»;refine wpAny_bind (wpAny_pure ?_);show wpAny (model prog w) A.in1 (Builtin.ObjectAttr.attrName (.str name tk) >>= _) _ _ _;unfold Builtin.ObjectAttr.attrName;refine wpAny_bind (wpAny_pure (wpAny_bind (L0.at (wpAny_bind (hf.at ?_)))));cases r with
 | bind g a=>
   show wpAny (model prog w) A.in1 (Builtin.ObjectAttr.bindTo g a (.ref x) (.ref D)) _ _ _;unfold Builtin.ObjectAttr.bindTo;show wpAny (model prog w) A.in1 (holding [a] (call g [a,.ref x,.ref D]) >>= ret) _ _ _;exact wpAny_bind (wpAny_holding (wpAny_mono h (fun v s' z=>wpAny_pure z) fun _ _ z=>z.elim))
 | value v=>
   show wpAny (model prog w) A.in1 (ret v) _ _ _;exact wpAny_pure h
 | missing=>exact h.elim
theorem Pq {prog:Program}{w:World}{A:Around}{K:W.Frag}{s:Shared}{x D:Addr}{tp:Value}{R:Result->Shared->Prop}(X:K.In s.heap)(I:pW s.heap x D)(hm:W.mroIn K D (.type "object")=some true)(hR:R (.ok (.ret (.ref D))) s):codeAny (model prog w) A (.call (.builtin "getset_descriptor.__get__") ⟨[.builtin "object.__class__",.ref x,tp],[]⟩) R s:=by
 obtain⟨hh,g,dr,t,os⟩:=s;have L0:=I.ty (M:=model prog w);have L1:=W.looks_mroIn (M:=model prog w) X hm;have pl:=W.KF.slot_gs.plain;have ent:=W.KF.entry_gs;refine codeAny_call_builtin pl ent (W.KF.slot_gs.check _ _ _ _ _ _ _ _ W.KF.type_class (W.KF.args_gs _ _ _) ?_);unfold Builtin.«getset_descriptor.__get__» descrGet;rw[W.dga_obj];refine wpAny_bind (wpAny_pure ?_);unfold descrGetter descrCheckInstance descrNameAndClass isInstance;simp only[W.KF.owner_class]
 repeat lk
 refine⟨Code.quiet_builtin _ (by decide +kernel),codeAny_builtin W.KF.entry_class ?_⟩;unfold Builtin.«object.__class__» shownTypeOf
 repeat lk
 exact hR
structure Ld (K:W.Frag)(C:Addr):Prop where
 hc:(W.clsIn K C).isSome=true
 ga:W.findIn K (.ref C) "__getattribute__"=some (some (.builtin "BaseException.__getattribute__"))
 gt:W.findIn K (.ref C) "__getattr__"=some none
 be:W.mroIn K C (.type "BaseException")=some true
 ha:W.findIn K (.ref C) "__class__"=some (some (.builtin "object.__class__"))
 hn:W.specialIn K (.builtin "object.__class__") "__get__"=some (some (.builtin "getset_descriptor.__get__"))
 TX:W.takesIn K (.builtin "object.__class__")=some true
 hm:W.mroIn K C (.type "object")=some true
theorem Lf {M:Model}{K:W.Frag}{h:Heap}{x C:Addr}(X:K.In h)(T:Ld K C):W.Looks M h (Builtin.ObjectAttr.find (.ref x) (.ref C) "__class__") (.bind (.builtin "getset_descriptor.__get__") (.builtin "object.__class__")):=by
 refine(W.looks_findIn X T.ha).andThen ?_;refine(W.looks_specialIn X T.hn:W.Looks M h (Builtin.ObjectAttr.getOf (some (.builtin "object.__class__"))) _).andThen ?_;refine((W.looks_takesIn X T.TX).andThen .now:W.Looks M h (Builtin.ObjectAttr.dataDescriptor? (some (.builtin "object.__class__")) (some (.builtin "getset_descriptor.__get__"))) (some (.builtin "getset_descriptor.__get__",.builtin "object.__class__"))).andThen ?_;exact W.Looks.tag .now
theorem CY {K:W.Frag}{x D:Addr}(T:Ld K D):W.KitX K (.ref x) (.ref D) (fun h=>pW h x D) where
 ty:=fun _ _ _ I=>I.ty
 it:=fun M h X _=>by
   obtain⟨cdD,KY⟩:=ack.mp T.hc;unfold W.clsIn at KY
   split at KY
   . rename_i u1 u2 u3 u4 hlk
     intro A' Q' E' s' k q;unfold isType loadHead;exact wpAny_bind (wpAny_loadPart (k _ _ (X _ _ hlk)) (wpAny_pure q))
   . cases KY
 ne:=fun h tp dd aJ n sl X htp=>by
   obtain⟨cdD,KY⟩:=ack.mp T.hc;refine Bool.eq_false_iff.mpr fun q=>?_
   have e:D=tp:=Value.ref.inj (beq_iff_eq.mp q);subst e;unfold W.clsIn at KY
   split at KY
   . rename_i u1 u2 u3 u4 hlk
     have z:=(X _ _ hlk).symm.trans htp;cases z
   . cases KY
 ca:=fun {prog w A E Q s} X I k=>by
   unfold getAttr? getAttrBy?;refine wpAny_bind (wpAny_mkText (wpAny_bind (wpAny_attempt ?_)));refine Lc (s:={ s with toks:=s.toks+1}) X I T.ga T.gt T.be (Lf X T) ?_;refine wpAny_call (Pq (s:={ s with toks:=s.toks+1}) X I T.hm ?_);exact W.handed_on rfl (wpAny_pure k)
end Sg
namespace Sg
open PySem PySem.Spec PyProof.Rows L2
noncomputable abbrev St:=L2.St
def pX (h:Heap)(x C dx:Addr):Prop:=∃ ox,h.get? x=some ox/\ox.cls=.ref C/\ox.dict=some dx/\∃ vs,ox.data=.fields vs
theorem pX.of {h:Heap}{x C dx:Addr}(I:pX h x C dx):pW h x C:=let ⟨ox,h1,h2,_⟩:=I;⟨ox,h1,h2⟩
inductive Dt where
 | cz
 | bl (b:Bool)
 | int (i:Int)
 | str (x:Str)
 | tup (ds:List Dt)
 | lst (ds:List Dt)
 | rq (ns:List Int)
 | fw (kvs:List (Key×Dt))
 | obj (C:Addr) (fs:List (Str×Dt))
 | ty (n:String)
 | cls (C:Addr)
 | xo (C:Addr)
 | rQ (kvs:List (Key×Dt))
 | sO (C:Addr) (fs:List (Str×Dt))
 | d7 (kvs:List (Key×Dt))
 | memo (a:Addr) (ls:kU) (j n:Nat)
 | eG (a:Addr) (ls:kU) (j n:Nat)
 | wC (a:Addr) (ls:kU) (n:Nat)
 | xH (C:Addr) (fs:List (Str×Dt)) (gs:List (Nat->List (Key×FD))) (nm:List Str) (n:Nat)
 | jf (fd:FD)
 | ny (RV:List (List Key×Int))
noncomputable def vk (fs:List (Str×Dt))(nm:List Str)(a:Addr)(ls:kU)(n:Nat):List (Str×Dt):=fs ++ (aan nm.length).map fun j=>(nm.getD j "",.memo a ls j n)
def Known (H:Hp)(p:Addr)(f:Nat->List (Key×FD))(n:Nat):Prop:=∀ i,i < n->∃ q o kvs,H q=some (.kd (some (p,i)) o kvs)/\t8 H kvs (f i)
def cu (H:Hp)(a:Addr)(ls:kU):Prop:=H a=some (.memo ls)\/∃ ns,H a=some (.bT ls ns)
theorem Known.mono {H H':Hp}{p:Addr}{f:Nat->List (Key×FD)}{n:Nat}(e:∀ b u,H b=some u->H' b=some u)(h:Known H p f n):Known H' p f n:=fun i hi=>let ⟨q,o,kvs,h1,h2⟩:=h i hi;⟨q,o,kvs,e _ _ h1,h2.kp (.of e)⟩
theorem cu.mono {H H':Hp}{a:Addr}{ls:kU}(e:∀ b u,H b=some u->H' b=some u)(h:cu H a ls):cu H' a ls:=h.imp (e _ _) fun⟨ns,z⟩=>⟨ns,e _ _ z⟩
mutual
inductive Rep (K:W.Frag)(H:Hp):V->Dt->Prop
 | cz:Rep K H .cz .cz
 | bl (b:Bool):Rep K H (.bl b) (.bl b)
 | int (i:Int):Rep K H (.int i) (.int i)
 | str (x:Str):Rep K H (.str x) (.str x)
 | tup {a:Addr} {vs:List V} {ds:List Dt}:EL K H a vs->bK K H vs ds->Rep K H (.ref a) (.tup ds)
 | lst {a:Addr} {vs:List V} {ds:List Dt}:H a=some (.lst vs)->bK K H vs ds->Rep K H (.ref a) (.lst ds)
 | rq {a:Addr} {ns:List Int}:pL K H a (ns.map V.int)->Rep K H (.ref a) (.rq ns)
 | fw {a:Addr} {kvs:List (Key×V)} {kds:List (Key×Dt)}:H a=some (.dK kvs)->dm K H kvs kds->Rep K H (.ref a) (.fw kds)
 | obj {a C dx:Addr} {fs:List (Str×V)} {ds:List (Str×Dt)}:Rd H a (.ins C dx fs)->bA K H fs ds->Rep K H (.ref a) (.obj C ds)
 | ty (n:String):Rep K H (.ty n) (.ty n)
 | cls (C:Addr):Rep K H (.ref C) (.cls C)
 | xo {a C:Addr} {ph:Heap->Prop}:H a=some (.ext ph)->(∀ h,ph h->pW h a C)->Rep K H (.ref a) (.xo C)
 | rQ {a:Addr} {ob:Obj} {kvs:List (Key×V)} {kds:List (Key×Dt)}:H a=some (.bJ ob (.dK kvs))->dm K H kvs kds->Rep K H (.ref a) (.rQ kds)
 | sO {a C dx:Addr} {ph:Heap->Prop} {fs:List (Str×V)} {ds:List (Str×Dt)}:H a=some (.ext ph)->(∀ h,ph h->pX h a C dx)->H dx=some (.xd fs)->bA K H fs ds->Rep K H (.ref a) (.sO C ds)
 | d7 {a:Addr} {tg:Option (Addr×Nat)} {ob:Obj} {kvs:List (Key×V)} {kds:List (Key×Dt)}:H a=some (.kd tg ob kvs)->dm K H kvs kds->Rep K H (.ref a) (.d7 kds)
 | memo {a p:Addr} {ls:kU} {j n:Nat} {f:Nat->List (Key×FD)}:ls[j]?=some (p,f)->H a=some (.memo ls)->(p=a\/H p=some (.part a))->Known H p f n->Rep K H (.ref p) (.memo a ls j n)
 | eG {a p:Addr} {ls:kU} {j n:Nat} {f:Nat->List (Key×FD)}:ls[j]?=some (p,f)->cu H a ls->(p=a\/H p=some (.part a))->Known H p f n->Rep K H (.ref p) (.eG a ls j n)
 | wC {a:Addr} {ls:kU} {n:Nat}:(∀ (j:Nat) (p:Addr) (f:Nat->List (Key×FD)),ls[j]?=some (p,f)->Known H p f n)->Rep K H .cz (.wC a ls n)
 | xH {s a C dx:Addr} {fv:List (Str×V)} {fs:List (Str×Dt)} {gs:List (Nat->List (Key×FD))} {nm:List Str} {n:Nat} {ls:kU}:ls.map (·.2)=gs->Rd H s (.ins C dx fv)->bA K H fv (vk fs nm a ls n)->Rep K H (.ref s) (.xH C fs gs nm n)
 | jf {v:V} {fd:FD}:Fz H v fd->Rep K H v (.jf fd)
 | ny {a:Addr} {RV:List (List Key×Int)}:H a=some (.dT (RV.map fun k=>(k.1,V.int k.2)))->Rep K H (.ref a) (.ny RV)
inductive bK (K:W.Frag)(H:Hp):List V->List Dt->Prop
 | nil:bK K H [] []
 | cons {v:V} {d:Dt} {vs:List V} {ds:List Dt}:Rep K H v d->bK K H vs ds->bK K H (v::vs) (d::ds)
inductive dm (K:W.Frag)(H:Hp):List (Key×V)->List (Key×Dt)->Prop
 | nil:dm K H [] []
 | cons {k:Key} {v:V} {d:Dt} {vs:List (Key×V)} {ds:List (Key×Dt)}:Rep K H v d->dm K H vs ds->dm K H ((k,v)::vs) ((k,d)::ds)
inductive bA (K:W.Frag)(H:Hp):List (Str×V)->List (Str×Dt)->Prop
 | nil:bA K H [] []
 | cons {k:Str} {v:V} {d:Dt} {vs:List (Str×V)} {ds:List (Str×Dt)}:Rep K H v d->bA K H vs ds->bA K H ((k,v)::vs) ((k,d)::ds)
end
theorem d8 {H H':Hp}{a:Addr}{u:HO}(e:aH H H')(h:Rd H a u):Rd H' a u:=by
 rcases h with h | ⟨o,h⟩ | ⟨tg,o,kvs,h,z⟩ | ⟨o,h⟩
 . exact .inl (e _ _ h)
 . exact .inr (.inl ⟨o,e _ _ h⟩)
 . exact .inr (.inr (.inl ⟨tg,o,kvs,e _ _ h,z⟩))
 . exact .inr (.inr (.inr ⟨o,e _ _ h⟩))
theorem gk {K:W.Frag}{H H':Hp}{a:Addr}{xs:List V}(e:aH H H')(h:EL K H a xs):EL K H' a xs:=by
 rcases h with h | h
 . exact .inl (e _ _ h)
 . exact .inr h
theorem Rep.mono {K:W.Frag}{H H':Hp}(e:aH H H'):∀ {v:V} {d:Dt},Rep K H v d->Rep K H' v d:=@fun v d zq=>@Rep.rec K H (fun v d _=>Rep K H' v d) (fun v d _=>bK K H' v d) (fun v d _=>dm K H' v d) (fun v d _=>bA K H' v d) .cz (fun b=>.bl b) (fun i=>.int i) (fun x=>.str x) (fun h r zi=>.tup (gk e h) zi) (fun h r zi=>.lst (e _ _ h) zi) (fun h=>.rq (e.seq h)) (fun h r zi=>.fw (e _ _ h) zi) (fun h r zi=>.obj (d8 e h) zi) (fun n=>.ty n) (fun C=>.cls C) (fun h r=>.xo (e _ _ h) r) (fun h r zi=>.rQ (e _ _ h) zi) (fun h q g r zi=>.sO (e _ _ h) q (e _ _ g) zi) (fun h r zi=>.d7 (e _ _ h) zi) (fun h1 h2 h3 h4=>.memo h1 (e _ _ h2) (h3.imp id fun z=>e _ _ z) (h4.mono e)) (fun h1 h2 h3 h4=>.eG h1 (h2.mono e) (h3.imp id fun z=>e _ _ z) (h4.mono e)) (fun h=>.wC fun j p f z=>(h j p f z).mono e) (fun h1 h2 h3 zi=>.xH h1 (d8 e h2) zi) (fun h=>.jf (h.st fun b u q _=>e b u q)) (fun h=>.ny (e _ _ h)) .nil (fun _ _ h r=>.cons h r) .nil (fun _ _ h r=>.cons h r) .nil (fun _ _ h r=>.cons h r) _ _ zq
theorem bK.mono {K:W.Frag}{H H':Hp}(e:aH H H'):∀ {v:List V} {d:List Dt},bK K H v d->bK K H' v d:=by
 intro v d q;induction d generalizing v with
 | nil=>cases q;exact .nil
 | cons _ _ ih=>cases q with|cons h r=>exact .cons (Rep.mono e h) (ih r)
theorem dm.mono {K:W.Frag}{H H':Hp}(e:aH H H'):∀ {v:List (Key×V)} {d:List (Key×Dt)},dm K H v d->dm K H' v d:=by
 intro v d q;induction d generalizing v with
 | nil=>cases q;exact .nil
 | cons _ _ ih=>cases q with|cons h r=>exact .cons (Rep.mono e h) (ih r)
theorem bA.mono {K:W.Frag}{H H':Hp}(e:aH H H'):∀ {v:List (Str×V)} {d:List (Str×Dt)},bA K H v d->bA K H' v d:=by
 intro v d q;induction d generalizing v with
 | nil=>cases q;exact .nil
 | cons _ _ ih=>cases q with|cons h r=>exact .cons (Rep.mono e h) (ih r)
theorem bK.length {K:W.Frag}{H:Hp}:∀ {v:List V} {d:List Dt},bK K H v d->v.length=d.length
 | _,_,.nil=>rfl
 | _,_,.cons _ r=>congrArg (·+1) (bK.length r)
theorem bK.get {K:W.Frag}{H:Hp}:∀ {v:List V} {d:List Dt} {i:Nat} {x:Dt},bK K H v d->d[i]?=some x->∃ y,v[i]?=some y/\Rep K H y x
 | _,_,_,_,.nil,e=>by simp at e
 | _,_,0,_,.cons h _,e=>by simp at e;subst e;exact⟨_,rfl,h⟩
 | _,_,i+1,x,.cons _ r,e=>by
   obtain⟨y,h1,h2⟩:=bK.get (i:=i) (x:=x) r (by simpa using e);exact⟨y,by simpa using h1,h2⟩
theorem bK.get' {K:W.Frag}{H:Hp}{v:List V}{d:List Dt}{i:Nat}{y:V}(r:bK K H v d)(e:v[i]?=some y):∃ x,d[i]?=some x/\Rep K H y x:=by
 have hi:i < v.length:=(aaj.mp e).1;have hi':i < d.length:=by rw[<- r.length];exact hi
 obtain⟨z,h1,h2⟩:=r.get (aab hi');rw[e] at h1;cases h1;exact⟨_,aab hi',h2⟩
theorem bK.append {K:W.Frag}{H:Hp}:∀ {v:List V} {d:List Dt} {v':List V} {d':List Dt},bK K H v d->bK K H v' d'->bK K H (v ++ v') (d ++ d')
 | _,_,_,_,.nil,s=>s
 | _,_,_,_,.cons h r,s=>.cons h (bK.append r s)
theorem bK.take {K:W.Frag}{H:Hp}:∀ {v:List V} {d:List Dt} (n:Nat),bK K H v d->bK K H (v.take n) (d.take n)
 | _,_,0,_=>.nil
 | _,_,_+1,.nil=>.nil
 | _,_,n+1,.cons h r=>.cons h (bK.take n r)
theorem bK.set {K:W.Frag}{H:Hp}{y:V}{x:Dt}(q:Rep K H y x):∀ {v:List V} {d:List Dt} (n:Nat),bK K H v d->bK K H (v.set n y) (d.set n x)
 | _,_,_,.nil=>.nil
 | _,_,0,.cons _ r=>.cons q r
 | _,_,n+1,.cons h r=>.cons h (bK.set q n r)
theorem bA.lookup {K:W.Frag}{H:Hp}{f:Str}:∀ {v:List (Str×V)} {d:List (Str×Dt)} {x:Dt},bA K H v d->d.lookup f=some x->∃ y,v.lookup f=some y/\Rep K H y x
 | _,_,_,.nil,e=>by simp at e
 | (k,v)::r,(_,d)::s,x,.cons h t,e=>by
   rw[aaM] at e ⊢;cases q:(f == k) with
   | true=>rw[q] at e;cases e;exact⟨v,rfl,h⟩
   | false=>rw[q] at e;exact bA.lookup t e
theorem bA.none_of {K:W.Frag}{H:Hp}{f:Str}:∀ {v:List (Str×V)} {d:List (Str×Dt)},bA K H v d->d.lookup f=none->v.lookup f=none
 | _,_,.nil,_=>rfl
 | (k,v)::r,(_,d)::s,.cons h t,e=>by
   rw[aaM] at e ⊢;cases q:(f == k) with
   | true=>rw[q] at e;cases e
   | false=>rw[q] at e;exact bA.none_of t e
theorem bA.length {K:W.Frag}{H:Hp}:∀ {v:List (Str×V)} {d:List (Str×Dt)},bA K H v d->v.length=d.length
 | _,_,.nil=>rfl
 | _,_,.cons _ r=>congrArg (·+1) (bA.length r)
theorem dm.length {K:W.Frag}{H:Hp}:∀ {v:List (Key×V)} {d:List (Key×Dt)},dm K H v d->v.length=d.length
 | _,_,.nil=>rfl
 | _,_,.cons _ r=>congrArg (·+1) (dm.length r)
structure aU (Hf H aK H':Hp):Prop where
 big:aH H H'
 bJ:aH Hf aK
 sub:aH aK H'
 new:∀ a o,aK a=some o->(∃ o,Hf a=some o)\/H a=Option.none\/Kept o
theorem aU.refl {Hf H:Hp}(s:aH Hf H):aU Hf H Hf H:=⟨aH.refl _,aH.refl _,s,fun a o h=>.inl ⟨o,h⟩⟩
theorem aU.trans {Hf H av H1 bD H2:Hp}(a:aU Hf H av H1)(b:aU av H1 bD H2):aU Hf H bD H2:=
 ⟨a.big.trans b.big,a.bJ.trans b.bJ,b.sub,fun x o h=>by
   rcases b.new x o h with⟨o',h'⟩ | h' | h'
   . have e:=b.bJ _ _ h'
     rw[h] at e;cases e;exact a.new x o h'
   . exact .inr (.inl (a.big.free h'))
   . exact .inr (.inr h')⟩
theorem aU.xI {Hf H aK H':Hp}(g:aU Hf H aK H'){a:Addr}{u o:HO}(h:H a=some u)(nk:¬ Kept u)(q:aK a=some o):∃ o,Hf a=some o:=by
 rcases g.new a o q with z | z | z
 . exact z
 . rw[h] at z;cases z
 . have e:=g.big _ _ h
   rw[g.sub _ _ q] at e;cases e;exact absurd z nk
theorem bj {H:Hp}{p:Addr}{o:HO}(n:H p=Option.none):aH H (upd H p o):=fun b u e=>by
 rw[ag (ax e n)];exact e
theorem cR {Hf H:Hp}{p:Addr}{o:HO}(s:aH Hf H):aH (upd Hf p o) (upd H p o):=fun b u e=>by
 by_cases hb:b=p
 . subst hb;rw[ak] at e ⊢;exact e
 . rw[ag hb] at e ⊢;exact s _ _ e
theorem ur {Hf H:Hp}{p:Addr}{o:HO}(s:aH Hf H)(n:Hf p=Option.none):aH Hf (upd H p o):=fun b u e=>by
 rw[ag (ax e n)];exact s _ _ e
theorem aU.alloc {Hf H:Hp}{p:Addr}{o:HO}(s:aH Hf H)(n:H p=Option.none):aU Hf H (upd Hf p o) (upd H p o):=
 ⟨bj n,bj (s.free n),cR s,fun a u h=>by
   by_cases hb:a=p
   . subst hb;exact .inr (.inl n)
   . rw[ag hb] at h;exact .inl ⟨u,h⟩⟩
theorem aU.fX {Hf H:Hp}{p:Addr}{o:HO}(s:aH Hf H)(n:H p=Option.none):aU Hf H Hf (upd H p o):=
 ⟨bj n,aH.refl _,ur s (s.free n),fun a u h=>.inl ⟨u,h⟩⟩
inductive Own where
 | lst (ds:List Dt)
 | fw (kds:List (Key×Dt))
 | obj (C:Addr) (fs:List (Str×Dt))
 | CZ (x:Addr) (C:Addr) (fs:List (Str×Dt))
 | uu (C:Addr) (fs:List (Str×Dt)) (gs:List (Nat->List (Key×FD))) (nm:List Str) (n:Nat)
 | A3 (x:Addr) (C:Addr) (fs:List (Str×Dt)) (gs:List (Nat->List (Key×FD))) (nm:List Str) (n:Nat)
 | ny (RV:List (List Key×Int))
set_option genInjectivity true in
inductive Slot where
 | aY
 | val (d:Dt)
 | own (o:Own)
def iq (K:W.Frag)(Hf H:Hp)(a:Addr):Own->Prop
 | .lst ds=>∃ vs,H a=some (.lst vs)/\bK K Hf vs ds
 | .fw kds=>∃ kvs,H a=some (.dK kvs)/\dm K Hf kvs kds
 | .obj C ds=>∃ dx fs,H a=some (.ins C dx fs)/\bA K Hf fs ds
 | .CZ x C ds=>a=x/\∃ dx fs,H a=some (.ins C dx fs)/\bA K Hf fs ds
 | .uu C ds gs nm n=>∃ dx fs b ls,(ls:kU).map (·.2)=gs/\H a=some (.ins C dx fs)/\bA K Hf fs (vk ds nm b ls n)
 | .A3 x C ds gs nm n=>a=x/\∃ dx fs b ls,(ls:kU).map (·.2)=gs/\H a=some (.ins C dx fs)/\bA K Hf fs (vk ds nm b ls n)
 | .ny RV=>H a=some (.dT (RV.map fun k=>(k.1,V.int k.2)))
theorem iq.XW {K:W.Frag}{Hf H:Hp}{a:Addr}:∀ {o:Own},iq K Hf H a o->∃ u,H a=some u/\¬ Kept u
 | .lst _,⟨_,h,_⟩=>⟨_,h,fun z=>z⟩
 | .fw _,⟨_,h,_⟩=>⟨_,h,fun z=>z⟩
 | .obj _ _,⟨_,_,h,_⟩=>⟨_,h,fun z=>z⟩
 | .CZ _ _ _,⟨_,_,_,h,_⟩=>⟨_,h,fun z=>z⟩
 | .uu _ _ _ _ _,⟨_,_,_,_,_,h,_⟩=>⟨_,h,fun z=>z⟩
 | .A3 _ _ _ _ _ _,⟨_,_,_,_,_,_,h,_⟩=>⟨_,h,fun z=>z⟩
 | .ny _,h=>⟨_,h,fun z=>z⟩
theorem iq.some {K:W.Frag}{Hf H:Hp}{a:Addr}:∀ {o:Own},iq K Hf H a o->∃ u,H a=some u
 | .lst _,⟨_,h,_⟩=>⟨_,h⟩
 | .fw _,⟨_,h,_⟩=>⟨_,h⟩
 | .obj _ _,⟨_,_,h,_⟩=>⟨_,h⟩
 | .CZ _ _ _,⟨_,_,_,h,_⟩=>⟨_,h⟩
 | .uu _ _ _ _ _,⟨_,_,_,_,_,h,_⟩=>⟨_,h⟩
 | .A3 _ _ _ _ _ _,⟨_,_,_,_,_,_,h,_⟩=>⟨_,h⟩
 | .ny _,h=>⟨_,h⟩
theorem iq.grow {K:W.Frag}{Hf H aK H':Hp}{a:Addr}(e:H' a=H a)(f:aH Hf aK):∀ {o:Own},iq K Hf H a o->iq K aK H' a o
 | .lst _,⟨vs,h,r⟩=>⟨vs,by rw[e];exact h,r.mono f⟩
 | .fw _,⟨vs,h,r⟩=>⟨vs,by rw[e];exact h,r.mono f⟩
 | .obj _ _,⟨dx,fs,h,r⟩=>⟨dx,fs,by rw[e];exact h,r.mono f⟩
 | .CZ _ _ _,⟨q,dx,fs,h,r⟩=>⟨q,dx,fs,by rw[e];exact h,r.mono f⟩
 | .uu _ _ _ _ _,⟨dx,fs,b,ls,q,h,r⟩=>⟨dx,fs,b,ls,q,by rw[e];exact h,r.mono f⟩
 | .A3 _ _ _ _ _ _,⟨q0,dx,fs,b,ls,q,h,r⟩=>⟨q0,dx,fs,b,ls,q,by rw[e];exact h,r.mono f⟩
 | .ny RV,h=>(show H' a=Option.some (HO.dT (RV.map fun k=>(k.1,V.int k.2))) from by rw[e];exact h)
structure Gr where
 Hf:Hp
 H:Hp
structure dh (K:W.Frag)(G:Gr)(st:L2.St)(Hf H:Hp)(dl:List Slot):Prop where
 gr:aU G.Hf G.H Hf H
 len:st.length=dl.length
 val:∀ (i:Nat) d,dl[i]?=some (.val d)->∃ v,st[i]?=some (some v)/\Rep K Hf v d
 own:∀ (i:Nat) o,dl[i]?=some (.own o)->∃ a,st[i]?=some (some (.ref a))/\Hf a=Option.none/\G.H a=Option.none/\iq K Hf H a o
 He:∀ (i j:Nat) o o' a,dl[i]?=some (.own o)->dl[j]?=some (.own o')->st[i]?=some (some (.ref a))->st[j]?=some (some (.ref a))->i=j
section
variable {K:W.Frag}{G:Gr}{st:L2.St}{Hf H aK H':Hp}{dl dl':List Slot}
theorem dh.sub (S:dh K G st Hf H dl):aH Hf H:=S.gr.sub
theorem dh.grow (S:dh K G st Hf H dl)(g:aU Hf H aK H'):dh K G st aK H' dl:=by
 refine⟨S.gr.trans g,S.len,fun i d h=>let ⟨v,h1,h2⟩:=S.val i d h;⟨v,h1,h2.mono g.bJ⟩,fun i o h=>?_,S.He⟩;obtain⟨a,h1,h2,h3,h4⟩:=S.own i o h;obtain⟨u,hu,nk⟩:=h4.XW;refine⟨a,h1,?_,h3,h4.grow (by rw[hu];exact g.big _ _ hu) g.bJ⟩;cases q:aK a with
 | none=>rfl
 | some u'=>
   obtain⟨o',z⟩:=g.xI hu nk q;rw[h2] at z;cases z
theorem dh.set (S:dh K G st Hf H dl){i:Nat}{v:V}{d:Dt}(r:Rep K Hf v d):dh K G (st.set i (some v)) Hf H (dl.set i (.val d)):=by
 have ln:=S.len;refine⟨S.gr,by simp[S.len],fun j x h=>?_,fun j o h=>?_,fun j k o o' a h1 h2 h3 h4=>?_⟩
 . by_cases e:i=j
   . subst e
     by_cases hl:i < dl.length
     . rw[aag hl] at h;cases h
       exact⟨v,aag (by omega),r⟩
     . rw[aau (by simp;omega)] at h;cases h
   . rw[aah e] at h ⊢;exact S.val j x h
 . by_cases e:i=j
   . subst e
     by_cases hl:i < dl.length
     . rw[aag hl] at h;cases h
     . rw[aau (by simp;omega)] at h;cases h
   . rw[aah e] at h ⊢;exact S.own j o h
 . have nj:i≠j:=fun e=>by
     subst e;by_cases hl:i < dl.length
     . rw[aag hl] at h1;cases h1
     . rw[aau (by simp;omega)] at h1;cases h1
   have nk:i≠k:=fun e=>by
     subst e;by_cases hl:i < dl.length
     . rw[aag hl] at h2;cases h2
     . rw[aau (by simp;omega)] at h2;cases h2
   rw[aah nj] at h1 h3;rw[aah nk] at h2 h4;exact S.He j k o o' a h1 h2 h3 h4
theorem dh.IU (S:dh K G st Hf H dl){i:Nat}{p:Addr}{o:HO}{w w':Own}(hi:dl[i]?=some (.own w))(hp:st[i]?=some (some (.ref p)))(r:iq K Hf (upd H p o) p w'):dh K G st Hf (upd H p o) (dl.set i (.own w')):=by
 have ln:=S.len;obtain⟨p',q1,q2,q3,q4⟩:=S.own i w hi;rw[hp] at q1;cases q1;have hl:i < dl.length:=(aaj.mp hi).1;have g:aU G.Hf G.H Hf (upd H p o):=⟨fun b u e=>by rw[ag (ax e q3)];exact S.gr.big _ _ e,S.gr.bJ,ur S.sub q2,S.gr.new⟩
 refine⟨g,by simp[S.len],fun j x h=>?_,fun j o' h=>?_,fun j k o1 o2 a h1 h2 h3 h4=>?_⟩
 . by_cases e:i=j
   . subst e;rw[aag hl] at h;cases h
   . rw[aah e] at h;exact S.val j x h
 . by_cases e:i=j
   . subst e;rw[aag hl] at h;cases h
     exact⟨p,hp,q2,q3,r⟩
   . rw[aah e] at h
     obtain⟨a,z1,z2,z3,z4⟩:=S.own j o' h;have:a≠p:=fun q=>by subst q;exact e (S.He i j _ _ _ hi h hp z1)
     exact⟨a,z1,z2,z3,z4.grow (ag this) (aH.refl _)⟩
 . have tr:∀ (j:Nat) o',(dl.set i (.own w'))[j]?=some (.own o')->∃ Uj,dl[j]?=some (.own Uj):=fun j o' h=>by
     by_cases e:i=j
     . subst e;exact⟨_,hi⟩
     . rw[aah e] at h;exact⟨_,h⟩
   obtain⟨_,t1⟩:=tr j o1 h1;obtain⟨_,t2⟩:=tr k o2 h2;exact S.He j k _ _ a t1 t2 h3 h4
def Le (dl dl':List Slot):Prop:=dl.length=dl'.length/\∀ (i:Nat) s,dl[i]?=some s->s≠.aY->dl'[i]?=some s
theorem Le.refl (dl:List Slot):Le dl dl:=⟨rfl,fun _ _ h _=>h⟩
theorem dh.weak (S:dh K G st Hf H dl')(l:Le dl dl'):dh K G st Hf H dl:=
 ⟨S.gr,by rw[S.len,l.1],fun i d h=>S.val i d (l.2 i _ h (by intro z;cases z)),fun i o h=>S.own i o (l.2 i _ h (by intro z;cases z)),
  fun i j o o' a h1 h2=>S.He i j o o' a (l.2 i _ h1 (by intro z;cases z)) (l.2 j _ h2 (by intro z;cases z))⟩
def XY:List Slot->List Slot->Prop
 | [],[]=>True
 | .aY::r,_::s=>XY r s
 | x::r,y::s=>x=y/\XY r s
 | _,_=>False
theorem Le.of:∀ {dl dl':List Slot},XY dl dl'->Le dl dl'
 | [],[],_=>Le.refl _
 | .aY::r,y::s,h=>by
   have q:=Le.of (dl:=r) (dl':=s) h;refine⟨congrArg (·+1) q.1,fun i x e n=>?_⟩;cases i with
   | zero=>simp at e;exact absurd e.symm n
   | succ i=>exact q.2 i x (by simpa using e) n
 | .val d::r,y::s,h=>by
   obtain⟨h1,h2⟩:=(show Slot.val d=y/\XY r s from h)
   subst h1;have q:=Le.of h2;refine⟨congrArg (·+1) q.1,fun i x e n=>?_⟩;cases i with
   | zero=>exact e
   | succ i=>exact q.2 i x (by simpa using e) n
 | .own d::r,y::s,h=>by
   obtain⟨h1,h2⟩:=(show Slot.own d=y/\XY r s from h)
   subst h1;have q:=Le.of h2;refine⟨congrArg (·+1) q.1,fun i x e n=>?_⟩;cases i with
   | zero=>exact e
   | succ i=>exact q.2 i x (by simpa using e) n
end
def tD (K:PySem.W.Frag)(G:Gr)(dl:List Slot)(d:Dt):TE:=fun st H Q=>∃ Hf,dh K G st Hf H dl/\∀ v aK H',aU Hf H aK H'->Rep K aK v d->Q v H'
def XZ (K:PySem.W.Frag)(G:Gr)(dl:List Slot)(ds:List Dt):TA:=fun st H Q=>∃ Hf,dh K G st Hf H dl/\∀ vs aK H',aU Hf H aK H'->bK K aK vs ds->Q vs H'
def X0 (K:PySem.W.Frag)(G:Gr)(dl:List Slot)(b:Bool):TT:=fun st H Q=>∃ Hf,dh K G st Hf H dl/\∀ aK H',aU Hf H aK H'->Q b H'
abbrev EE (X:Cx)(G:Gr)(dl:List Slot)(e:Expr)(d:Dt):Prop:=PE X e (tD X.K G dl d)
abbrev EA (X:Cx)(G:Gr)(dl:List Slot)(es:List Expr)(ds:List Dt):Prop:=PA X es (XZ X.K G dl ds)
abbrev EB (X:Cx)(G:Gr)(dl:List Slot)(e:Expr)(b:Bool):Prop:=PT X e (X0 X.K G dl b)
def ExcAt (K:PySem.W.Frag)(Hf:Hp)(od:Option Addr)(fs:List (Str×Dt)):Prop:=match od with
 | none=>fs=[]
 | some dx=>∃ fv,Hf dx=some (.xd fv)/\bA K Hf fv fs
inductive Out where
 | nx (dl:List Slot)
 | rt (d:Dt)
 | ro (w:Own)
 | bk (dl:List Slot)
 | ct (dl:List Slot)
 | ex (c:Value) (fs:List (Str×Dt))
 | raw (R:L2.St->Hp->Prop)
def zp (K:W.Frag)(G:Gr)(E:XK)(D:Ends)(Hf:Hp):Out->Prop
 | .nx dl=>∀ st aK H,aH Hf aK->dh K G st aK H dl->D.nx st H
 | .bk dl=>∀ st aK H,aH Hf aK->dh K G st aK H dl->D.bk st H
 | .ct dl=>∀ st aK H,aH Hf aK->dh K G st aK H dl->D.ct st H
 | .rt d=>∀ v aK H,aU G.Hf G.H aK H->Rep K aK v d->D.rt v H
 | .ro o=>∀ p aK H,aU G.Hf G.H aK H->G.H p=none->aK p=none->iq K aK H p o->D.rt (.ref p) H
 | .ex c fs=>∀ od aK H,aU G.Hf G.H aK H->ExcAt K aK od fs->E c od H
 | .raw R=>∀ st H,R st H->D.nx st H
theorem zp.mono {K:W.Frag}{G:Gr}{E:XK}{D:Ends}{Hf av:Hp}(s:aH Hf av):∀ {o:Out},zp K G E D Hf o->zp K G E D av o
 | .nx _,k=>fun st aK H s' S=>k st aK H (s.trans s') S
 | .bk _,k=>fun st aK H s' S=>k st aK H (s.trans s') S
 | .ct _,k=>fun st aK H s' S=>k st aK H (s.trans s') S
 | .rt _,k=>k
 | .ro _,k=>k
 | .ex _ _,k=>k
 | .raw _,k=>k
def tO (K:W.Frag)(G:Gr)(E:XK)(dl:List Slot)(o:Out):TS:=fun D st H=>∃ Hf,dh K G st Hf H dl/\zp K G E D Hf o
abbrev ES (X:Cx)(G:Gr)(E:XK)(dl:List Slot)(s:Stmt)(o:Out):Prop:=PS X s (tO X.K G E dl o)
abbrev mP (X:Cx)(G:Gr)(E:XK)(dl:List Slot)(s:List Stmt)(o:Out):Prop:=Cy X s (tO X.K G E dl o)
theorem gX {X:Cx}{e:Expr}{t t':TE}(h:PE X e t)(i:∀ st H Q,t' st H Q->t st H Q):PE X e t':=fun pins s st H Q I q=>h pins s st H Q I (i st H Q q)
theorem Uk {X:Cx}{e:Expr}{t t':TT}(h:PT X e t)(i:∀ st H Q,t' st H Q->t st H Q):PT X e t':=fun pins s st H Q I q=>h pins s st H Q I (i st H Q q)
theorem paI {X:Cx}{e:List Expr}{t t':TA}(h:PA X e t)(i:∀ st H Q,t' st H Q->t st H Q):PA X e t':=fun pos pins s st H Q I q=>h pos pins s st H Q I (i st H Q q)
theorem vG {X:Cx}{e:Stmt}{t t':TS}(h:PS X e t)(i:∀ D st H,t' D st H->t D st H):PS X e t':=fun pins s st H D I q=>h pins s st H D I (i D st H q)
theorem C0 {X:Cx}{e:List Stmt}{t t':TS}(h:Cy X e t)(i:∀ D st H,t' D st H->t D st H):Cy X e t':=fun pins s st H D I q=>h pins s st H D I (i D st H q)
section
variable {X:Cx}{G:Gr}{dl:List Slot}{a b e:Expr}{i j:Int}{d d1 d2:Dt}{pos:Pos}{x y:Str}{u v:Bool}
theorem aa (n:Nat){x:Str}{pos:Pos}(hd:autoParam (dl[n]?=some (.val d)) jp)(hN:autoParam (X.N[n]?=some x) jp)(hv:autoParam (vC X.env.scope x) xz)(hb:autoParam ((x == ("__debug__":Str))=false) jO)(mh:autoParam ((x == ("__classdict__":Str))=false) jO):EE X G dl (.Name x pos) d:=
 gX (gU hN hv hb mh) fun st H Q zq=>aac zq fun Hf zq=>have S:=zq.1;have k:=zq.2;let ⟨v,h1,h2⟩:=S.val n d hd;⟨v,h1,k v Hf H (.refl S.sub) h2⟩
theorem aj {z:Int}{j pos}:EE X G dl (.Constant (.int z) j pos) (.int z):=gX Tj fun st H Q zq=>aac zq fun Hf zq=>have S:=zq.1;have k:=zq.2;k _ Hf H (.refl S.sub) (.int z)
theorem cf {z:Str}{j pos}:EE X G dl (.Constant (.str z) j pos) (.str z):=gX KI fun st H Q zq=>aac zq fun Hf zq=>have S:=zq.1;have k:=zq.2;k _ Hf H (.refl S.sub) (.str z)
theorem Lg {j pos}:EE X G dl (.Constant .none j pos) .cz:=gX Tn fun st H Q zq=>aac zq fun Hf zq=>have S:=zq.1;have k:=zq.2;k _ Hf H (.refl S.sub) .cz
def Hg (K:W.Frag)(r:R2)(d1 d2 d:Dt):Prop:=∀ v w Hf H Q,aH Hf H->Rep K Hf v d1->Rep K Hf w d2->(∀ u aK H',aU Hf H aK H'->Rep K aK u d->Q u H')->r v w H Q
theorem xJ {r:R2}(h:Hg X.K r d1 d2 d):∀ st H Q,tD X.K G dl d st H Q->Xp r (tD X.K G dl d1) (tD X.K G dl d2) st H Q:=fun st H Q zq=>aac zq fun Hf zq=>have S:=zq.1;have k:=zq.2;
 ⟨Hf,S,fun v av H1 g1 r1=>⟨av,S.grow g1,fun w bD H2 g2 r2=>h v w bD H2 Q g2.sub (r1.mono g2.bJ) r2 fun u jP H3 g3 r3=>k u jP H3 ((g1.trans g2).trans g3) r3⟩⟩
theorem xK {op:Operator}{r:R2}(ho:qX X (binaryOp op) r)(h:Hg X.K r d1 d2 d)(ha:EE X G dl a d1)(hb:EE X G dl b d2):EE X G dl (.BinOp a op b pos) d:=gX (RL ho ha hb) (xJ h)
theorem A4 {op:CmpOp}{r:R2}(ho:qX X (compareOp op) r)(h:Hg X.K r d1 d2 d)(hm:behindInMarks op b=false)(ha:EE X G dl a d1)(hb:EE X G dl b d2):EE X G dl (.Compare a [op] [b] pos) d:=gX (O7 ho ha hb hm) (xJ h)
theorem ml {op:CmpOp}{r:R2}(ho:qX X (compareOp op) r)(h:Hg X.K r d1 d2 (.bl u))(hm:behindInMarks op b=false)(ha:EE X G dl a d1)(hb:EE X G dl b d2):EB X G dl (.Compare a [op] [b] pos) u:=
 Uk (O8 ho ha hb hm) fun st H Q zq=>aac zq fun Hf zq=>have S:=zq.1;have k:=zq.2;xJ h st H _ ⟨Hf,S,fun v aK H' g r=>by cases r;exact⟨u,rfl,k aK H' g⟩⟩
theorem vm {K:W.Frag}{g:Int->Int->V}{g':Int->Int->Dt}(h:∀ K H i j,Rep K H (g i j) (g' i j)):Hg K (O4 g) (.int i) (.int j) (g' i j):=fun v w Hf H Q s r1 r2 k=>by
 cases r1;cases r2;exact⟨i,j,rfl,rfl,k _ Hf H (.refl s) (h _ _ _ _)⟩
theorem Pr {K:W.Frag}{C:Int->Int->Prop}{g:Int->Int->V}{g':Int->Int->Dt}(h:∀ K H i j,Rep K H (g i j) (g' i j))(hc:C i j):Hg K (rI C g) (.int i) (.int j) (g' i j):=fun v w Hf H Q s r1 r2 k=>by
 cases r1;cases r2;exact⟨i,j,rfl,rfl,hc,k _ Hf H (.refl s) (h _ _ _ _)⟩
theorem bU (ha:EE X G dl a (.int i))(hb:EE X G dl b (.int j)):EE X G dl (.BinOp a .Add b pos) (.int (i+j)):=xK TJ (vm (g':=fun i j=>.int (i+j)) fun _ _ _ _=>.int _) ha hb
theorem mn (ha:EE X G dl a (.int i))(hb:EE X G dl b (.int j)):EE X G dl (.BinOp a .Sub b pos) (.int (i - j)):=xK TK (vm (g':=fun i j=>.int (i - j)) fun _ _ _ _=>.int _) ha hb
theorem Pt:qX X (binaryOp .Mult) (rI IntMulOk fun i j=>.int (i * j)):=opI fun _ _ _ _ _ _ _ hc q=>mul_int q hc
theorem nA (ha:EE X G dl a (.int i))(hb:EE X G dl b (.int j))(hc:IntMulOk i j):EE X G dl (.BinOp a .Mult b pos) (.int (i * j)):=xK Pt (Pr (g':=fun i j=>.int (i * j)) (fun _ _ _ _=>.int _) hc) ha hb
theorem Lh:qX X (binaryOp .FloorDiv) (rI (fun _ j=>0 < j/\j.natAbs.log2 < 9000) fun i j=>.int (i / j)):=opI fun i j _ _ _ _ _ hc q=>by
 refine floordiv_int (abW hc.1) ?_ (.inl (PyProof.noPylong_of_log2 hc.2));rw[Int.fdiv_eq_ediv_of_nonneg _ (Int.le_of_lt hc.1)];exact q
theorem gB (ha:EE X G dl a (.int i))(hb:EE X G dl b (.int j))(hc:0 < j/\j.natAbs.log2 < 9000):EE X G dl (.BinOp a .FloorDiv b pos) (.int (i / j)):=xK Lh (Pr (g':=fun i j=>.int (i / j)) (fun _ _ _ _=>.int _) hc) ha hb
theorem dR (ha:EE X G dl a (.int i))(hb:EE X G dl b (.int j))(hc:0 < j):EE X G dl (.BinOp a .Mod b pos) (.int (i % j)):=xK TL (Pr (g':=fun i j=>.int (i % j)) (fun _ _ _ _=>.int _) hc) ha hb
theorem Li (ha:EE X G dl a (.int i))(hb:EE X G dl b (.int j))(hc:Xs i j):EE X G dl (.BinOp a .Pow b pos) (.int (i ^ j.toNat)):=xK TM (Pr (g':=fun i j=>.int (i ^ j.toNat)) (fun _ _ _ _=>.int _) hc) ha hb
theorem Ul {K:W.Frag}(h:x.length+y.length<=sizeLine):Hg K (fun a b H Q=>∃ i j,a=.str i/\b=.str j/\i.length+j.length<=sizeLine/\Q (.str (i ++ j)) H) (.str x) (.str y) (.str (x ++ y)):=fun v w Hf H Q s r1 r2 k=>by
 cases r1;cases r2;exact⟨x,y,rfl,rfl,h,k _ Hf H (.refl s) (.str _)⟩
theorem Um (ha:EE X G dl a (.str x))(hb:EE X G dl b (.str y))(h:x.length+y.length<=sizeLine):EE X G dl (.BinOp a .Add b pos) (.str (x ++ y)):=xK EZ (Ul h) ha hb
theorem jU (ha:EE X G dl a (.int i)):EE X G dl (.UnaryOp .USub a pos) (.int (-i)):=
 gX (Xq TN ha) fun st H Q zq=>zn zq fun Hf S k=>fun v av H1 g1 r1=>by cases r1;exact⟨i,rfl,k _ av H1 g1 (.int _)⟩
theorem jR (h:EE X G dl e (.bl u))(he:autoParam (∀ whole,isTrue e X.env whole=(do let v <- whole;standAt e.pos;holding [v] (truthy v))) xL):EB X G dl e u:=
 Uk (Tp h he) fun st H Q zq=>zn zq fun Hf S k=>fun v av H1 g1 r1=>by cases r1;exact⟨u,rfl,k av H1 g1⟩
end
section
variable {X:Cx}{G:Gr}{E:XK}{dl dl1:List Slot}{a b c e:Expr}{es:List Expr}{i j:Int}{d d1:Dt}{ds:List Dt}{pos:Pos}{o o':Out}{x:Str}{u v:Bool}{rest:List Expr}{sts IV:List Stmt}{s:Stmt}
theorem Fd:PE X e fun _ _ _=>False:=fun _ _ _ _ _ _ h=>h.elim
theorem pw_nev:PW X e fun _ _ _=>False:=fun _ _ _ _ _ _ _ h=>h.elim
abbrev EW (X:Cx)(G:Gr)(dl:List Slot)(e:Expr)(b:Bool):Prop:=PW X e (X0 X.K G dl b)
theorem pwI {e:Expr}{t t':TT}(h:PW X e t)(i:∀ st H Q,t' st H Q->t st H Q):PW X e t':=fun wh pins s st H Q I q=>h wh pins s st H Q I (i st H Q q)
theorem sP (ha:EB X G dl a u):EW X G dl (.BoolOp .And [a] pos) u:=pw_and1 ha
theorem ji (ha:EB X G dl a u):EW X G dl (.BoolOp .Or [a] pos) u:=pw_or1 ha
theorem pY (ha:EB X G dl a u)(hb:u=true->EW X G dl (.BoolOp .And (b::rest) pos) v):EW X G dl (.BoolOp .And (a::b::rest) pos) (u && v):=by
 cases u with
 | true=>exact pwI (pw_and ha (hb rfl)) fun st H Q zq=>zn zq fun Hf S k=>fun av H1 g1=>CW ⟨av,S.grow g1,fun bD H2 g2=>k bD H2 (g1.trans g2)⟩
 | false=>exact pwI (pw_and ha pw_nev) fun st H Q zq=>zn zq fun Hf S k=>fun av H1 g1=>CV (k av H1 g1)
theorem mW (ha:EB X G dl a u)(hb:u=false->EW X G dl (.BoolOp .Or (b::rest) pos) v):EW X G dl (.BoolOp .Or (a::b::rest) pos) (u || v):=by
 cases u with
 | false=>exact pwI (pw_or ha (hb rfl)) fun st H Q zq=>zn zq fun Hf S k=>fun av H1 g1=>CV ⟨av,S.grow g1,fun bD H2 g2=>k bD H2 (g1.trans g2)⟩
 | true=>exact pwI (pw_or ha pw_nev) fun st H Q zq=>zn zq fun Hf S k=>fun av H1 g1=>CW (k av H1 g1)
theorem nB (h:EW X G dl e u):EB X G dl e u:=h.pt
theorem A5 (ha:EB X G dl a u):EB X G dl (.UnaryOp .Not a pos) (!u):=Uk (Tq ha) fun st H Q zq=>zn zq fun Hf S k=>fun av H1 g1=>k av H1 g1
theorem A6 (ha:EE X G dl a (.bl u)):EE X G dl (.BoolOp .And [a] pos) (.bl u):=Ts ha
theorem Fe (ha:EE X G dl a (.bl u))(hb:u=true->EE X G dl (.BoolOp .And (b::rest) pos) (.bl v)):EE X G dl (.BoolOp .And (a::b::rest) pos) (.bl (u && v)):=by
 cases u with
 | true=>exact gX (KN ha (hb rfl)) fun st H Q zq=>zn zq fun Hf S k=>fun w av H1 g1 r1=>by cases r1;exact⟨true,rfl,CW ⟨av,S.grow g1,fun w bD H2 g2 r2=>k w bD H2 (g1.trans g2) r2⟩⟩
 | false=>exact gX (KN ha Fd) fun st H Q zq=>zn zq fun Hf S k=>fun w av H1 g1 r1=>by cases r1;exact⟨false,rfl,CV (k _ av H1 g1 (.bl _))⟩
theorem br (h:EB X G dl e u)(q:u=v):EB X G dl e v:=by subst q;exact h
theorem bI (h:EE X G dl e d)(q:d=d1):EE X G dl e d1:=by subst q;exact h
theorem Uo (hc:EB X G dl c u)(ha:u=true->EE X G dl a d)(hb:u=false->EE X G dl b d):EE X G dl (.IfExp c a b pos) d:=by
 cases u with
 | true=>exact gX (Cz hc (ha rfl) Fd) fun st H Q zq=>zn zq fun Hf S k=>fun av H1 g1=>CW ⟨av,S.grow g1,fun w bD H2 g2 r2=>k w bD H2 (g1.trans g2) r2⟩
 | false=>exact gX (Cz hc Fd (hb rfl)) fun st H Q zq=>zn zq fun Hf S k=>fun av H1 g1=>CV ⟨av,S.grow g1,fun w bD H2 g2 r2=>k w bD H2 (g1.trans g2) r2⟩
theorem ai:EA X G dl [] []:=paI oA fun st H Q zq=>aac zq fun Hf zq=>have S:=zq.1;have k:=zq.2;k [] Hf H (.refl S.sub) .nil
theorem ae (ha:EE X G dl e d)(hr:EA X G dl es ds)(hs:autoParam (starEach (e::es) X.env=(false,eval e X.env)::starEach es X.env) jp):EA X G dl (e::es) (d::ds):=
 paI (kg ha hr hs) fun st H Q zq=>zn zq fun Hf S k=>fun v av H1 g1 r1=>⟨av,S.grow g1,fun vs bD H2 g2 r2=>k _ bD H2 (g1.trans g2) (.cons (r1.mono g2.bJ) r2)⟩
theorem b9 {x1}(h:EA X G dl es ds)(hl:autoParam (ds.length<=sizeLine) jO):EE X G dl (.Tuple es x1 pos) (.tup ds):=
 gX (TY h) fun st H Q zq=>zn zq fun Hf S k=>fun vs av H1 g1 r1=>⟨by rw[r1.length];exact hl,fun p hp=>k _ (upd av p (.tup vs)) _ (g1.trans (.alloc g1.sub hp)) (.tup (.of ak) (r1.mono (bj (g1.sub.free hp))))⟩
theorem Lj (h:EA X G dl es ds)(hl:autoParam (ds.length<=sizeLine) jO):EE X G dl (.List es pos) (.lst ds):=
 gX (xB h) fun st H Q zq=>zn zq fun Hf S k=>fun vs av H1 g1 r1=>⟨by rw[r1.length];exact hl,fun p hp=>k _ (upd av p (.lst vs)) _ (g1.trans (.alloc g1.sub hp)) (.lst ak (r1.mono (bj (g1.sub.free hp))))⟩
theorem bK.pA {K:W.Frag}{H:Hp}{vs:List V}{ds:List Dt}{i:Int}{d:Dt}(r:bK K H vs ds)(h:L2.pA ds i=some d):∃ v,L2.pA vs i=some v/\Rep K H v d:=by
 unfold L2.pA at h ⊢;rw[r.length];cases q:CN ds.length i with
 | none=>rw[q] at h;cases h
 | some n=>
   rw[q] at h;exact r.get h
theorem aZ (ha:EE X G dl a (.tup ds))(hb:EE X G dl b (.int i))(h:pA ds i=some d)(hs:autoParam (lF b) wl):EE X G dl (.Subscript a b pos) d:=
 gX (xC T3 ha hb hs) (xJ fun v w Hf H Q s r1 r2 k=>by
   cases r1 with
   | tup q r=>
     cases r2;obtain⟨v,h1,h2⟩:=r.pA h;exact⟨_,_,i,v,rfl,rfl,gk s q,h1,k v Hf H (.refl s) h2⟩)
theorem rR (ha:EE X G dl a (.lst ds))(hb:EE X G dl b (.int i))(h:pA ds i=some d)(hs:autoParam (lF b) wl):EE X G dl (.Subscript a b pos) d:=
 gX (xC AX ha hb hs) (xJ fun v w Hf H Q s r1 r2 k=>by
   cases r1 with
   | lst q r=>
     cases r2;obtain⟨v,h1,h2⟩:=r.pA h;exact⟨_,_,i,v,rfl,rfl,.of (s _ _ q),h1,k v Hf H (.refl s) h2⟩)
theorem uv {ns:List Int}{z:Int}(ha:EE X G dl a (.rq ns))(hb:EE X G dl b (.int i))(h:pA ns i=some z)(hs:autoParam (lF b) wl):EE X G dl (.Subscript a b pos) (.int z):=
 gX (xC AX ha hb hs) (xJ fun v w Hf H Q s r1 r2 k=>by
   cases r1 with
   | rq q=>
     cases r2;have h':L2.pA (ns.map V.int) i=some (.int z):=by
       unfold L2.pA at h ⊢;rw[aaa];cases q2:CN ns.length i with
       | none=>rw[q2] at h;cases h
       | some n=>
         rw[q2] at h;show(ns.map V.int)[n]?=_;rw[aaf,show ns[n]?=some z from h];rfl
     exact⟨_,_,i,_,rfl,rfl,s.seq q,h',k _ Hf H (.refl s) (.int z)⟩)
theorem Up {z:Nat}(ha:EE X G dl a (.str x))(hb:EE X G dl b (.int i))(h:pA x.cps.toList i=some z)(hl:x.length<=sizeLine)(hs:autoParam (lF b) wl):EE X G dl (.Subscript a b pos) (.str ⟨#[z]⟩):=
 gX (xC T4 ha hb hs) (xJ fun v w Hf H Q s r1 r2 k=>by
   cases r1;cases r2;exact⟨x,i,z,rfl,rfl,hl,h,k _ Hf H (.refl s) (.str _)⟩)
theorem aS:mP X G E dl [] (.nx dl):=C0 O3 fun D st H zq=>aac zq fun Hf zq=>have S:=zq.1;have k:=zq.2;k st Hf H (aH.refl _) S
theorem ah (h1:ES X G E dl s (.nx dl1))(h2:mP X G E dl1 sts o):mP X G E dl (s::sts) o:=
 C0 (nK h1 h2) fun D st H zq=>zn zq fun Hf S k=>fun lr aK H' s' S'=>⟨aK,S',k.mono s'⟩
theorem ao (h1:ES X G E dl s o):mP X G E dl [s] o:=mU h1
theorem zp.stop {K:W.Frag}{D D':Ends}{Hf:Hp}(h:(∀ dl,o≠.nx dl)/\∀ R,o≠.raw R)(hr:D'.rt=D.rt)(hb:D'.bk=D.bk)(hc:D'.ct=D.ct)(k:zp K G E D Hf o):zp K G E D' Hf o:=by
 cases o with
 | nx dl=>exact absurd rfl (h.1 dl)
 | raw R=>exact absurd rfl (h.2 R)
 | rt d=>show ∀ v Hf H,_->_->D'.rt v H;rw[hr];exact k
 | ro d=>show ∀ v Hf H,_->_->_->_->D'.rt _ H;rw[hr];exact k
 | bk d=>show ∀ v Hf H,_->_->D'.bk v H;rw[hb];exact k
 | ct d=>show ∀ v Hf H,_->_->D'.ct v H;rw[hc];exact k
 | ex c fs=>exact k
theorem cI (h1:ES X G E dl s o)(h:(∀ dl,o≠.nx dl)/\(∀ R,o≠.raw R):=by exact⟨(fun _ z=>nomatch z),(fun _ z=>nomatch z)⟩):mP X G E dl (s::sts) o:=
 C0 (nK h1 (ue (sts:=sts))) fun D st H zq=>zn zq fun Hf S k=>zp.stop (D:=D) h rfl rfl rfl k
theorem Hh (h1:mP X G E dl1 sts o)(l:Le dl1 dl):mP X G E dl sts o:=C0 h1 fun D st H zq=>aac zq fun Hf zq=>have S:=zq.1;have k:=zq.2;⟨Hf,S.weak l,k⟩
theorem aL (hc:EB X G dl c u)(h1:u=true->mP X G E dl sts o)(h2:u=false->mP X G E dl IV o):ES X G E dl (.If c sts IV pos) o:=by
 cases u with
 | true=>exact vG (RJ hc (h1 rfl) (ue (sts:=IV))) fun D st H zq=>zn zq fun Hf S k=>fun av H1 g1=>CW ⟨av,S.grow g1,k.mono g1.bJ⟩
 | false=>exact vG (RJ hc (ue (sts:=sts)) (h2 rfl)) fun D st H zq=>zn zq fun Hf S k=>fun av H1 g1=>CV ⟨av,S.grow g1,k.mono g1.bJ⟩
theorem aN (h:EE X G dl e d):ES X G E dl (.Return (some e) pos) (.rt d):=vG (EV h) fun D st H zq=>zn zq fun Hf S k=>fun v av H1 g1 r1=>k v av H1 (S.gr.trans g1) r1
theorem jl (h:EE X G dl e d)(hs:autoParam (swapsWith e none pos.line X.env=pure false) jp):ES X G E dl (.Expr e pos) (.nx dl):=
 vG (kf h hs) fun D st H zq=>zn zq fun Hf S k=>fun v av H1 g1 r1=>k st av H1 g1.bJ (S.grow g1)
theorem aB (n:Nat){x:Str}{pos':Pos}(hN:X.N.Nodup)(he:EE X G dl e d)(hi:autoParam (X.N[n]?=some x) jp)(hx:autoParam (Loc X.env.scope x) vb)(hs:autoParam (swapsWith e (some (.Name x pos')) pos.line X.env=pure false) jp)(hf:autoParam (X.fn x=true\/X.env.scope.names.lookup x=some .local) v6):ES X G E dl (.Assign [.Name x pos'] e pos) (.nx (dl.set n (.val d))):=
 vG (AN hN hi hx he hs hf) fun D st H zq=>zn zq fun Hf S k=>fun v av H1 g1 r1=>k _ av H1 g1.bJ ((S.grow g1).set r1)
inductive rA (X:Cx)(G:Gr)(E:XK)(body:List Stmt)(S:Nat->List Slot)(pre:Nat->List Slot)(n m:Nat):Out->Prop
 | all (h:m=n):rA X G E body S pre n m (.nx (S n))
 | rt {d:Dt} (h:m < n) (hb:mP X G E (pre m) body (.rt d)):rA X G E body S pre n m (.rt d)
 | ro {d:Own} (h:m < n) (hb:mP X G E (pre m) body (.ro d)):rA X G E body S pre n m (.ro d)
 | bk {dl':List Slot} (h:m < n) (hb:mP X G E (pre m) body (.bk dl')):rA X G E body S pre n m (.nx dl')
 | ex {c:Value} {fs:List (Str×Dt)} (h:m < n) (hb:mP X G E (pre m) body (.ex c fs)):rA X G E body S pre n m (.ex c fs)
inductive Goes (X:Cx)(G:Gr)(E:XK)(body:List Stmt)(pre post:List Slot):Prop
 | nx {dl':List Slot} (hb:mP X G E pre body (.nx dl')) (l:Le post dl')
 | ct {dl':List Slot} (hb:mP X G E pre body (.ct dl')) (l:Le post dl')
def Lk (X:Cx)(G:Gr)(E:XK)(body:List Stmt):TS:=fun D st H=>∃ pre o,mP X G E pre body o/\tO X.K G E pre o D st H
theorem sQ {body:List Stmt}:Cy X body (Lk X G E body):=fun pins s st H D J ⟨pre,o,h,q⟩=>h pins s st H D J q
theorem qy {body:List Stmt}{pre post:List Slot}{D:Ends}{st:L2.St}{Hf H:Hp}(g:Goes X G E body pre post)(S:dh X.K G st Hf H pre)(hn:∀ st aK H,aH Hf aK->dh X.K G st aK H post->D.nx st H)(hc:∀ st aK H,aH Hf aK->dh X.K G st aK H post->D.ct st H):Lk X G E body D st H:=by
 cases g with
 | nx hb l=>exact⟨_,_,hb,Hf,S,fun lr aK H' s' S'=>hn lr aK H' s' (S'.weak l)⟩
 | ct hb l=>exact⟨_,_,hb,Hf,S,fun lr aK H' s' S'=>hc lr aK H' s' (S'.weak l)⟩
theorem uw {body:List Stmt}{S pre:Nat->List Slot}{n m:Nat}{D D':Ends}{st:L2.St}{Hf H:Hp}(e:rA X G E body S pre n m o)(hm:m < n)(S':dh X.K G st Hf H (pre m))(k:zp X.K G E D Hf o)(hr:D'.rt=D.rt)(Ff:D'.bk=D.nx):Lk X G E body D' st H:=by
 cases e with
 | all h=>omega
 | rt h hb=>exact⟨_,_,hb,Hf,S',by show ∀ v Hf H,_->_->D'.rt v H;rw[hr];exact k⟩
 | ro h hb=>exact⟨_,_,hb,Hf,S',by show ∀ v Hf H,_->_->_->_->D'.rt _ H;rw[hr];exact k⟩
 | bk h hb=>exact⟨_,_,hb,Hf,S',by show ∀ v Hf H,_->_->D'.bk v H;rw[Ff];exact k⟩
 | ex h hb=>exact⟨_,_,hb,Hf,S',k⟩
theorem Ll (nN:Nat){x:Str}{px:Pos}{body:List Stmt}{lo:Int}{n m:Nat}(S:Nat->List Slot)(hN:X.N.Nodup)(nO:X.calm=true)(hp:PassesOwn (model X.prog X.w) X.A X.env X.xe){wi:TI}{iter:Expr}(hI:PI X (.Name x px) iter wi)(hw:∀ st Hf H R,dh X.K G st Hf H dl->(∀ aK H',aU Hf H aK H'->R (TF lo n) H')->wi st H R)(h0:Le (S 0) dl)(hmn:m<=n)(hb:∀ k,k < m->Goes X G E body ((S k).set nN (.val (.int (lo+k)))) (S (k+1)))(he:rA X G E body S (fun k=>(S k).set nN (.val (.int (lo+k)))) n m o)(hi:autoParam (X.N[nN]?=some x) jp)(hx:autoParam (Loc X.env.scope x) vb)(hf:autoParam (X.fn x=true\/X.env.scope.names.lookup x=some .local) v6)(hs:autoParam (∀ x,foldedSetIterable iter X.env x=pure x) xL):ES X G E dl (.For (.Name x px) iter body [] pos) o:=by
 refine vG (AO hp nO hI (dM hN hi hx hf) (sQ (G:=G) (E:=E)) hs) fun D st H ⟨Hf,S0,k⟩=>hw st Hf H _ S0 fun aK H' g=>?_
 refine ID (lo:=lo) (n:=n) (fun j st H=>j<=m/\∃ av,aH Hf av/\dh X.K G st av H (S j)) ⟨abh _,aK,g.bJ,(S0.grow g).weak h0⟩ (fun j st H hj ⟨hjm,av,s1,Sj⟩=>?_) (fun st H ⟨hnm,av,s1,Sn⟩=>?_)
 . have Sp:dh X.K G (st.set nN (some (.int (lo+j)))) av H ((S j).set nN (.val (.int (lo+j)))):=Sj.set (.int _)
   by_cases dS:j < m
   . exact qy (hb j dS) Sp (fun st bD H s2 S'=>⟨dS,bD,s1.trans s2,S'⟩) (fun st bD H s2 S'=>⟨dS,bD,s1.trans s2,S'⟩)
   . have e:j=m:=by omega
     subst e;exact uw he hj Sp (k.mono s1) rfl rfl
 . have e:m=n:=by omega
   subst e;cases he with
   | all _=>exact k st av H s1 Sn
   | rt h _=>omega
   | ro h _=>omega
   | bk h _=>omega
   | ex h _=>omega
theorem l9 (nN:Nat){x:Str}{p px pc:Pos}{body:List Stmt}{n:Int}{m:Nat}(S:Nat->List Slot)(hN:X.N.Nodup)(nO:X.calm=true)(hp:PassesOwn (model X.prog X.w) X.A X.env X.xe)(OK:X.mg "range"=none)(ha:EA X G dl [a] [.int n])(hn:-(2 ^ 62)<=n/\n < 2 ^ 62)(h0:Le (S 0) dl)(hmn:m<=n.toNat)(hb:∀ k:Nat,k < m->Goes X G E body ((S k).set nN (.val (.int k))) (S (k+1)))(he:rA X G E body S (fun k=>(S k).set nN (.val (.int k))) n.toNat m o)(hg:autoParam (Gl X "range") jp)(hi:autoParam (X.N[nN]?=some x) jp)(hx:autoParam (Loc X.env.scope x) vb)(hf:autoParam (X.fn x=true\/X.env.scope.names.lookup x=some .local) v6)(Ko:autoParam (starEach [a] X.env=[(false,eval a X.env)]) jp)(hs:autoParam (∀ z,foldedSetIterable (.Call (.Name "range" p) [a] [] pc) X.env z=pure z) xL):ES X G E dl (.For (.Name x px) (.Call (.Name "range" p) [a] [] pc) body [] pos) o:=by
 have ez:∀ k:Nat,(0:Int)+k=k:=fun k=>Int.zero_add _
 have eS:(fun k:Nat=>(S k).set nN (.val (.int ((0:Int)+k))))=fun k:Nat=>(S k).set nN (.val (.int k)):=by funext k;rw[ez]
 refine Ll nN (lo:=0) (n:=n.toNat) (m:=m) S hN nO hp (uf hg OK ha Ko) (fun st Hf H R S0 h=>⟨Hf,S0,fun vs av H1 g1 r1=>?_⟩) h0 hmn (fun k hk=>by rw[ez];exact hb k hk) (by rw[eS];exact he) hi hx hf hs;cases r1 with
 | cons r t=>cases t;cases r;exact⟨n,rfl,hn.1,hn.2,h av H1 g1⟩
theorem Hi (nN:Nat){x:Str}{px:Pos}{iter:Expr}{body:List Stmt}{xs:List Dt}{m:Nat}(S:Nat->List Slot)(hN:X.N.Nodup)(nO:X.calm=true)(hp:PassesOwn (model X.prog X.w) X.A X.env X.xe)(hl:EE X G dl iter (.lst xs))(h0:Le (S 0) dl)(hmn:m<=xs.length)(hb:∀ (k:Nat) (z:Dt),k < m->xs[k]?=some z->Goes X G E body ((S k).set nN (.val z)) (S (k+1)))(he:rA X G E body S (fun k=>(S k).set nN (.val (xs.getD k .cz))) xs.length m o)(hi:autoParam (X.N[nN]?=some x) jp)(hx:autoParam (Loc X.env.scope x) vb)(hf:autoParam (X.fn x=true\/X.env.scope.names.lookup x=some .local) v6)(hs:autoParam (∀ z,foldedSetIterable iter X.env z=pure z) xL):ES X G E dl (.For (.Name x px) iter body [] pos) o:=by
 refine vG (AO hp nO (mV hl) (dM hN hi hx hf) (sQ (G:=G) (E:=E)) hs) fun D st H ⟨Hf,S0,k⟩=>⟨Hf,S0,fun v aK H' g r=>?_⟩
 cases r with
 | @lst a vs _ q r=>
   have hlen:=r.length;refine⟨a,rfl,⟨vs,.of (g.sub _ _ q)⟩,CD (xs:=vs) (fun j st H=>j<=m/\∃ av,aH aK av/\dh X.K G st av H (S j)) ⟨abh _,aK,aH.refl _,(S0.grow g).weak h0⟩ ?_ ?_ ?_⟩
   . rintro j st H _ ⟨_,av,s1,Sj⟩
     exact .of (Sj.sub _ _ (s1 _ _ q))
   . rintro j v st H hv ⟨hjm,av,s1,Sj⟩
     obtain⟨z,hz,rz⟩:=r.get' hv;have hj:j < xs.length:=(aaj.mp hz).1;have Sp:dh X.K G (st.set nN (some v)) av H ((S j).set nN (.val z)):=Sj.set (rz.mono s1);by_cases dS:j < m
     . exact qy (hb j z dS hz) Sp (fun st bD H s2 S'=>⟨dS,bD,s1.trans s2,S'⟩) (fun st bD H s2 S'=>⟨dS,bD,s1.trans s2,S'⟩)
     . have e:j=m:=by omega
       subst e;have ez:xs.getD j .cz=z:=by rw[aae,hz];rfl
       exact uw he hj (by show dh _ _ _ _ _ ((S j).set nN (.val (xs.getD j .cz)));rw[ez];exact Sp) (k.mono (g.bJ.trans s1)) rfl rfl
   . rintro st H ⟨hnm,av,s1,Sn⟩
     have e:m=xs.length:=by omega
     subst e;rw[hlen] at Sn;cases he with
     | all _=>exact k st av H (g.bJ.trans s1) Sn
     | rt h _=>omega
     | ro h _=>omega
     | bk h _=>omega
     | ex h _=>omega
inductive Res where
 | ret (d:Dt)
 | own (w:Own)
 | exc (c:Value) (fs:List (Str×Dt))
def X2 (K:W.Frag)(Hf H:Hp)(Q:VK)(E:XK):Res->Prop
 | .ret d=>∀ v aK H',aU Hf H aK H'->Rep K aK v d->Q v H'
 | .own w=>∀ p aK H',aU Hf H aK H'->H p=none->aK p=none->iq K aK H' p w->Q (.ref p) H'
 | .exc c fs=>∀ od aK H',aU Hf H aK H'->ExcAt K aK od fs->E c od H'
def Fg (K:W.Frag)(n:Nat)(R:List Dt->Res->Prop):Sp:=fun vs H Q E=>∃ Hf ds r,aH Hf H/\bK K Hf vs ds/\ds.length=n/\R ds r/\X2 K Hf H Q E r
def C1 (CX:qu):Prop:=∀ outer H s e s',CX outer H s E0 e s'->False
theorem aD:C1 CX0:=fun _ _ _ _ _ h=>h
theorem C1.passes {CX:qu}(n:C1 CX):Passes CX X E0:=fun _ _ _ _ _ _ _ h=>(n _ _ _ _ _ h).elim
noncomputable def slots (N:List Str)(ds:List Dt):List Slot:=ds.map Slot.val ++ aal (N.length - ds.length) .aY
theorem ux {K:W.Frag}{N:List Str}{Hf H:Hp}{vs:List V}{ds:List Dt}(s:aH Hf H)(r:bK K Hf vs ds):dh K ⟨Hf,H⟩ (start N vs) Hf H (slots N ds):=by
 have hl:=r.length;have AK:∀ (i:Nat) o,(slots N ds)[i]?≠some (.own o):=fun i o h=>by
   unfold slots at h;by_cases hi:i < ds.length
   . rw[aay (by simpa using hi),aaf] at h
     cases e:ds[i]? with
     | none=>rw[e] at h;cases h
     | some a=>rw[e] at h;cases h
   . rw[aaB (by simpa using hi),aaU] at h
     split at h <;> cases h
 refine⟨.refl s,?_,fun i d h=>?_,fun i o h=>absurd h (AK i o),fun i j o o' a h=>absurd h (AK i o)⟩
 . unfold L2.start slots
   simp[hl]
 . unfold slots at h
   by_cases hi:i < ds.length
   . rw[aay (by simpa using hi),aaf] at h
     cases e:ds[i]? with
     | none=>rw[e] at h;cases h
     | some a=>
       rw[e] at h;cases h;obtain⟨v,h1,h2⟩:=r.get e;refine⟨v,?_,h2⟩;unfold L2.start;rw[aay (by simp;omega),aaf,h1];rfl
   . rw[aaB (by simpa using hi),aaU] at h
     split at h <;> cases h
inductive Comes:Out->Res->Prop
 | rt (d:Dt):Comes (.rt d) (.ret d)
 | ro (d:Own):Comes (.ro d) (.own d)
 | nx (dl:List Slot):Comes (.nx dl) (.ret .cz)
 | kn {dl:List Slot} {d:Dt} (h:∀ K G st Hf H,dh K G st Hf H dl->Rep K Hf .cz d):Comes (.nx dl) (.ret d)
 | ex (c:Value) (fs:List (Str×Dt)):Comes (.ex c fs) (.exc c fs)
theorem Comes.ends {K:W.Frag}{Hf H:Hp}{Q:VK}{o:Out}{r:Res}(h:Comes o r)(k:X2 K Hf H Q E r):zp K ⟨Hf,H⟩ E { nx:=fun _ H'=>Q .cz H',rt:=Q} Hf o:=by
 cases h with
 | rt d=>exact k
 | ro d=>exact k
 | nx dl=>exact fun st aK H' s' S=>k _ aK H' S.gr .cz
 | kn h=>exact fun st aK H' s' S=>k _ aK H' S.gr (h _ _ _ _ _ S)
 | ex c fs=>exact k
theorem jb {P:Program}{w:World}{K:W.Frag}{mg:Str->Option Value}{base:Heap}{CX:qu}{x qual:Str}{st:Stmt}{f:Addr}{fd:FuncData}{N ps:List Str}{k n:Nat}{R:List Dt->Res->Prop}(F:Ui K x qual st f fd)(S:aq N ps (af st))(hn:ps.length=n)(nL:∀ (bc:Value) (A:Around) (outer:List Env) (s:Shared) (H:Hp) (E:XK) (G:Gr) (ds:List Dt) (r:Res),dk k (A.deeper (envOfC qual (af st) s.heap.objs.size f bc))->ds.length=n->R ds r->∃ o,Comes o r/\mP (pM CX P w K mg base N qual (af st) f bc A outer s H E) G E (slots N ds) (aG st) o):jh P w K mg base CX (k+1) f fd ps (Fg K n R):=by
 obtain⟨oc,od,kV,doc,pm,an,bc,ct,wA,rfl,lk,mh⟩:=F.ex;refine CI lk mh S (fun vs H Q E zq=>by obtain⟨Hf,ds,r,s,rp,hl,_⟩:=zq;rw[rp.length,hl,hn]) fun A outer s H vs Q E hr zq=>?_;obtain⟨Hf,ds,r,sm,rp,hl,hR,hk⟩:=zq
 obtain⟨o,hc,hb⟩:=nL bc A outer s H E ⟨Hf,H⟩ ds r hr hl hR;exact⟨_,hb,Hf,ux sm rp,hc.ends hk⟩
section
variable {CX:qu}{k n:Nat}{f C:Addr}{fd:FuncData}{ps:List Str}{R:List Dt->Res->Prop}{m:Str}{p apos:Pos}{ob:Expr}{dvs:List Dt}{vds:List V}{Fh:List Value}{fs:List (Str×Dt)}
theorem Pu (F:jh X.prog X.w X.K X.mg X.base CX k f fd ps (Fg X.K n R))(nx:C1 CX)(hr:dk k X.A)(hm:X.mg x=some (.ref f))(hk:W.keepIn X.K (.ref f)=true)(hb:Binds X.K fd ps Fh)(hd:Vals vds Fh)(A7:∀ H,bK X.K H vds dvs)(ha:EA X G dl (e::es) ds)(hl:(ds ++ dvs).length=n)(h:R (ds ++ dvs) (.ret d))(hg:autoParam (Gl X x) jp)(jg:autoParam ((x == ("__debug__":Str))=false) jO)(he:autoParam (starEach (e::es) X.env=(false,eval e X.env)::starEach es X.env) jp)(kW:autoParam ((backTo pos (starEach es X.env)).any (·.1)=false) jp):EE X G dl (.Call (.Name x p) (e::es) [] pos) d:=
 gX (AU (E:=E0) F hr hg hm hk hb hd nx.passes ha jg he kW) fun st H Q zq=>zn zq fun Hf S k=>fun vs av H1 g1 r1=>⟨av,ds ++ dvs,.ret d,g1.sub,r1.append (A7 _),hl,h,fun v bD H2 g2 r2=>k v bD H2 (g1.trans g2) r2⟩
theorem Hj {pl:Sem Bool}(he:EE X G dl ob (.obj C fs))(c:wz X.K C)(hm:Meth X.K C m f)(F:jh X.prog X.w X.K X.mg X.base CX k f fd ps (Fg X.K n R))(nx:C1 CX)(hr:dk k X.A)(hb:Binds X.K fd ps Fh)(hd:Vals vds Fh)(A7:∀ H,bK X.K H vds dvs)
   (ha:EA X G dl (e::es) ds) (hl:(.obj C fs::(ds ++ dvs)).length=n) (h:R (.obj C fs::(ds ++ dvs)) (.ret d)) (oC:fs.lookup m=none)
   (jQ:autoParam (starEach (e::es) X.env=(false,eval e X.env)::starEach es X.env) jp) (kW:autoParam ((backTo pos (starEach es X.env)).any (·.1)=false) jp)
   (ht:autoParam (eval (.Call (.Attribute ob m apos) (e::es) [] pos) X.env=(do
     let ov <- eval ob X.env
     standAt apos.atName
     let (f,first) <- holding [ov] (getMethod ov m pl)
     callWith pos f first (backTo pos (starEach (e::es) X.env)) (backToKw pos (keywordEach [] X.env)))) jp):EE X G dl (.Call (.Attribute ob m apos) (e::es) [] pos) d:=
 gX (AV (pl:=pl) (E:=E0) he c hm F hr hb hd nx.passes ha jQ kW ht) fun st H Q zq=>zn zq fun Hf S k=>fun v av H1 g1 r1=>by
   cases r1 with
   | @obj a _ dx fv _ q r=>
     exact⟨a,dx,fv,rfl,d8 g1.sub q,r.none_of oC,av,S.grow g1,fun vs bD H2 g2 r2=>⟨bD,_,.ret d,g2.sub,.cons (.obj (d8 g2.bJ q) (r.mono g2.bJ)) (r2.append (A7 _)),hl,h,fun v jP H3 g3 r3=>k v jP H3 ((g1.trans g2).trans g3) r3⟩⟩
theorem C3 {pl:Sem Bool}(he:EE X G dl ob (.obj C fs))(c:wz X.K C)(hm:Meth X.K C m f)(F:jh X.prog X.w X.K X.mg X.base CX k f fd ps (Fg X.K n R))(nx:C1 CX)(hr:dk k X.A)(hb:Binds X.K fd ps Fh)(hd:Vals vds Fh)(A7:∀ H,bK X.K H vds dvs)
   (hl:(Dt.obj C fs::dvs).length=n) (h:R (.obj C fs::dvs) (.ret d)) (oC:fs.lookup m=none)
   (ht:autoParam (eval (.Call (.Attribute ob m apos) [] [] pos) X.env=(do
     let ov <- eval ob X.env
     standAt apos.atName
     let (f,first) <- holding [ov] (getMethod ov m pl)
     callWith pos f first (backTo pos (starEach [] X.env)) (backToKw pos (keywordEach [] X.env)))) jp):EE X G dl (.Call (.Attribute ob m apos) [] [] pos) d:=
 gX (CG (pl:=pl) (E:=E0) he c hm F hr hb hd nx.passes ht) fun st H Q zq=>zn zq fun Hf S k=>fun v av H1 g1 r1=>by
   cases r1 with
   | @obj a _ dx fv _ q r=>
     exact⟨a,dx,fv,rfl,d8 g1.sub q,r.none_of oC,av,_,.ret d,g1.sub,.cons (.obj q r) (A7 _),hl,h,fun v jP H3 g3 r3=>k v jP H3 (g1.trans g3) r3⟩
end
end
section
variable {X:Cx}{G:Gr}{dl:List Slot}{a b c e:Expr}{i j:Int}{d d1 d2:Dt}{ds:List Dt}{pos p:Pos}{o:Out}{x y f:Str}{u v:Bool}{s:Stmt}{C:Addr}{fs:List (Str×Dt)}
theorem Lm {T:String}(hm:X.mg x=none)(hv:bootBuiltins x=some (.type T))(hg:autoParam (Gl X x) jp)(hn:autoParam (x≠"__name__") jO)(hd:autoParam ((x == ("__debug__":Str))=false) jO):EE X G dl (.Name x pos) (.ty T):=
 gX (O2 (v:=.ty T) hg hm hv rfl hn hd) fun st H Q zq=>aac zq fun Hf zq=>have S:=zq.1;have k:=zq.2;k _ Hf H (.refl S.sub) (.ty T)
theorem kZ (hm:X.mg x=some (.ref C))(hg:autoParam (Gl X x) jp)(hd:autoParam ((x == ("__debug__":Str))=false) jO):EE X G dl (.Name x pos) (.cls C):=
 gX (GX (v:=.ref C) hg hm rfl hd) fun st H Q zq=>aac zq fun Hf zq=>have S:=zq.1;have k:=zq.2;k _ Hf H (.refl S.sub) (.cls C)
theorem iz {w:V}{z:Value}(hm:X.mg x=some z)(r:RelV w z)(hr:∀ H,Rep X.K H w d)(hg:autoParam (Gl X x) jp)(hd:autoParam ((x == ("__debug__":Str))=false) jO):EE X G dl (.Name x pos) d:=
 gX (GX hg hm r hd) fun st H Q zq=>aac zq fun Hf zq=>have S:=zq.1;have k:=zq.2;k _ Hf H (.refl S.sub) (hr _)
theorem boot_list:bootBuiltins "list"=some (.type "list"):=by decide +kernel
theorem boot_dict:bootBuiltins "dict"=some (.type "dict"):=by decide +kernel
theorem k6:bootBuiltins "ValueError"=some (.type "ValueError"):=by decide +kernel
structure Uq (K:W.Frag)(C:Addr):Prop where
 makes:W.makesIn K C=true
 init:W.findIn K (.ref C) "__init__"=some (some (.builtin "object.__init__"))
 kp:W.keepIn K (.ref C)=true
theorem IW {pins:List (Addr×Obj)}{st:L2.St}{H:Hp}{s:Shared}{Q:VK}(M:Uq X.K C)(I:L2.Inv X pins st H s)(h:∀ x dx,H x=none->H dx=none->dx≠x->Q (.ref x) (upd (upd H dx (.own x)) x (.ins C dx []))):wpAny (model X.prog X.w) X.A (call (.ref C) []) (EP X pins st Q) X.xe s:=by
 have hq:=h (s.heap.objs.size+1) s.heap.objs.size (I.aR.fresh (abD _)) (I.aR.fresh (aai _)) (aap (abR _));have I2:=L2.Inv.made (C:=C) I;refine wpAny_call (IH (s:=s) I.ke M.makes M.init (fun self=>W.Looks.of_pure (W.oi_bind self)) ?_);obtain⟨hh,g,d,t,os⟩:=s;have Y:=W.makes_of (M:=model X.prog X.w) I.ke M.makes;have t1:W.Looks (model X.prog X.w) ((hh.push W.emptyDict).push (W.instObj C hh.objs.size)) (typeOf (.ref (hh.objs.size+1))) (.ref C):=by
   have e2:=aaq (hh.push W.emptyDict) (o:=W.instObj C hh.objs.size) rfl;rw[abK] at e2;exact(W.Looks.ld e2).andThen .now
 have t2:W.Looks (model X.prog X.w) ((hh.push W.emptyDict).push (W.instObj C hh.objs.size)) (isInstance (.ref (hh.objs.size+1)) (.type "object")) true:=t1.andThen (Y.top.keeps fun b o e=>aad _ (aad _ e));refine codeAny_call_builtin W.oi_plain W.entry_oi (@W.check_slot (model X.prog X.w) _ _ _ "object.__init__" "object" "__init__" (.ref (hh.objs.size+1)) [] [] _ W.oi_kind W.oi_split t2 (W.oi_args (.ref (hh.objs.size+1))) ?_);rw[W.oi_run];exact wpAny_pure (And.intro rfl ⟨V.ref (hh.objs.size+1),_,I2,rfl,hq⟩)
theorem aI (he:EE X G dl e (.obj C fs))(c:wz X.K C)(n:bW X.K C f)(h:fs.lookup f=some d)(hb:autoParam (attributeBase e f X.env (eval e X.env)=eval e X.env) jp):EE X G dl (.Attribute e f pos) d:=
 gX (xy he hb) fun st H Q zq=>zn zq fun Hf S k=>fun v av H1 g1 r1=>by
   cases r1 with
   | @obj a _ dx fv _ q r=>
     obtain⟨y,h1,h2⟩:=r.lookup h;exact⟨a,C,dx,fv,y,rfl,d8 g1.sub q,c,n,h1,k y av H1 g1 h2⟩
theorem Hk (hm:X.mg "len"=none)(ha:EE X G dl a (.lst ds))(hg:autoParam (Gl X "len") jp)(he:autoParam (starEach [a] X.env=[(false,eval a X.env)]) jp):EE X G dl (.Call (.Name "len" p) [a] [] pos) (.int ds.length):=
 gX (ip sM hg hm PySem.boot_len (ae ha ai he) (he:=he)) fun st H Q zq=>zn zq fun Hf S k=>fun vs av H1 g1 r1=>by
   cases r1 with
   | cons r t=>cases t;cases r with
     | @lst q vs _ z w=>exact⟨q,vs,rfl,.inl (.of (g1.sub _ _ z)),by rw[w.length];exact k _ av H1 g1 (.int _)⟩
theorem A8 {ns:List Int}(hm:X.mg "len"=none)(ha:EE X G dl a (.rq ns))(hg:autoParam (Gl X "len") jp)(he:autoParam (starEach [a] X.env=[(false,eval a X.env)]) jp):EE X G dl (.Call (.Name "len" p) [a] [] pos) (.int ns.length):=
 gX (ip sM hg hm PySem.boot_len (ae ha ai he) (he:=he)) fun st H Q zq=>zn zq fun Hf S k=>fun vs av H1 g1 r1=>by
   cases r1 with
   | cons r t=>cases t;cases r with
     | @rq q _ z=>exact⟨q,_,rfl,.inl (g1.sub.seq z),by rw[aaa];exact k _ av H1 g1 (.int _)⟩
theorem A9 (hm:X.mg "len"=none)(ha:EE X G dl a (.str x))(hl:x.length<=sizeLine)(hg:autoParam (Gl X "len") jp)(he:autoParam (starEach [a] X.env=[(false,eval a X.env)]) jp):EE X G dl (.Call (.Name "len" p) [a] [] pos) (.int x.length):=
 gX (ip AZ hg hm PySem.boot_len (ae ha ai he) (he:=he)) fun st H Q zq=>zn zq fun Hf S k=>fun vs av H1 g1 r1=>by
   cases r1 with
   | cons r t=>cases t;cases r;exact⟨x,rfl,hl,k _ av H1 g1 (.int _)⟩
noncomputable def tyD:Dt->Value
 | .cz=>.type "NoneType"
 | .bl _=>.type "bool"
 | .int _=>.type "int"
 | .str _=>.type "str"
 | .tup _=>.type "tuple"
 | .lst _=>.type "list"
 | .rq _=>.type "list"
 | .fw _=>.type "dict"
 | .obj C _=>.ref C
 | .ty _=>.type "type"
 | .cls _=>.type "type"
 | .xo C=>.ref C
 | .rQ _=>.type "dict"
 | .sO C _=>.ref C
 | .d7 _=>.type "dict"
 | .memo _ _ _ _=>.type "list"
 | .eG _ _ _ _=>.type "list"
 | .wC _ _ _=>.type "NoneType"
 | .xH C _ _ _ _=>.ref C
 | _=>.type "object"
structure TyC (K:W.Frag)(C:Addr):Prop where
 cl:wz K C
 ha:W.findIn K (.ref C) "__class__"=some (some (.builtin "object.__class__"))
 hn:W.specialIn K (.builtin "object.__class__") "__get__"=some (some (.builtin "getset_descriptor.__get__"))
 TX:W.takesIn K (.builtin "object.__class__")=some true
 hm:W.mroIn K C (.type "object")=some true
def Ur (K:W.Frag):Dt->Prop
 | .obj C _=>TyC K C
 | .xo C=>Ld K C
 | .sO C _=>Ld K C
 | .memo _ _ _ _=>False
 | .eG _ _ _ _=>False
 | .wC _ _ _=>False
 | .xH C _ _ _ _=>TyC K C
 | .jf _=>False
 | .ny _=>False
 | .ty _=>False
 | .cls _=>False
 | _=>True
noncomputable def X3:Dt->Option Value
 | .ty n=>some (.type n)
 | .cls C=>some (.ref C)
 | _=>none
theorem Ln {pins:List (Addr×Obj)}{st:L2.St}{Hf H:Hp}{s:Shared}{Q:Value->Shared->Prop}{w:V}{z c:Value}{r:Bool}(I:L2.Inv X pins st H s)(sm:aH Hf H)(rp:Rep X.K Hf w d)(rx:RelV w z)(t:Ur X.K d)(e:W.kitOne X.K (tyD d) c=some r)(h:∀ tk,Q (.bool r) { s with toks:=tk}):wpAny (model X.prog X.w) X.A (call (.builtin "isinstance") [z,c]) Q X.xe s:=by
 cases rp with
 | cz=>cases (show z=Value.none from rx);exact W.kia_one W.kitx_none I.ke True.intro e (fun z=>nomatch z) h
 | bl y=>cases (show z=Value.bool y from rx);exact W.kia_one W.kitx_bool I.ke True.intro e (fun z=>nomatch z) h
 | int i=>obtain⟨t,q⟩:=(show ∃ t,z=Value.int i t from rx);cases q;exact W.kia_one W.kitx_int I.ke True.intro e (fun z=>nomatch z) h
 | str y=>obtain⟨t,q⟩:=(show ∃ t,z=Value.str y t from rx);cases q;exact W.kia_one W.kitx_str I.ke True.intro e (fun z=>nomatch z) h
 | @tup a vs ds q rr=>
   cases (show z=Value.ref a from rx);obtain⟨aJ,_,⟨o,h1,h2,_⟩,_⟩:=I.tuple (gk sm q);exact W.kia_one W.kitx_tuple I.ke ⟨o,h1,h2⟩ e (fun z=>nomatch z) h
 | @lst a vs ds q rr=>
   cases (show z=Value.ref a from rx);obtain⟨aJ,_,⟨o,n,h1,h2,_⟩,_⟩:=I.list (.of (sm _ _ q));exact W.kia_one W.kitx_list I.ke ⟨o,h1,h2⟩ e (fun z=>nomatch z) h
 | @rq a ns q=>
   cases (show z=Value.ref a from rx);obtain⟨aJ,_,⟨o,n,h1,h2,_⟩,_⟩:=I.list (sm.seq q);exact W.kia_one W.kitx_list I.ke ⟨o,h1,h2⟩ e (fun z=>nomatch z) h
 | @fw a kvs kds q rr=>
   cases (show z=Value.ref a from rx);exact uk (x:=.ref a) I rfl (.dK (sm _ _ q)) e h
 | @obj a C dx fv fs q rr=>
   cases (show z=Value.ref a from rx);have t:TyC X.K C:=t;exact uk (x:=.ref a) I rfl (.ins (d8 sm q) t.cl t.ha t.hn t.TX t.hm) e h
 | ty n=>exact t.elim
 | cls C=>exact t.elim
 | @xo a C ph q hp=>
   cases (show z=Value.ref a from rx);have t:Ld X.K C:=t;have ok:aM X.prog X.w H s.heap a (.ext ph):=I.aR a _ (sm _ _ q);exact W.kia_one (CY t) I.ke (hp _ ok.1) e (fun z=>nomatch z) h
 | @rQ a ob kvs kds q rr=>
   cases (show z=Value.ref a from rx);obtain⟨_,_,vs,_,D⟩:=vj (kvs:=kvs) I.aR (.inr (.inl ⟨ob,sm _ _ q⟩));exact W.kia_one W.kitx_dict I.ke D.typeIs e (fun z=>nomatch z) h
 | @sO a C dx ph fv fs q hp g rr=>
   cases (show z=Value.ref a from rx);have t:Ld X.K C:=t;have ok:aM X.prog X.w H s.heap a (.ext ph):=I.aR a _ (sm _ _ q);exact W.kia_one (CY t) I.ke (hp _ ok.1).of e (fun z=>nomatch z) h
 | @d7 a tg ob kvs kds q rr=>
   cases (show z=Value.ref a from rx);obtain⟨_,_,vs,_,D⟩:=vj (kvs:=kvs) I.aR (.inr (.inr (.inl ⟨tg,ob,kvs,sm _ _ q,rfl⟩)));exact W.kia_one W.kitx_dict I.ke D.typeIs e (fun z=>nomatch z) h
 | memo=>exact t.elim
 | eG=>exact t.elim
 | jf=>exact t.elim
 | ny=>exact t.elim
 | wC=>exact t.elim
 | @xH a _ C dx fv fs gs nm n ls _ q rr=>
   cases (show z=Value.ref a from rx);have t:TyC X.K C:=t;exact uk (x:=.ref a) I rfl (.ins (d8 sm q) t.cl t.ha t.hn t.TX t.hm) e h
theorem boot_isinstance:bootBuiltins "isinstance"=some (.builtin "isinstance"):=by decide +kernel
def abC (K:W.Frag)(d d2:Dt)(r:Bool):List V->Hp->VK->Prop:=fun xs H Q=>∃ Hf w c,xs=[w,c]/\aH Hf H/\Rep K Hf w d/\Rep K Hf c d2/\Q (.bl r) H
theorem Lo {r:Bool}{z:Value}(hc:X3 d2=some z)(t:Ur X.K d)(h:W.kitOne X.K (tyD d) z=some r):mj X (.builtin "isinstance") (abC X.K d d2 r):=by
 intro pins s st H xs us Q I rv zq;obtain⟨Hf,w,c,e,sm,r1,r2,q⟩:=zq;subst e;cases rv with
 | cons q1 t1=>
   cases t1 with
   | cons q2 t2=>
     cases t2;rename_i ud uc;have ez:uc=z:=by
       cases r2 with
       | ty n=>cases hc;exact q2
       | cls C=>cases hc;exact q2
       | _=>cases hc
     subst ez;exact Ln I sm r1 q1 t h fun tk=>⟨.bl r,H,I.tok _,rfl,q⟩
theorem iZ {r:Bool}{z:Value}(hm:X.mg "isinstance"=none)(ha:EE X G dl a d)(hb:EE X G dl b d2)(hc:X3 d2=some z)(t:Ur X.K d)(h:W.kitOne X.K (tyD d) z=some r)(hg:autoParam (Gl X "isinstance") jp)(he:autoParam (starEach [a,b] X.env=(false,eval a X.env)::starEach [b] X.env) jp)(Us:autoParam (starEach [b] X.env=[(false,eval b X.env)]) jp)(kW:autoParam ((backTo pos (starEach [b] X.env)).any (·.1)=false) jp):EE X G dl (.Call (.Name "isinstance" p) [a,b] [] pos) (.bl r):=
 gX (ip (Lo hc t h) hg hm boot_isinstance (ae ha (ae hb ai Us) he) (by decide) (by decide) he kW) fun st H Q zq=>zn zq fun Hf S k=>fun vs av H1 g1 r1=>by
   cases r1 with
   | cons r1 t1=>cases t1 with
     | cons r2 t2=>cases t2;exact⟨av,_,_,rfl,g1.sub,r1,r2,k _ av H1 g1 (.bl _)⟩
mutual
noncomputable def pd:Dt->PyData
 | .cz=>.none
 | .bl b=>.bool b
 | .int i=>.int i
 | .str x=>.str x
 | .tup ds=>.tuple (C4 ds)
 | .lst ds=>.list (C4 ds)
 | .rq _=>.none
 | .fw _=>.none
 | .obj _ _=>.none
 | .ty _=>.none
 | .cls _=>.none
 | .xo _=>.none
 | .rQ _=>.none
 | .sO _ _=>.none
 | .d7 _=>.none
 | .memo _ _ _ _=>.none
 | .eG _ _ _ _=>.none
 | .wC _ _ _=>.none
 | .xH _ _ _ _ _=>.none
 | .jf _=>.none
 | .ny _=>.none
noncomputable def C4:List Dt->List PyData
 | []=>[]
 | d::r=>pd d::C4 r
end
mutual
noncomputable def plain:Dt->Bool
 | .tup ds=>jV ds
 | .lst ds=>jV ds
 | .rq _=>false
 | .fw _=>false
 | .obj _ _=>false
 | .ty _=>false
 | .cls _=>false
 | .xo _=>false
 | .rQ _=>false
 | .sO _ _=>false
 | .d7 _=>false
 | .memo _ _ _ _=>false
 | .eG _ _ _ _=>false
 | .wC _ _ _=>false
 | .xH _ _ _ _ _=>false
 | .jf _=>false
 | .ny _=>false
 | .cz=>true
 | .bl _=>true
 | .int _=>true
 | .str _=>true
noncomputable def jV:List Dt->Bool
 | []=>true
 | d::r=>plain d && jV r
end
section
variable {pins:List (Addr×Obj)}{st:L2.St}{Hf H:Hp}{s:Shared}
theorem pZ (I:L2.Inv X pins st H s)(sm:aH Hf H):∀ {w:V} {d:Dt} {z:Value},Rep X.K Hf w d->plain d=true->RelV w z->∃ as,Reads s.heap z (pd d) as:=@fun w d z zq=>@Rep.rec X.K Hf (fun w d _=>∀ z,plain d=true->RelV w z->∃ as,Reads s.heap z (pd d) as) (fun vs ds _=>∀ zs,jV ds=true->Vals vs zs->∃ as,ReadsAll s.heap zs (C4 ds) as) (fun _ _ _=>True) (fun _ _ _=>True)
  (fun  z _ r=>by cases (show z=Value.none from r);exact⟨_,.none⟩)
  (fun b z _ r=>by cases (show z=Value.bool b from r);exact⟨_,.bool b⟩)
  (fun i z _ r=>by obtain⟨t,q⟩:=(show ∃ t,z=Value.int i t from r);cases q;exact⟨_,.int i t⟩)
  (fun x z _ r=>by obtain⟨t,q⟩:=(show ∃ t,z=Value.str x t from r);cases q;exact⟨_,.str x t⟩)
  (@fun a vs ds q rr zi z h r=>by
   cases (show z=Value.ref a from r);obtain⟨aJ,rv,⟨o,h1,h2,n,h3⟩,_⟩:=I.tuple (gk sm q);obtain⟨as,ra⟩:=zi _ (by rw[plain] at h;exact h) rv;refine⟨as,?_⟩;rw[pd];exact .tuple h1 h2 h3 (by simpa using ra))
  (@fun a vs ds q rr zi z h r=>by
   cases (show z=Value.ref a from r);obtain⟨aJ,rv,⟨o,n,h1,h2,_,h3⟩,_⟩:=I.list (.of (sm _ _ q));obtain⟨as,ra⟩:=zi _ (by rw[plain] at h;exact h) rv;refine⟨a::as,?_⟩;rw[pd];exact .list h1 h2 h3 (by simpa using ra))
  (fun _ _ h _=>by rw[plain] at h;cases h)
  (fun _ _ zi _ h _=>by rw[plain] at h;cases h)
  (fun _ _ zi _ h _=>by rw[plain] at h;cases h)
  (fun _ _ h _=>by rw[plain] at h;cases h)
  (fun _ _ h _=>by rw[plain] at h;cases h)
  (fun _ _ _ h _=>by rw[plain] at h;cases h)
  (fun _ _ zi _ h _=>by rw[plain] at h;cases h)
  (fun _ _ _ _ zi _ h _=>by rw[plain] at h;cases h)
  (fun _ _ zi _ h _=>by rw[plain] at h;cases h)
  (fun _ _ _ _ _ h _=>by rw[plain] at h;cases h)
  (fun _ _ _ _ _ h _=>by rw[plain] at h;cases h)
  (fun _ _ h _=>by rw[plain] at h;cases h)
  (fun _ _ _ zi _ h _=>by rw[plain] at h;cases h)
  (fun _ _ h _=>by rw[plain] at h;cases h)
  (fun _ _ h _=>by rw[plain] at h;cases h)
  (fun _ _ w=>by cases w;exact⟨[],by rw[C4];exact .nil⟩) (fun r t zi zj _ h w=>by
   cases w with|cons q w=>rw[jV,aaE] at h;obtain⟨as,h1⟩:=zi _ h.1 q;obtain⟨bs,h2⟩:=zj _ h.2 w;exact⟨as ++ bs,by rw[C4];exact .cons h1 h2⟩) ⟨⟩ (fun _ _ _ _=>⟨⟩) ⟨⟩ (fun _ _ _ _=>⟨⟩) _ _ zq z
theorem uy (I:L2.Inv X pins st H s)(sm:aH Hf H):∀ {vs:List V} {ds:List Dt} {zs:List Value},bK X.K Hf vs ds->jV ds=true->Vals vs zs->∃ as,ReadsAll s.heap zs (C4 ds) as:=by
 intro vs ds zs q h w;induction ds generalizing vs zs with
 | nil=>cases q;cases w;exact⟨[],by rw[C4];exact .nil⟩
 | cons _ _ ih=>cases q with|cons r t=>cases w with|cons q w=>rw[jV,aaE] at h;obtain⟨as,h1⟩:=pZ I sm r h.1 q;obtain⟨bs,h2⟩:=ih t h.2 w;exact⟨as ++ bs,by rw[C4];exact .cons h1 h2⟩
end
def EM (d:Dt):Prop:=plain d=true/\SeqAt.shaped (pd d)=true
def Ut (K:PySem.W.Frag)(d1 d2:Dt)(g:Bool->Bool):R2:=fun x y H Q=>∃ Hf,aH Hf H/\Rep K Hf x d1/\Rep K Hf y d2/\EM d1/\EM d2/\Q (.bl (g (PyData.eqv (pd d1) (pd d2)))) H
theorem Lp (hu:X.A.units+64 < cLine):qX X (compareOp .Eq) (Ut X.K d1 d2 id):=by
 intro pins s st H x y v w Q I rx ry zq;obtain⟨Hf,sm,r1,r2,o1,o2,q⟩:=zq;obtain⟨as,h1⟩:=pZ I sm r1 o1.1 rx;obtain⟨bs,h2⟩:=pZ I sm r2 o2.1 ry;exact eq_dataH h1 h2 o1.2 o2.2 hu ⟨.bl _,H,I,rfl,q⟩
theorem Uu (hu:X.A.units+64 < cLine):qX X (compareOp .NotEq) (Ut X.K d1 d2 (!·)):=by
 intro pins s st H x y v w Q I rx ry zq;obtain⟨Hf,sm,r1,r2,o1,o2,q⟩:=zq;obtain⟨as,h1⟩:=pZ I sm r1 o1.1 rx;obtain⟨bs,h2⟩:=pZ I sm r2 o2.1 ry;exact ne_dataH h1 h2 o1.2 o2.2 hu ⟨.bl _,H,I,rfl,q⟩
theorem Fi {K:W.Frag}{g:Bool->Bool}(o1:EM d1)(o2:EM d2):Hg K (Ut K d1 d2 g) d1 d2 (.bl (g (PyData.eqv (pd d1) (pd d2)))):=fun v w Hf H Q s r1 r2 k=>⟨Hf,s,r1,r2,o1,o2,k _ Hf H (.refl s) (.bl _)⟩
mutual
theorem eqv_refl:∀ d:Dt,plain d=true->PyData.eqv (pd d) (pd d)=true
 | .cz,_=>by simp[pd,PyData.eqv]
 | .bl b,_=>by simp[pd,PyData.eqv]
 | .int i,_=>by simp[pd,PyData.eqv]
 | .str x,_=>by simp[pd,PyData.eqv]
 | .tup ds,h=>by rw[plain] at h;rw[pd,PyData.eqv];exact uz ds h
 | .lst ds,h=>by rw[plain] at h;rw[pd,PyData.eqv];exact uz ds h
 | .fw _,h=>by rw[plain] at h;cases h
 | .rq _,h=>by rw[plain] at h;cases h
 | .obj _ _,h=>by rw[plain] at h;cases h
 | .ty _,h=>by rw[plain] at h;cases h
 | .cls _,h=>by rw[plain] at h;cases h
 | .xo _,h=>by rw[plain] at h;cases h
 | .rQ _,h=>by rw[plain] at h;cases h
 | .sO _ _,h=>by rw[plain] at h;cases h
 | .d7 _,h=>by rw[plain] at h;cases h
 | .memo _ _ _ _,h=>by rw[plain] at h;cases h
 | .eG _ _ _ _,h=>by rw[plain] at h;cases h
 | .wC _ _ _,h=>by rw[plain] at h;cases h
 | .xH _ _ _ _ _,h=>by rw[plain] at h;cases h
theorem uz:∀ ds:List Dt,jV ds=true->PyData.eqvAll (C4 ds) (C4 ds)=true
 | [],_=>by simp[C4,PyData.eqvAll]
 | d::r,h=>by
   rw[jV,aaE] at h;rw[C4,PyData.eqvAll,eqv_refl d h.1,uz r h.2];rfl
end
theorem X4 (hr:X.A.units+64 < cLine)(ha:EE X G dl a d1)(hb:EE X G dl b d2)(o1:EM d1)(o2:EM d2)(hu:PyData.eqv (pd d1) (pd d2)=u):EE X G dl (.Compare a [.Eq] [b] pos) (.bl u):=by
 subst hu;exact A4 (Lp hr) (Fi (g:=id) o1 o2) (nu _) ha hb
theorem Lq (hr:X.A.units+64 < cLine)(ha:EE X G dl a d1)(hb:EE X G dl b d2)(o1:EM d1)(o2:EM d2)(hu:PyData.eqv (pd d1) (pd d2)=u):EB X G dl (.Compare a [.Eq] [b] pos) u:=by
 subst hu;exact ml (Lp hr) (Fi (g:=id) o1 o2) (nu _) ha hb
theorem X5 (hr:X.A.units+64 < cLine)(ha:EE X G dl a d1)(hb:EE X G dl b d2)(o1:EM d1)(o2:EM d2)(hu:(!PyData.eqv (pd d1) (pd d2))=u):EB X G dl (.Compare a [.NotEq] [b] pos) u:=by
 subst hu;exact ml (Uu hr) (Fi (g:=(!·)) o1 o2) (nu _) ha hb
theorem mq (ha:EE X G dl a (.int i))(hb:EE X G dl b (.int j)):EB X G dl (.Compare a [.Lt] [b] pos) (decide (i < j)):=ml Xt (vm (g':=fun i j=>.bl (decide (i < j))) fun _ _ _ _=>.bl _) (nu _) ha hb
theorem vn (ha:EE X G dl a (.int i))(hb:EE X G dl b (.int j)):EB X G dl (.Compare a [.LtE] [b] pos) (decide (i<=j)):=ml KS (vm (g':=fun i j=>.bl (decide (i<=j))) fun _ _ _ _=>.bl _) (nu _) ha hb
theorem pB (ha:EE X G dl a (.int i))(hb:EE X G dl b (.int j)):EB X G dl (.Compare a [.Gt] [b] pos) (decide (j < i)):=ml Xu (vm (g':=fun i j=>.bl (decide (j < i))) fun _ _ _ _=>.bl _) (nu _) ha hb
theorem Lr (ha:EE X G dl a (.int i))(hb:EE X G dl b (.int j)):EB X G dl (.Compare a [.GtE] [b] pos) (decide (j<=i)):=ml Xv (vm (g':=fun i j=>.bl (decide (j<=i))) fun _ _ _ _=>.bl _) (nu _) ha hb
theorem Fj {K:W.Frag}{w1 w2:V}{g:Bool->Bool}(h1:∀ H w,Rep K H w d1->w=w1)(h2:∀ H w,Rep K H w d2->w=w2)(hs:TQ w1 w2=true):Hg K (fun x y H Q=>TQ x y=true/\Q (.bl (g (decide (x=y)))) H) d1 d2 (.bl (g (decide (w1=w2)))):=fun v w Hf H Q s r1 r2 k=>by
 cases h1 _ _ r1;cases h2 _ _ r2;exact⟨hs,k _ Hf H (.refl s) (.bl _)⟩
theorem wt (i j:Int):decide (V.int i=V.int j)=decide (i=j):=by simp
theorem AQ (i j:Str):decide (V.str i=V.str j)=decide (i=j):=by simp
theorem Uv (ha:EE X G dl a (.int i))(hb:EE X G dl b (.int j)):EE X G dl (.Compare a [.Eq] [b] pos) (.bl (decide (i=j))):=by
 rw[<- wt];exact A4 KR (Fj (g:=id) (fun _ _ r=>by cases r;rfl) (fun _ _ r=>by cases r;rfl) rfl) (nu _) ha hb
theorem eD (ha:EE X G dl a (.int i))(hb:EE X G dl b (.int j)):EB X G dl (.Compare a [.Eq] [b] pos) (decide (i=j)):=by
 rw[<- wt];exact ml KR (Fj (g:=id) (fun _ _ r=>by cases r;rfl) (fun _ _ r=>by cases r;rfl) rfl) (nu _) ha hb
theorem rS (ha:EE X G dl a (.str x))(hb:EE X G dl b (.str y)):EB X G dl (.Compare a [.Eq] [b] pos) (decide (x=y)):=by
 rw[<- AQ];exact ml KR (Fj (g:=id) (fun _ _ r=>by cases r;rfl) (fun _ _ r=>by cases r;rfl) rfl) (nu _) ha hb
end
structure GF (P:Program)(w:World)(K:W.Frag)(mg:Str->Option Value)(base:Heap)(CX:qu)(k:Nat)(x:Str)(n:Nat)(R:List Dt->Res->Prop):Prop where
 ex:∃ f fd ps,jh P w K mg base CX k f fd ps (Fg K n R)/\mg x=some (.ref f)/\W.keepIn K (.ref f)=true/\Binds K fd ps []
structure MF (P:Program)(w:World)(K:W.Frag)(mg:Str->Option Value)(base:Heap)(CX:qu)(k:Nat)(C:Addr)(m:Str)(n:Nat)(R:List Dt->Res->Prop):Prop where
 cl:wz K C
 ex:∃ f fd ps,jh P w K mg base CX k f fd ps (Fg K n R)/\Meth K C m f/\Binds K fd ps []
section
variable {X:Cx}{G:Gr}{dl:List Slot}{e:Expr}{es:List Expr}{d:Dt}{ds:List Dt}{pos p apos:Pos}{x m:Str}{C:Addr}{fs:List (Str×Dt)}{CX:qu}{k k' n:Nat}{R:List Dt->Res->Prop}{ob:Expr}
theorem cS (F:GF X.prog X.w X.K X.mg X.base CX k x n R)(nx:C1 CX)(hr:dk k' X.A)(ha:EA X G dl (e::es) ds)(h:R ds (.ret d))(rB:autoParam (k<=k') jO)(hl:autoParam (ds.length=n) jp)(hg:autoParam (Gl X x) jp)(jg:autoParam ((x == ("__debug__":Str))=false) jO)(he:autoParam (starEach (e::es) X.env=(false,eval e X.env)::starEach es X.env) jp)(kW:autoParam ((backTo pos (starEach es X.env)).any (·.1)=false) jp):EE X G dl (.Call (.Name x p) (e::es) [] pos) d:=by
 obtain⟨f,fd,ps,F,hm,hk,hb⟩:=F.ex;refine Pu (dvs:=[]) (vds:=[]) F nx (hr.mono rB) hm hk hb .nil (fun _=>.nil) ha (by rw[aaT];exact hl) (by rw[aaT];exact h) hg jg he kW
theorem bB {pl:Sem Bool}(he:EE X G dl ob (.obj C fs))(F:MF X.prog X.w X.K X.mg X.base CX k C m n R)(nx:C1 CX)(hr:dk k' X.A)(ha:EA X G dl (e::es) ds)(h:R (.obj C fs::ds) (.ret d))(rB:autoParam (k<=k') jO)(hl:autoParam ((Dt.obj C fs::ds).length=n) jp)(oC:autoParam (fs.lookup m=none) jp)
   (jQ:autoParam (starEach (e::es) X.env=(false,eval e X.env)::starEach es X.env) jp) (kW:autoParam ((backTo pos (starEach es X.env)).any (·.1)=false) jp)
   (ht:autoParam (eval (.Call (.Attribute ob m apos) (e::es) [] pos) X.env=(do
     let ov <- eval ob X.env
     standAt apos.atName
     let (f,first) <- holding [ov] (getMethod ov m pl)
     callWith pos f first (backTo pos (starEach (e::es) X.env)) (backToKw pos (keywordEach [] X.env)))) jp):EE X G dl (.Call (.Attribute ob m apos) (e::es) [] pos) d:=by
 obtain⟨f,fd,ps,Fo,hm,hb⟩:=F.ex;refine Hj (dvs:=[]) (vds:=[]) (pl:=pl) he F.cl hm Fo nx (hr.mono rB) hb .nil (fun _=>.nil) ha (by rw[aaT];exact hl) (by rw[aaT];exact h) oC jQ kW ht
theorem cD {pl:Sem Bool}(he:EE X G dl ob (.obj C fs))(F:MF X.prog X.w X.K X.mg X.base CX k C m n R)(nx:C1 CX)(hr:dk k' X.A)(h:R [.obj C fs] (.ret d))(rB:autoParam (k<=k') jO)(hl:autoParam ([Dt.obj C fs].length=n) jp)(oC:autoParam (fs.lookup m=none) jp)
   (ht:autoParam (eval (.Call (.Attribute ob m apos) [] [] pos) X.env=(do
     let ov <- eval ob X.env
     standAt apos.atName
     let (f,first) <- holding [ov] (getMethod ov m pl)
     callWith pos f first (backTo pos (starEach [] X.env)) (backToKw pos (keywordEach [] X.env)))) jp):EE X G dl (.Call (.Attribute ob m apos) [] [] pos) d:=by
 obtain⟨f,fd,ps,Fo,hm,hb⟩:=F.ex;refine C3 (dvs:=[]) (vds:=[]) (pl:=pl) he F.cl hm Fo nx (hr.mono rB) hb .nil (fun _=>.nil) hl h oC ht
end
def KD (h h':Heap):Prop:=∀ (b:Addr) o,h.objs[b]?=some o->∃ o',h'.objs[b]?=some o'/\o'.dict=o.dict
theorem KD.refl (h:Heap):KD h h:=fun _ o e=>⟨o,e,rfl⟩
theorem KD.trans {h1 h2 h3:Heap}(a:KD h1 h2)(b:KD h2 h3):KD h1 h3:=fun x o e=>
 let ⟨o1,e1,d1⟩:=a x o e;let ⟨o2,e2,d2⟩:=b x o1 e1;⟨o2,e2,d2.trans d1⟩
def Calm {α:Type}:Sem α->Prop
 | .pure _=>True
 | .raise _=>True
 | .unsupported _=>True
 | .finish _=>True
 | .rule _ k=>Calm (k ())
 | .at _ k=>Calm (k ())
 | .load _ _ k=>∀ o,Calm (k o)
 | .update _ _ f k=>(∀ o,(f o).dict=o.dict)/\Calm (k ())
 | .alloc _ k=>∀ n,Calm (k n)
 | .loadIfAlive _ k=>∀ o,Calm (k o)
 | .point _ k=>Calm (k ())
 | .fresh k=>∀ n,Calm (k n)
 | .stack k=>∀ l,Calm (k l)
 | .ask k=>∀ l,Calm (k l)
 | .handled _ k=>∀ l,Calm (k l)
 | _=>False
theorem IY (h:Heap)(a:Addr){g:Obj->Obj}(hg:∀ o,(g o).dict=o.dict):KD h (h.update a g):=fun b o e=>by
 obtain⟨objs,l⟩:=h;show ∃ o',(objs.modify a g)[b]?=some o'/\_;rw[Array.getElem?_modify,show objs[b]?=some o from e];by_cases q:a=b
 . rw[if_pos q];exact⟨_,rfl,hg o⟩
 . rw[if_neg q];exact⟨_,rfl,rfl⟩
theorem Pw (h:Heap)(o:Obj):KD h (h.push o):=fun b u e=>⟨u,by
 obtain⟨objs,l⟩:=h;show(objs.push o)[b]?=some u;rw[Array.getElem?_push,if_neg (aap (acf.mp e).1)];exact e,rfl⟩
theorem Px {α:Type}{M:Model}{Γ:PySem.Ctx}{Q:α->Pos->Shared->Prop}{E:Value->Pos->Shared->Prop}{h0:Heap}(t:Sem α)(c:Calm t)(p:Pos)(s:Shared)(k:KD h0 s.heap)(h:Sem.wp M Γ t Q E p s):Sem.wp M Γ t (fun a p s=>Q a p s/\KD h0 s.heap) E p s:=by
 induction t generalizing p s with
 | pure a=>simp only[Sem.wp_pure] at h ⊢;exact⟨h,k⟩
 | raise e=>simp only[Sem.wp_raise] at h ⊢;exact h
 | unsupported w=>simp only[Sem.wp_unsupported] at h
 | finish w=>simp only[Sem.wp_finish] at h
 | rule t f ih=>rw[Sem.wp] at h ⊢;exact ih () c p s k h
 | «at» t f ih=>rw[Sem.wp] at h ⊢;exact ih () c _ s k h
 | load a q f ih=>rw[Sem.wp] at h ⊢;obtain⟨o,e,h⟩:=h;exact⟨o,e,ih o (c o) p s k h⟩
 | update a q g f ih=>rw[Sem.wp] at h ⊢;exact⟨h.1,ih () c.2 p _ (k.trans (IY _ a c.1)) h.2⟩
 | alloc o f ih=>rw[Sem.wp] at h ⊢;exact ih _ (c _) p _ (k.trans (Pw _ o)) h
 | loadIfAlive a f ih=>rw[Sem.wp] at h ⊢;exact ih _ (c _) p s k h
 | point a f ih=>rw[Sem.wp] at h ⊢;exact ih () c p s k h
 | fresh f ih=>rw[Sem.wp] at h ⊢;exact ih _ (c _) p _ k h
 | stack f ih=>rw[Sem.wp] at h ⊢;exact ih _ (c _) p s k h
 | ask f ih=>rw[Sem.wp] at h ⊢;exact ih _ (c _) p s k h
 | handled a f ih=>rw[Sem.wp] at h ⊢;exact ih _ (c _) p s k h
 | _=>exact c.elim
theorem nP {α:Type}{M:Model}{A:Around}{t:Sem α}{Q:α->Shared->Prop}{E:Value->Shared->Prop}{s:Shared}(c:Calm t)(h:wpAny M A t Q E s):wpAny M A t (fun a s'=>Q a s'/\KD s.heap s'.heap) E s:=
 fun Γ p hΓ=>Px t c p s (KD.refl _) (h Γ p hΓ)
theorem Fl {α β:Type}{f:α->Sem β}(m:Sem α)(c:Calm m)(h:∀ a,Calm (f a)):Calm (Sem.bind m f):=by
 induction m with
 | pure a=>exact h a
 | raise e=>exact trivial
 | unsupported w=>exact trivial
 | finish w=>exact trivial
 | rule t f ih=>exact ih () c
 | «at» t f ih=>exact ih () c
 | load a q f ih=>exact fun o=>ih o (c o)
 | update a q g f ih=>exact⟨c.1,ih () c.2⟩
 | alloc o f ih=>exact fun o=>ih o (c o)
 | loadIfAlive a f ih=>exact fun o=>ih o (c o)
 | point a f ih=>exact ih () c
 | fresh f ih=>exact fun o=>ih o (c o)
 | stack f ih=>exact fun o=>ih o (c o)
 | ask f ih=>exact fun o=>ih o (c o)
 | handled a f ih=>exact fun o=>ih o (c o)
 | _=>exact c.elim
theorem cE {α β:Type}{m:Sem α}{f:α->Sem β}(c:Calm m)(h:∀ a,Calm (f a)):Calm (m >>= f):=Fl m c h
theorem ma (a:Addr):Calm (load a):=fun _=>trivial
theorem rT (o:Obj):Calm (alloc o):=fun _=>trivial
theorem vo (a:Addr){f:Obj->Obj}(h:∀ o,(f o).dict=o.dict):Calm (update a f):=⟨h,trivial⟩
theorem mv:Calm stack:=fun _=>trivial
theorem zr (v:Value):Calm (fieldsOf v):=by
 unfold fieldsOf
 split
 . refine cE (ma _) fun o=>?_
   split <;> trivial
 . trivial
theorem mw (v:Value)(i:Nat):Calm (field v i):=by
 unfold field;refine cE (zr v) fun vs=>?_
 split <;> trivial
theorem xM (f:Array Value->Array Value)(o:Obj):(Obj.mapFields f o).dict=o.dict:=by
 unfold Obj.mapFields
 split <;> rfl
theorem ir (v:Value)(i:Nat)(x:Value):Calm (setField v i x):=by
 unfold setField
 split
 . unfold updateField
   refine cE (ma _) fun o=>?_
   split
   . split
     . exact vo _ (xM _)
     . trivial
   . trivial
 . trivial
theorem eW (e:Value)(f:Option Addr):Calm (setFlight e f):=by
 unfold setFlight;refine cE (mw _ _) fun tb=>?_
 split
 . exact ir _ _ _
 . trivial
theorem C5 (env:Env)(outer:List Env):Calm (behindIsImport env outer):=by
 unfold behindIsImport
 repeat' (first | exact mw _ _ | exact ma _ | exact mv | exact rT _ | exact ir _ _ _ | exact eW _ _ | exact trivial | refine cE ?_ ?_ | intro _ | split | dsimp only)
theorem xN (ty:String)(vs:List Value):Calm (newFields ty vs):=by
 unfold newFields newObj
 repeat' (first | exact mw _ _ | exact ma _ | exact mv | exact rT _ | exact ir _ _ _ | exact eW _ _ | exact trivial | refine cE ?_ ?_ | intro _ | split | dsimp only)
theorem vH (f:Addr)(b:Bool):Calm (entryPlaceOf f b):=by
 unfold entryPlaceOf;refine cE mv fun l=>?_
 split <;> trivial
theorem IZ (env:Env)(i:Bool)(l:List Env):Calm (keptBack env i l):=by
 cases l with
 | nil=>
   unfold keptBack underTheClaimsCaller
   repeat' (first | exact mw _ _ | exact ma _ | exact mv | exact rT _ | exact ir _ _ _ | exact eW _ _ | exact trivial | refine cE ?_ ?_ | intro _ | split | dsimp only)
 | cons a l=>trivial
theorem xO:∀ l:List Env,Calm (readyFrames l)
 | []=>trivial
 | env::outer=>by
   unfold readyFrames
   repeat' (first | exact xO outer | exact C5 _ _ | exact IZ _ _ _ | exact vo _ (fun _=>rfl) | exact ma _ | exact trivial | refine cE ?_ ?_ | intro _ | split)
theorem Ba (env:Env):Calm (PySem.frameOf env):=by
 unfold PySem.frameOf;refine cE (cE mv fun _=>trivial) fun l=>cE ?_ fun r=>?_
 . generalize l.dropWhile _=m
   cases m with
   | nil=>trivial
   | cons a m=>exact cE (xO _) fun _=>trivial
 . split <;> trivial
theorem Ai (e:Value)(env:Env):Calm (noteFrame e env):=by
 unfold noteFrame;unfold EntryCells.newEntry
 repeat' (first | exact Ba _ | exact vH _ _ | exact xN _ _ | exact ir _ _ _ | exact mw _ _ | exact trivial | refine cE ?_ ?_ | intro _ | split | dsimp only)
theorem oE (env:Env)(e:Value):Calm (leaving env e):=by
 unfold leaving;exact cE (Ai _ _) fun _=>eW _ _
def p0 (h:Heap)(e:Addr)(od:Option Addr):Prop:=∃ o,h.get? e=some o/\o.dict=od
theorem C6 {h:Heap}{e:Addr}{o:Obj}(q:h.get? e=some o):h.objs[e]?=some o:=by
 unfold Heap.get? at q
 split at q
 . cases q
 . exact q
theorem p0.keep {h h':Heap}{e:Addr}{od:Option Addr}(d:p0 h e od)(k:KD h h')(t:∃ o,h'.get? e=some o):p0 h' e od:=by
 obtain⟨o,q,rfl⟩:=d;obtain⟨o1,q1⟩:=t;obtain⟨o2,q2,e2⟩:=k e o (C6 q);rw[C6 q1] at q2;cases q2;exact⟨o1,q1,e2⟩
def t6 (P:Program)(w:World):qu:=fun outer H s E e s'=>∃ (ea:Addr) (C:Value) (od:Option Addr) (H':Hp) (B:Heap) (t:Addr),
 e=.ref ea/\s'.os=s.os/\AllBare s'.gens/\Un (kY outer) [] H H' s.heap s'.heap/\pJ P w H' s'.heap/\acg B outer ea C (.ref t) s'.heap /\
 (∀ b o,s.heap.get? b=some o->H b=none->b ∉ kY outer->B.get? b=some o)/\(∀ b o,s.heap.get? b=some o->b ∉ kY outer->∃ o',B.get? b=some o') /\
 (∀ a o,H' a=some o->∃ ob,B.get? a=some ob)/\s.heap.get? ea=none/\H' ea=none/\p0 s'.heap ea od/\E C od H'
theorem t6.mono {P:Program}{w:World}{outer:List Env}{H:Hp}{s s':Shared}{E E':XK}{e:Value}(h:∀ c od H',E c od H'->E' c od H')(x:t6 P w outer H s E e s'):t6 P w outer H s E' e s':=by
 obtain⟨ea,C,od,H',B,t,h1,h2,h3,h4,h5,h6,h7,h8,h9,Uw,h11,h12,h13⟩:=x;exact⟨ea,C,od,H',B,t,h1,h2,h3,h4,h5,h6,h7,h8,h9,Uw,h11,h12,h _ _ _ h13⟩
theorem rV {P:Program}{w:World}{H:Hp}{h:Heap}{a:Addr}:∀ {o:HO},aM P w H h a o->∃ u,h.get? a=some u
 | .lst _,⟨_,_,_,_,e⟩=>⟨_,e⟩
 | .tup _,⟨_,_,_,_,e,_⟩=>⟨_,e⟩
 | .dK _,⟨_,_,_,_,_,_,_,e,_⟩=>⟨_,e⟩
 | .dT _,⟨_,_,_,_,_,_,_,e,_⟩=>⟨_,e⟩
 | .set _ _,x=>by obtain⟨_,_,_,_,e,_⟩:=x;exact⟨_,e⟩
 | .ins _ _ _,⟨_,_,_,e,_⟩=>⟨_,e⟩
 | .own _,⟨_,e⟩=>⟨_,e⟩
 | .xd _,⟨_,x,_⟩=>by obtain⟨_,_,_,e,_⟩:=x;exact⟨_,e⟩
 | .met _ _,e=>⟨_,e⟩
 | .Z4 _ _,⟨_,_,_,e⟩=>⟨_,e⟩
 | .bJ _ _,⟨e,_⟩=>⟨_,e⟩
 | .RE _,e=>⟨_,e⟩
 | .ext _,⟨_,e,_⟩=>e
 | .memo _,x=>x.1
 | .bT _ _,x=>x.1
 | .part _,e=>e
 | .kd _ _ _,x=>⟨_,x.1⟩
 | .kx _ _,x=>⟨_,x.1⟩
section
variable {P:Program}{w:World}{K:W.Frag}{mg:Str->Option Value}{base:Heap}{N:List Str}{qual:Str}{scope:Scope}{f:Addr}{cd:Value}{A:Around}{outer:List Env}{s0:Shared}{H0:Hp}{E:XK}{CX:qu}
theorem Ja:kY (envOfC qual scope s0.heap.objs.size f cd::outer)=s0.heap.objs.size::kY outer:=rfl
theorem Lu {pins:List (Addr×Obj)}{st:L2.St}{H1 H':Hp}{s1 s':Shared}{g h' B:Heap}{ea t:Addr}{C:Value}{od:Option Addr}(I:L2.Inv (pM CX P w K mg base N qual scope f cd A outer s0 H0 E) pins st H1 s1)(os:s'.os=s1.os)(bare:AllBare s'.gens)(un:Un (kY (envOfC qual scope s0.heap.objs.size f cd::outer)) [] H1 H' s1.heap g)(aR:pJ P w H' g)(fl:acg B outer ea C (.ref t) h')(bg:∀ b o,B.get? b=some o->g.get? b=some o)(EN:∀ b o,s1.heap.get? b=some o->H1 b=none->b ∉ kY (envOfC qual scope s0.heap.objs.size f cd::outer)->B.get? b=some o)(ER:∀ b o,s1.heap.get? b=some o->b ∉ kY (envOfC qual scope s0.heap.objs.size f cd::outer)->b≠ea->∃ o',B.get? b=some o')(b8:∀ a o,H' a=some o->∃ ob,B.get? a=some ob)(ups:∀ b o,b∈kY outer->g.get? b=some o->(∀ vs,o.data≠.fields vs)->∃ sl,h'.get? b=some { o with slots:=sl})(hn:s0.heap.get? ea=none)(sD:H' ea=none)(di:p0 h' ea od)(hE:E C od H'):t6 P w outer H0 s0 E (.ref ea) { s' with heap:=h'}:=by
 have J:=L2.Inv.xw (s':={ s' with heap:=g}) (ch:=[]) I os un aR bare (fun b z=>absurd z (by simp));have bn:∀ b o,s0.heap.get? b=some o->b ∉ kY outer->b ∉ kY (envOfC qual scope s0.heap.objs.size f cd::outer):=fun b o e0 hf z=>by
   rw[Ja] at z;rcases aaz.mp z with z | z
   . exact absurd z (aap (aak e0))
   . exact hf z
 have OL:Un (kY outer) [] H0 H1 s0.heap s1.heap:=I.base;have Ux:Un (kY outer) [] H0 H' s0.heap g:=J.base;have slot:∀ b o,s0.heap.get? b=some o->H0 b=none->b∈kY outer->∃ sl,h'.get? b=some { o with slots:=sl}:=fun b o e0 oF hf=>by
   obtain⟨sl,e1⟩:=Ux.slot b o e0 oF hf (by simp);obtain⟨_,o2,e2,hd⟩:=I.ok.pR.mem hf;have e2:s0.heap.get? b=some o2:=e2;rw[e0] at e2;cases e2;obtain⟨Fm,e3⟩:=ups b _ hf e1 hd;exact⟨Fm,e3⟩
 have GU:∀ b∈kY outer,H0 b=none:=I.ok.GU;refine⟨ea,C,od,H',B,t,rfl,os.trans I.os,bare,⟨fun b o e0 oF hf _=>?_,fun b o e0 oF hf _=>slot b o e0 oF hf,Ux.free,fun b o e0 _=>?_,Ux.t9,Ux.sG,Ux.ua⟩,fun a o e=>?_,fl,fun b o e0 oF hf=>?_,fun b o e0 hf=>?_,b8,hn,sD,di,hE⟩
 . exact fl.1 _ _ (EN b o (OL.keep b o e0 oF hf (by simp)) (OL.free b o e0 oF (by simp)) (bn b o e0 hf))
 . by_cases hf:b∈kY outer
   . obtain⟨sl,e1⟩:=slot b o e0 (GU b hf) hf
     exact⟨_,e1⟩
   . obtain⟨o1,e1⟩:=OL.there b o e0 (by simp)
     obtain⟨o2,e2⟩:=ER b o1 e1 (bn b o e0 hf) (fun z=>by rw[z,hn] at e0;cases e0);exact⟨o2,fl.1 _ _ e2⟩
 . refine(aR a o e).qW (fun b u hb eu=>?_) (fun b z=>z) (fun b xs z=>z) .refl
   have Ff:∃ ob,B.get? b=some ob:=by
     rcases hb with rfl | hb | hb
     . exact b8 _ _ e
     . exact b8 _ _ hb
     . cases qq:H' b with
       | none=>rw[qq] at hb;exact hb.elim
       | some u=>exact b8 _ _ qq
   obtain⟨ob,eb⟩:=Ff;have:=bg _ _ eb;rw[eu] at this;cases this;exact fl.1 _ _ eb
 . exact EN b o (OL.keep b o e0 oF hf (by simp)) (OL.free b o e0 oF (by simp)) (bn b o e0 hf)
 . obtain⟨o1,e1⟩:=OL.there b o e0 (by simp)
   exact ER b o1 e1 (bn b o e0 hf) (fun z=>by rw[z,hn] at e0;cases e0)
theorem Lv {H1:Hp}{s1:Shared}{ea:Addr}(OL:Un (kY outer) [] H0 H1 s0.heap s1.heap)(hn:s1.heap.get? ea=none):s0.heap.get? ea=none:=by
 cases q:s0.heap.get? ea with
 | none=>rfl
 | some o=>
   obtain⟨o1,e1⟩:=OL.there ea o q (by simp);rw[hn] at e1;cases e1
theorem mX:Passes (t6 P w) (pM (t6 P w) P w K mg base N qual scope f cd A outer s0 H0 E) E:=by
 intro pins st H1 s1 e s' I x;obtain⟨ea,C,od,H',B,t,rfl,os,bare,un,aR,fl,EN,ER,b8,hn,sD,di,hE⟩:=x;refine wpAny_mono (nP (oE _ _) (wpAny_leaves_onW (A:=A.deeper (envOfC qual scope s0.heap.objs.size f cd)) (Q:=fun _ s2=>∃ h',s2={ s' with heap:=h'}/\acg B outer ea C (.ref t) h'/\s'.heap.UpToSlots h') (I.ok.frames) rfl fl fun h' fl' ups=>⟨h',rfl,fl',ups⟩)) (fun _ s2 zq=>?_) (fun _ _ z=>z);obtain⟨⟨h',e2,fl',ups⟩,kd⟩:=zq;subst e2;exact Lu I os bare un aR fl' fl.1 EN (fun b o e hf _=>ER b o e hf) b8 (fun b o _ e hd=>ups b o e hd) (Lv I.base hn) sD (di.keep kd (let ⟨o,q,_⟩:=fl'.there;⟨o,q⟩)) hE
theorem Py {pins:List (Addr×Obj)}{st:L2.St}{H:Hp}{s:Shared}{h':Heap}{ea:Addr}{C:Value}{args:List Value}(I:L2.Inv (pM (t6 P w) P w K mg base N qual scope f cd A outer s0 H0 E) pins st H s)(x:acM s.heap h' ea C args)(hE:E C none H):(pM (t6 P w) P w K mg base N qual scope f cd A outer s0 H0 E).xe (.ref ea) { s with heap:=h'}:=by
 have fr:s.heap.FunFrames base (envOfC qual scope s0.heap.objs.size f cd::outer):=I.stack;have frees:∀ b∈kY (envOfC qual scope s0.heap.objs.size f cd::outer),H b=none:=I.lC;have di:p0 h' ea none:=let ⟨t,q,_⟩:=x.there;⟨_,q,rfl⟩;refine wpAny_mono (nP (oE _ _) (wpAny_leaves_madeW (A:=A.deeper (envOfC qual scope s0.heap.objs.size f cd)) (s:={ s with heap:=h'}) (base:=W.hideAll s.heap (kY (envOfC qual scope s0.heap.objs.size f cd::outer))) (h:=s.heap)
   (Q:=fun _ s2=>∃ WV t,s2={ s with heap:=WV}/\acg (W.hideAll s.heap (kY (envOfC qual scope s0.heap.objs.size f cd::outer))) outer ea C (.ref t) WV/\h'.UpToSlots WV) (I.ok.frames) rfl (fun b o q=>W.of_hideAll _ q)
   (W.funFrames_hide fr fun env he b hb=>aco.mpr ⟨env,he,hb⟩) x fun WV t fl tup nt ups=>⟨WV,t,rfl,fl,ups⟩)) (fun _ s2 zq=>?_) (fun _ _ z=>z);obtain⟨⟨WV,t,e2,fl,ups⟩,kd⟩:=zq
 subst e2;refine Lu (s':=s) (g:=s.heap) (H':=H) I rfl I.bare Un.refl I.aR fl (fun b o q=>W.of_hideAll _ q) (fun b o e _ hf=>W.hideAll_get _ e hf) (fun b o e hf _=>⟨o,W.hideAll_get _ e hf⟩) (fun a o e=>?_) (fun b o _ e hd=>ups b o (x.keeps _ _ e) hd) (Lv I.base x.new) ?_ (di.keep kd (let ⟨o,q,_⟩:=fl.there;⟨o,q⟩)) hE
 . obtain⟨u,hu⟩:=rV (I.aR a o e)
   exact⟨u,W.hideAll_get _ hu fun hb=>by rw[frees a hb] at e;cases e⟩
 . cases q:H ea with
   | none=>rfl
   | some o=>
     obtain⟨u,hu⟩:=rV (I.aR ea o q);rw[x.new] at hu;cases hu
end
theorem Hl {K:W.Frag}{h:Heap}{C:Addr}{bmB:List Value}{newId:String}(X:K.In h)(hq:W.excIn K C bmB newId=true):∃ z1 z2 z3 z4 z5 z6 z7 z8 z9 y1 y2 y3 y4 y5 y6 y7 mN,h.get? C=some (excClassObj z3 z4 C z2 z5 z1 z6 z7 z8 z9 y1 y2 y3 y4 y5 y6 y7 newId)/\h.Ns z2 mN/\mN "__init__"=none/\OwnTail h bmB z1:=by
 unfold W.excIn at hq
 split at hq
 . rename_i odd X6 slots Lw
   split at hq
   . rename_i C2 tl a0 a1 a2 a3 nn a5 Bb WW
     rw[aaE,aaE,aaE,aaE,aaE] at hq;obtain⟨⟨⟨⟨⟨q1,q2⟩,q3⟩,q4⟩,q5⟩,q6⟩:=hq;have q1:=beq_iff_eq.mp q1;have q2:=beq_iff_eq.mp q2;have q3:X6.hasDel=false:=by simpa using q3
     have q6:=beq_iff_eq.mp q6;subst q1 q2;have es:slots=#[a0,a1,a2,a3,some (.builtin nn),a5]:=by
       have:slots.toList=[a0,a1,a2,a3,some (.builtin nn),a5]:=WW;rw[<- Array.toArray_toList (xs:=slots),this]
     obtain⟨c1,c2,c3,c4,c5,c6,c7,c8,c9,c10,c11⟩:=X6;cases q3;have Bb:c3=.ref C2::tl:=Bb;subst Bb;subst es;exact⟨tl,c4,c1,c5,c2,c6,c7,c8,c9,c10,odd,a0,a1,a2,a3,a5,_,X _ _ Lw,.of_isNs (W.isNs_of_in X q5),W.nsMap_none_of_in X q5 q6,W.tail_of_in X q4⟩
   . cases hq
 . cases hq
noncomputable def Uy:List Value:=[.type "ValueError",.type "Exception",.type "BaseException",.type "object"]
structure Uz (K:W.Frag)(C:Addr):Prop where
 ex:W.excIn K C Uy "ValueError.__new__"=true
section
variable {X:Cx}{G:Gr}{E:XK}{dl:List Slot}{e:Expr}{es:List Expr}{ds:List Dt}{np bf pos:Pos}{x:Str}{C:Addr}
def Lx (X:Cx)(E:XK):Prop:=∀ (pins:List (Addr×Obj)) (st:L2.St) (H:Hp) (s:Shared) (h':Heap) (ea:Addr) (C:Value) (args:List Value),L2.Inv X pins st H s->acM s.heap h' ea C args->E C none H->X.xe (.ref ea) { s with heap:=h'}
theorem Pz {P:Program}{w:World}{K:W.Frag}{mg:Str->Option Value}{base:Heap}{N:List Str}{qual:Str}{scope:Scope}{f:Addr}{cd:Value}{A:Around}{outer:List Env}{s0:Shared}{H0:Hp}:Lx (pM (t6 P w) P w K mg base N qual scope f cd A outer s0 H0 E) E:=fun pins st H s h' ea C args I x hE=>Py I x hE
theorem Ly (hx:Lx X E)(hC:Uz X.K C)(hm:X.mg x=some (.ref C))(nO:X.calm=true)(ha:EA X G dl (e::es) ds)(hl:ds.length<=sizeLine)(hg:autoParam (Gl X x) jp)(jg:autoParam ((x == ("__debug__":Str))=false) jO)(he:autoParam (starEach (e::es) X.env=(false,eval e X.env)::starEach es X.env) jp)(kW:autoParam ((backTo bf (starEach (e::es) X.env)).any (·.1)=false) jp):ES X G E dl (.Raise (some (.Call (.Name x np) (e::es) [] bf)) none pos) (.ex (.ref C) []):=by
 intro pins s st H D I ⟨Hf,S,k⟩;obtain⟨z1,z2,z3,z4,z5,z6,z7,z8,z9,y1,y2,y3,y4,y5,y6,y7,mN,hO,hN,X7,hT⟩:=Hl I.ok.mod.RG hC.ex;refine wpAny_Raise_call_subU (C:=C) (nm:=z3) (q:=z4) (N:=z2) (bs:=z5) (bm:=z1) (hdct:=z6) (sn:=z7) (sub:=z8) (ab:=z9) (col:=y1) (dd:=y2) (k0:=y3) (k1:=y4) (k2:=y5) (k3:=y6) (k5:=y7) PySem.F.excBase_ValueError (bmB:=Uy) (by decide) PySem.F.excBase_ValueError (hT.hasType (by decide)) (I.ok.hd nO) kW X7 (lD I hg hm ⟨rfl,?_⟩ jg);have h1:=ha bf pins s st H (fun vs H1=>∃ av,aU Hf H av H1/\bK X.K av vs ds) I ⟨Hf,S,fun vs av H1 g1 r1=>⟨av,g1,r1⟩⟩;rw[he] at h1 ⊢;refine Calls.evalArgs_plain (bZ h1 fun us s1 ⟨vs,H1,I1,rv,av,g1,r1⟩=>⟨rfl,?_,I1.bk _ _ hO,hN.keeps I1.bk,hT.keeps I1.bk,fun h' ea mx=>?_⟩)
 . show us.length<=sizeLine
   rw[<- rv.length,r1.length];exact hl
 . exact hx pins st H1 s1 h' ea (.ref C) us I1 mx (k none av H1 (S.gr.trans g1) rfl)
end
def zt:Value->Shared->Prop:=fun _ _=>False
theorem PB {P:Program}{w:World}{A:Around}{R:Result->Shared->Prop}{s:Shared}{elt tg iter:Expr}{sc:Scope}{pos:Pos}{it acc:Value}{env:Env}(J:Nat->Shared->Prop)
   (turn:∀ n s,J n s->wpAny (model P w) A (pyNext it) (fun r s1=>match r with
     | none=>R (.ok .next) s1
     | some v=>wpAny (model P w) A (letOwnedTupleGo tg it v) (fun _ s2=>wpAny (model P w) A (assign tg env v) (fun _ s3=>wpAny (model P w) A (eval elt env) (fun x s4=>
         wpAny (model P w) A (call (.builtin "list.append") [acc,x]) (fun _ s5=>∃ m,m < n/\J m s5) zt s4) zt s3) zt s2) zt s1) zt s)
   (n:Nat) (h:J n s):codeAny (model P w) A (.compLoop (.ListComp elt [⟨tg,iter,[],0⟩] sc pos) 0 it acc env) R s:=by
 have off:∀ {B:Value->Shared->Prop} (x:Value) (s':Shared),zt x s'->B x s':=fun _ _ z=>z.elim
 refine codeAny_loop rfl J (fun n s hJ=>?_) n h;show wpAny _ A ((compTurn (.ListComp elt [⟨tg,iter,[],0⟩] sc pos) 0 it acc env).onRaise (fun x=>(do noteFrame x env;theTreesLotGoes x))) _ _ s;refine wpAny_noted ?_;rw[compTurn_list1];refine wpAny_bind (wpAny_standAt (wpAny_bind (wpAny_mono (turn n s hJ) (fun r s1 h1=>?_) off)));cases r with
 | none=>exact wpAny_pure h1
 | some v=>
   refine wpAny_bind (wpAny_mono h1 (fun _ s2 h2=>wpAny_bind (wpAny_mono h2 (fun _ s3 h3=>wpAny_bind (wpAny_bind ?_)) off)) off);exact wpAny_mono h3 (fun x s4 h4=>wpAny_bind (wpAny_mono h4 (fun _ s5 h5=>wpAny_pure (wpAny_pure ⟨rfl,h5⟩)) off)) off
noncomputable def Bc (cells:List (Str×Addr)):List (Str×NameKind)->List (Str×Addr)->List (Str×Addr)
 | [],cs=>cs
 | (n,k)::r,cs=>if k == .free then Bc cells r ((n,(cells.lookup n).getD 0)::cs) else Bc cells r cs
noncomputable def mQ (sc:Scope)(env:Env):List (Str×Addr):=Bc env.cells sc.names []
theorem Bd {env:Env}:∀ (l:List (Str×NameKind)) (cs:List (Str×Addr)),(∀ y∈l,y.2=.free->∃ c,env.cells.lookup y.1=some c) ->
   (forIn l cs fun(x:Str×NameKind) r=>(if x.2 == .free then (do let c <- cellOf env x.1;pure (ForInStep.yield ((x.1,c)::r))) else pure (ForInStep.yield r):Sem _))=pure (Bc env.cells l cs)
 | [],cs,_=>rfl
 | (n,k)::l,cs,h=>by
   have hr:∀ y∈l,y.2=.free->∃ c,env.cells.lookup y.1=some c:=fun y hy=>h y (aaI _ hy)
   rw[List.forIn_cons,Bc];by_cases hk:(k == NameKind.free)=true
   . obtain⟨c,hc⟩:=h (n,k) abz (by simpa using hk)
     have hc:env.cells.lookup n=some c:=hc;simp only[hk,if_true,cellOf,hc,pure_bind,Option.getD_some];exact Bd l _ hr
   . simp only[hk,if_false,pure_bind]
     exact Bd l _ hr
theorem Be {sc:Scope}{env:Env}(h:∀ y∈sc.names,y.2=.free->∃ c,env.cells.lookup y.1=some c):closureFor sc env=pure (mQ sc env):=by
 unfold closureFor mQ;have:=Bd (env:=env) sc.names [] h;simp only[bind_pure];refine Eq.trans ?_ this
 congr 1
theorem sR {cells:List (Str×Addr)}{y:Str}{c:Addr}:∀ (l:List (Str×NameKind)) (cs:List (Str×Addr)),(Bc cells l cs).lookup y=some c->((y,NameKind.free)∈l/\(cells.lookup y).getD 0=c)\/cs.lookup y=some c
 | [],cs,h=>.inr h
 | (n,k)::l,cs,h=>by
   rw[Bc] at h;by_cases hk:(k == NameKind.free)=true
   . rw[if_pos hk] at h
     have hk':k=.free:=by simpa using hk
     subst hk';rcases sR l _ h with⟨h1,h2⟩ | h1
     . exact .inl ⟨aaI _ h1,h2⟩
     . rw[aaM] at h1
       cases q:(y == n) with
       | true=>
         rw[q] at h1;have e:y=n:=by simpa using q
         subst e;exact .inl ⟨abz,Option.some.inj h1⟩
       | false=>rw[q] at h1;exact .inr h1
   . rw[if_neg hk] at h
     rcases sR l _ h with⟨h1,h2⟩ | h1
     . exact .inl ⟨aaI _ h1,h2⟩
     . exact .inr h1
theorem kK {cells:List (Str×Addr)}{y:Str}:∀ (l:List (Str×NameKind)) (cs:List (Str×Addr)),((y,NameKind.free)∈l\/∃ c,cs.lookup y=some c)->∃ c,(Bc cells l cs).lookup y=some c
 | [],cs,h=>by
   rcases h with h | h
   . cases h
   . exact h
 | (n,k)::l,cs,h=>by
   rw[Bc];by_cases hk:(k == NameKind.free)=true
   . rw[if_pos hk]
     refine kK l _ ?_;rcases h with h | ⟨c,h⟩
     . rcases aaz.mp h with h | h
       . cases h;exact .inr ⟨_,by rw[aaM,show(y == y)=true by simp]⟩
       . exact .inl h
     . refine .inr ?_
       rw[aaM];cases q:(y == n) with
       | true=>exact⟨_,rfl⟩
       | false=>exact⟨c,h⟩
   . rw[if_neg hk]
     refine kK l _ ?_;rcases h with h | h
     . rcases aaz.mp h with h | h
       . cases h;exact absurd rfl hk
       . exact .inl h
     . exact .inr h
theorem gm {env:Env}{y:Str}{k:NameKind}:∀ {names:List (Str×NameKind)},(names.map fun(n,k)=>if (k == NameKind.free && env.scope.kind == .function && env.kindOf n == some .cell) then (n,NameKind.cell) else (n,k)).lookup y=some k->∃ k',(y,k')∈names/\(k=k'\/k'=.free)
 | [],h=>by simp at h
 | (n,kk)::r,h=>by
   rw[aas,aaM] at h;by_cases hc:(kk == NameKind.free && env.scope.kind == .function && env.kindOf n == some .cell)=true
   . simp only[hc,if_true] at h
     cases q:(y == n) with
     | true=>
       have e:y=n:=by simpa using q
       subst e;have:kk=.free:=by
         have:=hc;simp at this;exact this.1.1
       exact⟨kk,abz,.inr this⟩
     | false=>
       rw[q] at h;obtain⟨k',h1,h2⟩:=gm h;exact⟨k',aaI _ h1,h2⟩
   . simp only[hc,abA,if_false] at h
     cases q:(y == n) with
     | true=>
       have e:y=n:=by simpa using q
       subst e;rw[q] at h;exact⟨kk,abz,.inl (Option.some.inj h).symm⟩
     | false=>
       rw[q] at h;obtain⟨k',h1,h2⟩:=gm h;exact⟨k',aaI _ h1,h2⟩
theorem oG {env:Env}{y:Str}:∀ {names:List (Str×NameKind)},names.lookup y=some .free->(names.map fun(n,k)=>if (k == NameKind.free && env.scope.kind == .function && env.kindOf n == some .cell) then (n,NameKind.cell) else (n,k)).lookup y=some .cell \/
   (names.map fun(n,k)=>if (k == NameKind.free && env.scope.kind == .function && env.kindOf n == some .cell) then (n,NameKind.cell) else (n,k)).lookup y=some .free
 | [],h=>by simp at h
 | (n,kk)::r,h=>by
   rw[aas,aaM];rw[aaM] at h;cases q:(y == n) with
   | true=>
     rw[q] at h;have:kk=.free:=Option.some.inj h;subst this;by_cases hc:(NameKind.free == NameKind.free && env.scope.kind == .function && env.kindOf n == some .cell)=true
     . left;simp only[hc,if_true];simp[q]
     . right;simp only[hc,abA,if_false];simp[q]
   | false=>
     rw[q] at h;have ih:=oG (env:=env) h;by_cases hc:(kk == NameKind.free && env.scope.kind == .function && env.kindOf n == some .cell)=true
     . simp only[hc,if_true,q];exact ih
     . simp only[hc,abA,if_false,q];exact ih
structure iu (X:Cx)(N:List Str)(ix:List Nat)(x:Str)(sc:Scope):Prop where
 nd:N.Nodup
 nm:N=x::ix.map (fun j=>X.N.getD j "")
 kind:sc.kind=.function
 xP:∀ y∈sc.names,y.2≠.cell
 names:∀ y∈sc.names,y.2=.local->sc.names.lookup y.1=some .local
 hx:sc.names.lookup x=some .local
 fr:∀ y∈sc.names,y.2=.free->X.env.kindOf y.1=some .cell\/X.env.kindOf y.1=some .free
 X8:∀ j∈ix,∃ y,X.N[j]?=some y/\sc.names.lookup y=some .free
noncomputable def bC (X:Cx)(N:List Str)(sc:Scope)(C:Addr)(fp:List Addr)(s:Shared)(H:Hp):Cx:=
 { X with N:=N,s₀:=s,H₀:=H,env:=compEnvC sc (mQ sc X.env) C X.env,outer:=X.stack,stack:=X.stack,ex:=fp,fn:=fun _=>false,pn:=[],xe:=zt}
noncomputable def frees (ix:List Nat)(st:L2.St):L2.St:=ix.map fun j=>(st[j]?).join
section
variable {X:Cx}{N:List Str}{ix:List Nat}{x:Str}{sc:Scope}{pins:List (Addr×Obj)}{st:L2.St}{H H':Hp}{s s':Shared}{C D:Addr}{fp:List Addr}{h1:Heap}
theorem Lz (B:iu X N ix x sc)(ok:X.Ok):closureFor sc X.env=pure (mQ sc X.env):=Be fun y hy hk=>ok.has y.1 (B.fr y hy hk)
theorem xQ (B:iu X N ix x sc)(ok:X.Ok){y:Str}{c:Addr}(h:(mQ sc X.env).lookup y=some c):X.env.cells.lookup y=some c/\(y,NameKind.free)∈sc.names:=by
 rcases sR _ _ h with⟨h1,h2⟩ | h1
 . obtain⟨c',h3⟩:=ok.has y (B.fr _ h1 rfl)
   rw[h3] at h2;cases h2;exact⟨h3,h1⟩
 . cases h1
theorem Bf (B:iu X N ix x sc)(I:L2.Inv X pins st H s)(hC:s.heap.objs.size<=C)(hf:∀ b∈fp,mi X pins H b)(dS:∀ b∈fp,b < s.heap.objs.size):(bC X N sc C fp s H).Ok where
 mod:=I.ok.mod
 kind:=B.kind
 glob:=I.ok.glob
 blt:=I.ok.blt
 above:=hC
 inj:=fun y z c h1 h2=>I.ok.inj y z c (xQ B I.ok h1).1 (xQ B I.ok h2).1
 has:=fun y hy=>by
   have hy:(relabel sc X.env).names.lookup y=some .cell\/(relabel sc X.env).names.lookup y=some .free:=hy;have:(y,NameKind.free)∈sc.names:=by
     rcases hy with hy | hy
     . obtain⟨k',h1,h2⟩:=gm hy
       rcases h2 with h2 | h2
       . subst h2;exact absurd rfl (B.xP _ h1)
       . subst h2;exact h1
     . obtain⟨k',h1,h2⟩:=gm hy
       rcases h2 with h2 | h2 <;> subst h2 <;> exact h1
   exact kK _ _ (.inl this)
 O0:=fun y c h=>by cases h
 hd:=I.ok.hd
 frames:=I.ok.frames
 RH:=.inl rfl
 Kl:=fun b hb=>⟨aap (aam (dS b hb) hC),fun y c h=>(hf b hb).2.2.2.2.1 y c (xQ B I.ok h).1⟩
 bs:=I.bs
 Cw:=aax I.ok.Cw I.sz
 xp:=fun b o e hb=>by
   rcases (hf b hb).2.2.2.1 with z | z
   . exact I.ok.xp b o e z
   . exact absurd (aam (aak e) (aax I.ok.Cw z)) (abF _)
 xq:=fun b hb z=>by
   rcases aaz.mp (I.xu b z) with z | z
   . exact(hf b hb).2.1 z
   . exact(hf b hb).2.2.1 z
 pR:=I.stack
 GU:=I.lC
theorem Jb (B:iu X N ix x sc)(I:L2.Inv X pins st H s)(hf:∀ b∈fp,mi X pins H b)(dS:∀ b∈fp,b < s.heap.objs.size)(hC:C=s.heap.objs.size+1)(k:∀ b o,s.heap.get? b=some o->h1.get? b=some o)(hn:h1.Ns C fun _=>none)(hD:h1.get? s.heap.objs.size=some { cls:=.type "list",data:=.seq ([]:List Value).toArray 0}){t':Nat}:L2.Inv (bC X N sc C fp s H) [] (none::frees ix st) (upd H s.heap.objs.size (.lst [])) { s with heap:=h1,toks:=t'}:=by
 have RW:s.heap.objs.size<=C:=by rw[hC];exact abD _
 have fr:∀ a,s.heap.objs.size<=a->H a=none:=fun a ha=>I.aR.fresh ha
 have ok:=Bf B I RW hf dS;have zZ:∀ y c,(mQ sc X.env).lookup y=some c->H c=none/\c < s.heap.objs.size/\∃ v,s.heap.IsCell c v:=fun y c h=>by
   have h:=(xQ B I.ok h).1;obtain⟨v,q⟩:=I.cell y c h;exact⟨I.mf y c h,q.lt,v,q⟩
 refine⟨ok,rfl,I.bare,Un.laid k (aai _) (fr _ (aai _)),⟨_,hn,fun i y v e1 e2 e3=>?_⟩,fun y c h=>?_,?_,fun y c h=>?_,fun p hp=>absurd (show p∈([]:List (Addr×Obj)) from hp) (by simp),?_,?_⟩
 . have e1:N[i]?=some y:=e1
   cases i with
   | zero=>cases e2
   | succ i=>
     rw[B.nm,aby,aaf] at e1;rw[aby] at e2;unfold frees at e2;rw[aaf] at e2;cases q:ix[i]? with
     | none=>rw[q] at e1;cases e1
     | some j=>
       rw[q] at e1 e2;obtain⟨y',OM,LA⟩:=B.X8 j (abX q);have PD:=PySem.mem_of_lookup LA;have ey:y=y':=by
         have e1:X.N.getD j ""=y:=Option.some.inj e1;rw[aae,OM] at e1;exact e1.symm
       subst ey;have e2:(st[j]?).join=some v:=Option.some.inj e2;have X9:st[j]?=some (some v):=by
         cases q2:st[j]? with
         | none=>rw[q2] at e2;cases e2
         | some z=>rw[q2] at e2;rw[show z=some v from e2]
       have kd:=B.fr _ PD rfl;have Ya:vC X.env.scope y:=by
         rcases kd with z | z
         . exact .inr (.inl z)
         . exact .inr (.inr z)
       obtain⟨m,_,hl⟩:=I.loc;obtain⟨u,r,l⟩:=hl j y v OM X9 Ya;refine⟨u,r,.inr ?_⟩;rcases l with⟨z,_⟩ | ⟨_,c,hc,ic⟩
       . rcases kd with z' | z' <;> rw[z] at z' <;> cases z'
       . obtain⟨c',EK⟩:=kK (cells:=X.env.cells) sc.names [] (.inl PD)
         have:=(xQ B I.ok EK).1;rw[hc] at this;cases this;obtain⟨oc,GW,hd⟩:=ic;refine⟨?_,c,EK,oc,k _ _ GW,hd⟩;rcases e3 with e3 | e3 | e3
         . have e3:(relabel sc X.env).names.lookup y=some .local:=e3
           rcases oG (env:=X.env) LA with z | z
           . exact absurd (e3.symm.trans z) (by decide)
           . exact absurd (e3.symm.trans z) (by decide)
         . exact .inl e3
         . exact .inr e3
 . obtain⟨_,_,v,oc,GW,hd⟩:=zZ y c h
   exact⟨v,oc,k _ _ GW,hd⟩
 . show upd H s.heap.objs.size (.lst []) C=none
   rw[ag (by rw[hC];exact ach _)];exact fr _ RW
 . show upd H s.heap.objs.size (.lst []) c=none
   obtain⟨q1,q2,_⟩:=zZ y c h;rw[ag (aap q2)];exact q1
 . exact I.aR.laid k (aai _) ⟨abh _,[],0,.nil,hD⟩
 . show(none::frees ix st).length=N.length
   rw[B.nm];unfold frees;simp
def UA (te:TE)(fs:L2.St)(J:It)(D:Addr)(Q:List V->Hp->Prop)(H:Hp):Prop:=
 ∃ W:Nat->Nat->List V->Hp->Prop,(∃ m,W 0 m [] (upd H D (.lst [])))/\∀ i m ys H1,W i m ys H1 ->
   (J.stop i H1/\Q ys H1)\/(J.go i H1/\ys.length < sizeLine/\∀ v H2,J.OH i H1 v H2->te (some v::fs) H2 fun y H3=>H3 D=some (.lst ys)/\∃ m',m' < m/\W (i+1) m' (ys ++ [y]) (upd H3 D (.lst (ys ++ [y]))))
theorem Hm {elt iter:Expr}{px pos:Pos}{te:TE}{J:It}{it:Addr}{tn:Nat->Heap->Prop}{Q:Addr->List V->Hp->Prop}{RR:Value->Addr->Result->Shared->Prop}{E:Value->Shared->Prop}(hc:X.calm=true)(B:iu X N ix x sc)(k7:∀ C fp s H,PE (bC X N sc C fp s H) elt te)(I:L2.Inv X pins st H s)(T:Turn X.prog X.w X.K (.Name x px) J fp it tn)(h0:tn 0 s.heap)(hf:∀ b∈fp,mi X pins H b)(hq:∀ D,H D=none->UA te (frees ix st) J D (Q D) H)(Yb:∀ D C ys H' s',L2.Inv X pins st H' s'->(∃ m,s'.heap.Ns C m)->mi X pins H' C->Q D ys H'->RR (.ref D) C (.ok .next) s'):wpAny (model X.prog X.w) X.A (newList []) (fun acc s3=>wpAny (model X.prog X.w) X.A (newFunctionEnv sc X.env.globals (mQ sc X.env) [] X.env.qual none .none (some X.env)) (fun C7 s4=>codeAny (model X.prog X.w) X.A (.compStart (.ListComp elt [⟨.Name x px,iter,[],0⟩] sc pos) 0 (.ref it) acc { C7 with scope:=relabel sc X.env}) (RR acc C7.locals) s4) E s3) E s:=by
 have dS:∀ b∈fp,b < s.heap.objs.size:=fun b hb=>by
   obtain⟨o,e,_⟩:=T.obj _ _ h0 b hb;exact aak e
 refine wpAny_newObj_type (wpAny_newFunctionEnv B.xP (fun y hy=>absurd hy (by simp)) (fun h1 Kn Jc=>?_) B.kind);dsimp only at Kn Jc ⊢;generalize hG:s.heap.push { cls:=.type "list",dict:=none,data:=.seq ([]:List Value).toArray}=g at Kn Jc ⊢;have hC:g.objs.size=s.heap.objs.size+1:=by rw[<- hG,abK]
 have hDC:s.heap.objs.size≠g.objs.size:=by rw[hC];exact aap (abR _)
 have old:∀ b o,s.heap.get? b=some o->h1.get? b=some o:=fun b o e=>
   Jc.extBut b o (by rw[hC];exact aap (acw (aak e))) (aad _ (hG ▸ aad _ e))
 have LB:h1.get? s.heap.objs.size=some { cls:=.type "list",data:=.seq ([]:List Value).toArray 0}:=Jc.extBut _ _ hDC (aad _ (hG ▸ aaq _ rfl));have hD:H s.heap.objs.size=none:=I.aR.fresh (aai _);obtain⟨W,⟨m0,w0⟩,turn⟩:=hq _ hD;have I0:=Jb (t':=s.toks+([]:List (Str×Value)).length) B I hf dS hC old (by simpa using Kn) LB;have RX:tn 0 h1:=T.keep _ _ _ h0 fun b _ o e=>old b o e
 have p7:s.heap.objs.size<=g.objs.size:=by rw[hC];exact abD _
 have rO:∀ {H':Hp},(∀ b∈fp,H' b=none)->∀ b∈fp,mi (bC X N sc g.objs.size fp s H) [] H' b:=fun {H'} hn b hb=>
   ⟨hn b hb,((Bf B I p7 hf dS).Kl b hb).1,(Bf B I p7 hf dS).xq b hb,.inl hb,((Bf B I p7 hf dS).Kl b hb).2,fun p hp=>absurd (show p∈([]:List (Addr×Obj)) from hp) (by simp)⟩
 have hN:(bC X N sc g.objs.size fp s H).N[0]?=some x:=by
   show N[0]?=some x;rw[B.nm];rfl
 have ON:(bC X N sc g.objs.size fp s H).env.scope.names.lookup x=some .local:=lookup_relabel_local B.hx;have loop:∀ s3:Shared,s3={ s with heap:=h1,toks:=s.toks+([]:List (Str×Value)).length} ->
     codeAny (model X.prog X.w) X.A (.compLoop (.ListComp elt [⟨.Name x px,iter,[],0⟩] sc pos) 0 (.ref it) (.ref s.heap.objs.size) (compEnvC sc (mQ sc X.env) g.objs.size X.env)) (RR (.ref s.heap.objs.size) g.objs.size) s3:=by
   rintro s3 rfl
   refine PB (fun n s'=>∃ i ys σ H',L2.Inv (bC X N sc g.objs.size fp s H) [] (σ::frees ix st) H' s'/\tn i s'.heap/\(∀ b∈fp,H' b=none)/\W i n ys H') ?_ m0
     ⟨0,[],none,_,I0,RX,fun b hb=>?_,w0⟩
   . rintro n s5 ⟨i,ys,σ,H5,I5,Km,OI,w5⟩
     rcases turn i n ys H5 w5 with⟨stop,qn⟩ | ⟨go,hz,step⟩
     . refine bZ (T.done (bC X N sc g.objs.size fp s H) rfl rfl rfl hc i [] s5 _ H5 zt I5 (rO OI) Km stop) fun r s6 ⟨hr,I6⟩=>?_
       subst hr;refine Yb _ _ ys H5 s6 ?_ ?_ (I.zl p7 I6.free) qn
       . exact I.xw I6.os I6.base I6.aR I6.bare fun b hb=>⟨(hf b hb).2.2.2.1,(hf b hb).2.1,(hf b hb).2.2.2.2.1,(hf b hb).2.2.2.2.2⟩
       . obtain⟨m,hm,_⟩:=I6.loc
         exact⟨m,hm⟩
     . refine bZ (T.item (bC X N sc g.objs.size fp s H) rfl rfl rfl hc i [] s5 _ H5 zt I5 (rO OI) Km go) fun r s6 ⟨u,hr,h6⟩=>?_
       subst hr;refine bZ h6 fun _ s7 zq=>?_;obtain⟨v,H7,I7,r7,y7,LC,Yc⟩:=zq
       have Yd:=I7.pinned (rO Yc) (T.obj _ _ LC);refine bZ (dM (X:=bC X N sc g.objs.size fp s H) (pos:=px) B.nd hN (.inl ON) (.inr ON) _ s7 _ H7 v u (fun σ' H'=>σ'=some v::frees ix st/\H'=H7) Yd r7 ⟨rfl,rfl⟩) fun _ s8 h8=>?_
       obtain⟨σ8,H8,I8,rfl,rfl⟩:=h8;refine bZ (k7 g.objs.size fp s H _ s8 _ H8 _ I8 (step v H8 y7)) fun z s9 zq=>?_;obtain⟨y,H9,I9,r9,Ye,m',hm,w9⟩:=zq
       refine bZ (qw _ s9 _ H9 (.ref s.heap.objs.size) [y] (.ref s.heap.objs.size) [z] (fun _ H'=>H'=upd H9 s.heap.objs.size (.lst (ys ++ [y]))) I9 rfl (.cons r9 .nil) ⟨_,ys,y,rfl,rfl,Ye,hz,rfl⟩) fun _ s10 Uw=>?_
       obtain⟨_,H10,LD,_,rfl⟩:=Uw;refine⟨m',hm,i+1,ys ++ [y],some v,_,LD.kH (pins:=[]),T.keep _ _ _ LC fun b hb o e=>(LD.pin (b,o) (aat _ (aat _ (gj hb e)))).1,fun b hb=>?_,w9⟩;obtain⟨o,e,d⟩:=T.obj _ _ LC b hb;exact(LD.pin (b,o) (aat _ (aat _ (gj hb e)))).2.1
   . rw[ag (aap (dS b hb))]
     exact(hf b hb).1
 exact codeAny_compStart_list (loop _ rfl) (T.self _ 0 _ _ _ RX (loop _ rfl))
end
def tDO (K:PySem.W.Frag)(G:Gr)(dl:List Slot)(o:Own):TE:=fun st H Q=>∃ Hf,dh K G st Hf H dl/\∀ p aK H',aU Hf H aK H'->H p=none->aK p=none->iq K aK H' p o->Q (.ref p) H'
abbrev EO (X:Cx)(G:Gr)(dl:List Slot)(e:Expr)(o:Own):Prop:=PE X e (tDO X.K G dl o)
noncomputable def WX:Own->Dt
 | .lst ds=>.lst ds
 | .fw k=>.fw k
 | .obj C fs=>.obj C fs
 | .CZ _ C fs=>.obj C fs
 | .uu C fs gs nm n=>.xH C fs gs nm n
 | .A3 _ C fs gs nm n=>.xH C fs gs nm n
 | .ny k=>.ny k
section
variable {K:W.Frag}{G:Gr}{st:L2.St}{Hf H aK H':Hp}{dl:List Slot}{p:Addr}{w:Own}{u:HO}
theorem LF (g:aU Hf H aK H')(n:H p=none)(n':aK p=none)(e:H' p=some u):aU Hf H (upd aK p u) H':=
 ⟨g.big,g.bJ.trans (bj n'),fun b o h=>by
   by_cases hb:b=p
   . subst hb;rw[ak] at h;cases h;exact e
   . rw[ag hb] at h;exact g.sub _ _ h,fun a o h=>by
   by_cases hb:a=p
   . subst hb;exact .inr (.inl n)
   . rw[ag hb] at h;exact g.new a o h⟩
theorem Hn (r:iq K Hf H p w)(n:Hf p=none):∃ u,H p=some u/\Rep K (upd Hf p u) (.ref p) (WX w):=by
 cases w with
 | lst ds=>obtain⟨vs,h,r⟩:=r;exact⟨_,h,.lst ak (r.mono (bj n))⟩
 | fw ds=>obtain⟨vs,h,r⟩:=r;exact⟨_,h,.fw ak (r.mono (bj n))⟩
 | obj C ds=>obtain⟨dx,fs,h,r⟩:=r;exact⟨_,h,.obj (.of ak) (r.mono (bj n))⟩
 | CZ x C ds=>obtain⟨_,dx,fs,h,r⟩:=r;exact⟨_,h,.obj (.of ak) (r.mono (bj n))⟩
 | uu C ds gs nm k=>obtain⟨dx,fs,b,ls,q,h,r⟩:=r;exact⟨_,h,.xH q (.of ak) (r.mono (bj n))⟩
 | A3 x C ds gs nm k=>obtain⟨_,dx,fs,b,ls,q,h,r⟩:=r;exact⟨_,h,.xH q (.of ak) (r.mono (bj n))⟩
 | ny ks=>exact⟨_,r,.ny ak⟩
theorem dh.UB (S:dh K G st Hf H dl)(g:aU Hf H aK H'){i:Nat}(n:H p=none)(n':aK p=none)(r:iq K aK H' p w):dh K G (st.set i (some (.ref p))) aK H' (dl.set i (.own w)):=by
 have ln:=S.len;have S':=S.grow g;have pn:∀ (j:Nat) (o':Own) (a:Addr),dl[j]?=some (Slot.own o')->st[j]?=some (some (V.ref a))->a≠p:=fun j o' a h1 h2=>by
   obtain⟨b,q1,_,_,q4⟩:=S.own j o' h1;rw[h2] at q1;cases q1;obtain⟨u,hu⟩:=q4.some;exact ax hu n
 refine⟨S'.gr,by simp[S.len],fun j x h=>?_,fun j o' h=>?_,fun j k o1 o2 a h1 h2 h3 h4=>?_⟩
 . by_cases e:i=j
   . subst e
     by_cases hl:i < dl.length
     . rw[aag hl] at h;cases h
     . rw[aau (by simp;omega)] at h;cases h
   . rw[aah e] at h ⊢;exact S'.val j x h
 . by_cases e:i=j
   . subst e
     by_cases hl:i < dl.length
     . rw[aag hl] at h;cases h
       exact⟨p,aag (by omega),n',S.gr.big.free n,r⟩
     . rw[aau (by simp;omega)] at h;cases h
   . rw[aah e] at h ⊢
     exact S'.own j o' h
 . by_cases ej:i=j
   . by_cases ek:i=k
     . omega
     . subst ej
       rw[aah ek] at h2 h4;by_cases hl:i < st.length
       . rw[aag hl] at h3;cases h3
         exact absurd rfl (pn k o2 _ h2 h4)
       . rw[aau (by simp;omega)] at h3;cases h3
   . rw[aah ej] at h1 h3
     by_cases ek:i=k
     . subst ek
       by_cases hl:i < st.length
       . rw[aag hl] at h4;cases h4
         exact absurd rfl (pn j o1 _ h1 h3)
       . rw[aau (by simp;omega)] at h4;cases h4
     . rw[aah ek] at h2 h4
       exact S.He j k o1 o2 a h1 h2 h3 h4
theorem dh.bJ (S:dh K G st Hf H dl){i:Nat}(hd:dl[i]?=some (.own w)):∃ aK,aH Hf aK/\dh K G st aK H (dl.set i (.val (WX w))):=by
 have ln:=S.len;obtain⟨p,h1,h2,h3,h4⟩:=S.own i w hd;obtain⟨u,hu,rp⟩:=Hn h4 h2;have hl:i < dl.length:=(aaj.mp hd).1;have sm:aH Hf (upd Hf p u):=bj h2;refine⟨upd Hf p u,sm,⟨S.gr.big,S.gr.bJ.trans sm,fun b o h=>?_,fun a o h=>?_⟩,by simp[S.len],fun j x h=>?_,fun j o' h=>?_,fun j k o1 o2 a q1 q2 q3 q4=>?_⟩
 . by_cases hb:b=p
   . subst hb;rw[ak] at h;cases h;exact hu
   . rw[ag hb] at h;exact S.gr.sub _ _ h
 . by_cases hb:a=p
   . subst hb;exact .inr (.inl h3)
   . rw[ag hb] at h;exact S.gr.new a o h
 . by_cases e:i=j
   . subst e
     rw[aag hl] at h;cases h;exact⟨_,h1,rp⟩
   . rw[aah e] at h
     obtain⟨v,z1,z2⟩:=S.val j x h;exact⟨v,z1,z2.mono sm⟩
 . by_cases e:i=j
   . subst e;rw[aag hl] at h;cases h
   . rw[aah e] at h
     obtain⟨a,z1,z2,z3,z4⟩:=S.own j o' h;have ne:a≠p:=fun q=>by subst q;exact e (S.He i j _ _ _ hd h h1 z1)
     exact⟨a,z1,by rw[ag ne];exact z2,z3,z4.grow rfl sm⟩
 . have tr:∀ (j:Nat) o',(dl.set i (.val (WX w)))[j]?=some (.own o')->dl[j]?=some (.own o'):=fun j o' h=>by
     by_cases e:i=j
     . subst e;rw[aag hl] at h;cases h
     . rw[aah e] at h;exact h
   exact S.He j k _ _ a (tr _ _ q1) (tr _ _ q2) q3 q4
end
section
variable {X:Cx}{G:Gr}{E:XK}{dl:List Slot}{a b e:Expr}{i:Int}{d:Dt}{ds:List Dt}{pos p:Pos}{o:Out}{x:Str}{u v:Bool}{sts:List Stmt}{C:Addr}{w:Own}{fs:List (Str×Dt)}
theorem PF (h:EO X G dl e w):EE X G dl e (WX w):=gX h fun st H Q zq=>zn zq fun Hf S k=>fun p aK H' g n n' r=>by
 obtain⟨u,hu,rp⟩:=Hn r n';exact k _ _ H' (LF g n n' hu) rp
theorem kL (h:EO X G dl e (.lst ds)):EE X G dl e (.lst ds):=PF h
theorem Yf (h:EO X G dl e (.obj C fs)):EE X G dl e (.obj C fs):=PF h
theorem LG {w':Own}(h:EO X G dl e w)(q:w=w'):EO X G dl e w':=by subst q;exact h
theorem mY (n:Nat){x:Str}{pos':Pos}(hN:X.N.Nodup)(he:EO X G dl e w)(hi:autoParam (X.N[n]?=some x) jp)(hx:autoParam (Loc X.env.scope x) vb)(hs:autoParam (swapsWith e (some (.Name x pos')) pos.line X.env=pure false) jp)(hf:autoParam (X.fn x=true\/X.env.scope.names.lookup x=some .local) v6):ES X G E dl (.Assign [.Name x pos'] e pos) (.nx (dl.set n (.own w))):=
 vG (AN hN hi hx he hs hf) fun D st H zq=>zn zq fun Hf S k=>fun p av H1 g1 n1 n2 r1=>k _ av H1 g1.bJ (S.UB g1 n1 n2 r1)
theorem fB (h:EO X G dl e w):ES X G E dl (.Return (some e) pos) (.ro w):=vG (EV h) fun D st H zq=>zn zq fun Hf S k=>fun p av H1 g1 n1 n2 r1=>k p av H1 (S.gr.trans g1) (S.gr.big.free n1) n2 r1
theorem wD (n:Nat)(hd:autoParam (dl[n]?=some (.own w)) jp)(hN:autoParam (X.N[n]?=some x) jp)(hv:autoParam (vC X.env.scope x) xz)(hb:autoParam ((x == ("__debug__":Str))=false) jO)(mh:autoParam ((x == ("__classdict__":Str))=false) jO):ES X G E dl (.Return (some (.Name x p)) pos) (.ro w):=
 vG (EV (gU hN hv hb mh)) fun D st H zq=>aac zq fun Hf zq=>have S:=zq.1;have k:=zq.2;by
   obtain⟨q,h1,h2,h3,h4⟩:=S.own n w hd;exact⟨_,h1,k q Hf H S.gr h3 h2 h4⟩
theorem Fp (i:Nat)(h:mP X G E (dl.set i (.val (WX w))) sts o)(hd:autoParam (dl[i]?=some (.own w)) jp):mP X G E dl sts o:=C0 h fun D st H zq=>aac zq fun Hf zq=>have S:=zq.1;have k:=zq.2;by
 obtain⟨aK,sm,S'⟩:=S.bJ hd;exact⟨aK,S',k.mono sm⟩
def tOv (K:W.Frag)(G:Gr)(dl:List Slot)(n:Nat)(w:Own):TE:=fun st H Q=>∃ Hf a,dh K G st Hf H dl/\st[n]?=some (some (.ref a))/\Hf a=none/\iq K Hf H a w/\Q (.ref a) H
theorem xR (n:Nat)(hd:dl[n]?=some (.own w))(hN:X.N[n]?=some x)(hv:vC X.env.scope x)(hb:(x == ("__debug__":Str))=false)(mh:(x == ("__classdict__":Str))=false):PE X (.Name x p) (tOv X.K G dl n w):=
 gX (gU hN hv hb mh) fun st H Q ⟨Hf,a,S,h1,_,_,q⟩=>⟨_,h1,q⟩
theorem uA (n:Nat)(hb:EE X G dl b (.int i))(h:pA ds i=some d)(hd:autoParam (dl[n]?=some (.own (.lst ds))) jp)(hN:autoParam (X.N[n]?=some x) jp)(hv:autoParam (vC X.env.scope x) xz)(jg:autoParam ((x == ("__debug__":Str))=false) jO)(mh:autoParam ((x == ("__classdict__":Str))=false) jO)(hs:autoParam (lF b) wl):EE X G dl (.Subscript (.Name x p) b pos) d:=
 gX (xC AX (xR (p:=p) n hd hN hv jg mh) hb hs) fun st H Q zq=>aac zq fun Hf zq=>have S:=zq.1;have k:=zq.2;by
   obtain⟨q,h1,h2,h3,h4⟩:=S.own n _ hd;refine⟨Hf,q,S,h1,h2,h4,Hf,S,fun z av H1 g1 r1=>?_⟩;cases r1;obtain⟨vs,hq,rp⟩:=h4;obtain⟨v,hv1,hv2⟩:=rp.pA h;exact⟨q,vs,i,v,rfl,rfl,.of (g1.big _ _ hq),hv1,k v av H1 g1 (hv2.mono g1.bJ)⟩
theorem nQ (n:Nat){m:Nat}{ps pn:Pos}(he:EE X G dl e d)(hb:EE X G dl b (.int i))(h:CN ds.length i=some m)(hd:autoParam (dl[n]?=some (.own (.lst ds))) jp)(hN:autoParam (X.N[n]?=some x) jp)
   (hv:autoParam (vC X.env.scope x) xz) (jg:autoParam ((x == ("__debug__":Str))=false) jO) (mh:autoParam ((x == ("__classdict__":Str))=false) jO)
   (ha:autoParam (∀ v,assign (.Subscript (.Name x pn) b ps) X.env v=(do
     let ov <- holding [v] (eval (.Name x pn) X.env);let iv <- holding [v,ov] (eval b X.env)
     standAt ps
     holding [v,ov,iv] (setItem ov iv v)
     release [v,ov,iv] [])) xL)
   (hs:autoParam (swapsWithSole [.Subscript (.Name x pn) b ps] e pos.line X.env=pure false) jp) (hw:autoParam (swappedStores [.Subscript (.Name x pn) b ps] e X.env=pure none) jp)
   (h1:autoParam ((assignEach [.Subscript (.Name x pn) b ps] X.env).map (·.2)=[assign (.Subscript (.Name x pn) b ps) X.env]) jp) :
   ES X G E dl (.Assign [.Subscript (.Name x pn) b ps] e pos) (.nx (dl.set n (.own (.lst (ds.set m d))))):=
 vG (KO he (Tz (xR (p:=pn) n hd hN hv jg mh) hb set_list ha) hs hw h1) fun D st H zq=>zn zq fun Hf S k=>fun v av H1 g1 r1=>by
   have S1:=S.grow g1;obtain⟨q,z1,z2,z3,z4⟩:=S1.own n _ hd;refine⟨av,q,S1,z1,z2,z4,av,S1,fun iv bD H2 g2 r2=>?_⟩;cases r2;have S2:=S1.grow g2;obtain⟨q',y1,y2,y3,vs,hq,rp⟩:=S2.own n _ hd;rw[z1] at y1;cases y1;refine⟨q,vs,i,m,rfl,rfl,hq,by rw[rp.length];exact h,?_⟩;exact k st bD _ (g1.bJ.trans g2.bJ) (S2.IU hd z1 ⟨_,ak,rp.set (r1.mono g2.bJ) m⟩)
end
section
variable {X:Cx}{G:Gr}{E:XK}{dl:List Slot}{a b e:Expr}{es:List Expr}{i j:Int}{d d1 d2:Dt}{ds ds':List Dt}{pos p apos bf:Pos}{x:Str}{v:Bool}{s:Stmt}
theorem fY (h:EA X G dl es ds)(hl:autoParam (ds.length<=sizeLine) jO):EO X G dl (.List es pos) (.lst ds):=
 gX (xB h) fun st H Q zq=>zn zq fun Hf S k=>fun vs av H1 g1 r1=>⟨by rw[r1.length];exact hl,fun p hp=>k p av _ (g1.trans (.fX g1.sub hp)) (g1.big.free hp) (g1.sub.free hp) ⟨vs,ak,r1⟩⟩
theorem RY {op:Operator}{r:R2}(ho:qX X (binaryOp op) r)(ha:EE X G dl a d1)(hb:EE X G dl b d2)(h:∀ v z Hf H Q,aH Hf H->Rep X.K Hf v d1->Rep X.K Hf z d2->(∀ p vs,H p=none->bK X.K Hf vs ds->Q (.ref p) (upd H p (.lst vs)))->r v z H Q):EO X G dl (.BinOp a op b pos) (.lst ds):=
 gX (RL ho ha hb) fun st H Q zq=>zn zq fun Hf S k=>fun v av H1 g1 r1=>⟨av,S.grow g1,fun z bD H2 g2 r2=>h v z bD H2 Q g2.sub (r1.mono g2.bJ) r2 fun p vs hp rv=>
   k p bD _ ((g1.trans g2).trans (.fX g2.sub hp)) ((g1.trans g2).big.free hp) (g2.sub.free hp) ⟨vs,ak,rv⟩⟩
theorem UC (ha:EE X G dl a (.lst ds))(hb:EE X G dl b (.lst ds'))(hl:ds.length+ds'.length<=sizeLine):EO X G dl (.BinOp a .Add b pos) (.lst (ds ++ ds')):=
 RY Ua ha hb fun v z Hf H Q s r1 r2 k=>by
   cases r1 with
   | lst h1 q1=>cases r2 with
     | lst h2 q2=>exact⟨_,_,_,_,rfl,rfl,s _ _ h1,s _ _ h2,by rw[q1.length,q2.length];exact hl,fun p hp=>k p _ hp (q1.append q2)⟩
theorem C8 {K:W.Frag}{H:Hp}{vs:List V}{ds:List Dt}(r:bK K H vs ds):∀ n:Nat,bK K H (aal n vs).flatten (aal n ds).flatten
 | 0=>.nil
 | n+1=>by
   rw[abM,abM,abE,abE];exact r.append (C8 r n)
theorem LH (ha:EE X G dl a (.lst ds))(hb:EE X G dl b (.int i))(h1:-(2 ^ 63)<=i)(h2:i < 2 ^ 63)(hl:ds.length * i.toNat<=sizeLine):EO X G dl (.BinOp a .Mult b pos) (.lst (aal i.toNat ds).flatten):=
 RY Ub ha hb fun v z Hf H Q s r1 r2 k=>by
   cases r1 with
   | lst q1 r1=>cases r2;exact⟨_,i,_,rfl,rfl,s _ _ q1,h1,h2,by rw[r1.length];exact hl,fun p hp=>k p _ hp (C8 r1 _)⟩
theorem PH (hm:X.mg "list"=none)(ha:EE X G dl a (.lst ds))(hg:autoParam (Gl X "list") jp)(he:autoParam (starEach [a] X.env=[(false,eval a X.env)]) jp):EO X G dl (.Call (.Name "list" p) [a] [] pos) (.lst ds):=
 gX (qv A0 hg hm boot_list (ae ha ai he) (he:=he)) fun st H Q zq=>zn zq fun Hf S k=>fun vs av H1 g1 r1=>by
   cases r1 with
   | cons r t=>cases t;cases r with
     | @lst q vs _ z r=>exact⟨q,vs,rfl,.inl (.of (g1.sub _ _ z)),fun l hl=>k l av _ (g1.trans (.fX g1.sub hl)) (g1.big.free hl) (g1.sub.free hl) ⟨vs,ak,r⟩⟩
theorem Jd:bootBuiltins "max"=some (.builtin "max"):=by decide +kernel
theorem Je:bootBuiltins "min"=some (.builtin "min"):=by decide +kernel
theorem UD (hm:X.mg "max"=none)(hc:X.calm=true)(ha:EA X G dl [a,b] [.int i,.int j])(hg:autoParam (Gl X "max") jp)(he:autoParam (starEach [a,b] X.env=(false,eval a X.env)::starEach [b] X.env) jp)(kW:autoParam ((backTo pos (starEach [b] X.env)).any (·.1)=false) jp) :
   EE X G dl (.Call (.Name "max" p) [a,b] [] pos) (.int (if j > i then j else i)):=
 gX (ip (IE hc) hg hm Jd ha (by decide) (by decide) he kW) fun st H Q zq=>zn zq fun Hf S k=>fun vs av H1 g1 r1=>by
   cases r1 with
   | cons r1 t1=>cases t1 with
     | cons r2 t2=>cases t2;cases r1;cases r2;exact⟨i,j,rfl,k _ av H1 g1 (.int _)⟩
theorem LI (hm:X.mg "min"=none)(hc:X.calm=true)(ha:EA X G dl [a,b] [.int i,.int j])(hg:autoParam (Gl X "min") jp)(he:autoParam (starEach [a,b] X.env=(false,eval a X.env)::starEach [b] X.env) jp)(kW:autoParam ((backTo pos (starEach [b] X.env)).any (·.1)=false) jp) :
   EE X G dl (.Call (.Name "min" p) [a,b] [] pos) (.int (if j < i then j else i)):=
 gX (ip (IF hc) hg hm Je ha (by decide) (by decide) he kW) fun st H Q zq=>zn zq fun Hf S k=>fun vs av H1 g1 r1=>by
   cases r1 with
   | cons r1 t1=>cases t1 with
     | cons r2 t2=>cases t2;cases r1;cases r2;exact⟨i,j,rfl,k _ av H1 g1 (.int _)⟩
theorem nS (n:Nat){pn:Pos}(he:EE X G dl e d)(hl:ds.length < sizeLine)(hd:autoParam (dl[n]?=some (.own (.lst ds))) jp)(hN:autoParam (X.N[n]?=some x) jp)(hv:autoParam (vC X.env.scope x) xz)
   (jg:autoParam ((x == ("__debug__":Str))=false) jO) (mh:autoParam ((x == ("__classdict__":Str))=false) jO)
   (kI:autoParam (attributeBase (.Name x pn) "append" X.env (eval (.Name x pn) X.env)=eval (.Name x pn) X.env) jp)
   (xE:autoParam (((backTo bf (starEach [e] X.env)).all (fun x=>!x.1) && (backToKw bf (keywordEach [] X.env)).all (fun x=>x.1.isSome) && decide ([e].length+([]:List Keyword).length+(if ([]:List Keyword).isEmpty then 0 else 1) < 30))=true) jp)
   (kJ:autoParam ((apos.endLine == bf.line)=true) jp) (jQ:autoParam (starEach [e] X.env=(false,eval e X.env)::starEach [] X.env) jp) (hs:autoParam (swapsWith (.Call (.Attribute (.Name x pn) "append" apos) [e] [] bf) none pos.line X.env=pure false) jp) :
   ES X G E dl (.Expr (.Call (.Attribute (.Name x pn) "append" apos) [e] [] bf) pos) (.nx (dl.set n (.own (.lst (ds ++ [d]))))):=
 vG (kf (xD PySem.F.plainAttrs_list PySem.F.slot_list_append PySem.F.type_list_append qw (xR (p:=pn) n hd hN hv jg mh) (ae he ai jQ) kI xE kJ jQ rfl) hs) fun D st H zq=>aac zq fun Hf zq=>have S:=zq.1;have k:=zq.2;by
   obtain⟨q,z1,z2,z3,vs,hq,rp⟩:=S.own n _ hd;refine⟨Hf,q,S,z1,z2,⟨vs,hq,rp⟩,.inl ⟨rfl,vs,.of hq⟩,Hf,S,fun us av H1 g1 r1=>?_⟩;cases r1 with
   | cons r1 t1=>
     cases t1;refine⟨q,vs,_,rfl,rfl,g1.big _ _ hq,by rw[rp.length];exact hl,?_⟩;exact k st av _ g1.bJ ((S.grow g1).IU hd z1 ⟨_,ak,(rp.mono g1.bJ).append (.cons r1 .nil)⟩)
theorem qz {K:W.Frag}{H:Hp}:∀ {vs:List V} {xs:List Str},bK K H vs (xs.map Dt.str)->vs=xs.map V.str
 | _,[],.nil=>rfl
 | _,x::xs,.cons r t=>by cases r;rw[qz t];rfl
end
noncomputable def C9:Option Slot->Slot
 | some (.val d)=>.val d
 | _=>.aY
theorem Aj {o:Option Slot}{w:Own}(h:C9 o=.own w):False:=by
 unfold C9 at h
 split at h <;> cases h
theorem Ak {o:Option Slot}{d:Dt}(h:C9 o=.val d):o=some (.val d):=by
 unfold C9 at h
 split at h
 . cases h;rfl
 . cases h
noncomputable def jS (dl:List Slot)(ix:List Nat):List Slot:=ix.map fun j=>C9 dl[j]?
section
variable {K:W.Frag}{G:Gr}{st:L2.St}{Hf H av H1:Hp}{dl:List Slot}{ix:List Nat}
theorem PJ (S:dh K G st Hf H dl)(s1:aH Hf av)(sb:aH av H1){v:V}{d:Dt}(r:Rep K av v d):dh K ⟨av,H1⟩ (some v::frees ix st) av H1 (.val d::jS dl ix):=by
 have no:∀ (i:Nat) o,(Slot.val d::jS dl ix)[i]?≠some (.own o):=fun i o h=>by
   cases i with
   | zero=>cases h
   | succ i=>
     rw[aby] at h;unfold jS at h;rw[aaf] at h;cases q:ix[i]? with
     | none=>rw[q] at h;cases h
     | some j=>
       rw[q] at h;exact Aj (Option.some.inj h)
 refine⟨.refl sb,by simp[frees,jS],fun i x h=>?_,fun i o h=>absurd h (no i o),fun i j o o' a h=>absurd h (no i o)⟩;cases i with
 | zero=>cases h;exact⟨v,rfl,r⟩
 | succ i=>
   rw[aby] at h ⊢;unfold jS at h;unfold frees;rw[aaf] at h ⊢;cases q:ix[i]? with
   | none=>rw[q] at h;cases h
   | some j=>
     rw[q] at h;have hd:=Ak (Option.some.inj h);obtain⟨v',z1,z2⟩:=S.val j x hd;exact⟨v',by rw[Option.map_some,z1];rfl,z2.mono s1⟩
end
section
variable {X:Cx}{G:Gr}{E:XK}{dl:List Slot}{a b elt iter:Expr}{i j:Int}{ys:List Dt}{zs:Nat->Dt}{pos p px py zu:Pos}{o:Out}{x y:Str}{N:List Str}{ix:List Nat}{sc:Scope}{n:Nat}
def LJ (X:Cx)(N:List Str)(sc:Scope)(dl:List Slot)(ix:List Nat)(elt:Expr)(n:Nat)(zs:Nat->Dt)(ys:List Dt):Prop:=
 ∀ k,k < n->∀ C fp s H G',EE (bC X N sc C fp s H) G' (.val (zs k)::jS dl ix) elt (ys.getD k .cz)
def UE (K:W.Frag)(dl:List Slot)(ix:List Nat)(n:Nat)(zs:Nat->Dt)(ys:List Dt):TE:=fun st H Q=>∃ k G',k < n/\tD K G' (.val (zs k)::jS dl ix) (ys.getD k .cz) st H Q
theorem LK (h:LJ X N sc dl ix elt n zs ys):∀ C fp s H,PE (bC X N sc C fp s H) elt (UE X.K dl ix n zs ys):=fun C fp s H pins s' st H' Q I ⟨k,G',hk,q⟩=>h k hk C fp s H G' pins s' st H' Q I q
theorem LL {st:L2.St}{Hf H:Hp}{J:It}{Q:VK}(S:dh X.K G st Hf H dl)(WY:ys.length=n)(hn:n<=sizeLine)(go:∀ av H1,aU Hf H av H1->∀ i,(i < n->J.go i H1/\∀ v H2,J.OH i H1 v H2->H2=H1/\Rep X.K av v (zs i))/\(i=n->J.stop i H1))(k:∀ p aK H',aU Hf H aK H'->H p=none->aK p=none->iq X.K aK H' p (.lst ys)->Q (.ref p) H'):∀ D,H D=none->UA (UE X.K dl ix n zs ys) (frees ix st) J D (fun _ H'=>Q (.ref D) H') H:=by
 intro D hD;refine⟨fun i m vs H1=>m=n - i/\i<=n/\∃ av,aU Hf H av H1/\av D=none/\H1 D=some (.lst vs)/\bK X.K av vs (ys.take i),⟨n,rfl,abh _,Hf,.fX S.sub hD,S.sub.free hD,ak,.nil⟩,?_⟩
 rintro i m vs H1 ⟨rfl,hi,av,g1,Yg,WZ,rp⟩
 have hlen:=rp.length;rw[aaD] at hlen;by_cases dS:i < n
 . obtain⟨Yh,hy⟩:=(go av H1 g1 i).1 dS
   refine .inr ⟨Yh,by omega,fun v H2 y=>?_⟩;obtain⟨e,rv⟩:=hy v H2 y;subst e;refine⟨i,⟨av,H2⟩,dS,av,PJ S g1.bJ g1.sub rv,fun z bD H3 g2 r2=>?_⟩;have hD3:H3 D=some (.lst vs):=g2.big _ _ WZ;have hD4:bD D=none:=by
     cases q:bD D with
     | none=>rfl
     | some u=>
       obtain⟨o,z⟩:=g2.xI WZ (fun z=>z) q;rw[Yg] at z;cases z
   have g:=g1.trans g2;refine⟨hD3,n - (i+1),by omega,rfl,dS,bD,⟨fun a o h=>?_,g.bJ,fun a o h=>?_,g.new⟩,hD4,ak,?_⟩
   . rw[ag (ax h hD)];exact g.big _ _ h
   . rw[ag (ax h hD4)];exact g2.sub _ _ h
   . have:ys.take (i+1)=ys.take i ++ [ys.getD i .cz]:=by
       rw[abL,aae,aab (by omega)];rfl
     rw[this];exact(rp.mono g2.bJ).append (.cons r2 .nil)
 . have e:i=n:=by omega
   subst e;refine .inl ⟨(go av H1 g1 i).2 rfl,k D av H1 g1 hD Yg ⟨vs,WZ,?_⟩⟩;rw[ab0 (by omega)] at rp;exact rp
def tLc (wi:TI)(ix:List Nat)(te:TE):TE:=fun st H Q=>wi st H fun J H1=>∀ D,H1 D=none->UA te (frees ix st) J D (fun _ H'=>Q (.ref D) H') H1
theorem Yi {wi:TI}{te:TE}(hc:X.calm=true)(B:iu X N ix x sc)(hi:PI X (.Name x px) iter wi)(k7:∀ C fp s H,PE (bC X N sc C fp s H) elt te)(hs:∀ z,foldedSetIterable iter X.env z=pure z):PE X (.ListComp elt [⟨.Name x px,iter,[],0⟩] sc pos) (tLc wi ix te):=by
 intro pins s st H Q I h;rw[eval_ListComp];refine wpAny_comprehension_free (use:=none) rfl hs (Lz B I.ok) B.kind B.names (bZ (hi pins s st H _ I h) fun v s1 h1=>bZ h1 fun TC s2 h2=>?_);obtain⟨it,fp,tn,J,H2,e,I2,T,EY,f2,hq⟩:=h2;subst e;refine Hm (RR:=fun acc C=>compPost (model X.prog X.w) X.A X.xe none (EP X pins st Q) acc C) hc B k7 I2 T EY f2 hq ?_;intro D C ws H' s' I' ⟨m,hn⟩ qY q;exact⟨m,hn,fun h' PK=>⟨.ref D,H',I'.turned (t':=s'.toks) (it:=C) (fun b o hb e=>(PK.2 b hb).trans e) qY.1 qY.2.1 qY.2.2.2.1 qY.2.2.2.2.1 qY.2.2.2.2.2,rfl,q⟩⟩
theorem Yj {wi:TI}{te:TE}{nN:Nat}(hc:X.calm=true)(B:iu X N ix x sc)(hi:PI X (.Name x px) iter wi)(k7:∀ C fp s H,PE (bC X N sc C fp s H) elt te)(hs:∀ z,foldedSetIterable iter X.env z=pure z)(PM:swapsWith (.ListComp elt [⟨.Name x px,iter,[],0⟩] sc pos) (some (.Name y py)) zu.line X.env=pure true)(hN:X.N.Nodup)(hy:X.N[nN]?=some y)(hl:Loc X.env.scope y)(hf:X.fn y=true\/X.env.scope.names.lookup y=some .local):PS X (.Assign [.Name y py] (.ListComp elt [⟨.Name x px,iter,[],0⟩] sc pos) zu) (fun D st H=>tLc wi ix te st H fun v H'=>D.nx (st.set nN (some v)) H'):=by
 intro pins s st H D0 I h;rw[exec_Assign_Name_used _ _ _ _ PM];refine wpAny_bind (wpAny_standAt (wpAny_bind ?_));show wpAny _ X.A (do let _ <- comprehension (.ListComp elt [⟨.Name x px,iter,[],0⟩] sc pos) sc X.env _ (newList []) false (eval iter X.env) (some (assign (.Name y py) X.env))) _ _ s;refine wpAny_bind (wpAny_mono (wpAny_comprehension_free (use:=some (assign (.Name y py) X.env)) (Q:=fun _ s'=>SP X pins D0 .next s') rfl hs (Lz B I.ok) B.kind B.names (bZ (hi pins s st H _ I h) fun v s1 h1=>bZ h1 fun TC s2 h2=>?_)) (fun _ s' hq=>wpAny_pure (wpAny_pure hq)) fun _ _ z=>z);obtain⟨it,fp,tn,J,H2,e,I2,T,EY,f2,hq⟩:=h2;subst e;refine Hm (RR:=fun acc C=>compPost (model X.prog X.w) X.A X.xe (some (assign (.Name y py) X.env)) (fun _ s'=>SP X pins D0 .next s') acc C) hc B k7 I2 T EY f2 hq ?_;intro D C ws H' s' I' ⟨m,hn⟩ qY q;refine wpAny_assign_Name (ub I' hN hy hl (v:=.ref D) rfl (fun T2 I'' ⟨ad,Jc,ha⟩=>?_) hf);have ne:C≠ad:=by
   rcases ha with z | z
   . rw[z];exact qY.2.1
   . exact Ne.symm (qY.2.2.2.2.1 _ _ z)
 exact⟨m,hn.sameBut Jc ne,fun h' PK=>⟨_,H',I''.turned (t':=T2.toks) (it:=C) (fun b o hb e=>(PK.2 b hb).trans e) qY.1 qY.2.1 qY.2.2.2.1 qY.2.2.2.2.1 qY.2.2.2.2.2,q⟩⟩
def LM (X:Cx)(G:Gr)(dl:List Slot)(n:Nat)(zs:Nat->Dt)(wi:TI):Prop:=∀ st H (R:It->Hp->Prop),(∃ Hf,dh X.K G st Hf H dl/\∀ J uB H0,aU Hf H uB H0 ->
 (∀ av H1,aU uB H0 av H1->∀ i,(i < n->J.go i H1/\∀ v H2,J.OH i H1 v H2->H2=H1/\Rep X.K av v (zs i))/\(i=n->J.stop i H1))->R J H0)->wi st H R
theorem xS (hn:-(2 ^ 62)<=j/\j < 2 ^ 62):LM X G dl j.toNat (fun k=>.int k) (RK (XZ X.K G dl [.int j])):=fun st H R zq=>zn zq fun Hf S k=>fun vs av H1 g1 r1=>by
 cases r1 with
 | cons r t=>
   cases t;cases r;refine⟨j,rfl,hn.1,hn.2,k _ av H1 g1 fun bD H2 g2 i=>⟨fun hi=>⟨hi,fun v H3 hy=>?_⟩,fun hi=>by rw[hi];exact aai _⟩⟩;obtain⟨e1,e2⟩:=hy;subst e2;rw[Int.zero_add];exact⟨e1,.int _⟩
theorem Dc {wi:TI}(hs:LM X G dl n zs wi)(WY:ys.length=n)(hn:n<=sizeLine):∀ st H Q,tDO X.K G dl (.lst ys) st H Q->tLc wi ix (UE X.K dl ix n zs ys) st H Q:=fun st H Q zq=>aac zq fun Hf zq=>have S:=zq.1;have k:=zq.2;
 hs st H _ ⟨Hf,S,fun J uB H0 g0 src=>LL (S.grow g0) WY hn src fun p aK H' g n1 n2 r=>k p aK H' (g0.trans g) (g0.big.free n1) n2 r⟩
theorem Yk {wi:TI}(hc:X.calm=true)(B:iu X N ix x sc)(hi:PI X (.Name x px) iter wi)(xU:LM X G dl n zs wi)(k7:LJ X N sc dl ix elt n zs ys)(WY:ys.length=n)(hn:n<=sizeLine)(hs:autoParam (∀ z,foldedSetIterable iter X.env z=pure z) xL):EO X G dl (.ListComp elt [⟨.Name x px,iter,[],0⟩] sc pos) (.lst ys):=gX (Yi hc B hi (LK k7) hs) (Dc xU WY hn)
theorem RZ (nN:Nat){wi:TI}(hc:X.calm=true)(hN:X.N.Nodup)(B:iu X N ix x sc)(hi:PI X (.Name x px) iter wi)(xU:LM X G dl n zs wi)(k7:LJ X N sc dl ix elt n zs ys)(WY:ys.length=n)(hn:n<=sizeLine)(hs:autoParam (∀ z,foldedSetIterable iter X.env z=pure z) xL)(PM:autoParam (swapsWith (.ListComp elt [⟨.Name x px,iter,[],0⟩] sc pos) (some (.Name y py)) zu.line X.env=pure true) jp)(hy:autoParam (X.N[nN]?=some y) jp)(hl:autoParam (Loc X.env.scope y) vb)(hf:autoParam (X.fn y=true\/X.env.scope.names.lookup y=some .local) v6):ES X G E dl (.Assign [.Name y py] (.ListComp elt [⟨.Name x px,iter,[],0⟩] sc pos) zu) (.nx (dl.set nN (.own (.lst ys)))):=
 vG (Yj hc B hi (LK k7) hs PM hN hy hl hf) fun D st H zq=>aac zq fun Hf zq=>have S:=zq.1;have k:=zq.2;Dc xU WY hn st H _ ⟨Hf,S,fun p aK H' g n1 n2 r=>k _ aK H' g.bJ (S.UB g n1 n2 r)⟩
end
theorem Fq {α:Type}{us:List α}{d:α}(h:(us ++ [d]).length=2):∃ a,us=[a]:=by
 match us,h with
 | [a],_=>exact⟨a,rfl⟩
 | [],h=>simp at h
 | _::_::r,h=>simp at h
theorem Bg {α:Type}{us:List α}(h:(us ++ []).length=2):∃ a b,us=[a,b]:=by
 rw[aaT] at h
 match us,h with
 | [a,b],_=>exact⟨a,b,rfl⟩
structure xV (K:W.Frag)(x qual:Str)(st:Stmt)(f:Addr)(fd:FuncData):Prop where
 ex:∃ (oc:Value) (od:Option Addr) (dV kV doc pm:Value) (an:Option Addr) (bc ct:Value) (wA:Array (Option Value)),
   fd=W.fnOf x qual (cv st) (aG st) (af st) dV kV doc pm an bc ct/\K.lookup f=some ⟨oc,od,.func fd,wA⟩/\W.codeIn K bc qual=true
theorem sS {K:W.Frag}{x qual:Str}{st:Stmt}{f:Addr}{oc:Value}{od an:Option Addr}{wA:Array (Option Value)}{dV kV doc pm bc ct:Value}(l:K.lookup f=some ⟨oc,od,.func (W.fnOf x qual (cv st) (aG st) (af st) dV kV doc pm an bc ct),wA⟩)(c:W.codeIn K bc qual=true):xV K x qual st f (W.fnOf x qual (cv st) (aG st) (af st) dV kV doc pm an bc ct):=⟨⟨oc,od,dV,kV,doc,pm,an,bc,ct,wA,rfl,l,c⟩⟩
section
variable {P:Program}{w:World}{K:W.Frag}{mg:Str->Option Value}{base:Heap}{CX:qu}{x qual:Str}{st:Stmt}{f:Addr}{fd:FuncData}{N ps:List Str}{k n:Nat}
theorem fnG {R:List Dt->Res->Prop}(F:xV K x qual st f fd)(S:aq N ps (af st))(hn:ps.length=n)(nL:∀ (bc:Value) (A:Around) (outer:List Env) (s:Shared) (H:Hp) (E:XK) (G:Gr) (ds:List Dt) (r:Res),dk k (A.deeper (envOfC qual (af st) s.heap.objs.size f bc))->ds.length=n->R ds r->∃ o,Comes o r/\mP (pM CX P w K mg base N qual (af st) f bc A outer s H E) G E (slots N ds) (aG st) o):jh P w K mg base CX (k+1) f fd ps (Fg K n R):=by
 obtain⟨oc,od,dV,kV,doc,pm,an,bc,ct,wA,rfl,lk,mh⟩:=F.ex;refine CI lk mh S (fun vs H Q E zq=>by obtain⟨Hf,ds,r,s,rp,hl,_⟩:=zq;rw[rp.length,hl,hn]) fun A outer s H vs Q E hr zq=>?_;obtain⟨Hf,ds,r,sm,rp,hl,hR,hk⟩:=zq
 obtain⟨o,hc,hb⟩:=nL bc A outer s H E ⟨Hf,H⟩ ds r hr hl hR;exact⟨_,hb,Hf,ux sm rp,hc.ends hk⟩
def abH (K:W.Frag)(C:Addr)(Hf H:Hp)(x:Addr)(Q:VK)(E:XK):Res->Prop
 | .own w=>((∃ fs,w=.obj C fs)\/∃ fs gs nm n,w=.uu C fs gs nm n)/\∀ aK H',aU Hf H aK H'->aK x=none->iq K aK H' x w->Q .cz H'
 | .exc c fs=>∀ od aK H',aU Hf H aK H'->ExcAt K aK od fs->E c od H'
 | .ret _=>False
def spI (K:W.Frag)(C:Addr)(n:Nat)(R:List Dt->Res->Prop):Sp:=fun vs H Q E=>∃ Hf H1 x dx args ds r,vs=.ref x::args/\H=upd H1 x (.ins C dx [])/\H1 x=none/\aH Hf H1/\bK K Hf args ds/\ds.length+1=n/\R ds r/\abH K C Hf H1 x Q E r
inductive Bh (C x:Addr):Out->Res->Prop
 | nx {dl:List Slot} {fs:List (Str×Dt)} (h:dl[0]?=some (.own (.CZ x C fs))):Bh C x (.nx dl) (.own (.obj C fs))
 | ex (c:Value) (fs:List (Str×Dt)):Bh C x (.ex c fs) (.exc c fs)
 | nxG {dl:List Slot} {fs:List (Str×Dt)} {gs:List (Nat->List (Key×FD))} {nm:List Str} {n:Nat} (h:dl[0]?=some (.own (.A3 x C fs gs nm n))):Bh C x (.nx dl) (.own (.uu C fs gs nm n))
noncomputable def uC (N:List Str)(x C:Addr)(ds:List Dt):List Slot:=.own (.CZ x C [])::(ds.map Slot.val ++ aal (N.length - (ds.length+1)) .aY)
theorem Fs {Hf H:Hp}{vs:List V}{ds:List Dt}{x dx C:Addr}(s:aH Hf H)(n:H x=none)(r:bK K Hf vs ds):dh K ⟨Hf,H⟩ (start N (.ref x::vs)) Hf (upd H x (.ins C dx [])) (uC N x C ds):=by
 have hl:=r.length;have es:start N (V.ref x::vs)=some (.ref x)::(vs.map some ++ aal (N.length - (vs.length+1)) none):=by
   unfold L2.start;simp
 have AK:∀ (i:Nat) o,(uC N x C ds)[i+1]?≠some (.own o):=fun i o h=>by
   unfold uC at h;rw[aby] at h;by_cases hi:i < ds.length
   . rw[aay (by simpa using hi),aaf] at h
     cases e:ds[i]? with
     | none=>rw[e] at h;cases h
     | some a=>rw[e] at h;cases h
   . rw[aaB (by simpa using hi),aaU] at h
     split at h <;> cases h
 rw[es];refine⟨.fX s n,?_,fun i d h=>?_,fun i o h=>?_,fun i j o o' a h h' _ _=>?_⟩
 . unfold uC
   simp[hl]
 . cases i with
   | zero=>cases h
   | succ i=>
     unfold uC at h;rw[aby] at h ⊢;by_cases hi:i < ds.length
     . rw[aay (by simpa using hi),aaf] at h
       cases e:ds[i]? with
       | none=>rw[e] at h;cases h
       | some a=>
         rw[e] at h;cases h;obtain⟨v,h1,h2⟩:=r.get e;refine⟨v,?_,h2⟩;rw[aay (by simp;omega),aaf,h1];rfl
     . rw[aaB (by simpa using hi),aaU] at h
       split at h <;> cases h
 . cases i with
   | zero=>
     cases h;exact⟨x,rfl,s.free n,n,rfl,dx,[],ak,.nil⟩
   | succ i=>exact absurd h (AK i o)
 . cases i with
   | zero=>cases j with
     | zero=>rfl
     | succ j=>exact absurd h' (AK j _)
   | succ i=>exact absurd h (AK i _)
theorem fnI {C:Addr}{R:List Dt->Res->Prop}(F:xV K x qual st f fd)(S:aq N ps (af st))(hn:ps.length=n)(nL:∀ (bc:Value) (A:Around) (outer:List Env) (s:Shared) (H:Hp) (E:XK) (G:Gr) (z:Addr) (ds:List Dt) (r:Res),dk k (A.deeper (envOfC qual (af st) s.heap.objs.size f bc))->ds.length+1=n->R ds r->∃ o,Bh C z o r/\mP (pM CX P w K mg base N qual (af st) f bc A outer s H E) G E (uC N z C ds) (aG st) o):jh P w K mg base CX (k+1) f fd ps (spI K C n R):=by
 obtain⟨oc,od,dV,kV,doc,pm,an,bc,ct,wA,rfl,lk,mh⟩:=F.ex;refine CI lk mh S (fun vs H Q E zq=>by obtain⟨Hf,H1,z,dx,args,ds,r,e,_,_,_,rp,hl,_⟩:=zq;rw[e,aaL,rp.length,hl,hn]) fun A outer s H vs Q E hr zq=>?_;obtain⟨Hf,H1,z,dx,args,ds,r,e1,e2,hz,sm,rp,hl,hR,hk⟩:=zq
 subst e1 e2;obtain⟨o,hc,hb⟩:=nL bc A outer s _ E ⟨Hf,H1⟩ z ds r hr hl hR;refine⟨_,hb,Hf,Fs sm hz rp,?_⟩;cases hc with
 | nx h=>
   obtain⟨_,kk⟩:=hk;intro lr aK H' s' S';obtain⟨a,_,q2,_,q4⟩:=S'.own 0 _ h;obtain⟨rfl,dx',fs',q5,q6⟩:=q4;exact kk aK H' S'.gr q2 ⟨dx',fs',q5,q6⟩
 | nxG h=>
   obtain⟨_,kk⟩:=hk;intro lr aK H' s' S';obtain⟨a,_,q2,_,q4⟩:=S'.own 0 _ h;obtain⟨rfl,q5⟩:=q4;exact kk aK H' S'.gr q2 q5
 | ex c fs=>exact hk
end
noncomputable def putD (f:Str)(v:Dt):List (Str×Dt)->List (Str×Dt)
 | []=>[(f,v)]
 | (g,x)::r=>if g=f then (g,v)::r else (g,x)::putD f v r
theorem bA.put {K:W.Frag}{H:Hp}{f:Str}{v:V}{d:Dt}(q:Rep K H v d):∀ {vs:List (Str×V)} {ds:List (Str×Dt)},bA K H vs ds->bA K H (fP f v vs) (putD f d ds)
 | _,_,.nil=>.cons q .nil
 | (k,x)::vs,(_,y)::ds,.cons h r=>by
   unfold fP putD;by_cases e:k=f
   . rw[if_pos e,if_pos e];exact .cons q r
   . rw[if_neg e,if_neg e];exact .cons h (bA.put q r)
section
variable {X:Cx}{G:Gr}{E:XK}{dl:List Slot}{e c:Expr}{es:List Expr}{d:Dt}{ds:List Dt}{pos p apos:Pos}{x m:Str}{C z:Addr}{fs:List (Str×Dt)}{CX:qu}{k k' n:Nat}{R:List Dt->Res->Prop}{ob:Expr}{wo:Own}{dvs:List Dt}{body:List Stmt}
theorem k8 {fn:Str}{pn:Pos}(he:EE X G dl e d)(cl:wz X.K C)(na:bW X.K C fn)(hd:autoParam (dl[0]?=some (.own (.CZ z C fs))) jp)(hl:autoParam (Nat.ble fs.length 999=true) jp)(hN:autoParam (X.N[0]?=some x) jp)(hv:autoParam (vC X.env.scope x) xz)(jg:autoParam ((x == ("__debug__":Str))=false) jO)(mh:autoParam ((x == ("__classdict__":Str))=false) jO)(hs:autoParam (swapsWith e (some (.Attribute (.Name x pn) fn apos)) pos.line X.env=pure false) jp):ES X G E dl (.Assign [.Attribute (.Name x pn) fn apos] e pos) (.nx (dl.set 0 (.own (.CZ z C (putD fn d fs))))):=
 vG (xA (xR (p:=pn) 0 hd hN hv jg mh) he hs) fun D st H zq=>zn zq fun Hf S k=>fun v av H1 g1 r1=>by
   have S1:=S.grow g1;obtain⟨a,q1,q2,q3,q4⟩:=S1.own 0 _ hd;obtain⟨e1,dx,fv,q5,q6⟩:=id q4;refine⟨av,a,S1,q1,q2,q4,a,C,dx,fv,rfl,q5,cl,na,by rw[q6.length];exact Nat.lt_succ_of_le (aaF hl),?_⟩;exact k st av _ g1.bJ (S1.IU hd q1 ⟨e1,dx,_,ak,q6.put r1⟩)
structure W0 (P:Program)(w:World)(K:W.Frag)(mg:Str->Option Value)(base:Heap)(CX:qu)(k:Nat)(x:Str)(C:Addr)(n:Nat)(R:List Dt->Res->Prop):Prop where
 ex:∃ f fd ps,jh P w K mg base CX k f fd ps (spI K C n R)/\L2.Mk K C f/\mg x=some (.ref C)/\Binds K fd ps []
theorem wF (F:W0 X.prog X.w X.K X.mg X.base CX k x C n R)(nx:C1 CX)(hr:dk k' X.A)(ha:EA X G dl (e::es) ds)(h:R ds (.own (.obj C fs)))(rB:autoParam (k+1<=k') jO)(hl:autoParam (ds.length+1=n) jp)(hg:autoParam (Gl X x) jp)(jg:autoParam ((x == ("__debug__":Str))=false) jO)(he:autoParam (starEach (e::es) X.env=(false,eval e X.env)::starEach es X.env) jp)(kW:autoParam ((backTo pos (starEach es X.env)).any (·.1)=false) jp):EO X G dl (.Call (.Name x p) (e::es) [] pos) (.obj C fs):=by
 obtain⟨f,fd,ps,Fo,M,hm,hb⟩:=F.ex;refine gX (G3 (E:=E0) M Fo (hr.mono rB) hg hm hb .nil nx.passes ha jg he kW) fun st H Q zq=>zn zq fun Hf S kk=>fun vs av H1 g1 r1 y dx hy UG ne=>?_
 have XJ:(upd H1 dx (.own y)) y=none:=by rw[ag (Ne.symm ne)];exact hy
 have g2:aU av H1 av (upd H1 dx (.own y)):=.fX g1.sub UG;refine⟨av,upd H1 dx (.own y),y,dx,vs ++ [],ds,.own (.obj C fs),rfl,rfl,XJ,g2.sub,by rw[aaT];exact r1,hl,h,.inl ⟨fs,rfl⟩,fun aK H' g n1 r=>⟨rfl,?_⟩⟩;exact kk y aK H' ((g1.trans g2).trans g) (g1.big.free hy) n1 r
theorem Dd {gs:List (Nat->List (Key×FD))}{nm:List Str}{j:Nat}(F:W0 X.prog X.w X.K X.mg X.base CX k x C n R)(nx:C1 CX)(hr:dk k' X.A)(ha:EA X G dl (e::es) ds)(h:R ds (.own (.uu C fs gs nm j)))(rB:autoParam (k+1<=k') jO)(hl:autoParam (ds.length+1=n) jp)(hg:autoParam (Gl X x) jp)(jg:autoParam ((x == ("__debug__":Str))=false) jO)(he:autoParam (starEach (e::es) X.env=(false,eval e X.env)::starEach es X.env) jp)(kW:autoParam ((backTo pos (starEach es X.env)).any (·.1)=false) jp):EO X G dl (.Call (.Name x p) (e::es) [] pos) (.uu C fs gs nm j):=by
 obtain⟨f,fd,ps,Fo,M,hm,hb⟩:=F.ex;refine gX (G3 (E:=E0) M Fo (hr.mono rB) hg hm hb .nil nx.passes ha jg he kW) fun st H Q zq=>zn zq fun Hf S kk=>fun vs av H1 g1 r1 y dx hy UG ne=>?_
 have XJ:(upd H1 dx (.own y)) y=none:=by rw[ag (Ne.symm ne)];exact hy
 have g2:aU av H1 av (upd H1 dx (.own y)):=.fX g1.sub UG;refine⟨av,upd H1 dx (.own y),y,dx,vs ++ [],ds,.own (.uu C fs gs nm j),rfl,rfl,XJ,g2.sub,by rw[aaT];exact r1,hl,h,.inr ⟨fs,gs,nm,j,rfl⟩,fun aK H' g n1 r=>⟨rfl,?_⟩⟩;exact kk y aK H' ((g1.trans g2).trans g) (g1.big.free hy) n1 r
theorem xW (F:GF X.prog X.w X.K X.mg X.base CX k x n R)(nx:C1 CX)(hr:dk k' X.A)(ha:EA X G dl (e::es) ds)(h:R ds (.own wo))(rB:autoParam (k<=k') jO)(hl:autoParam (ds.length=n) jp)(hg:autoParam (Gl X x) jp)(jg:autoParam ((x == ("__debug__":Str))=false) jO)(he:autoParam (starEach (e::es) X.env=(false,eval e X.env)::starEach es X.env) jp)(kW:autoParam ((backTo pos (starEach es X.env)).any (·.1)=false) jp):EO X G dl (.Call (.Name x p) (e::es) [] pos) wo:=by
 obtain⟨f,fd,ps,F,hm,hk,hb⟩:=F.ex;exact gX (AU (E:=E0) F (hr.mono rB) hg hm hk hb .nil nx.passes ha jg he kW) fun st H Q zq=>zn zq fun Hf S k=>fun vs av H1 g1 r1=>⟨av,ds,.own wo,g1.sub,by rw[aaT];exact r1,hl,h,fun p bD H2 g2 n1 n2 r2=>k p bD H2 (g1.trans g2) (g1.big.free n1) n2 r2⟩
structure Ho (P:Program)(w:World)(K:W.Frag)(mg:Str->Option Value)(base:Heap)(CX:qu)(k:Nat)(C:Addr)(m:Str)(n:Nat)(dvs:List Dt)(R:List Dt->Res->Prop):Prop where
 cl:wz K C
 ex:∃ f fd ps Fh vds,jh P w K mg base CX k f fd ps (Fg K n R)/\Meth K C m f/\Binds K fd ps Fh/\Vals vds Fh/\∀ H,bK K H vds dvs
theorem Ft {P:Program}{w:World}{K:W.Frag}{mg:Str->Option Value}{base:Heap}(F:MF P w K mg base CX k C m n R):Ho P w K mg base CX k C m n [] R:=by
 obtain⟨f,fd,ps,Fo,hm,hb⟩:=F.ex;exact⟨F.cl,f,fd,ps,[],[],Fo,hm,hb,.nil,fun _=>.nil⟩
theorem De {pl:Sem Bool}(he:EE X G dl ob (.obj C fs))(F:Ho X.prog X.w X.K X.mg X.base CX k C m n dvs R)(nx:C1 CX)(hr:dk k' X.A)(ha:EA X G dl (e::es) ds)(h:R (.obj C fs::(ds ++ dvs)) (.own wo))(rB:autoParam (k<=k') jO)(hl:autoParam ((Dt.obj C fs::(ds ++ dvs)).length=n) jp)(oC:autoParam (fs.lookup m=none) jp)
   (jQ:autoParam (starEach (e::es) X.env=(false,eval e X.env)::starEach es X.env) jp) (kW:autoParam ((backTo pos (starEach es X.env)).any (·.1)=false) jp)
   (ht:autoParam (eval (.Call (.Attribute ob m apos) (e::es) [] pos) X.env=(do
     let ov <- eval ob X.env
     standAt apos.atName
     let (f,first) <- holding [ov] (getMethod ov m pl)
     callWith pos f first (backTo pos (starEach (e::es) X.env)) (backToKw pos (keywordEach [] X.env)))) jp):EO X G dl (.Call (.Attribute ob m apos) (e::es) [] pos) wo:=by
 obtain⟨f,fd,ps,Fh,vds,Fo,hm,hb,hd,A7⟩:=F.ex;exact gX (AV (pl:=pl) (E:=E0) he F.cl hm Fo (hr.mono rB) hb hd nx.passes ha jQ kW ht) fun st H Q zq=>zn zq fun Hf S k=>fun v av H1 g1 r1=>by
   cases r1 with
   | @obj a _ dx fv _ q r=>
     exact⟨a,dx,fv,rfl,d8 g1.sub q,r.none_of oC,av,S.grow g1,fun vs bD H2 g2 r2=>⟨bD,_,.own wo,g2.sub,.cons (.obj (d8 g2.bJ q) (r.mono g2.bJ)) (r2.append (A7 _)),hl,h,fun p jP H3 g3 n1 n2 r3=>k p jP H3 ((g1.trans g2).trans g3) ((g1.trans g2).big.free n1) n2 r3⟩⟩
theorem LN {pl:Sem Bool}(he:EE X G dl ob (.obj C fs))(F:Ho X.prog X.w X.K X.mg X.base CX k C m n dvs R)(nx:C1 CX)(hr:dk k' X.A)(h:R (.obj C fs::dvs) (.own wo))(rB:autoParam (k<=k') jO)(hl:autoParam ((Dt.obj C fs::dvs).length=n) jp)(oC:autoParam (fs.lookup m=none) jp)
   (ht:autoParam (eval (.Call (.Attribute ob m apos) [] [] pos) X.env=(do
     let ov <- eval ob X.env
     standAt apos.atName
     let (f,first) <- holding [ov] (getMethod ov m pl)
     callWith pos f first (backTo pos (starEach [] X.env)) (backToKw pos (keywordEach [] X.env)))) jp):EO X G dl (.Call (.Attribute ob m apos) [] [] pos) wo:=by
 obtain⟨f,fd,ps,Fh,vds,Fo,hm,hb,hd,A7⟩:=F.ex;exact gX (CG (pl:=pl) (E:=E0) he F.cl hm Fo (hr.mono rB) hb hd nx.passes ht) fun st H Q zq=>zn zq fun Hf S k=>fun v av H1 g1 r1=>by
   cases r1 with
   | @obj a _ dx fv _ q r=>
     exact⟨a,dx,fv,rfl,d8 g1.sub q,r.none_of oC,av,_,.own wo,g1.sub,.cons (.obj q r) (A7 _),hl,h,fun p jP H3 g3 n1 n2 r3=>k p jP H3 (g1.trans g3) (g1.big.free n1) n2 r3⟩
theorem LO {pl:Sem Bool}(he:EE X G dl ob (.obj C fs))(F:Ho X.prog X.w X.K X.mg X.base CX k C m n dvs R)(nx:C1 CX)(hr:dk k' X.A)(ha:EA X G dl (e::es) ds)(h:R (.obj C fs::(ds ++ dvs)) (.ret d))(rB:autoParam (k<=k') jO)(hl:autoParam ((Dt.obj C fs::(ds ++ dvs)).length=n) jp)(oC:autoParam (fs.lookup m=none) jp)
   (jQ:autoParam (starEach (e::es) X.env=(false,eval e X.env)::starEach es X.env) jp) (kW:autoParam ((backTo pos (starEach es X.env)).any (·.1)=false) jp)
   (ht:autoParam (eval (.Call (.Attribute ob m apos) (e::es) [] pos) X.env=(do
     let ov <- eval ob X.env
     standAt apos.atName
     let (f,first) <- holding [ov] (getMethod ov m pl)
     callWith pos f first (backTo pos (starEach (e::es) X.env)) (backToKw pos (keywordEach [] X.env)))) jp):EE X G dl (.Call (.Attribute ob m apos) (e::es) [] pos) d:=by
 obtain⟨f,fd,ps,Fh,vds,Fo,hm,hb,hd,A7⟩:=F.ex;exact Hj (pl:=pl) he F.cl hm Fo nx (hr.mono rB) hb hd A7 ha hl h oC jQ kW ht
theorem Hq {pl:Sem Bool}(he:EE X G dl ob (.obj C fs))(F:Ho X.prog X.w X.K X.mg X.base CX k C m n dvs R)(nx:C1 CX)(hr:dk k' X.A)(h:R (.obj C fs::dvs) (.ret d))(rB:autoParam (k<=k') jO)(hl:autoParam ((Dt.obj C fs::dvs).length=n) jp)(oC:autoParam (fs.lookup m=none) jp)
   (ht:autoParam (eval (.Call (.Attribute ob m apos) [] [] pos) X.env=(do
     let ov <- eval ob X.env
     standAt apos.atName
     let (f,first) <- holding [ov] (getMethod ov m pl)
     callWith pos f first (backTo pos (starEach [] X.env)) (backToKw pos (keywordEach [] X.env)))) jp):EE X G dl (.Call (.Attribute ob m apos) [] [] pos) d:=by
 obtain⟨f,fd,ps,Fh,vds,Fo,hm,hb,hd,A7⟩:=F.ex;exact C3 (pl:=pl) he F.cl hm Fo nx (hr.mono rB) hb hd A7 hl h oC ht
def Yl (X:Cx)(G:Gr)(c:Expr):TT:=fun st H Q=>∃ dl b,EB X G dl c b/\X0 X.K G dl b st H Q
theorem PN:PT X c (Yl X G c):=fun pins s st H Q I ⟨dl,b,h,q⟩=>h pins s st H Q I q
theorem LP (S:Nat->List Slot)(n:Nat)(hp:PassesOwn (model X.prog X.w) X.A X.env X.xe)(h0:Le (S 0) dl)(hc:∀ k,k < n->EB X G (S k) c true)(hn:EB X G (S n) c false)(hb:∀ k,k < n->Goes X G E body (S k) (S (k+1))):ES X G E dl (.While c body [] pos) (.nx (S n)):=by
 refine vG (CC hp (PN (G:=G)) (sQ (G:=G) (E:=E))) fun D st H ⟨Hf,S0,k⟩=>?_
 refine⟨fun m st H=>∃ i,m=n - i/\i<=n/\∃ av,aH Hf av/\dh X.K G st av H (S i),⟨n,0,rfl,abh _,Hf,aH.refl _,S0.weak h0⟩,?_⟩
 rintro m UH H1 ⟨i,rfl,hi,av,s1,S1⟩
 by_cases dS:i < n
 . refine⟨S i,true,hc i dS,av,S1,fun bD H2 g2=>CW ⟨fun lr H'=>∃ jP,aH Hf jP/\dh X.K G lr jP H' (S (i+1)),fun lr H' h'=>⟨n - (i+1),by omega,i+1,rfl,dS,h'⟩,?_⟩⟩
   exact qy (hb i dS) (S1.grow g2) (fun Z9 jP H3 s3 S3=>⟨jP,(s1.trans g2.bJ).trans s3,S3⟩) (fun Z9 jP H3 s3 S3=>⟨jP,(s1.trans g2.bJ).trans s3,S3⟩)
 . have e:i=n:=by omega
   subst e;exact⟨S i,false,hn,av,S1,fun bD H2 g2=>CV (k _ bD H2 (s1.trans g2.bJ) (S1.grow g2))⟩
end
noncomputable def xX (sc Df:Scope)(XN N:List Str)(ix:List Nat)(x:Str):Bool:=
 decide N.Nodup && (decide (N=x::ix.map (fun j=>XN.getD j "")) && (decide (sc.kind=.function) && (sc.names.all (fun y=>decide (y.2≠.cell)) && (sc.names.all (fun y=>decide (y.2=.local->sc.names.lookup y.1=some .local)) && (decide (sc.names.lookup x=some .local) &&
   (sc.names.all (fun y=>decide (y.2=.free->Df.names.lookup y.1=some .cell\/Df.names.lookup y.1=some .free)) && ix.all (fun j=>decide (sc.names.lookup (XN.getD j "")=some .free) && decide (j < XN.length))))))))
theorem Fu {X:Cx}{sc Df:Scope}{XN N:List Str}{ix:List Nat}{x:Str}(h:xX sc Df XN N ix x=true)(e1:autoParam (X.env.scope=Df) jp)(e2:autoParam (X.N=XN) jp):iu X N ix x sc:=by
 subst e1 e2;unfold xX at h;simp only[aaE,acB,decide_eq_true_eq] at h;obtain⟨h1,h2,h3,h4,h5,h6,h7,h8⟩:=h;refine⟨h1,h2,h3,h4,h5,h6,h7,fun j hj=>?_⟩;obtain⟨q1,q2⟩:=h8 j hj;refine⟨X.N.getD j "",?_,q1⟩;rw[aae,aab q2];rfl
noncomputable def eLc:Expr->Scope
 | .ListComp _ _ sc _=>sc
 | .Call _ (.ListComp _ _ sc _::_) _ _=>sc
 | _=>{ kind:=.function,names:=[],isGenerator:=false,isCoroutine:=false}
noncomputable def Ym:Stmt->Scope
 | .Assign _ e _=>eLc e
 | .Return (some e) _=>eLc e
 | _=>{ kind:=.function,names:=[],isGenerator:=false,isCoroutine:=false}
theorem xY (k:Str):∀ xs:List Str,XH (.str k) (xs.map V.str)=decide (k∈xs)
 | []=>by simp[XH]
 | x::xs=>by
   have ih:=xY k xs;unfold XH at ih ⊢;rw[aas,acn,ih];by_cases e:x=k
   . subst e;simp[OJ]
   . have:¬ (k=x):=fun z=>e z.symm
     simp[OJ,e,this]
theorem Al (xs:List Str):(xs.map V.str).all sI=true:=by
 induction xs with
 | nil=>rfl
 | cons x xs ih=>rw[aas,acC,ih];rfl
section
variable {X:Cx}{G:Gr}{dl:List Slot}{a b:Expr}{pos:Pos}{k:Str}{xs:List Str}
theorem R0 {neg:Bool}:Hg X.K (rIn X.K neg) (.str k) (.tup (xs.map .str)) (.bl (if neg then !decide (k∈xs) else decide (k∈xs))):=fun v w Hf H Q s r1 r2 kk=>by
 cases r1;cases r2 with
 | @tup q vs _ hq rp=>
   have ev:=qz rp;subst ev;refine⟨q,_,rfl,.inr (gk s hq),rfl,Al xs,?_⟩;rw[xY];exact kk _ Hf H (.refl s) (.bl _)
theorem Fv (ha:EE X G dl a (.str k))(hb:EE X G dl b (.tup (xs.map .str)))(hm:autoParam (behindInMarks .In b=false) jp):EB X G dl (.Compare a [.In] [b] pos) (decide (k∈xs)):=ml um (R0 (neg:=false)) hm ha hb
theorem Hr (ha:EE X G dl a (.str k))(hb:EE X G dl b (.tup (xs.map .str)))(hm:autoParam (behindInMarks .NotIn b=false) jp):EB X G dl (.Compare a [.NotIn] [b] pos) (!decide (k∈xs)):=ml sL (R0 (neg:=true)) hm ha hb
end
theorem Dg {P:Program}{w:World}{A:Around}{R:Result->Shared->Prop}{s:Shared}{elt tg iter:Expr}{ifs:List Expr}{sc:Scope}{pos:Pos}{it acc:Value}{env:Env}(J:Nat->Shared->Prop)
   (turn:∀ n s,J n s->wpAny (model P w) A (pyNext it) (fun r s1=>match r with
     | none=>R (.ok .next) s1
     | some v=>wpAny (model P w) A (letOwnedTupleGo tg it v) (fun _ s2=>wpAny (model P w) A (assign tg env v) (fun _ s3=>
         wpAny (model P w) A (forIn ifs true fun c r=>if r=true then do let ok <- isTrue c env (eval c env);pure (ForInStep.yield ok) else pure (ForInStep.yield r)) (fun ok s3'=>
         if ok=true then wpAny (model P w) A (eval elt env) (fun x s4=>wpAny (model P w) A (call (.builtin "list.append") [acc,x]) (fun _ s5=>∃ m,m < n/\J m s5) zt s4) zt s3'
         else ∃ m,m < n/\J m s3') zt s3) zt s2) zt s1) zt s)
   (n:Nat) (h:J n s):codeAny (model P w) A (.compLoop (.ListComp elt [⟨tg,iter,ifs,0⟩] sc pos) 0 it acc env) R s:=by
 have off:∀ {B:Value->Shared->Prop} (x:Value) (s':Shared),zt x s'->B x s':=fun _ _ z=>z.elim
 refine codeAny_loop rfl J (fun n s hJ=>?_) n h;show wpAny _ A ((compTurn (.ListComp elt [⟨tg,iter,ifs,0⟩] sc pos) 0 it acc env).onRaise (fun x=>(do noteFrame x env;theTreesLotGoes x))) _ _ s;refine wpAny_noted ?_;rw[compTurn_list];refine wpAny_bind (wpAny_standAt (wpAny_bind (wpAny_mono (turn n s hJ) (fun r s1 h1=>?_) off)));cases r with
 | none=>exact wpAny_pure h1
 | some v=>
   refine wpAny_bind (wpAny_mono h1 (fun _ s2 h2=>wpAny_bind (wpAny_mono h2 (fun _ s3 h3=>wpAny_bind (wpAny_mono h3 (fun ok s3' h3'=>?_) off)) off)) off);cases ok with
   | false=>exact wpAny_pure ⟨rfl,h3'⟩
   | true=>exact wpAny_bind (wpAny_bind (wpAny_mono h3' (fun x s4 h4=>wpAny_bind (wpAny_mono h4 (fun _ s5 h5=>wpAny_pure (wpAny_pure ⟨rfl,h5⟩)) off)) off))
structure vI (X:Cx)(N tn:List Str)(ix:List Nat)(sc:Scope):Prop where
 nd:N.Nodup
 nm:N=tn ++ ix.map (fun j=>X.N.getD j "")
 kind:sc.kind=.function
 xP:∀ y∈sc.names,y.2≠.cell
 names:∀ y∈sc.names,y.2=.local->sc.names.lookup y.1=some .local
 hx:∀ x∈tn,sc.names.lookup x=some .local
 fr:∀ y∈sc.names,y.2=.free->X.env.kindOf y.1=some .cell\/X.env.kindOf y.1=some .free
 X8:∀ j∈ix,∃ y,X.N[j]?=some y/\sc.names.lookup y=some .free
section
variable {X:Cx}{N tn:List Str}{ix:List Nat}{sc:Scope}{pins:List (Addr×Obj)}{st:L2.St}{H H':Hp}{s s':Shared}{C D:Addr}{fp:List Addr}{h1:Heap}
theorem Hs (B:vI X N tn ix sc)(ok:X.Ok):closureFor sc X.env=pure (mQ sc X.env):=Be fun y hy hk=>ok.has y.1 (B.fr y hy hk)
theorem sT (B:vI X N tn ix sc)(ok:X.Ok){y:Str}{c:Addr}(h:(mQ sc X.env).lookup y=some c):X.env.cells.lookup y=some c/\(y,NameKind.free)∈sc.names:=by
 rcases sR _ _ h with⟨h1,h2⟩ | h1
 . obtain⟨c',h3⟩:=ok.has y (B.fr _ h1 rfl)
   rw[h3] at h2;cases h2;exact⟨h3,h1⟩
 . cases h1
theorem wG (B:vI X N tn ix sc)(I:L2.Inv X pins st H s)(hC:s.heap.objs.size<=C)(hf:∀ b∈fp,mi X pins H b)(dS:∀ b∈fp,b < s.heap.objs.size):(bC X N sc C fp s H).Ok where
 mod:=I.ok.mod
 kind:=B.kind
 glob:=I.ok.glob
 blt:=I.ok.blt
 above:=hC
 inj:=fun y z c h1 h2=>I.ok.inj y z c (sT B I.ok h1).1 (sT B I.ok h2).1
 has:=fun y hy=>by
   have hy:(relabel sc X.env).names.lookup y=some .cell\/(relabel sc X.env).names.lookup y=some .free:=hy;have:(y,NameKind.free)∈sc.names:=by
     rcases hy with hy | hy
     . obtain⟨k',h1,h2⟩:=gm hy
       rcases h2 with h2 | h2
       . subst h2;exact absurd rfl (B.xP _ h1)
       . subst h2;exact h1
     . obtain⟨k',h1,h2⟩:=gm hy
       rcases h2 with h2 | h2 <;> subst h2 <;> exact h1
   exact kK _ _ (.inl this)
 O0:=fun y c h=>by cases h
 hd:=I.ok.hd
 frames:=I.ok.frames
 RH:=.inl rfl
 Kl:=fun b hb=>⟨aap (aam (dS b hb) hC),fun y c h=>(hf b hb).2.2.2.2.1 y c (sT B I.ok h).1⟩
 bs:=I.bs
 Cw:=aax I.ok.Cw I.sz
 xp:=fun b o e hb=>by
   rcases (hf b hb).2.2.2.1 with z | z
   . exact I.ok.xp b o e z
   . exact absurd (aam (aak e) (aax I.ok.Cw z)) (abF _)
 xq:=fun b hb z=>by
   rcases aaz.mp (I.xu b z) with z | z
   . exact(hf b hb).2.1 z
   . exact(hf b hb).2.2.1 z
 pR:=I.stack
 GU:=I.lC
theorem Fw (B:vI X N tn ix sc)(I:L2.Inv X pins st H s)(hf:∀ b∈fp,mi X pins H b)(dS:∀ b∈fp,b < s.heap.objs.size)(hC:C=s.heap.objs.size+1)(k:∀ b o,s.heap.get? b=some o->h1.get? b=some o)(hn:h1.Ns C fun _=>none)(hD:h1.get? s.heap.objs.size=some { cls:=.type "list",data:=.seq ([]:List Value).toArray 0}){t':Nat}:L2.Inv (bC X N sc C fp s H) [] (aal tn.length none ++ frees ix st) (upd H s.heap.objs.size (.lst [])) { s with heap:=h1,toks:=t'}:=by
 have RW:s.heap.objs.size<=C:=by rw[hC];exact abD _
 have fr:∀ a,s.heap.objs.size<=a->H a=none:=fun a ha=>I.aR.fresh ha
 have ok:=wG B I RW hf dS;have zZ:∀ y c,(mQ sc X.env).lookup y=some c->H c=none/\c < s.heap.objs.size/\∃ v,s.heap.IsCell c v:=fun y c h=>by
   have h:=(sT B I.ok h).1;obtain⟨v,q⟩:=I.cell y c h;exact⟨I.mf y c h,q.lt,v,q⟩
 refine⟨ok,rfl,I.bare,Un.laid k (aai _) (fr _ (aai _)),⟨_,hn,fun i y v e1 e2 e3=>?_⟩,fun y c h=>?_,?_,fun y c h=>?_,fun p hp=>absurd (show p∈([]:List (Addr×Obj)) from hp) (by simp),?_,?_⟩
 . have e1:N[i]?=some y:=e1
   by_cases hi:i < tn.length
   . rw[aay (by simpa using hi),aaU,if_pos hi] at e2
     cases e2
   . have hi:tn.length<=i:=acz hi
     rw[B.nm,aaB hi,aaf] at e1;rw[aaB (by simpa using hi),List.length_replicate] at e2;unfold frees at e2;rw[aaf] at e2;cases q:ix[i - tn.length]? with
     | none=>rw[q] at e1;cases e1
     | some j=>
       rw[q] at e1 e2;obtain⟨y',OM,LA⟩:=B.X8 j (abX q);have PD:=PySem.mem_of_lookup LA;have ey:y=y':=by
         have e1:X.N.getD j ""=y:=Option.some.inj e1;rw[aae,OM] at e1;exact e1.symm
       subst ey;have e2:(st[j]?).join=some v:=Option.some.inj e2;have X9:st[j]?=some (some v):=by
         cases q2:st[j]? with
         | none=>rw[q2] at e2;cases e2
         | some z=>rw[q2] at e2;rw[show z=some v from e2]
       have kd:=B.fr _ PD rfl;have Ya:vC X.env.scope y:=by
         rcases kd with z | z
         . exact .inr (.inl z)
         . exact .inr (.inr z)
       obtain⟨m,_,hl⟩:=I.loc;obtain⟨u,r,l⟩:=hl j y v OM X9 Ya;refine⟨u,r,.inr ?_⟩;rcases l with⟨z,_⟩ | ⟨_,c,hc,ic⟩
       . rcases kd with z' | z' <;> rw[z] at z' <;> cases z'
       . obtain⟨c',EK⟩:=kK (cells:=X.env.cells) sc.names [] (.inl PD)
         have:=(sT B I.ok EK).1;rw[hc] at this;cases this;obtain⟨oc,GW,hd⟩:=ic;refine⟨?_,c,EK,oc,k _ _ GW,hd⟩;rcases e3 with e3 | e3 | e3
         . have e3:(relabel sc X.env).names.lookup y=some .local:=e3
           rcases oG (env:=X.env) LA with z | z
           . exact absurd (e3.symm.trans z) (by decide)
           . exact absurd (e3.symm.trans z) (by decide)
         . exact .inl e3
         . exact .inr e3
 . obtain⟨_,_,v,oc,GW,hd⟩:=zZ y c h
   exact⟨v,oc,k _ _ GW,hd⟩
 . show upd H s.heap.objs.size (.lst []) C=none
   rw[ag (by rw[hC];exact ach _)];exact fr _ RW
 . show upd H s.heap.objs.size (.lst []) c=none
   obtain⟨q1,q2,_⟩:=zZ y c h;rw[ag (aap q2)];exact q1
 . exact I.aR.laid k (aai _) ⟨abh _,[],0,.nil,hD⟩
 . show(aal tn.length none ++ frees ix st).length=N.length
   rw[B.nm];unfold frees;simp
def R1 (X:Cx)(ifs:List Expr)(tt:TT):Prop:=∀ (pins:List (Addr×Obj)) (s:Shared) (st:L2.St) (H:Hp) (Q:Bool->Hp->Prop),L2.Inv X pins st H s->tt st H Q ->
 wpAny (model X.prog X.w) X.A (forIn ifs true fun c r=>if r=true then do let ok <- isTrue c X.env (eval c X.env);pure (ForInStep.yield ok) else pure (ForInStep.yield r)) (fun b s'=>∃ H',L2.Inv X pins st H' s'/\Q b H') X.xe s
theorem Ht {c:Expr}{tt:TT}(h:PT X c tt):R1 X [c] tt:=fun pins s st H Q I q=>wpAny_tests_one (bZ (h pins s st H _ I q) fun b s' z=>z)
def Hu (nt:Nat)(g:TG)(tt:TT)(te:TE)(fs:L2.St)(J:It)(D:Addr)(Q:List V->Hp->Prop)(H:Hp):Prop:=
 ∃ W:Nat->Nat->List V->Hp->Prop,(∃ m,W 0 m [] (upd H D (.lst [])))/\∀ i m ys H1,W i m ys H1 ->
   (J.stop i H1/\Q ys H1)\/(J.go i H1/\ys.length < sizeLine/\∀ σ:L2.St,σ.length=nt->∀ v H2,J.OH i H1 v H2->g v (σ ++ fs) H2 fun σ2 H3=>∃ σ':L2.St,σ2=σ' ++ fs/\σ'.length=nt /\
     tt σ2 H3 fun b H4=>if b=true then te σ2 H4 fun y H5=>H5 D=some (.lst ys)/\∃ m',m' < m/\W (i+1) m' (ys ++ [y]) (upd H5 D (.lst (ys ++ [y]))) else ∃ m',m' < m/\W (i+1) m' ys H4)
theorem Dh {elt iter tg:Expr}{ifs:List Expr}{pos:Pos}{g:TG}{tt:TT}{te:TE}{J:It}{it:Addr}{tj:Nat->Heap->Prop}{Q:Addr->List V->Hp->Prop}{RR:Value->Addr->Result->Shared->Prop}{E:Value->Shared->Prop}(hc:X.calm=true)(B:vI X N tn ix sc)(hg:∀ C fp s H,PG (bC X N sc C fp s H) tg g)(ht:∀ C fp s H,R1 (bC X N sc C fp s H) ifs tt)(k7:∀ C fp s H,PE (bC X N sc C fp s H) elt te)(I:L2.Inv X pins st H s)(T:Turn X.prog X.w X.K tg J fp it tj)(h0:tj 0 s.heap)(hf:∀ b∈fp,mi X pins H b)(hq:∀ D,H D=none->Hu tn.length g tt te (frees ix st) J D (Q D) H)(Yb:∀ D C ys H' s',L2.Inv X pins st H' s'->(∃ m,s'.heap.Ns C m)->mi X pins H' C->Q D ys H'->RR (.ref D) C (.ok .next) s'):wpAny (model X.prog X.w) X.A (newList []) (fun acc s3=>wpAny (model X.prog X.w) X.A (newFunctionEnv sc X.env.globals (mQ sc X.env) [] X.env.qual none .none (some X.env)) (fun C7 s4=>codeAny (model X.prog X.w) X.A (.compStart (.ListComp elt [⟨tg,iter,ifs,0⟩] sc pos) 0 (.ref it) acc { C7 with scope:=relabel sc X.env}) (RR acc C7.locals) s4) E s3) E s:=by
 have dS:∀ b∈fp,b < s.heap.objs.size:=fun b hb=>by
   obtain⟨o,e,_⟩:=T.obj _ _ h0 b hb;exact aak e
 refine wpAny_newObj_type (wpAny_newFunctionEnv B.xP (fun y hy=>absurd hy (by simp)) (fun h1 Kn Jc=>?_) B.kind);dsimp only at Kn Jc ⊢;generalize hG:s.heap.push { cls:=.type "list",dict:=none,data:=.seq ([]:List Value).toArray}=g' at Kn Jc ⊢;have hC:g'.objs.size=s.heap.objs.size+1:=by rw[<- hG,abK]
 have hDC:s.heap.objs.size≠g'.objs.size:=by rw[hC];exact aap (abR _)
 have old:∀ b o,s.heap.get? b=some o->h1.get? b=some o:=fun b o e=>
   Jc.extBut b o (by rw[hC];exact aap (acw (aak e))) (aad _ (hG ▸ aad _ e))
 have LB:h1.get? s.heap.objs.size=some { cls:=.type "list",data:=.seq ([]:List Value).toArray 0}:=Jc.extBut _ _ hDC (aad _ (hG ▸ aaq _ rfl));have hD:H s.heap.objs.size=none:=I.aR.fresh (aai _);obtain⟨W,⟨m0,w0⟩,turn⟩:=hq _ hD;have I0:=Fw (t':=s.toks+([]:List (Str×Value)).length) B I hf dS hC old (by simpa using Kn) LB;have RX:tj 0 h1:=T.keep _ _ _ h0 fun b _ o e=>old b o e
 have p7:s.heap.objs.size<=g'.objs.size:=by rw[hC];exact abD _
 have rO:∀ {H':Hp},(∀ b∈fp,H' b=none)->∀ b∈fp,mi (bC X N sc g'.objs.size fp s H) [] H' b:=fun {H'} hn b hb=>
   ⟨hn b hb,((wG B I p7 hf dS).Kl b hb).1,(wG B I p7 hf dS).xq b hb,.inl hb,((wG B I p7 hf dS).Kl b hb).2,fun p hp=>absurd (show p∈([]:List (Addr×Obj)) from hp) (by simp)⟩
 have loop:∀ s3:Shared,s3={ s with heap:=h1,toks:=s.toks+([]:List (Str×Value)).length} ->
     codeAny (model X.prog X.w) X.A (.compLoop (.ListComp elt [⟨tg,iter,ifs,0⟩] sc pos) 0 (.ref it) (.ref s.heap.objs.size) (compEnvC sc (mQ sc X.env) g'.objs.size X.env)) (RR (.ref s.heap.objs.size) g'.objs.size) s3:=by
   rintro s3 rfl
   refine Dg (fun n s'=>∃ i ys σ H',σ.length=tn.length/\L2.Inv (bC X N sc g'.objs.size fp s H) [] (σ ++ frees ix st) H' s'/\tj i s'.heap/\(∀ b∈fp,H' b=none)/\W i n ys H') ?_ m0
     ⟨0,[],aal tn.length none,_,by simp,I0,RX,fun b hb=>?_,w0⟩
   . rintro n s5 ⟨i,ys,σ,H5,hσ,I5,Km,OI,w5⟩
     rcases turn i n ys H5 w5 with⟨stop,qn⟩ | ⟨go,hz,step⟩
     . refine bZ (T.done (bC X N sc g'.objs.size fp s H) rfl rfl rfl hc i [] s5 _ H5 zt I5 (rO OI) Km stop) fun r s6 ⟨hr,I6⟩=>?_
       subst hr;refine Yb _ _ ys H5 s6 ?_ ?_ (I.zl p7 I6.free) qn
       . exact I.xw I6.os I6.base I6.aR I6.bare fun b hb=>⟨(hf b hb).2.2.2.1,(hf b hb).2.1,(hf b hb).2.2.2.2.1,(hf b hb).2.2.2.2.2⟩
       . obtain⟨m,hm,_⟩:=I6.loc
         exact⟨m,hm⟩
     . refine bZ (T.item (bC X N sc g'.objs.size fp s H) rfl rfl rfl hc i [] s5 _ H5 zt I5 (rO OI) Km go) fun r s6 ⟨u,hr,h6⟩=>?_
       subst hr;refine bZ h6 fun _ s7 zq=>?_;obtain⟨v,H7,I7,r7,y7,LC,Yc⟩:=zq
       have Yd:=I7.pinned (rO Yc) (T.obj _ _ LC);refine bZ (hg g'.objs.size fp s H _ s7 _ H7 v u _ Yd r7 (step σ hσ v H7 y7)) fun _ s8 h8=>?_
       obtain⟨σ8,H8,I8,σ',e8,Yn,h8⟩:=h8;subst e8;have pinned:∀ {σ9:L2.St} {H9:Hp} {s9:Shared},L2.Inv (bC X N sc g'.objs.size fp s H) ([] ++ ug fp s7.heap) σ9 H9 s9->tj (i+1) s9.heap/\∀ b∈fp,H9 b=none:=fun {σ9 H9 s9} I9=>by
         refine⟨T.keep _ _ _ LC fun b hb o e=>(I9.pin (b,o) (aat _ (aat _ (gj hb e)))).1,fun b hb=>?_⟩;obtain⟨o,e,d⟩:=T.obj _ _ LC b hb;exact(I9.pin (b,o) (aat _ (aat _ (gj hb e)))).2.1
       refine bZ (ht g'.objs.size fp s H _ s8 _ H8 _ I8 h8) fun ok s8' PQ=>?_
       obtain⟨H8',PR,PQ⟩:=PQ;cases ok with
       | false=>
         obtain⟨m',hm,w8⟩:=PQ;exact⟨m',hm,i+1,ys,σ',_,Yn,PR.kH (pins:=[]),(pinned PR).1,(pinned PR).2,w8⟩
       | true=>
         refine bZ (k7 g'.objs.size fp s H _ s8' _ H8' _ PR PQ) fun z s9 zq=>?_;obtain⟨y,H9,I9,r9,Ye,m',hm,w9⟩:=zq
         refine bZ (qw _ s9 _ H9 (.ref s.heap.objs.size) [y] (.ref s.heap.objs.size) [z] (fun _ H'=>H'=upd H9 s.heap.objs.size (.lst (ys ++ [y]))) I9 rfl (.cons r9 .nil) ⟨_,ys,y,rfl,rfl,Ye,hz,rfl⟩) fun _ s10 Uw=>?_
         obtain⟨_,H10,LD,_,rfl⟩:=Uw;exact⟨m',hm,i+1,ys ++ [y],σ',_,Yn,LD.kH (pins:=[]),(pinned LD).1,(pinned LD).2,w9⟩
   . rw[ag (aap (dS b hb))]
     exact(hf b hb).1
 exact codeAny_compStart_list (loop _ rfl) (T.self _ 0 _ _ _ RX (loop _ rfl))
end
section
variable {K:W.Frag}{G:Gr}{st:L2.St}{Hf H av H1:Hp}{dl:List Slot}{ix:List Nat}
structure Yo (K:W.Frag)(Hf:Hp)(σ:L2.St)(sl:List Slot):Prop where
 len:σ.length=sl.length
 val:∀ (i:Nat) d,sl[i]?=some (.val d)->∃ v,σ[i]?=some (some v)/\Rep K Hf v d
 no:∀ (i:Nat) o,sl[i]?≠some (.own o)
theorem Yo.mono {σ:L2.St}{sl:List Slot}(h:Yo K Hf σ sl)(s:aH Hf av):Yo K av σ sl:=⟨h.len,fun i d e=>let ⟨v,h1,h2⟩:=h.val i d e;⟨v,h1,h2.mono s⟩,h.no⟩
theorem Di {σ:L2.St}{sl:List Slot}(S:dh K G st Hf H dl)(s1:aH Hf av)(sb:aH av H1)(r:Yo K av σ sl):dh K ⟨av,H1⟩ (σ ++ frees ix st) av H1 (sl ++ jS dl ix):=by
 have no:∀ (i:Nat) o,(sl ++ jS dl ix)[i]?≠some (.own o):=fun i o h=>by
   by_cases hi:i < sl.length
   . rw[aay hi] at h
     exact r.no i o h
   . rw[aaB (acz hi)] at h
     unfold jS at h;rw[aaf] at h;cases q:ix[i - sl.length]? with
     | none=>rw[q] at h;cases h
     | some j=>
       rw[q] at h;exact Aj (Option.some.inj h)
 refine⟨.refl sb,by simp[frees,jS,r.len],fun i x h=>?_,fun i o h=>absurd h (no i o),fun i j o o' a h=>absurd h (no i o)⟩;by_cases hi:i < sl.length
 . rw[aay hi] at h
   rw[aay (by rw[r.len];exact hi)];exact r.val i x h
 . have hi:=acz hi
   rw[aaB hi] at h;rw[aaB (by rw[r.len];exact hi),r.len];unfold jS at h;unfold frees;rw[aaf] at h ⊢;cases q:ix[i - sl.length]? with
   | none=>rw[q] at h;cases h
   | some j=>
     rw[q] at h;have hd:=Ak (Option.some.inj h);obtain⟨v',z1,z2⟩:=S.val j x hd;exact⟨v',by rw[Option.map_some,z1];rfl,z2.mono s1⟩
def UI (K:W.Frag)(nt:Nat)(g:TG)(z:Dt)(sl:List Slot):Prop:=∀ (σ fs:L2.St) (Hf H:Hp) (v:V) (Q:L2.St->Hp->Prop),σ.length=nt->aH Hf H->Rep K Hf v z ->
 (∀ σ':L2.St,σ'.length=nt->Yo K Hf σ' sl->Q (σ' ++ fs) H)->g v (σ ++ fs) H Q
theorem fC {z:Dt}:UI K 1 (rm 0) z [.val z]:=fun σ fs Hf H v Q hl s r k=>by
 cases σ with
 | nil=>cases hl
 | cons a σ=>
   have:σ=[]:=aa9 (by simpa using hl);subst this;refine k [some v] rfl ⟨rfl,fun i d h=>?_,fun i o h=>?_⟩
   . cases i with
     | zero=>cases h;exact⟨v,rfl,r⟩
     | succ i=>cases h
   . cases i with
     | zero=>cases h
     | succ i=>cases h
abbrev R3 (K:W.Frag):TG:=Tx K 2 (CB (rm 0) (CB (rm 1) Tw))
theorem PU {a b:Dt}:UI K 2 (R3 K) (.tup [a,b]) [.val a,.val b]:=fun σ fs Hf H v Q hl s r k=>by
 cases σ with
 | nil=>cases hl
 | cons x σ=>cases σ with
   | nil=>cases hl
   | cons y σ=>
     have:σ=[]:=aa9 (by simpa using hl);subst this;cases r with
     | @tup q vs _ hq rp=>
       cases rp with
       | cons r1 t1=>cases t1 with
         | cons r2 t2=>
           cases t2;refine⟨q,_,rfl,gk s hq,rfl,_,_,rfl,_,_,rfl,rfl,k [some _,some _] rfl ⟨rfl,fun i d h=>?_,fun i o h=>?_⟩⟩
           . cases i with
             | zero=>cases h;exact⟨_,rfl,r1⟩
             | succ i=>cases i with
               | zero=>cases h;exact⟨_,rfl,r2⟩
               | succ i=>cases h
           . cases i with
             | zero=>cases h
             | succ i=>cases i with
               | zero=>cases h
               | succ i=>cases h
end
section
variable {X:Cx}{G:Gr}{E:XK}{dl:List Slot}{a b c elt iter tg:Expr}{ifs:List Expr}{i:Int}{pos p px py zu:Pos}{o:Out}{x y:Str}{N tn:List Str}{ix:List Nat}{sc:Scope}{n:Nat}
def vJ (X:Cx)(G:Gr)(dl:List Slot)(zs:List Dt)(wi:TI):Prop:=∀ st H (R:It->Hp->Prop),(∃ Hf,dh X.K G st Hf H dl/\∀ J uB H0,aU Hf H uB H0 ->
 (∀ av H1,aH uB av->aH av H1->∀ i,(∀ z,zs[i]?=some z->J.go i H1/\∀ v H2,J.OH i H1 v H2->∃ bD,aU av H1 bD H2/\Rep X.K bD v z)/\(i=zs.length->J.stop i H1))->R J H0)->wi st H R
theorem nT {xs:List Dt}:vJ X G dl xs (KP X.K (tD X.K G dl (.lst xs))):=fun st H R zq=>zn zq fun Hf S k=>fun v av H1 g1 r1=>by
 cases r1 with
 | @lst q vs _ hq rp=>
   have hl:=rp.length;refine⟨q,rfl,⟨vs,.of (g1.sub _ _ hq)⟩,k _ av H1 g1 fun bD H2 s1 s2 i=>⟨fun z hz=>?_,fun hi=>⟨vs,.of (s2 _ _ (s1 _ _ hq)),by omega⟩⟩⟩;obtain⟨u,z1,z2⟩:=rp.get hz;have hs:pL X.K H2 q vs:=.of (s2 _ _ (s1 _ _ hq));refine⟨⟨vs,u,hs,z1⟩,fun v H3 hy=>?_⟩;obtain⟨e1,e2⟩:=hy;have e2:=e2 vs hs;rw[z1] at e2;cases e2;subst e1;exact⟨bD,.refl s2,z2.mono s1⟩
variable {α:Type}{as:List α}{z f:α->Dt}{sl:α->List Slot}{keep:α->Bool}{g:TG}{wi:TI}
def PV (K:W.Frag)(dl:List Slot)(ix:List Nat)(as:List α)(sl:α->List Slot)(keep:α->Bool):TT:=fun st H Q=>∃ a G',a∈as/\X0 K G' (sl a ++ jS dl ix) (keep a) st H Q
def PX (K:W.Frag)(dl:List Slot)(ix:List Nat)(as:List α)(sl:α->List Slot)(keep:α->Bool)(f:α->Dt):TE:=fun st H Q=>∃ a G',a∈as/\keep a=true/\tD K G' (sl a ++ jS dl ix) (f a) st H Q
inductive Dj (X:Cx)(N:List Str)(sc:Scope)(dl:List Slot)(ix:List Nat)(as:List α)(sl:α->List Slot)(keep:α->Bool):List Expr->Prop
 | nil:(∀ a∈as,keep a=true)->Dj X N sc dl ix as sl keep []
 | one {c:Expr}:(∀ a∈as,∀ C fp s H G',EB (bC X N sc C fp s H) G' (sl a ++ jS dl ix) c (keep a))->Dj X N sc dl ix as sl keep [c]
theorem LQ (h:Dj X N sc dl ix as sl keep ifs):∀ C fp s H,R1 (bC X N sc C fp s H) ifs (PV X.K dl ix as sl keep):=fun C fp s H=>by
 cases h with
 | nil h=>exact fun pins s' st H' Q I ⟨a,G',ha,Hf,S,k⟩=>wpAny_tests_nil ⟨H',I,by have:=k Hf H' (.refl S.sub);rw[h a ha] at this;exact this⟩
 | one h=>exact Ht fun pins s' st H' Q I ⟨a,G',ha,q⟩=>h a ha C fp s H G' pins s' st H' Q I q
def UJ (X:Cx)(N:List Str)(sc:Scope)(dl:List Slot)(ix:List Nat)(as:List α)(sl:α->List Slot)(keep:α->Bool)(f:α->Dt)(elt:Expr):Prop:=∀ a∈as,keep a=true->∀ C fp s H G',EE (bC X N sc C fp s H) G' (sl a ++ jS dl ix) elt (f a)
theorem LR (h:UJ X N sc dl ix as sl keep f elt):∀ C fp s H,PE (bC X N sc C fp s H) elt (PX X.K dl ix as sl keep f):=fun C fp s H pins s' st H' Q I ⟨a,G',ha,hk,q⟩=>h a ha hk C fp s H G' pins s' st H' Q I q
theorem Jf {nt:Nat}{st:L2.St}{Hf H:Hp}{J:It}{Q:VK}(S:dh X.K G st Hf H dl)(hn:as.length<=sizeLine)(LU:∀ a∈as,UI X.K nt g (z a) (sl a))(go:∀ av H1,aU Hf H av H1->∀ i,(∀ y,(as.map z)[i]?=some y->J.go i H1/\∀ v H2,J.OH i H1 v H2->∃ bD,aU av H1 bD H2/\Rep X.K bD v y)/\(i=(as.map z).length->J.stop i H1))(k:∀ p aK H',aU Hf H aK H'->H p=none->aK p=none->iq X.K aK H' p (.lst ((as.filter keep).map f))->Q (.ref p) H'):∀ D,H D=none->Hu nt g (PV X.K dl ix as sl keep) (PX X.K dl ix as sl keep f) (frees ix st) J D (fun _ H'=>Q (.ref D) H') H:=by
 intro D hD;refine⟨fun i m vs H1=>m=as.length - i/\i<=as.length/\∃ av,aU Hf H av H1/\av D=none/\H1 D=some (.lst vs)/\bK X.K av vs (((as.take i).filter keep).map f),⟨as.length,rfl,abh _,Hf,.fX S.sub hD,S.sub.free hD,ak,.nil⟩,?_⟩
 rintro i m vs H1 ⟨rfl,hi,av,g1,Yg,WZ,rp⟩
 have hlen:=rp.length;rw[aaa] at hlen;have hfl:((as.take i).filter keep).length<=i:=aax (List.length_filter_le _ _) (by rw[aaD];omega);have Fx:∀ {Hfa Ha Hfb Hb:Hp},aU Hfa Ha Hfb Hb->Hfa D=none->Ha D=some (.lst vs)->Hfb D=none/\Hb D=some (.lst vs):=fun {Hfa Ha Hfb Hb} gg e1 e2=>by
   refine⟨?_,gg.big _ _ e2⟩;cases q:Hfb D with
   | none=>rfl
   | some u=>
     obtain⟨o,z⟩:=gg.xI e2 (fun z=>z) q;rw[e1] at z;cases z
 by_cases dS:i < as.length
 . have UK:as[i]∈as:=aaN dS
   have et:as.take (i+1)=as.take i ++ [as[i]]:=by rw[abL,aab dS];rfl
   obtain⟨Yh,hy⟩:=(go av H1 g1 i).1 (z as[i]) (by rw[aaf,aab dS];rfl);refine .inr ⟨Yh,by omega,fun σ hσ v H2 y=>?_⟩;obtain⟨bD,g2,rv⟩:=hy v H2 y;obtain⟨d2,d2'⟩:=Fx g2 Yg WZ;refine LU as[i] UK σ _ bD H2 v _ hσ g2.sub rv fun σ' hl' tv=>⟨σ',rfl,hl',as[i],⟨bD,H2⟩,UK,bD,Di S (g1.bJ.trans g2.bJ) g2.sub tv,fun jP H3 g3=>?_⟩
   obtain⟨d3,d3'⟩:=Fx g3 d2 d2';cases hk:keep as[i] with
   | false=>
     refine⟨as.length - (i+1),by omega,rfl,dS,jP,(g1.trans g2).trans g3,d3,d3',?_⟩;rw[et,List.filter_append,acq (by simp[hk]),List.filter_nil,aaT];exact rp.mono (g2.bJ.trans g3.bJ)
   | true=>
     refine⟨as[i],⟨jP,H3⟩,UK,hk,jP,Di S ((g1.bJ.trans g2.bJ).trans g3.bJ) g3.sub (tv.mono g3.bJ),fun y OO H4 g4 r4=>?_⟩;obtain⟨d4,d4'⟩:=Fx g4 d3 d3';have gg:=((g1.trans g2).trans g3).trans g4;refine⟨d4',as.length - (i+1),by omega,rfl,dS,OO,⟨fun a o h=>?_,gg.bJ,fun a o h=>?_,gg.new⟩,d4,ak,?_⟩
     . rw[ag (ax h hD)];exact gg.big _ _ h
     . rw[ag (ax h d4)];exact g4.sub _ _ h
     . rw[et,List.filter_append,acr (by simpa using hk),List.filter_nil,abO]
       exact(rp.mono ((g2.bJ.trans g3.bJ).trans g4.bJ)).append (.cons r4 .nil)
 . have e:i=as.length:=by omega
   subst e;refine .inl ⟨(go av H1 g1 _).2 (by simp),k D av H1 g1 hD Yg ⟨vs,WZ,?_⟩⟩;rw[abV] at rp;exact rp
def PY (wi:TI)(nt:Nat)(ix:List Nat)(g:TG)(tt:TT)(te:TE):TE:=fun st H Q=>wi st H fun J H1=>∀ D,H1 D=none->Hu nt g tt te (frees ix st) J D (fun _ H'=>Q (.ref D) H') H1
theorem UL {tt:TT}{te:TE}(hc:X.calm=true)(B:vI X N tn ix sc)(hi:PI X tg iter wi)(hg:∀ C fp s H,PG (bC X N sc C fp s H) tg g)(ht:∀ C fp s H,R1 (bC X N sc C fp s H) ifs tt)(k7:∀ C fp s H,PE (bC X N sc C fp s H) elt te)(hs:∀ z,foldedSetIterable iter X.env z=pure z):PE X (.ListComp elt [⟨tg,iter,ifs,0⟩] sc pos) (PY wi tn.length ix g tt te):=by
 intro pins s st H Q I h;rw[eval_ListComp];refine wpAny_comprehension_free (use:=none) rfl hs (Hs B I.ok) B.kind B.names (bZ (hi pins s st H _ I h) fun v s1 h1=>bZ h1 fun TC s2 h2=>?_);obtain⟨it,fp,tj,J,H2,e,I2,T,EY,f2,hq⟩:=h2;subst e;refine Dh (RR:=fun acc C=>compPost (model X.prog X.w) X.A X.xe none (EP X pins st Q) acc C) hc B hg ht k7 I2 T EY f2 hq ?_;intro D C ws H' s' I' ⟨m,hn⟩ qY q;exact⟨m,hn,fun h' PK=>⟨.ref D,H',I'.turned (t':=s'.toks) (it:=C) (fun b o hb e=>(PK.2 b hb).trans e) qY.1 qY.2.1 qY.2.2.2.1 qY.2.2.2.2.1 qY.2.2.2.2.2,rfl,q⟩⟩
theorem UM {tt:TT}{te:TE}{nN:Nat}(hc:X.calm=true)(B:vI X N tn ix sc)(hi:PI X tg iter wi)(hg:∀ C fp s H,PG (bC X N sc C fp s H) tg g)(ht:∀ C fp s H,R1 (bC X N sc C fp s H) ifs tt)(k7:∀ C fp s H,PE (bC X N sc C fp s H) elt te)(hs:∀ z,foldedSetIterable iter X.env z=pure z)(PM:swapsWith (.ListComp elt [⟨tg,iter,ifs,0⟩] sc pos) (some (.Name y py)) zu.line X.env=pure true)(hN:X.N.Nodup)(hy:X.N[nN]?=some y)(hl:Loc X.env.scope y)(hf:X.fn y=true\/X.env.scope.names.lookup y=some .local):PS X (.Assign [.Name y py] (.ListComp elt [⟨tg,iter,ifs,0⟩] sc pos) zu) (fun D st H=>PY wi tn.length ix g tt te st H fun v H'=>D.nx (st.set nN (some v)) H'):=by
 intro pins s st H D0 I h;rw[exec_Assign_Name_used _ _ _ _ PM];refine wpAny_bind (wpAny_standAt (wpAny_bind ?_));show wpAny _ X.A (do let _ <- comprehension (.ListComp elt [⟨tg,iter,ifs,0⟩] sc pos) sc X.env _ (newList []) false (eval iter X.env) (some (assign (.Name y py) X.env))) _ _ s;refine wpAny_bind (wpAny_mono (wpAny_comprehension_free (use:=some (assign (.Name y py) X.env)) (Q:=fun _ s'=>SP X pins D0 .next s') rfl hs (Hs B I.ok) B.kind B.names (bZ (hi pins s st H _ I h) fun v s1 h1=>bZ h1 fun TC s2 h2=>?_)) (fun _ s' hq=>wpAny_pure (wpAny_pure hq)) fun _ _ z=>z);obtain⟨it,fp,tj,J,H2,e,I2,T,EY,f2,hq⟩:=h2;subst e;refine Dh (RR:=fun acc C=>compPost (model X.prog X.w) X.A X.xe (some (assign (.Name y py) X.env)) (fun _ s'=>SP X pins D0 .next s') acc C) hc B hg ht k7 I2 T EY f2 hq ?_;intro D C ws H' s' I' ⟨m,hn⟩ qY q;refine wpAny_assign_Name (ub I' hN hy hl (v:=.ref D) rfl (fun T2 I'' ⟨ad,Jc,ha⟩=>?_) hf);have ne:C≠ad:=by
   rcases ha with z | z
   . rw[z];exact qY.2.1
   . exact Ne.symm (qY.2.2.2.2.1 _ _ z)
 exact⟨m,hn.sameBut Jc ne,fun h' PK=>⟨_,H',I''.turned (t':=T2.toks) (it:=C) (fun b o hb e=>(PK.2 b hb).trans e) qY.1 qY.2.1 qY.2.2.2.1 qY.2.2.2.2.1 qY.2.2.2.2.2,q⟩⟩
theorem uD (hs:vJ X G dl (as.map z) wi)(LU:∀ a∈as,UI X.K n g (z a) (sl a))(hn:as.length<=sizeLine):∀ st H Q,tDO X.K G dl (.lst ((as.filter keep).map f)) st H Q->PY wi n ix g (PV X.K dl ix as sl keep) (PX X.K dl ix as sl keep f) st H Q:=fun st H Q zq=>aac zq fun Hf zq=>have S:=zq.1;have k:=zq.2;
 hs st H _ ⟨Hf,S,fun J uB H0 g0 src=>Jf (S.grow g0) hn LU (fun av H1 g1 i=>src av H1 g1.bJ g1.sub i) fun p aK H' g n1 n2 r=>k p aK H' (g0.trans g) (g0.big.free n1) n2 r⟩
theorem jW (as:List α)(z f:α->Dt)(sl:α->List Slot)(keep:α->Bool)(hc:X.calm=true)(B:vI X N tn ix sc)(hi:PI X tg iter wi)(hg:∀ C fp s H,PG (bC X N sc C fp s H) tg g)(xU:vJ X G dl (as.map z) wi)(LU:∀ a∈as,UI X.K tn.length g (z a) (sl a))(LV:Dj X N sc dl ix as sl keep ifs)(k7:UJ X N sc dl ix as sl keep f elt)(hn:as.length<=sizeLine)(hs:autoParam (∀ z,foldedSetIterable iter X.env z=pure z) xL):EO X G dl (.ListComp elt [⟨tg,iter,ifs,0⟩] sc pos) (.lst ((as.filter keep).map f)):=gX (UL hc B hi hg (LQ LV) (LR k7) hs) (uD xU LU hn)
theorem LW (nN:Nat)(as:List α)(z f:α->Dt)(sl:α->List Slot)(keep:α->Bool)(hc:X.calm=true)(hN:X.N.Nodup)(B:vI X N tn ix sc)(hi:PI X tg iter wi)(hg:∀ C fp s H,PG (bC X N sc C fp s H) tg g)(xU:vJ X G dl (as.map z) wi)(LU:∀ a∈as,UI X.K tn.length g (z a) (sl a))(LV:Dj X N sc dl ix as sl keep ifs)(k7:UJ X N sc dl ix as sl keep f elt)(hn:as.length<=sizeLine)(hs:autoParam (∀ z,foldedSetIterable iter X.env z=pure z) xL)(PM:autoParam (swapsWith (.ListComp elt [⟨tg,iter,ifs,0⟩] sc pos) (some (.Name y py)) zu.line X.env=pure true) jp)(hy:autoParam (X.N[nN]?=some y) jp)(hl:autoParam (Loc X.env.scope y) vb)(hf:autoParam (X.fn y=true\/X.env.scope.names.lookup y=some .local) v6):ES X G E dl (.Assign [.Name y py] (.ListComp elt [⟨tg,iter,ifs,0⟩] sc pos) zu) (.nx (dl.set nN (.own (.lst ((as.filter keep).map f))))):=
 vG (UM hc B hi hg (LQ LV) (LR k7) hs PM hN hy hl hf) fun D st H zq=>aac zq fun Hf zq=>have S:=zq.1;have k:=zq.2;uD xU LU hn st H _ ⟨Hf,S,fun p aK H' g n1 n2 r=>k _ aK H' g.bJ (S.UB g n1 n2 r)⟩
def TgS (K:W.Frag)(g:TG)(z:Dt)(up:List Slot->List Slot):Prop:=∀ (G:Gr) (st:L2.St) (Hf H:Hp) (v:V) (dl:List Slot) (Q:L2.St->Hp->Prop),dh K G st Hf H dl->Rep K Hf v z->(∀ lr,dh K G lr Hf H (up dl)->Q lr H)->g v st H Q
theorem Hv {K:W.Frag}{n:Nat}{z:Dt}:TgS K (rm n) z (fun dl=>dl.set n (.val z)):=fun G st Hf H v dl Q S r k=>k _ (S.set r)
theorem Hw {K:W.Frag}{n m:Nat}{z1 z2:Dt}:TgS K (Tx K 2 (CB (rm n) (CB (rm m) Tw))) (.tup [z1,z2]) (fun dl=>(dl.set n (.val z1)).set m (.val z2)):=fun G st Hf H v dl Q S r k=>by
 cases r with
 | @tup q vs _ hq rp=>
   cases rp with
   | cons r1 t1=>cases t1 with
     | cons r2 t2=>
       cases t2;exact⟨q,_,rfl,gk S.sub hq,rfl,_,_,rfl,_,_,rfl,rfl,k _ ((S.set r1).set r2)⟩
theorem wH {body:List Stmt}{m:Nat}(as:List α)(z:α->Dt)(up:α->List Slot->List Slot)(S:Nat->List Slot)(nO:X.calm=true)(hp:PassesOwn (model X.prog X.w) X.A X.env X.xe)(hI:PI X tg iter wi)(xU:vJ X G dl (as.map z) wi)(hg:PG X tg g)(LU:∀ a∈as,TgS X.K g (z a) (up a))(h0:Le (S 0) dl)(hmn:m<=as.length)(hb:∀ (k:Nat) (a:α),k < m->as[k]?=some a->Goes X G E body (up a (S k)) (S (k+1)))(he:rA X G E body S (fun k=>(as[k]?).elim (S k) fun a=>up a (S k)) as.length m o)(hs:autoParam (∀ z,foldedSetIterable iter X.env z=pure z) xL):ES X G E dl (.For tg iter body [] pos) o:=by
 refine vG (AO hp nO hI hg (sQ (G:=G) (E:=E)) hs) fun D st H ⟨Hf,S0,k⟩=>xU st H _ ⟨Hf,S0,fun J uB H0 g0 src=>?_⟩
 refine⟨fun i q st H=>q=as.length - i/\i<=m/\∃ av,aH uB av/\dh X.K G st av H (S i),⟨as.length,rfl,abh _,uB,aH.refl _,(S0.grow g0).weak h0⟩,?_⟩
 rintro i q UH H1 ⟨rfl,him,av,s1,S1⟩
 have sr:=src av H1 s1 S1.sub i;by_cases dS:i < as.length
 . have hz:as[i]?=some as[i]:=aab dS
   obtain⟨Yh,hy⟩:=sr.1 (z as[i]) (by rw[aaf,hz];rfl);refine .inr ⟨Yh,fun lr H'=>i < m/\∃ bD,aH uB bD/\dh X.K G lr bD H' (S (i+1)),fun lr H' ⟨h1,h2⟩=>⟨as.length - (i+1),by omega,rfl,by omega,h2⟩,fun x H' y=>?_⟩;obtain⟨bD,g2,rv⟩:=hy x H' y;refine LU as[i] (aaN dS) G UH bD H' x (S i) _ (S1.grow g2) rv fun EY S2=>?_
   by_cases UN:i < m
   . exact qy (hb i as[i] UN hz) S2 (fun st jP H s3 S'=>⟨UN,jP,(s1.trans g2.bJ).trans s3,S'⟩) (fun st jP H s3 S'=>⟨UN,jP,(s1.trans g2.bJ).trans s3,S'⟩)
   . have e:i=m:=by omega
     subst e;refine uw he dS ?_ (k.mono ((g0.bJ.trans s1).trans g2.bJ)) rfl rfl;show dh _ _ _ _ _ ((as[i]?).elim (S i) fun a=>up a (S i));rw[hz];exact S2
 . have e:i=as.length:=by omega
   subst e;have e2:m=as.length:=by omega
   subst e2;refine .inl ⟨sr.2 (by simp),?_⟩;cases he with
   | all _=>exact k UH av H1 (g0.bJ.trans s1) S1
   | rt h _=>omega
   | ro h _=>omega
   | bk h _=>omega
   | ex h _=>omega
theorem d9 (B:vI X N tn ix sc)(h:tn=[x]):∀ C fp s H,PG (bC X N sc C fp s H) (.Name x px) (rm 0):=fun C fp s H=>by
 have hN:(bC X N sc C fp s H).N[0]?=some x:=by
   show N[0]?=some x;rw[B.nm,h];rfl
 have ON:(bC X N sc C fp s H).env.scope.names.lookup x=some .local:=lookup_relabel_local (B.hx x (by rw[h];simp));exact dM (X:=bC X N sc C fp s H) B.nd hN (.inl ON) (.inr ON)
theorem LX {k:Nat}(hc:X.calm=true)(B:vI X N tn ix sc)(h:tn=[x,y]):∀ C fp s H,PG (bC X N sc C fp s H) (.Tuple [.Name x px,.Name y py] k p) (R3 X.K):=fun C fp s H=>by
 have h0:(bC X N sc C fp s H).N[0]?=some x:=by
   show N[0]?=some x;rw[B.nm,h];rfl
 have h1:(bC X N sc C fp s H).N[1]?=some y:=by
   show N[1]?=some y;rw[B.nm,h];rfl
 have ON:(bC X N sc C fp s H).env.scope.names.lookup x=some .local:=lookup_relabel_local (B.hx x (by rw[h];simp));have LA:(bC X N sc C fp s H).env.scope.names.lookup y=some .local:=lookup_relabel_local (B.hx y (by rw[h];simp));exact AM (X:=bC X N sc C fp s H) hc (il (dM B.nd h0 (.inl ON) (.inr ON)) (il (dM B.nd h1 (.inl LA) (.inr LA)) wq rfl) rfl) rfl rfl
end
noncomputable def kM (sc Df:Scope)(XN N tn:List Str)(ix:List Nat):Bool:=
 decide N.Nodup && (decide (N=tn ++ ix.map (fun j=>XN.getD j "")) && (decide (sc.kind=.function) && (sc.names.all (fun y=>decide (y.2≠.cell)) && (sc.names.all (fun y=>decide (y.2=.local->sc.names.lookup y.1=some .local)) && (tn.all (fun x=>decide (sc.names.lookup x=some .local)) &&
   (sc.names.all (fun y=>decide (y.2=.free->Df.names.lookup y.1=some .cell\/Df.names.lookup y.1=some .free)) && ix.all (fun j=>decide (sc.names.lookup (XN.getD j "")=some .free) && decide (j < XN.length))))))))
theorem dQ {X:Cx}{sc Df:Scope}{XN N tn:List Str}{ix:List Nat}(h:kM sc Df XN N tn ix=true)(e1:autoParam (X.env.scope=Df) jp)(e2:autoParam (X.N=XN) jp):vI X N tn ix sc:=by
 subst e1 e2;unfold kM at h;simp only[aaE,acB,decide_eq_true_eq] at h;obtain⟨h1,h2,h3,h4,h5,h6,h7,h8⟩:=h;refine⟨h1,h2,h3,h4,h5,h6,h7,fun j hj=>?_⟩;obtain⟨q1,q2⟩:=h8 j hj;refine⟨X.N.getD j "",?_,q1⟩;rw[aae,aab q2];rfl
section
variable {X:Cx}{G:Gr}{dl:List Slot}{a e:Expr}{w:Own}{u:Bool}
theorem Yp {Hf H av aK H':Hp}(s:aH Hf H)(g:aU av H aK H'):aU Hf H Hf H':=⟨g.big,aH.refl _,s.trans g.big,fun a o h=>.inl ⟨o,h⟩⟩
theorem Bi (n:Nat)(h:EB X G (dl.set n (.val (WX w))) e u)(hd:autoParam (dl[n]?=some (.own w)) jp):EB X G dl e u:=Uk h fun st H Q zq=>aac zq fun Hf zq=>have S:=zq.1;have k:=zq.2;by
 obtain⟨av,_,S1⟩:=S.bJ hd;exact⟨av,S1,fun aK H' g=>k Hf H' (Yp S.sub g)⟩
end
section
variable {X:Cx}{pins:List (Addr×Obj)}{σ:List (Option V)}{H:Hp}{s:Shared}{h':Heap}
theorem Dl {ch:List Addr}{a:Addr}{o:HO}{t':Nat}(I:L2.Inv X pins σ H s)(Cq:∀ b∈ch,mi X pins H b)(k:∀ b u,b ∉ ch->s.heap.get? b=some u->h'.get? b=some u)(hp:s.heap.objs.size<=a)(new:aM X.prog X.w (upd H a o) h' a o):L2.Inv X pins σ (upd H a o) { s with heap:=h',toks:=t'}:=by
 have hn:=I.aR.fresh hp;have Xh:∀ b u,H b=some u->b ∉ ch:=fun b u e z=>by rw[(Cq b z).1] at e;cases e
 have nea:∀ b o,s.heap.get? b=some o->b≠a:=fun b o e=>aap (aam (aak e) hp)
 refine I.step (g':=s.gens) (d':=s.drawn) (ch:=ch) (fun b hb=>⟨(Cq b hb).2.2.2.1,(Cq b hb).2.1,(Cq b hb).2.2.2.2.1,(Cq b hb).2.2.2.2.2⟩) (fun b o _ _ hc e _=>k b o hc e) (fun b o _ _ hc e _=>⟨o.slots,k b o hc e⟩) (fun b o _ e n=>by rw[ag (nea b o e)];exact n)
   (fun b o hc e=>⟨o,k b o hc e⟩) (fun b xs e=>by rw[ag (ax e hn)];exact e) (fun b o u e=>by rw[ag (ax e hn)];exact e) (fun b ps e=>⟨#[],by rw[ag (ax e hn),e];simp⟩) (fun m hm=>?_) (fun b u e=>?_) I.bare
 . obtain⟨o,es,ep,ho,r⟩:=hm
   exact⟨o,es,ep,k _ o (fun z=>(Cq _ z).2.1 rfl) ho,r⟩
 . by_cases hb:b=a
   . subst hb;rw[ak] at e;cases e;exact new
   . rw[ag hb] at e
     refine(I.aR b u e).qW (fun c v hc q=>k c v ?_ q) (fun c q=>by rw[ag (ax q hn)];exact q) (fun c xs q=>by rw[ag (ax q hn)];exact q) (.of fun c u q=>by rw[ag (ax q hn)];exact q);rcases hc with z | z | z
     . rw[z];exact Xh b u e
     . exact Xh c _ z
     . exact fun z'=>by rw[(Cq c z').1] at z;exact z
end
noncomputable def Ite (K:PySem.W.Frag)(a:Addr):It:=
 ⟨fun i H=>∃ xs x,pL K H a xs/\xs[i]?=some x,fun i H v H'=>∃ p x,v=.ref p/\H p=none/\H'=upd H p (.tup [.int i,x])/\∀ xs,pL K H a xs->xs[i]?=some x,fun i H=>∃ xs,pL K H a xs/\xs.length<=i⟩
theorem Jg {P:Program}{w:World}{K:W.Frag}{elts:List Expr}{kt:Nat}{AS:Pos}(a e it:Addr)(W2:e≠it):Turn P w K (.Tuple elts kt AS) (Ite K a) [e,it] e (fun i h=>(∃ old,IsEnum h e it i old)/\h.IsListIter it a i) where
 mem:=by simp
 obj:=fun i h st b hb=>by
   obtain⟨⟨old,he⟩,o,e2,c,d⟩:=st;rcases aaz.mp hb with rfl | hb
   . exact⟨_,he,fun v z=>by cases z⟩
   . have:b=it:=by simpa using hb
     subst this;exact⟨o,e2,fun v z=>by rw[d] at z;cases z⟩
 keep:=fun i h h' st k=>by
   obtain⟨⟨old,he⟩,hit⟩:=st;exact⟨⟨old,k e (by simp) _ he⟩,hit.at fun o x=>k it (by simp) o x⟩
 item:=by
   intro X hP hw hK hc i pins s σ H E I hf st hg;subst hP hw hK;obtain⟨xs,x,hq,hx⟩:=hg;obtain⟨aJ,rv,p,hz⟩:=I.list hq;obtain⟨u,hu,ru⟩:=rv.get hx;obtain⟨⟨old,he⟩,hit⟩:=st;have Yq:e < s.heap.objs.size:=aak he;have hil:it < s.heap.objs.size:=by obtain⟨_,z,_⟩:=hit;exact aak z
   refine wpAny_pyNext_enum_item he hit p.isList (x:=u) (by simpa using hu) W2 fun h1 ho UO hT hsz hk=>?_
   refine⟨_,rfl,wpAny_letOwnedTupleGo_enum ho fun h2 Us AR=>?_⟩;have hT2:h2.get? s.heap.objs.size=some { cls:=.type "tuple",data:=.seq #[.int i s.toks,u]}:=(AR.2 _ (acu Yq)).trans hT;have k2:∀ b o,b ∉ [e,it]->s.heap.get? b=some o->h2.get? b=some o:=fun b o hb q=>(AR.2 b fun z=>hb (by simp[z])).trans (hk b o (fun z=>hb (by simp[z])) (fun z=>hb (by simp[z])) q)
   have hp:H s.heap.objs.size=none:=I.aR.fresh (aai _);have I2:L2.Inv X pins σ (upd H s.heap.objs.size (.tup [.int i,x])) { s with heap:=h2,toks:=s.toks+1}:=Dl I hf k2 (aai _) ⟨aaF rfl,[.int i s.toks,u],.cons ⟨_,rfl⟩ (.cons ru .nil),_,hT2,rfl,_,rfl⟩;refine⟨.ref s.heap.objs.size,_,I2,rfl,⟨_,x,rfl,hp,rfl,fun ys hy=>by rw[I.CA hy hq];exact hx⟩,⟨⟨u,by simpa using Us⟩,UO.at fun o z=>(AR.2 it (Ne.symm W2)).trans z⟩,fun b hb=>?_⟩;have:b≠s.heap.objs.size:=by
     rcases aaz.mp hb with rfl | hb
     . exact aap Yq
     . have:b=it:=by simpa using hb
       subst this;exact aap hil
   rw[ag this];exact(hf b hb).1
 done:=by
   intro X hP hw hK hc i pins s σ H E I hf st hg;subst hP hw hK;obtain⟨xs,hq,hx⟩:=hg;obtain⟨aJ,rv,p,hz⟩:=I.list hq;obtain⟨⟨old,he⟩,hit⟩:=st;obtain⟨f0,f1,f2,f3,f4,f5⟩:=hf it (by simp);have hl:=rv.length;exact wpAny_pyNext_enum_end (I.ok.hd hc) he hit p.isList (by simp;omega) fun h' eb=>⟨rfl,I.turned (t':=s.toks) (fun b o hb q=>eb b o hb q) f0 f1 f3 f4 f5⟩
 self:=fun _ i s Q E st h=>by
   obtain⟨⟨old,he⟩,_⟩:=st;exact wpAny_pyIter_enum he h
theorem boot_enumerate:bootBuiltins "enumerate"=some (.type "enumerate"):=by decide +kernel
section
variable {X:Cx}{G:Gr}{dl:List Slot}{a:Expr}{xs:List Dt}{p pos:Pos}
def R4 (K:W.Frag)(ta:TA):TI:=fun σ H R=>ta σ H fun vs H1=>∃ a,vs=[.ref a]/\(∃ xs,pL K H1 a xs)/\R (Ite K a) H1
theorem PZ {elts:List Expr}{kt:Nat}{AS:Pos}{ta:TA}(hg:Gl X "enumerate")(hm:X.mg "enumerate"=none)(ha:PA X [a] ta)(hs:autoParam (starEach [a] X.env=[(false,eval a X.env)]) jp):PI X (.Tuple elts kt AS) (.Call (.Name "enumerate" p) [a] [] pos) (R4 X.K ta):=by
 intro pins s σ H R I h;refine Call_ (rN I hg hm boot_enumerate (PyProof.Rows.callWith_type1 (bZ (ha pos pins s σ H _ I h) fun us s1 zq=>?_) hs rfl));obtain⟨vs,H1,I1,r1,q1⟩:=zq;obtain⟨l,e,⟨xs,hq⟩,q⟩:=q1;subst e;cases r1 with
 | cons r rr=>
   cases rr;cases r;obtain⟨aJ,rv,pl,hz⟩:=I1.list hq;refine call_enumerate_list pl.isList fun h' he hit hsz k=>wpAny_pyIter_enum he ?_
   have I2:L2.Inv X pins σ H1 { s1 with heap:=h'}:=I1.kept (t':=s1.toks) k;refine⟨s1.heap.objs.size+1,[s1.heap.objs.size+1,s1.heap.objs.size],_,_,H1,rfl,I2,Jg l _ s1.heap.objs.size (ach _),⟨⟨_,he⟩,hit⟩,fun b hb=>?_,q⟩;have Ff:s1.heap.objs.size<=b:=by
     rcases aaz.mp hb with rfl | hb
     . exact abD _
     . have:b=s1.heap.objs.size:=by simpa using hb
       rw[this];exact aai _
   exact I1.zl Ff (I1.aR.fresh Ff)
noncomputable def vp (xs:List Dt):List Dt:=(aan xs.length).map fun(k:Nat)=>.tup [.int k,xs.getD k .cz]
theorem Jh:vJ X G dl (vp xs) (R4 X.K (XZ X.K G dl [.lst xs])):=fun st H R zq=>zn zq fun Hf S k=>fun vs av H1 g1 r1=>by
 cases r1 with
 | cons r t=>
   cases t;cases r with
   | @lst q vs _ hq rp=>
     have hl:=rp.length;refine⟨q,rfl,⟨vs,.of (g1.sub _ _ hq)⟩,k _ av H1 g1 fun bD H2 s1 s2 i=>⟨fun z hz=>?_,fun hi=>⟨vs,.of (s2 _ _ (s1 _ _ hq)),by unfold vp at hi;rw[aaa,aa6] at hi;omega⟩⟩⟩;have hi:i < xs.length:=by
       have:=(aaj.mp hz).1;unfold vp at this;simpa using this
     unfold vp at hz;rw[aaf,aaP hi] at hz;cases hz;have hx:xs[i]?=some (xs.getD i .cz):=by rw[aae,aab hi];rfl
     obtain⟨u,z1,z2⟩:=rp.get hx;have hs:pL X.K H2 q vs:=.of (s2 _ _ (s1 _ _ hq));refine⟨⟨vs,u,hs,z1⟩,fun v H3 hy=>?_⟩;obtain⟨pt,x,rfl,hn,rfl,e2⟩:=hy;have e2:=e2 vs hs;rw[z1] at e2;cases e2;have g3:aU bD H2 (upd bD pt (.tup [.int i,u])) (upd H2 pt (.tup [.int i,u])):=.alloc s2 hn;exact⟨_,g3,.tup (.inl ak) (.cons (.int _) (.cons ((z2.mono s1).mono g3.bJ) .nil))⟩
end
section
variable {X:Cx}{pins:List (Addr×Obj)}{st:L2.St}{H H':Hp}{s s':Shared}{h2 B:Heap}
theorem Dm (I:L2.Inv X pins st H s)(os:s'.os=s.os)(bare:AllBare s'.gens)(un:Un (kY X.stack) [] H H' s.heap s'.heap)(aR:pJ X.prog X.w H' s'.heap)(bg:∀ b o,B.get? b=some o->s'.heap.get? b=some o)(EN:∀ b o,s.heap.get? b=some o->H b=none->b ∉ kY X.stack->B.get? b=some o)(ER:∀ b o,s.heap.get? b=some o->b ∉ kY X.stack->∃ o',B.get? b=some o')(b8:∀ a o,H' a=some o->∃ ob,B.get? a=some ob)(bh:∀ b o,B.get? b=some o->h2.get? b=some o)(ups:∀ b o,s'.heap.get? b=some o->(∀ vs,o.data≠.fields vs)->∃ sl,h2.get? b=some { o with slots:=sl}):L2.Inv X pins st H' { s' with heap:=h2}:=by
 have slot:∀ b o,s.heap.get? b=some o->H b=none->b∈kY X.stack->∃ sl,h2.get? b=some { o with slots:=sl}:=fun b o e0 oF hf=>by
   obtain⟨sl,e1⟩:=un.slot b o e0 oF hf (by simp);obtain⟨_,o2,e2,hd⟩:=I.stack.mem hf;have e2:s.heap.get? b=some o2:=e2;rw[e0] at e2;cases e2;obtain⟨Fm,e3⟩:=ups b _ e1 hd;exact⟨Fm,e3⟩
 refine I.xw (s':={ s' with heap:=h2}) (ch:=[]) os ⟨fun b o e0 oF hf _=>bh _ _ (EN b o e0 oF hf),fun b o e0 oF hf _=>slot b o e0 oF hf,un.free,fun b o e0 _=>?_,un.t9,un.sG,un.ua⟩ (fun a o e=>?_) bare (fun b z=>absurd z (by simp))
 . by_cases hf:b∈kY X.stack
   . obtain⟨sl,e1⟩:=slot b o e0 (I.lC b hf) hf
     exact⟨_,e1⟩
   . obtain⟨o2,e2⟩:=ER b o e0 hf
     exact⟨o2,bh _ _ e2⟩
 . refine(aR a o e).qW (fun b u hb eu=>?_) (fun b z=>z) (fun b xs z=>z) .refl
   have Ff:∃ ob,B.get? b=some ob:=by
     rcases hb with rfl | hb | hb
     . exact b8 _ _ e
     . exact b8 _ _ hb
     . cases qq:H' b with
       | none=>rw[qq] at hb;exact hb.elim
       | some u=>exact b8 _ _ qq
   obtain⟨ob,eb⟩:=Ff;have:=bg _ _ eb;rw[eu] at this;cases this;exact bh _ _ eb
end
theorem Hx {M:Model}{A:Around}{E:Value->Shared->Prop}{K:W.Frag}{s:Shared}{ea C D:Addr}{Q:Bool->Shared->Prop}{bmB:List Value}{nw:String}(X:K.In s.heap)(hI:pW s.heap ea C)(hD:W.excIn K D bmB nw=true)(sF:W.mroIn K D (.type "BaseException")=some true)(Bj:W.mroIn K C (.ref D)=some true)(hq:Q true s):wpAny M A (excMatches (.ref ea) (.ref D)) Q E s:=by
 obtain⟨z1,z2,z3,z4,z5,z6,z7,z8,z9,y1,y2,y3,y4,y5,y6,y7,mN,hO,_,_,_⟩:=Hl X hD;obtain⟨h,g,d,t,os⟩:=s;have L0:=hI.ty (M:=M);have L1:=W.looks_mroIn (M:=M) X sF;have L2':=W.looks_mroIn (M:=M) X Bj;have f:=tc_notTuple;unfold excMatches
 repeat (first | with_reducible refine wpAny_loadPart_at hO ?_ | with_reducible refine W.Looks.at L0 ?_ | with_reducible refine W.Looks.at L1 ?_ | with_reducible refine W.Looks.at L2' ?_ | wp_step)
 exact hq
section
variable {X:Cx}{pins Aa:List (Addr×Obj)}{st:L2.St}{H H':Hp}{s s':Shared}{h2 B:Heap}{ea:Addr}{C:Addr}{xe:Value->Shared->Prop}{G:Gr}{Hf:Hp}
theorem xZ (I:L2.Inv { X with pn:=X.pn ++ pins,xe:=xe} Aa st H s):L2.Inv X pins st H s:=
 ⟨⟨I.ok.mod,I.ok.kind,I.ok.glob,I.ok.blt,I.ok.above,I.ok.inj,I.ok.has,I.ok.O0,I.ok.hd,I.ok.frames,I.ok.RH,I.ok.Kl,I.ok.bs,I.ok.Cw,I.ok.xp,I.ok.xq,I.ok.pR,I.ok.GU⟩,I.os,I.bare,I.base,I.loc,I.cell,I.free,I.mf,fun p hp=>I.pin p (acE _ hp),I.aR,I.len⟩
theorem Bk (I:L2.Inv X pins st H s):L2.Inv { X with pn:=X.pn ++ pins,xe:=xe} [] st H s:=
 ⟨⟨I.ok.mod,I.ok.kind,I.ok.glob,I.ok.blt,I.ok.above,I.ok.inj,I.ok.has,I.ok.O0,I.ok.hd,I.ok.frames,I.ok.RH,I.ok.Kl,I.ok.bs,I.ok.Cw,I.ok.xp,I.ok.xq,I.ok.pR,I.ok.GU⟩,I.os,I.bare,I.base,I.loc,I.cell,I.free,I.mf,fun p hp=>I.pin p (by simpa using hp),I.aR,I.len⟩
theorem nU {hd:Option Value}(I:L2.Inv X pins st H s):L2.Inv { X with A:=X.A.mark hd,calm:=false,xe:=xe} pins st H s:=
 ⟨⟨I.ok.mod,I.ok.kind,I.ok.glob,I.ok.blt,I.ok.above,I.ok.inj,I.ok.has,I.ok.O0,fun z=>Bool.noConfusion z,I.ok.frames,I.ok.RH,I.ok.Kl,I.ok.bs,I.ok.Cw,I.ok.xp,I.ok.xq,I.ok.pR,I.ok.GU⟩,I.os,I.bare,I.base,I.loc,I.cell,I.free,I.mf,I.pin,I.aR,I.len⟩
theorem oH {A:Around}(ok:X.Ok)(I:L2.Inv { X with A:=A,calm:=false,xe:=xe} pins st H s):L2.Inv X pins st H s:=
 ⟨ok,I.os,I.bare,I.base,I.loc,I.cell,I.free,I.mf,I.pin,I.aR,I.len⟩
theorem Ji (I:L2.Inv X pins st H s)(os:s'.os=s.os)(bare:AllBare s'.gens)(un:Un (kY X.stack) [] H H' s.heap s'.heap)(aR:pJ X.prog X.w H' s'.heap)(bg:∀ b o,B.get? b=some o->s'.heap.get? b=some o)(EN:∀ b o,s.heap.get? b=some o->H b=none->b ∉ kY X.stack->B.get? b=some o)(ER:∀ b o,s.heap.get? b=some o->b ∉ kY X.stack->∃ o',B.get? b=some o')(b8:∀ a o,H' a=some o->∃ ob,B.get? a=some ob)(bh:∀ b o,B.get? b=some o->h2.get? b=some o)(ups:∀ b o,s'.heap.get? b=some o->(∀ vs,o.data≠.fields vs)->∃ sl,h2.get? b=some { o with slots:=sl})(hn:s.heap.get? ea=none)(sD:H' ea=none)(hI:pW h2 ea C):L2.Inv X pins st (upd H' ea (.ext fun h=>pW h ea C)) { s' with heap:=h2}:=by
 have slot:∀ b o,s.heap.get? b=some o->H b=none->b∈kY X.stack->∃ sl,h2.get? b=some { o with slots:=sl}:=fun b o e0 oF hf=>by
   obtain⟨sl,e1⟩:=un.slot b o e0 oF hf (by simp);obtain⟨_,o2,e2,hd⟩:=I.stack.mem hf;have e2:s.heap.get? b=some o2:=e2;rw[e0] at e2;cases e2;obtain⟨Fm,e3⟩:=ups b _ e1 hd;exact⟨Fm,e3⟩
 have sm:aH H' (upd H' ea (.ext fun h=>pW h ea C)):=bj sD;refine I.xw (s':={ s' with heap:=h2}) (ch:=[]) os ⟨fun b o e0 oF hf _=>bh _ _ (EN b o e0 oF hf),fun b o e0 oF hf _=>slot b o e0 oF hf,fun b o e0 oF hx=>?_,fun b o e0 _=>?_,fun b xs e=>sm _ _ (un.t9 b xs e),fun b o u e=>sm _ _ (un.sG b o u e),fun b ps e=>let ⟨m,q⟩:=un.ua b ps e;⟨m,sm _ _ q⟩⟩ (fun a o e=>?_) bare (fun b z=>absurd z (by simp))
 . have ne:b≠ea:=fun z=>by rw[z,hn] at e0;cases e0
   rw[ag ne];exact un.free b o e0 oF hx
 . by_cases hf:b∈kY X.stack
   . obtain⟨sl,e1⟩:=slot b o e0 (I.lC b hf) hf
     exact⟨_,e1⟩
   . obtain⟨o2,e2⟩:=ER b o e0 hf
     exact⟨o2,bh _ _ e2⟩
 . by_cases ha:a=ea
   . subst ha
     rw[ak] at e;cases e;refine⟨hI,let ⟨ox,h1,_⟩:=hI;⟨ox,h1⟩,fun h1 h2 ⟨ox,q1,q2⟩ k=>⟨ox,k _ q1,q2⟩⟩
   . rw[ag ha] at e
     refine(aR a o e).qW (fun b u hb eu=>?_) (fun b z=>sm _ _ z) (fun b xs z=>sm _ _ z) (.of sm);have Ff:∃ ob,B.get? b=some ob:=by
       rcases hb with rfl | hb | hb
       . exact b8 _ _ e
       . exact b8 _ _ hb
       . cases qq:H' b with
         | none=>rw[qq] at hb;exact hb.elim
         | some u=>exact b8 _ _ qq
     obtain⟨ob,eb⟩:=Ff;have:=bg _ _ eb;rw[eu] at this;cases this;exact bh _ _ eb
theorem Hy {M:Model}{A:Around}{E:Value->Shared->Prop}{i:Nat}{x:Str}{pos:Pos}{Q:Unit->Shared->Prop}(I:L2.Inv X pins st H s)(hN:X.N.Nodup)(hi:X.N[i]?=some x)(hk:X.env.kindOf x=some .local)
   (h:∀ s',L2.Inv X pins (st.set i none) H s'->Q () s'):wpAny M A (do bindName X.env x .none;unbindBehindTheSuite X.env x pos) Q E s:=by
 obtain⟨m,hn,hl⟩:=id I.loc;have Ti:(X.env.scope.kind == .class || (X.env.scope.kind == .module && X.env.locals != X.env.globals))=false:=by rw[I.ok.kind];rfl
 have Z6:i < st.length:=by rw[I.len];exact(aaj.mp hi).1
 have zZ:=I.zZ;refine wpAny_nameGoes_keeps hk hn Ti fun h' v sD hs=>?_
 obtain⟨oL,_,_,hoL,_⟩:=id hn;refine h _ ⟨I.ok,I.os,I.bare,⟨fun b o e n hb hx=>?_,fun b o e n hb hx=>?_,I.base.free,fun b o e hx=>?_,I.base.t9,I.base.sG,I.base.ua⟩,⟨_,sD,fun j y v' e1 e2 e3=>?_⟩,fun y c e=>?_,I.free,I.mf,fun p hp=>?_,fun b ob e=>?_,by simpa using I.len⟩
 . exact(hs.2 b (aap (aam (aak e) I.ok.above))).trans (I.base.keep b o e n hb hx)
 . obtain⟨sl,e1⟩:=I.base.slot b o e n hb hx
   exact⟨sl,(hs.2 b (aap (aam (aak e) I.ok.above))).trans e1⟩
 . obtain⟨o',e1⟩:=I.base.there b o e hx
   exact⟨o',(hs.2 b (aap (aam (aak e) I.ok.above))).trans e1⟩
 . by_cases hj:j=i
   . subst hj
     rw[aag Z6] at e2;cases e2
   . rw[aah (Ne.symm hj)] at e2
     obtain⟨u',r',q⟩:=hl j y v' e1 e2 e3;refine⟨u',r',?_⟩;rcases q with⟨k,e⟩ | ⟨k,c,e,z⟩
     . refine .inl ⟨k,?_⟩
       have:y≠x:=fun e=>hj (xv hN e1 (e ▸ hi))
       simp[this,e]
     . exact .inr ⟨k,c,e,z.sameBut hs (zZ y c e)⟩
 . obtain⟨w',z⟩:=I.cell y c e
   exact⟨w',z.sameBut hs (zZ y c e)⟩
 . obtain⟨e,n,ne,nf,d⟩:=I.pin p hp
   exact⟨(hs.2 p.1 ne).trans e,n,ne,nf,d⟩
 . refine(I.aR b ob e).qW (fun c w' hc q=>(hs.2 c ?_).trans q) (fun _ q=>q) (fun _ _ q=>q) .refl
   rintro rfl
   rcases hc with rfl | hc | hc
   . have:=I.free;rw[this] at e;cases e
   . have:=I.free;rw[this] at hc;cases hc
   . have:=I.free;rw[this] at hc;exact hc
theorem Dp {K:W.Frag}{dl:List Slot}{i:Nat}(S:dh K G st Hf H dl):dh K G (st.set i none) Hf H (dl.set i .aY):=by
 refine⟨S.gr,by simp[S.len],fun j d h=>?_,fun j o h=>?_,fun j k o o' a h1 h2 h3 h4=>?_⟩
 . by_cases e:i=j
   . subst e
     by_cases hl:i < dl.length
     . rw[aag hl] at h;cases h
     . rw[aau (by simp;omega)] at h;cases h
   . rw[aah e] at h ⊢;exact S.val j d h
 . by_cases e:i=j
   . subst e
     by_cases hl:i < dl.length
     . rw[aag hl] at h;cases h
     . rw[aau (by simp;omega)] at h;cases h
   . rw[aah e] at h ⊢;exact S.own j o h
 . have ne:∀ (j:Nat) o,(dl.set i .aY)[j]?=some (.own o)->i≠j:=fun j o h e=>by
     subst e;by_cases hl:i < dl.length
     . rw[aag hl] at h;cases h
     . rw[aau (by simp;omega)] at h;cases h
   have n1:=ne j o h1;have n2:=ne k o' h2;rw[aah n1] at h1 h3;rw[aah n2] at h2 h4;exact S.He j k o o' a h1 h2 h3 h4
noncomputable def noOwn:List Slot->Bool
 | []=>true
 | .own _::_=>false
 | _::r=>noOwn r
theorem bo:∀ {dl:List Slot},noOwn dl=true->∀ (j:Nat) o,dl[j]?≠some (.own o)
 | [],_,j,o,h=>by simp at h
 | .val d::r,q,0,o,h=>by simp at h
 | .aY::r,q,0,o,h=>by simp at h
 | .val d::r,q,j+1,o,h=>bo (dl:=r) q j o (by simpa using h)
 | .aY::r,q,j+1,o,h=>bo (dl:=r) q j o (by simpa using h)
def EX1 (C:Addr)(Hf H:Hp):XK:=fun c _ H1=>c=.ref C/\∃ av,aU Hf H av H1
end
section
variable {X:Cx}{G:Gr}{dl:List Slot}{e:Expr}{x y:Str}{i j:Int}{pos p1 p2:Pos}{lo hi:Option Expr}{l u:Option Int}
theorem UP:SlR X (fun x lo hi H Q=>∃ z:Str,x=.str z/\z.length<=sizeLine/\Q (.str (Txt.slice z lo hi)) H):=by
 intro pins s σ H x v vl vu lo hi sl Q I rx hs pl pu h;obtain⟨z,rfl,hz,q⟩:=h;obtain⟨t,rfl⟩:=(show ∃ t,v=Value.str z t from rx)
 obtain⟨o,h1,h2,h3⟩:=hs;refine⟨"str",_,F.slot_str_getitem.lookup,typeIs_str _ _ _,?_⟩;cases pl with
 | none=>
   cases pu with
   | none=>exact wpAny_getItem_str_slice (l:=none) (u:=none) (st:=none) ⟨o,h1,h2,h3⟩ rfl (post_val_or_str ⟨aax (Txt.slice_le z _ _) hz,fun t' k=>⟨.str (Txt.slice z _ _),H,I.tok _,⟨t',rfl⟩,q⟩⟩)
   | int j uj=>exact wpAny_getItem_str_slice (l:=none) (u:=some (j,uj)) (st:=none) ⟨o,h1,h2,h3⟩ rfl (post_val_or_str ⟨aax (Txt.slice_le z _ _) hz,fun t' k=>⟨.str (Txt.slice z _ _),H,I.tok _,⟨t',rfl⟩,q⟩⟩)
 | int i ui=>
   cases pu with
   | none=>exact wpAny_getItem_str_slice (l:=some (i,ui)) (u:=none) (st:=none) ⟨o,h1,h2,h3⟩ rfl (post_val_or_str ⟨aax (Txt.slice_le z _ _) hz,fun t' k=>⟨.str (Txt.slice z _ _),H,I.tok _,⟨t',rfl⟩,q⟩⟩)
   | int j uj=>exact wpAny_getItem_str_slice (l:=some (i,ui)) (u:=some (j,uj)) (st:=none) ⟨o,h1,h2,h3⟩ rfl (post_val_or_str ⟨aax (Txt.slice_le z _ _) hz,fun t' k=>⟨.str (Txt.slice z _ _),H,I.tok _,⟨t',rfl⟩,q⟩⟩)
def abP (K:W.Frag)(G:Gr)(dl:List Slot)(o:Option Int):TO:=fun st H Q=>∃ Hf,dh K G st Hf H dl/\∀ aK H',aU Hf H aK H'->Q o H'
abbrev EPt (X:Cx)(G:Gr)(dl:List Slot)(e:Option Expr)(o:Option Int):Prop:=PO X e (abP X.K G dl o)
theorem poI {e:Option Expr}{t t':TO}(h:PO X e t)(i:∀ st H Q,t' st H Q->t st H Q):PO X e t':=fun pins s st H Q I q=>h pins s st H Q I (i st H Q q)
theorem LY:EPt X G dl none none:=poI G4 fun st H Q zq=>aac zq fun Hf zq=>have S:=zq.1;have k:=zq.2;k Hf H (.refl S.sub)
theorem Hz (h:EE X G dl e (.int i)):EPt X G dl (some e) (some i):=poI (G5 h) fun st H Q zq=>zn zq fun Hf S k=>fun v av H1 g1 r1=>by cases r1;exact⟨i,rfl,k av H1 g1⟩
theorem LZ (he:EE X G dl e (.str x))(hl:EPt X G dl lo l)(hu:EPt X G dl hi u)(hx:x.length<=sizeLine):EE X G dl (.Subscript e (.Slice lo hi none p2) pos) (.str (Txt.slice x l u)):=
 gX (CK UP he hl hu) fun st H Q zq=>zn zq fun Hf S k=>fun v av H1 g1 r1=>⟨av,S.grow g1,fun bD H2 g2=>⟨bD,(S.grow g1).grow g2,fun jP H3 g3=>by
   cases r1;exact⟨x,rfl,hx,k _ jP H3 ((g1.trans g2).trans g3) (.str _)⟩⟩⟩
theorem P0 {jk:Nat}(he:EE X G dl e (.str x))(h1:(reprText x).length<=sizeLine)(h2:(Str.empty ++ y).length<=sizeLine)(h3:(Str.empty ++ y ++ reprText x).length<=sizeLine):EE X G dl (.JoinedStr [.Constant (.str y) jk p1,.FormattedValue e 114 none p2] pos) (.str (Str.empty ++ y ++ reprText x)):=by
 intro pins s st H Q I ⟨Hf,S,k⟩;refine wpAny_JoinedStr ?_;refine bZ (KI (X:=X) (j:=jk) (pos:=p1) pins s st H (fun v H1=>v=.str y/\H1=H) I ⟨rfl,rfl⟩) fun v s1 zq=>?_;obtain⟨v1,H1,I1,r1,e1,e2⟩:=zq
 subst e1 e2;obtain⟨t1,rfl⟩:=(show ∃ t,v=Value.str y t from r1)
 refine⟨y,t1,rfl,h2,?_⟩;refine wpAny_FormattedValue_repr (bZ (he pins s1 st H1 (fun v H2=>v=.str x/\∃ bD,aU Hf H1 bD H2) I1 ⟨Hf,S,fun v bD H2 g2 r2=>by cases r2;exact⟨rfl,bD,g2⟩⟩) fun v s2 zq=>?_);obtain⟨v2,H2,I2,r2,e2,bD,g2⟩:=zq;subst e2;obtain⟨t2,rfl⟩:=(show ∃ t,v=Value.str x t from r2)
 refine wpAny_pyReprObj_str ?_ h1;refine formatField_str (fun t' tk=>⟨_,t',rfl,h3,h3,.str (Str.empty ++ y ++ reprText x),H2,(I2.tok _).tok _,⟨_,rfl⟩,k _ bD H2 g2 (.str _)⟩) h1
end
noncomputable def Itx (x:Str):It:=⟨fun i H=>∃ c,x.cps[i]?=some c,fun i H v H'=>H'=H/\∃ c,x.cps[i]?=some c/\v=.str ⟨#[c]⟩,fun i H=>x.cps[i]?=none⟩
theorem L3 {P:Program}{w:World}{K:W.Frag}{tg:Expr}(x:Str)(t:Tok)(it:Addr):Turn P w K tg (Itx x) [it] it (fun i h=>h.IsStrIter it "str_ascii_iterator" x t i) where
 mem:=by simp
 obj:=fun i h st b hb=>by
   have e:b=it:=by simpa using hb
   subst e;obtain⟨o,e,c,d⟩:=st;exact⟨o,e,fun v z=>by rw[d] at z;cases z⟩
 keep:=fun i h h' st k=>let ⟨o,e,c,d⟩:=st;⟨o,k it (by simp) o e,c,d⟩
 item:=by
   intro X hP hw hK hc i pins s σ H E I hf st hg;subst hP hw hK;obtain⟨c,hx⟩:=hg;obtain⟨f0,f1,f2,f3,f4,f5⟩:=hf it (by simp);refine wpAny_pyNext_ascii_item st hx fun h' lr sb=>?_
   have I1:L2.Inv X pins σ H { s with heap:=h',toks:=s.toks+1}:=I.turned (t':=s.toks+1) (fun b o hb e=>(sb.2 b hb).trans e) f0 f1 f3 f4 f5;obtain⟨o,e,cc,d⟩:=id lr;exact⟨_,rfl,GY (s:={ s with heap:=h',toks:=s.toks+1}) e cc d (by decide) ⟨.str ⟨#[c]⟩,H,I1,⟨_,rfl⟩,⟨rfl,c,hx,rfl⟩,lr,fun b hb=>(hf b hb).1⟩⟩
 done:=by
   intro X hP hw hK hc i pins s σ H E I hf st hg;subst hP hw hK;obtain⟨f0,f1,f2,f3,f4,f5⟩:=hf it (by simp);exact wpAny_pyNext_ascii_end (I.ok.hd hc) st hg fun h' eb=>⟨rfl,I.turned (t':=s.toks) (fun b o hb e=>eb b o hb e) f0 f1 f3 f4 f5⟩
 self:=fun _ _ _ _ _ st h=>wpAny_pyIter_striter_ascii st h
noncomputable def k9 (x:Str):Bool:=x.cps.all (· < 128)
noncomputable def signs (x:Str):List Dt:=x.cps.toList.map fun c=>.str ⟨#[c]⟩
section
variable {X:Cx}{G:Gr}{dl:List Slot}{a b c e:Expr}{x y z:Str}{pos:Pos}{i j k:Int}{u v:Bool}
def Yr (ta:TE):TI:=fun σ H R=>ta σ H fun v H1=>∃ x,v=.str x/\k9 x=true/\R (Itx x) H1
theorem lb {tg:Expr}{ta:TE}(ha:PE X a ta):PI X tg a (Yr ta):=by
 intro pins s σ H R I h;refine bZ (ha pins s σ H _ I h) fun v s1 zq=>?_;obtain⟨w,H1,I1,r1,q1⟩:=zq
 obtain⟨x,e,hx,q⟩:=q1;subst e;obtain⟨t,rfl⟩:=(show ∃ t,v=Value.str x t from r1)
 refine wpAny_pyIter_ascii hx ?_;refine⟨s1.heap.objs.size,[s1.heap.objs.size],_,_,H1,rfl,I1.kept (t':=s1.toks) fun b o e=>aad _ e,L3 x t _,⟨_,aaq _ rfl,rfl,rfl⟩,fun b hb=>?_,q⟩;have e:b=s1.heap.objs.size:=by simpa using hb
 subst e;exact I1.zl (aai _) (I1.aR.fresh (aai _))
theorem signs_get (x:Str)(i:Nat):(signs x)[i]?=(x.cps[i]?).map fun c=>.str ⟨#[c]⟩:=by
 unfold signs;rw[aaf,acy]
theorem qA (x:Str):(signs x).length=x.length:=by
 unfold signs;rw[aaa,ab4];rfl
theorem fQ (hx:k9 x=true):vJ X G dl (signs x) (Yr (tD X.K G dl (.str x))):=fun st H R zq=>zn zq fun Hf S k=>fun v av H1 g1 r1=>by
 cases r1;refine⟨x,rfl,hx,k _ av H1 g1 fun bD H2 s1 s2 i=>⟨fun z hz=>?_,fun hi=>?_⟩⟩
 . rw[signs_get] at hz
   cases q:x.cps[i]? with
   | none=>rw[q] at hz;cases hz
   | some c=>
     rw[q] at hz;cases hz;refine⟨⟨c,q⟩,fun v H3 zq=>?_⟩;obtain⟨e1,c',e2,e3⟩:=zq;rw[q] at e2;cases e2;subst e1 e3;exact⟨bD,.refl s2,.str _⟩
 . show x.cps[i]?=none
   rw[hi,qA];exact Array.getElem?_size_le (aai _)
theorem Am:qX X (compareOp .LtE) (fun x y H Q=>∃ i j,x=.str i/\y=.str j/\Q (.bl (!decide (j.cps.toList < i.cps.toList))) H):=by
 intro pins s σ H x y v u Q I rx ry h;obtain⟨i,j,rfl,rfl,q⟩:=h;obtain⟨t,rfl⟩:=rx;obtain⟨t',rfl⟩:=ry;exact P.le_str (gW I q rfl)
noncomputable def UQ (x y:Str):Bool:=!decide (y.cps.toList < x.cps.toList)
theorem L5 {K:W.Frag}:Hg K (fun x y H Q=>∃ i j,x=.str i/\y=.str j/\Q (.bl (!decide (j.cps.toList < i.cps.toList))) H) (.str x) (.str y) (.bl (UQ x y)):=fun v w Hf H Q s r1 r2 k=>by
 cases r1;cases r2;exact⟨x,y,rfl,rfl,k _ Hf H (.refl s) (.bl _)⟩
variable {d1 d2 d3:Dt}
theorem Dq {op TV:CmpOp}{r r':R2}(ho:qX X (compareOp op) r)(KG:qX X (compareOp TV) r')(h1:Hg X.K r d1 d2 (.bl u))(h2:Hg X.K r' d2 d3 (.bl v))(ha:EE X G dl a d1)(hb:EE X G dl b d2)(hc:EE X G dl c d3)(hm:autoParam (lastMarks [op,TV] [b,c]=false) wv):EE X G dl (.Compare a [op,TV] [b,c] pos) (.bl (u && v)):=
 gX (KU ho KG ha hb hc hm) fun st H Q zq=>zn zq fun Hf S k=>fun x av H1 g1 r1=>⟨av,S.grow g1,fun y bD H2 g2 r2=>h1 x y bD H2 _ g2.sub (r1.mono g2.bJ) r2 fun z jP H3 g3 r3=>by
   cases r3;refine⟨u,rfl,?_⟩;cases u with
   | false=>exact CV (k _ jP H3 ((g1.trans g2).trans g3) (.bl _))
   | true=>exact CW ⟨jP,((S.grow g1).grow g2).grow g3,fun w OO H4 g4 r4=>h2 y w OO H4 Q g4.sub (r2.mono (g3.bJ.trans g4.bJ)) r4 fun q vq H5 g5 r5=>k q vq H5 ((((g1.trans g2).trans g3).trans g4).trans g5) r5⟩⟩
theorem L6 (ha:EE X G dl a (.str x))(hb:EE X G dl b (.str y))(hc:EE X G dl c (.str z))(hm:autoParam (lastMarks [.LtE,.LtE] [b,c]=false) wv):EE X G dl (.Compare a [.LtE,.LtE] [b,c] pos) (.bl (UQ x y && UQ y z)):=Dq Am Am L5 L5 ha hb hc hm
theorem L7 (ha:EE X G dl a (.int i))(hb:EE X G dl b (.int j))(hc:EE X G dl c (.int k))(hm:autoParam (lastMarks [.LtE,.LtE] [b,c]=false) wv):EE X G dl (.Compare a [.LtE,.LtE] [b,c] pos) (.bl (decide (i<=j) && decide (j<=k))):=
 Dq KS KS (vm (g':=fun i j=>.bl (decide (i<=j))) fun _ _ _ _=>.bl _) (vm (g':=fun i j=>.bl (decide (i<=j))) fun _ _ _ _=>.bl _) ha hb hc hm
end
section
variable {X:Cx}{G:Gr}{dl:List Slot}{a b e:Expr}{pos p apos bf:Pos}{k x:Str}{xs:List Str}{bs:List Bool}{ns:List Int}{hi:Option Expr}{l u:Option Int}
theorem Fy {neg:Bool}:Hg X.K (rIn X.K neg) (.str k) (.lst (xs.map .str)) (.bl (if neg then !decide (k∈xs) else decide (k∈xs))):=fun v w Hf H Q s r1 r2 kk=>by
 cases r1;cases r2 with
 | @lst q vs _ hq rp=>
   have ev:=qz rp;subst ev;refine⟨q,_,rfl,.inl (.of (s _ _ hq)),rfl,Al xs,?_⟩;rw[xY];exact kk _ Hf H (.refl s) (.bl _)
theorem UR (ha:EE X G dl a (.str k))(hb:EE X G dl b (.lst (xs.map .str)))(hm:autoParam (behindInMarks .In b=false) jp):EE X G dl (.Compare a [.In] [b] pos) (.bl (decide (k∈xs))):=A4 um (Fy (neg:=false)) hm ha hb
theorem P1 (ha:EE X G dl a (.str k))(hb:EE X G dl b (.lst (xs.map .str)))(hm:autoParam (behindInMarks .NotIn b=false) jp):EE X G dl (.Compare a [.NotIn] [b] pos) (.bl (!decide (k∈xs))):=A4 sL (Fy (neg:=true)) hm ha hb
theorem L8 (ha:EE X G dl a (.str k))(hb:EE X G dl b (.lst (xs.map .str)))(hm:autoParam (behindInMarks .In b=false) jp):EB X G dl (.Compare a [.In] [b] pos) (decide (k∈xs)):=ml um (Fy (neg:=false)) hm ha hb
theorem range_all (bs:List Bool):(aan bs.length).all (fun i=>bs.getD i true)=bs.all id:=by
 induction bs with
 | nil=>rfl
 | cons b r ih=>
   rw[aaL,List.range_succ_eq_map,acC,List.all_map,acC];show(b && (aan r.length).all (fun i=>r.getD i true))=(b && r.all id);rw[ih]
theorem Jj (hc:X.calm=true):mj X (.builtin "all") (fun xs H Q=>∃ (p:Addr) (bs:List Bool),xs=[.ref p]/\pL X.K H p (bs.map V.bl)/\Q (.bl (bs.all id)) H):=by
 intro pins s σ H xs us Q I r h;obtain⟨p,bs,rfl,hq,q⟩:=h;obtain⟨u,rfl,rx⟩:=vals1 r;cases rx;obtain⟨aJ,rv,pl,hz⟩:=I.list hq;have hlen:=rv.length;rw[aaa] at hlen;obtain⟨o,n,ho,_⟩:=id pl;have hp:p < s.heap.objs.size:=aak ho;refine call_all_walk (wpAny_pyIter_list pl.isList ?_);refine⟨s.heap.objs.size,_,_,_,_,_,fun i=>bs.getD i true,rfl,Walks.list (A:=X.A.in1) (I.ok.hd hc) s.heap.objs.size p (aap hp) aJ.toArray,⟨⟨_,aaq _ rfl,rfl,rfl⟩,?_⟩,fun i v s' Q' E' hv hQ=>?_,fun h' tk hk=>?_⟩
 . exact pl.isList.at fun o e=>aad _ e
 . have hv:aJ[i]?=some v:=by simpa using hv
   have hi:i < aJ.length:=(aaj.mp hv).1;have Ys:i < bs.length:=by omega
   obtain⟨u',h1,h2⟩:=rv.get (i:=i) (x:=V.bl bs[i]) (by rw[aaf,aab Ys];rfl);rw[hv] at h1;cases h1;cases h2;have e:bs.getD i true=bs[i]:=by rw[aae,aab Ys];rfl
   have hQ:Q' (bs.getD i true) s':=hQ;rw[e] at hQ;exact wpAny_truthy_bool hQ
 . have ea:(aan aJ.toArray.size).all (fun i=>bs.getD i true)=bs.all id:=by rw[aao,<- hlen];exact range_all bs
   rw[ea];refine⟨.bl _,H,I.kept (t':=tk) fun b o e=>hk b o (fun hm=>?_) (aad _ e),rfl,q⟩;have:b=s.heap.objs.size:=by simpa using hm
   subst this;exact abF _ (aak e)
theorem boot_all:bootBuiltins "all"=some (.builtin "all"):=by decide +kernel
theorem Dr {K:W.Frag}{H:Hp}:∀ {bs:List Bool} {vs:List V},bK K H vs (bs.map Dt.bl)->vs=bs.map V.bl
 | [],_,.nil=>rfl
 | b::r,_,.cons h t=>by cases h;rw[Dr t];rfl
theorem US (hm:X.mg "all"=none)(hc:X.calm=true)(ha:EE X G dl a (.lst (bs.map .bl)))(hg:autoParam (Gl X "all") jp)(he:autoParam (starEach [a] X.env=[(false,eval a X.env)]) jp):EE X G dl (.Call (.Name "all" p) [a] [] pos) (.bl (bs.all id)):=
 gX (ip (Jj hc) hg hm boot_all (ae ha ai he) (by decide) (by decide) he rfl) fun st H Q zq=>zn zq fun Hf S k=>fun vs av H1 g1 r1=>by
   cases r1 with
   | cons r t=>cases t;cases r with
     | @lst q vs _ z r=>
       have ev:=Dr r;subst ev;exact⟨q,bs,rfl,.of (g1.sub _ _ z),k _ av H1 g1 (.bl _)⟩
theorem uE (ns:List Int):∀ k,k<=ns.length->preSum (fun i=>ns.getD i 0) k=(ns.take k).sum
 | 0,_=>by simp[preSum]
 | k+1,h=>by
   have hk:k < ns.length:=h;rw[preSum,uE ns k (abG hk),abL,aab hk,List.sum_append,aae,aab hk];simp
theorem Jl (hc:X.calm=true):mj X (.builtin "sum") (fun xs H Q=>∃ (p:Addr) (ns:List Int),xs=[.ref p]/\pL X.K H p (ns.map V.int)/\Q (.int ns.sum) H):=by
 intro pins s σ H xs us Q I r h;obtain⟨p,ns,rfl,hq,q⟩:=h;obtain⟨u,rfl,rx⟩:=vals1 r;cases rx;obtain⟨aJ,rv,pl,hz⟩:=I.list hq;have hlen:=rv.length;rw[aaa] at hlen;obtain⟨o,n,ho,_⟩:=id pl;have hp:p < s.heap.objs.size:=aak ho;refine call_sum_walkAnyS (wpAny_pyIter_list pl.isList ?_);refine⟨s.heap.objs.size,_,_,_,_,_,_,fun i=>ns.getD i 0,rfl,(Walks.list (A:=X.A.in1) (I.ok.hd hc) s.heap.objs.size p (aap hp) aJ.toArray).toS,⟨⟨_,aaq _ rfl,rfl,rfl⟩,?_⟩,fun b hb=>?_,fun i v hv=>?_,fun s' t' hm=>?_⟩
 . exact pl.isList.at fun o e=>aad _ e
 . have hsz:(s.heap.push { cls:=.type "list_iterator",data:=.fields #[.ref p,.int 0 0]}).objs.size=s.heap.objs.size+1:=abK ..
   show b < (s.heap.push { cls:=.type "list_iterator",data:=.fields #[.ref p,.int 0 0]}).objs.size;rw[hsz];rcases aaz.mp hb with e | hb
   . rw[e];exact abR _
   . have:b=p:=by simpa using hb
     rw[this];exact acw hp
 . have hv:aJ[i]?=some v:=by simpa using hv
   have hi:i < aJ.length:=(aaj.mp hv).1;have Ys:i < ns.length:=by omega
   obtain⟨u',h1,h2⟩:=rv.get (i:=i) (x:=V.int ns[i]) (by rw[aaf,aab Ys];rfl);rw[hv] at h1;cases h1;obtain⟨t,rfl⟩:=h2;refine⟨t,?_⟩;show _=Value.int (ns.getD i 0) t;rw[aae,aab Ys];rfl
 . have ea:preSum (fun i=>ns.getD i 0) aJ.toArray.size=ns.sum:=by
     rw[aao,<- hlen,uE ns _ (aai _),abV]
   rw[ea];refine⟨.int _,H,?_,⟨t',rfl⟩,q⟩;obtain⟨h',g',d',tk,os'⟩:=s';have e1:g'=s.gens:=hm.gens;have e2:d'=s.drawn:=hm.drawn;have e3:os'=s.os:=hm.os;subst e1 e2 e3;refine I.kept (t':=tk) fun b o e=>hm.heap b o (fun z=>?_) (aad _ e)
   have:b=s.heap.objs.size:=by simpa using z
   subst this;exact abF _ (aak e)
theorem boot_sum:bootBuiltins "sum"=some (.builtin "sum"):=by decide +kernel
theorem x3 {K:W.Frag}{H:Hp}:∀ {ns:List Int} {vs:List V},bK K H vs (ns.map Dt.int)->vs=ns.map V.int
 | [],_,.nil=>rfl
 | b::r,_,.cons h t=>by cases h;rw[x3 t];rfl
theorem L9 (hm:X.mg "sum"=none)(hc:X.calm=true)(ha:EE X G dl a (.lst (ns.map .int)))(hg:autoParam (Gl X "sum") jp)(he:autoParam (starEach [a] X.env=[(false,eval a X.env)]) jp):EE X G dl (.Call (.Name "sum" p) [a] [] pos) (.int ns.sum):=
 gX (ip (Jl hc) hg hm boot_sum (ae ha ai he) (by decide) (by decide) he rfl) fun st H Q zq=>zn zq fun Hf S k=>fun vs av H1 g1 r1=>by
   cases r1 with
   | cons r t=>cases t;cases r with
     | @lst q vs _ z r=>
       have ev:=x3 r;subst ev;exact⟨q,ns,rfl,.of (g1.sub _ _ z),k _ av H1 g1 (.int _)⟩
theorem An:∀ {xs:List Str} {us:List Value},Vals (xs.map V.str) us->∃ l:List (Str×Tok),us=strValues l/\l.map (·.1)=xs
 | [],_,.nil=>⟨[],rfl,rfl⟩
 | x::r,_,.cons h t=>by
   obtain⟨tk,rfl⟩:=h;obtain⟨l,rfl,e⟩:=An t;exact⟨(x,tk)::l,rfl,by rw[aas,e]⟩
theorem P2:WU X "str.join" (fun x xs H Q=>∃ (z:Str) (p:Addr) (ys:List Str),x=.str z/\xs=[.ref p]/\pL X.K H p (ys.map V.str)/\JoinOk z ys=true/\Q (.str (Txt.join z ys)) H):=by
 intro pins s σ H x xs v us Q I rx rv zq;obtain⟨z,p,ys,e1,e2,hq,aR,q⟩:=zq;subst e1 e2;obtain⟨t,rfl⟩:=(show ∃ t,v=Value.str z t from rx)
 obtain⟨u,rfl,ru⟩:=vals1 rv;cases ru;obtain⟨aJ,r,pl,hz⟩:=I.list hq;obtain⟨l,rfl,el⟩:=An r;exact SC.join pl.isList el aR fun t' k=>⟨.str (Txt.join z ys),H,I.tok _,⟨t',rfl⟩,q⟩
theorem P4 (ha:EE X G dl a (.str x))(he:EE X G dl e (.lst (xs.map .str)))(aR:JoinOk x xs=true)(kI:autoParam (attributeBase a "join" X.env (eval a X.env)=eval a X.env) jp)
   (xE:autoParam (((backTo bf (starEach [e] X.env)).all (fun x=>!x.1) && (backToKw bf (keywordEach [] X.env)).all (fun x=>x.1.isSome) && decide ([e].length+([]:List Keyword).length+(if ([]:List Keyword).isEmpty then 0 else 1) < 30))=true) jp)
   (kJ:autoParam ((apos.endLine == bf.line)=true) jp) (jQ:autoParam (starEach [e] X.env=(false,eval e X.env)::starEach [] X.env) jp):EE X G dl (.Call (.Attribute a "join" apos) [e] [] bf) (.str (Txt.join x xs)):=
 gX (xD PySem.F.plainAttrs_str PySem.F.slot_str_join PySem.F.type_str_join P2 ha (ae he ai jQ) kI xE kJ jQ rfl) fun st H Q zq=>zn zq fun Hf S k=>fun v av H1 g1 r1=>by
   cases r1;refine⟨rfl,av,S.grow g1,fun us bD H2 g2 r2=>?_⟩;cases r2 with
   | cons r2 t2=>cases t2;cases r2 with
     | @lst q vs _ hq rp=>
       have ev:=qz rp;subst ev;exact⟨x,q,xs,rfl,rfl,.of (g2.sub _ _ hq),aR,k _ bD H2 (g1.trans g2) (.str _)⟩
end
noncomputable def mR (kds:List (Key×Dt))(k:Key):Option Dt:=(kds.find? fun kv=>decide (kv.1=k)).map (·.2)
theorem sU {p:Key×Dt}{r:List (Key×Dt)}{k:Key}(e:p.1=k):mR (p::r) k=some p.2:=by simp[mR,abZ,e]
theorem p8 {p:Key×Dt}{r:List (Key×Dt)}{k:Key}(e:¬ p.1=k):mR (p::r) k=mR r k:=by simp[mR,abZ,e]
theorem dm.val {K:W.Frag}{H:Hp}{k:Key}:∀ {kvs:List (Key×V)} {kds:List (Key×Dt)} {d:Dt},dm K H kvs kds->mR kds k=some d->∃ v,pU kvs k=some v/\Rep K H v d
 | _,_,_,.nil,e=>by cases e
 | (k1,v1)::r,(_,d1)::s,d,.cons h t,e=>by
   by_cases q:k1=k
   . rw[sU (p:=(k1,d1)) q] at e;cases e
     exact⟨v1,pV (p:=(k1,v1)) q,h⟩
   . rw[p8 (p:=(k1,d1)) q] at e
     obtain⟨v,z1,z2⟩:=dm.val t e;exact⟨v,by rw[nM (p:=(k1,v1)) q];exact z1,z2⟩
theorem dm.Ao {K:W.Frag}{H:Hp}{k:Key}:∀ {kvs:List (Key×V)} {kds:List (Key×Dt)},dm K H kvs kds->(pU kvs k).isSome=(mR kds k).isSome
 | _,_,.nil=>rfl
 | (k1,v1)::r,(_,d1)::s,.cons h t=>by
   by_cases q:k1=k
   . rw[pV (p:=(k1,v1)) q,sU (p:=(k1,d1)) q];rfl
   . rw[nM (p:=(k1,v1)) q,p8 (p:=(k1,d1)) q]
     exact dm.Ao t
theorem dm.snoc {K:W.Frag}{H:Hp}{k:Key}{v:V}{d:Dt}(q:Rep K H v d):∀ {kvs:List (Key×V)} {kds:List (Key×Dt)},dm K H kvs kds->dm K H (kvs ++ [(k,v)]) (kds ++ [(k,d)])
 | _,_,.nil=>.cons q .nil
 | _,_,.cons h t=>.cons h (dm.snoc q t)
theorem HA {kvs:List (Key×V)}{k:Key}{v:V}(h:(pU kvs k).isSome=false):putK kvs k v=kvs ++ [(k,v)]:=by
 unfold putK;rw[sN,h];exact if_neg (by simp)
section
variable {X:Cx}{G:Gr}{E:XK}{dl:List Slot}{a b e i o:Expr}{d:Dt}{pos p:Pos}{k x:Str}{kds:List (Key×Dt)}
theorem P5 (hu:X.A.units+1 < cLine)(ho:EE X G dl o (.fw kds))(hi:EE X G dl i (.str k))(h:mR kds (.inr k)=some d)(hs:Pl i):EE X G dl (.Subscript o i pos) d:=
 gX (G9 hu ho hi hs) fun st H Q zq=>zn zq fun Hf S kk=>fun v av H1 g1 r1=>⟨av,S.grow g1,fun w bD H2 g2 r2=>by
   cases r2;cases r1 with
   | @fw q kvs _ hq rp=>
     obtain⟨y,z1,z2⟩:=rp.val h;have e:=vE.k (H:=H2) (k:=.inr k) (g2.big _ _ (g1.sub _ _ hq));rw[z1] at e;exact⟨q,y,rfl,e,kk y bD H2 (g1.trans g2) (z2.mono g2.bJ)⟩⟩
theorem abQ {neg:Bool}:∀ st H Q,tD X.K G dl (.bl (if neg then !(mR kds (.inr k)).isSome else (mR kds (.inr k)).isSome)) st H Q->(if neg then G8 (tD X.K G dl (.str k)) (tD X.K G dl (.fw kds)) else abt (tD X.K G dl (.str k)) (tD X.K G dl (.fw kds))) st H Q:=fun st H Q zq=>aac zq fun Hf zq=>have S:=zq.1;have kk:=zq.2;by
 cases neg with
 | false=>exact⟨Hf,S,fun v av H1 g1 r1=>⟨av,S.grow g1,fun w bD H2 g2 r2=>by
     cases r1;cases r2 with
     | @fw q kvs _ hq rp=>exact⟨q,_,rfl,vE.k (k:=.inr k) (g2.sub _ _ hq),by rw[rp.Ao];exact kk _ bD H2 (g1.trans g2) (.bl _)⟩⟩⟩
 | true=>exact⟨Hf,S,fun v av H1 g1 r1=>⟨av,S.grow g1,fun w bD H2 g2 r2=>by
     cases r1;cases r2 with
     | @fw q kvs _ hq rp=>exact⟨q,_,rfl,vE.k (k:=.inr k) (g2.sub _ _ hq),by rw[rp.Ao];exact kk _ bD H2 (g1.trans g2) (.bl _)⟩⟩⟩
theorem HB (hu:X.A.units+1 < cLine)(hi:EE X G dl i (.str k))(ho:EE X G dl o (.fw kds))(hm:autoParam (behindInMarks .NotIn o=false) jp):EB X G dl (.Compare i [.NotIn] [o] pos) (!(mR kds (.inr k)).isSome):=
 Uk (EU (Ah hu hi ho) hm) fun st H Q zq=>aac zq fun Hf zq=>have S:=zq.1;have kk:=zq.2;abQ (neg:=true) st H _ ⟨Hf,S,fun v aK H' g r=>by cases r;exact⟨_,rfl,kk aK H' g⟩⟩
theorem Ds:bootBuiltins "tuple"=some (.type "tuple"):=by decide +kernel
theorem P6 {ds:List Dt}(hm:X.mg "tuple"=none)(ha:EE X G dl a (.tup ds))(hg:autoParam (Gl X "tuple") jp)(he:autoParam (starEach [a] X.env=[(false,eval a X.env)]) jp):EE X G dl (.Call (.Name "tuple" p) [a] [] pos) (.tup ds):=
 gX (qv CM hg hm Ds (ae ha ai he) (he:=he)) fun st H Q zq=>zn zq fun Hf S k=>fun vs av H1 g1 r1=>by
   cases r1 with
   | cons r t=>cases t;cases r with
     | @tup q vs _ z r=>exact⟨q,vs,rfl,gk g1.sub z,k _ av H1 g1 (.tup z r)⟩
theorem HC:EO X G dl (.Dict [] [] pos) (.fw []):=gX CT fun st H Q zq=>aac zq fun Hf zq=>have S:=zq.1;have k:=zq.2;fun p hp=>k p Hf _ (.fX S.sub hp) hp (S.sub.free hp) ⟨[],ak,.nil⟩
noncomputable def x4 (kds:List (Key×Dt))(k:Key)(v:Dt):List (Key×Dt):=
 if (mR kds k).isSome=true then kds.map (fun kv=>if kv.1=k then (kv.1,v) else kv) else kds ++ [(k,v)]
theorem dm.map_put {K:W.Frag}{H:Hp}{k:Key}{v:V}{d:Dt}(q:Rep K H v d):∀ {kvs:List (Key×V)} {kds:List (Key×Dt)},dm K H kvs kds ->
   dm K H (kvs.map fun kv=>if kv.1=k then (kv.1,v) else kv) (kds.map fun kv=>if kv.1=k then (kv.1,d) else kv)
 | _,_,.nil=>.nil
 | (k1,v1)::r,(_,d1)::s,.cons h t=>by
   rw[aas,aas];by_cases e:k1=k
   . rw[if_pos e,if_pos e];exact .cons q (dm.map_put q t)
   . rw[if_neg e,if_neg e];exact .cons h (dm.map_put q t)
theorem dm.put {K:W.Frag}{H:Hp}{k:Key}{v:V}{d:Dt}{kvs:List (Key×V)}{kds:List (Key×Dt)}(q:Rep K H v d)(r:dm K H kvs kds):dm K H (putK kvs k v) (x4 kds k d):=by
 unfold putK x4;rw[sN,r.Ao];by_cases h:(mR kds k).isSome=true
 . rw[if_pos h,if_pos h];exact dm.map_put q r
 . rw[if_neg h,if_neg h];exact dm.snoc q r
theorem HD (n:Nat){ps pn:Pos}(hu:X.A.units+1 < cLine)(he:EE X G dl e d)(hb:EE X G dl b (.str k))(hl:kds.length < sizeLine)(hd:autoParam (dl[n]?=some (.own (.fw kds))) jp)(hN:autoParam (X.N[n]?=some x) jp)(hv:autoParam (vC X.env.scope x) xz)(jg:autoParam ((x == ("__debug__":Str))=false) jO)(mh:autoParam ((x == ("__classdict__":Str))=false) jO)(hs:autoParam (swapsWith e (some (.Subscript (.Name x pn) b ps)) pos.line X.env=pure false) jp):ES X G E dl (.Assign [.Subscript (.Name x pn) b ps] e pos) (.nx (dl.set n (.own (.fw (x4 kds (.inr k) d))))):=
 vG (Hc hu (xR (p:=pn) n hd hN hv jg mh) hb he hs) fun D st H zq=>zn zq fun Hf S kk=>fun v av H1 g1 r1=>by
   have S1:=S.grow g1;obtain⟨q,z1,z2,z3,z4⟩:=S1.own n _ hd;refine⟨av,q,S1,z1,z2,z4,av,S1,fun iv bD H2 g2 r2=>?_⟩;cases r2;have S2:=S1.grow g2;obtain⟨q',y1,y2,y3,kvs,y4,y5⟩:=S2.own n _ hd;rw[z1] at y1;cases y1;have hll:kvs.length < sizeLine:=by rw[y5.length];exact hl
   exact⟨q,_,rfl,IM.k (k:=.inr k) y4 hll,kk st bD _ (g1.bJ.trans g2.bJ) (S2.IU hd z1 ⟨_,ak,y5.put (r1.mono g2.bJ)⟩)⟩
noncomputable def rC (rows:List (Str×List Dt)):List (Key×Dt):=rows.map fun r=>(.inr r.1,.tup (.str r.1::r.2))
noncomputable def x5 (r:Str×List Dt):Dt:=.tup (.str r.1::r.2)
theorem qB {k:Key}:∀ {kds:List (Key×Dt)},(∀ kv∈kds,kv.1≠k)->mR kds k=none
 | [],_=>rfl
 | kv::r,h=>by
   rw[p8 (h kv (abz ..))];exact qB fun z hz=>h z (aaI _ hz)
theorem Ma {rows:List (Str×List Dt)}(nd:(rows.map (·.1)).Nodup){j:Nat}(hj:j < rows.length):mR (rC (rows.take j)) (.inr rows[j].1)=none:=by
 refine qB fun kv W3=>?_
 obtain⟨r,hr,rfl⟩:=aaK.mp W3;intro z;have z:r.1=rows[j].1:=Sum.inr.inj z;obtain⟨i,hi,e⟩:=abJ.mp hr;have hi':i < j:=by
   rw[aaD] at hi;omega
 rw[acb] at e;have hij:i < rows.length:=by omega
 have h:=abB.mp nd i j (by rw[aaa];exact hij) (by rw[aaa];exact hj) hi';rw[aa8,aa8] at h;exact h (by rw[e];exact z)
theorem FA (rows:List (Str×List Dt)){j:Nat}(hj:j < rows.length):rC (rows.take (j+1))=rC (rows.take j) ++ [(.inr rows[j].1,x5 rows[j])]:=by
 unfold rC;rw[abL,aab hj,abO];rfl
theorem aU.my {Hf H aK H':Hp}{a:Addr}{u:HO}(g:aU Hf H aK H')(n:Hf a=none)(h:H a=some u)(nk:¬ Kept u:=by exact fun z=>z):aK a=none:=by
 cases q:aK a with
 | none=>rfl
 | some o=>
   obtain⟨o',z⟩:=g.xI h nk q;rw[n] at z;cases z
theorem qC {K:W.Frag}{st:L2.St}{Hf H:Hp}{dlu:List Slot}{p:Addr}{o:HO}(S:dh K G st Hf H dlu)(oC:noOwn dlu=true)(fp:Hf p=none)(gp:G.H p=none):dh K G st Hf (upd H p o) dlu:=
 ⟨⟨fun b u e=>by rw[ag (ax e gp)];exact S.gr.big _ _ e,S.gr.bJ,fun b u e=>by rw[ag (ax e fp)];exact S.sub _ _ e,S.gr.new⟩,S.len,S.val,fun j o h=>absurd h (bo oC j o),fun j _ o _ _ h=>absurd h (bo oC j o)⟩
theorem Mb (nR nN:Nat){C z:Addr}{fs:List (Str×Dt)}{rows:List (Str×List Dt)}{f self rw_ rn:Str}{px pr pa pn p1 p3 p4 p5 p6 pi:Pos}{ie ve:Expr}{dlu:List Slot}(hu:X.A.units+1 < cLine)(hN:X.N.Nodup)(nO:X.calm=true)(hp:PassesOwn (model X.prog X.w) X.A X.env X.xe)(cl:wz X.K C)(na:bW X.K C f)(hd:dl[0]?=some (.own (.CZ z C fs)))(edl:dl.set 0 .aY=dlu)(oC:noOwn dlu=true)(hr:dlu[nR]?=some (.val (.lst (rows.map x5))))(oF:nN≠0)(hnR:nN≠nR)(hun:dlu[nN]?=some .aY)(nd:(rows.map (·.1)).Nodup)(hlen:rows.length < sizeLine)(hi:∀ r:Str×List Dt,EE X G (dlu.set nN (.val (x5 r))) ie (.str r.1))(hv:∀ r:Str×List Dt,EE X G (dlu.set nN (.val (x5 r))) ve (x5 r))(hl:autoParam (Nat.ble fs.length 999=true) jp)(P7:autoParam (X.N[0]?=some self) jp)(hNr:autoParam (X.N[nR]?=some rn) jp)(hNn:autoParam (X.N[nN]?=some rw_) jp)(hvs:autoParam (vC X.env.scope self) xz)(hvr:autoParam (vC X.env.scope rn) xz)(jg:autoParam ((self == ("__debug__":Str))=false) jO)(mh:autoParam ((self == ("__classdict__":Str))=false) jO)(abS:autoParam ((rn == ("__debug__":Str))=false) jO)(abT:autoParam ((rn == ("__classdict__":Str))=false) jO)(hx:autoParam (Loc X.env.scope rw_) vb)(hf:autoParam (X.fn rw_=true\/X.env.scope.names.lookup rw_=some .local) v6)(Ko:autoParam (swapsWith (.Dict [] [] p1) (some (.Attribute (.Name self pn) f pa)) pos.line X.env=pure false) jp)(AR:autoParam (swapsWith ve (some (.Subscript (.Attribute (.Name self p3) f p4) ie p5)) p6.line X.env=pure false) jp)(hb:autoParam (attributeBase (.Name self p3) f X.env (eval (.Name self p3) X.env)=eval (.Name self p3) X.env) jp)(hfs:autoParam (∀ z,foldedSetIterable (.Name rn pr) X.env z=pure z) xL):mP X G E dl [.Assign [.Attribute (.Name self pn) f pa] (.Dict [] [] p1) pos,.For (.Name rw_ px) (.Name rn pr) [.Assign [.Subscript (.Attribute (.Name self p3) f p4) ie p5] ve p6] [] pi] (.nx (dlu.set 0 (.own (.CZ z C (putD f (.fw (rC rows)) fs))))):=by
 have R5:∀ {p:Pos},PE X (.Name self p) fun st H Q=>∃ v,st[0]?=some (some v)/\Q v H:=fun {p}=>gU P7 hvs jg mh
 have nL:=mU (Hc (pos:=p6) (pos':=p5) hu (xy (pos:=p4) (R5 (p:=p3)) hb) (fun pins s st H Q I (q:∃ r,tD X.K G (dlu.set nN (.val (x5 r))) (.str r.1) st H Q)=>let ⟨r,q⟩:=q;hi r pins s st H Q I q) (fun pins s st H Q I (q:∃ r,tD X.K G (dlu.set nN (.val (x5 r))) (x5 r) st H Q)=>let ⟨r,q⟩:=q;hv r pins s st H Q I q) AR);refine C0 (nK (xA (pos:=pos) (pos':=pa) (R5 (p:=pn)) CT Ko) (mU (AO hp nO (mV (gU (pos:=pr) hNr hvr abS abT)) (dM hN hNn hx hf) nL hfs))) fun D st H zq=>aac zq fun Hf zq=>have S:=zq.1;have k:=zq.2;?_
 obtain⟨a,sa,fa,ga,ea,dx,fv,ha,rf⟩:=S.own 0 _ hd;intro p Du;have hpa:a≠p:=ax ha Du;have fp:Hf p=none:=S.sub.free Du;have gp:G.H p=none:=S.gr.big.free Du;have UT:(upd H p (.dK [])) a=some (.ins C dx fv):=by rw[ag hpa];exact ha
 refine⟨.ref a,sa,a,C,dx,fv,rfl,UT,cl,na,by rw[rf.length];exact Nat.lt_succ_of_le (aaF hl),?_⟩;have S0:dh X.K G st Hf H dlu:=by
   subst edl;refine⟨S.gr,by simp[S.len],fun j d h=>?_,fun j o h=>absurd h (bo oC j o),fun j _ o _ _ h=>absurd h (bo oC j o)⟩;by_cases e:0=j
   . subst e
     by_cases W4:0 < dl.length
     . rw[aag W4] at h;cases h
     . exact absurd (aaj.mp hd).1 W4
   . rw[aah e] at h;exact S.val j d h
 have Su:dh X.K G st Hf (upd (upd H p (.dK [])) a (.ins C dx (fP f (.ref p) fv))) dlu:=qC (qC S0 oC fp gp) oC fa ga;obtain⟨lv,R6,RP⟩:=Su.val nR _ hr;cases RP with
 | @lst la vs _ hq rp=>
   have hvl:vs.length=rows.length:=by rw[rp.length,aaa]
   refine⟨.ref la,R6,la,rfl,⟨vs,.of (Su.sub _ _ hq)⟩,CD (xs:=vs) (fun j lr H'=>∃ aK kvs,dh X.K G lr aK H' dlu/\aH Hf aK/\lr[0]?=some (some (.ref a))/\aK a=none/\aK p=none/\H' a=some (.ins C dx (fP f (.ref p) fv))/\H' p=some (.dK kvs)/\dm X.K aK kvs (rC (rows.take j)))
     ⟨Hf,[],Su,aH.refl _,sa,fa,fp,ak,by rw[ag (Ne.symm hpa)];exact ak,by rw[List.take_zero];exact .nil⟩ ?_ ?_ ?_⟩
   . rintro j lr H' _ ⟨aK,kvs,S',sm,_⟩
     exact .of (S'.sub _ _ (sm _ _ hq))
   . rintro j v lr H' hv' ⟨aK,kvs,S',sm,s0,fa',fp',Yt,hp',rk⟩
     obtain⟨dz,hz,rz⟩:=rp.get' hv';have hj:j < rows.length:=by
       have:=(aaj.mp hv').1;omega
     rw[aaf,aab hj] at hz;cases hz;have Sp:dh X.K G (lr.set nN (some v)) aK H' (dlu.set nN (.val (x5 rows[j]))):=S'.set (rz.mono sm);have s0':(lr.set nN (some v))[0]?=some (some (.ref a)):=by rw[aah oF];exact s0
     refine⟨rows[j],aK,Sp,fun w av H1 g1 r1=>⟨.ref a,s0',a,C,dx,_,.ref p,rfl,.of (g1.big _ _ Yt),cl,na,by rw[pS,if_pos rfl],rows[j],av,Sp.grow g1,fun y bD H2 g2 r2=>?_⟩⟩;cases r2;have g:=g1.trans g2;have A2:H2 p=some (.dK kvs):=g.big _ _ hp';have P8:H2 a=some (.ins C dx (fP f (.ref p) fv)):=g.big _ _ Yt;have fp2:bD p=none:=g.my fp' hp';have fa2:bD a=none:=g.my fa' Yt;have Yu:=rk.mono g.bJ;have Yv:kvs.length < sizeLine:=by
       rw[rk.length];unfold rC;rw[aaa,aaD];omega
     have IL:(pU kvs (.inr rows[j].1)).isSome=false:=by rw[rk.Ao,Ma nd hj];rfl
     have Sw:dh X.K G (lr.set nN (some v)) bD H2 dlu:=(Sp.grow g).weak ⟨by simp,fun i s e n=>by
       by_cases hi:nN=i
       . subst hi;rw[hun] at e;cases e;exact absurd rfl n
       . rw[aah hi];exact e⟩
     refine⟨p,_,rfl,IM.k (k:=.inr rows[j].1) A2 Yv,bD,_,qC Sw oC fp2 gp,sm.trans g.bJ,s0',fa2,fp2,by rw[ag hpa];exact P8,ak,?_⟩;rw[HA IL,FA rows hj];exact Yu.snoc (r1.mono g2.bJ)
   . rintro lr H' ⟨aK,kvs,S',sm,s0,fa',fp',Yt,hp',rk⟩
     rw[hvl,abV] at rk;have Yw:aH aK (upd aK p (.dK kvs)):=bj fp';have l0:0 < dlu.length:=by
       rw[<- S'.len];exact(aaj.mp s0).1
     refine k lr (upd aK p (.dK kvs)) H' (sm.trans Yw) ⟨⟨S'.gr.big,S'.gr.bJ.trans Yw,fun b u e=>?_,fun b u e=>?_⟩,by simp[S'.len],fun j d h=>?_,fun j o h=>?_,fun i j o o' q h1 h2 h3 h4=>?_⟩
     . by_cases hb:b=p
       . subst hb;rw[ak] at e;cases e;exact hp'
       . rw[ag hb] at e;exact S'.sub _ _ e
     . by_cases hb:b=p
       . subst hb;exact .inr (.inl gp)
       . rw[ag hb] at e;exact S'.gr.new b u e
     . by_cases e:0=j
       . subst e;rw[aag l0] at h;cases h
       . rw[aah e] at h
         obtain⟨v,z1,z2⟩:=S'.val j d h;exact⟨v,z1,z2.mono Yw⟩
     . by_cases e:0=j
       . subst e
         rw[aag l0] at h;cases h;exact⟨a,s0,by rw[ag hpa];exact fa',ga,ea,dx,_,Yt,(rf.mono (sm.trans Yw)).put (.fw ak (rk.mono Yw))⟩
       . rw[aah e] at h;exact absurd h (bo oC j o)
     . have z:∀ (i:Nat) o,(dlu.set 0 (.own (.CZ z C (putD f (.fw (rC rows)) fs))))[i]?=some (.own o)->0=i:=fun i o h=>by
         by_cases e:0=i
         . exact e
         . rw[aah e] at h;exact absurd h (bo oC i o)
       rw[<- z i o h1,<- z j o' h2]
end
theorem HE:∀ {xs:List V} {us:List Value},xs.length=us.length->(∀ (j:Nat) x u,xs[j]?=some x->us[j]?=some u->RelV x u)->Vals xs us
 | [],[],_,_=>.nil
 | [],_::_,h,_=>by cases h
 | _::_,[],h,_=>by cases h
 | x::xs,u::us,h,f=>.cons (f 0 x u rfl rfl) (HE (Nat.succ.inj h) fun j a b h1 h2=>f (j+1) a b (by simpa using h1) (by simpa using h2))
theorem Mc:∀ {kvs:List (Key×V)} {vs:List (Key×Value)},KV kvs vs->∀ {j:Nat} {q:Key×Value},vs[j]?=some q->∃ p,kvs[j]?=some p/\p.1=q.1/\RelV p.2 q.2
 | _,_,.nil,j,q,h=>by simp at h
 | _,_,.cons r t,0,q,h=>by simp at h;subst h;exact⟨_,rfl,r⟩
 | _,_,.cons r t,j+1,q,h=>by
   obtain⟨p,h1,h2⟩:=Mc t (j:=j) (q:=q) (by simpa using h);exact⟨p,by simpa using h1,h2⟩
theorem FC:∀ {kvs:List (Key×V)} {vs:List (Key×Value)},KV kvs vs->kvs.length=vs.length
 | _,_,.nil=>rfl
 | _,_,.cons r t=>congrArg (·+1) (FC t)
section
variable {X:Cx}{G:Gr}{dl:List Slot}{a o:Expr}{kds:List (Key×Dt)}{pos p:Pos}
theorem FE (hc:X.calm=true):mj X (.type "list") (fun xs H Q=>∃ (d:Addr) (kvs:List (Key×V)),xs=[.ref d]/\H d=some (.dK kvs)/\∀ l,H l=none->Q (.ref l) (upd H l (.lst (kvs.map fun kv=>kV kv.1)))):=by
 intro pins s σ H xs us Q I r h;obtain⟨d,kvs,rfl,hq,q⟩:=h;obtain⟨u,rfl,rx⟩:=vals1 r;cases rx;obtain⟨hz,lo,vs,kv,o,es,ep,ho,hr⟩:=I.aR d _ hq;have hl:=FC kv;refine W.kdl_call (W.kdl_dict (knd:=dj X.prog X.w) (kvs:=vs) (ep:=ep) lo) (I.ok.hd hc) ⟨o,es,ho,hr⟩ (by omega) fun h' tk Yx c' kp e it=>?_
 refine⟨.ref s.heap.objs.size,_,I.laid (t':=tk) kp (aai _) (show aM X.prog X.w _ h' _ (.lst _) from⟨by rw[aaa];exact hz,Yx.toList,c',HE ?_ fun j x u h1 h2=>?_,e⟩),rfl,q _ (I.aR.fresh (aai _))⟩
 . have e1:Yx.toList.length=vs.length:=by rw[ab4];exact it.1
   rw[aaa,e1,hl]
 . rw[acy] at h2
   obtain⟨k,y,z1,z2⟩:=it.2 j u h2;obtain⟨p,z3,z4,_⟩:=Mc kv z1;rw[aaf,z3] at h1;cases h1;have z4:p.1=k:=z4;show RelV (kV p.1) u;rw[z4];rcases dw z2 with⟨i,t,rfl,rfl⟩ | ⟨i,t,rfl,rfl⟩
   . exact⟨t,rfl⟩
   . exact⟨t,rfl⟩
noncomputable def kD:Key->Dt
 | .inl i=>.int i
 | .inr x=>.str x
theorem uF {K:W.Frag}{H:Hp}:∀ {kvs:List (Key×V)} {kds:List (Key×Dt)},dm K H kvs kds->bK K H (kvs.map fun kv=>kV kv.1) (kds.map fun kd=>kD kd.1)
 | _,_,.nil=>.nil
 | (.inl i,_)::_,_,.cons _ t=>.cons (.int i) (uF t)
 | (.inr i,_)::_,_,.cons _ t=>.cons (.str i) (uF t)
theorem Md (hm:X.mg "list"=none)(hc:X.calm=true)(ha:EE X G dl a (.fw kds))(hg:autoParam (Gl X "list") jp)(he:autoParam (starEach [a] X.env=[(false,eval a X.env)]) jp):EO X G dl (.Call (.Name "list" p) [a] [] pos) (.lst (kds.map fun kd=>kD kd.1)):=
 gX (qv (FE hc) hg hm boot_list (ae ha ai he) (he:=he)) fun st H Q zq=>zn zq fun Hf S k=>fun vs av H1 g1 r1=>by
   cases r1 with
   | cons r t=>cases t;cases r with
     | @fw q kvs _ z r=>exact⟨q,kvs,rfl,g1.sub _ _ z,fun l hl=>k l av _ (g1.trans (.fX g1.sub hl)) (g1.big.free hl) (g1.sub.free hl) ⟨_,ak,uF r⟩⟩
end
section
variable {X:Cx}{pins:List (Addr×Obj)}{st:L2.St}{H H':Hp}{s s':Shared}{h2 B:Heap}{ea t:Addr}{C D:Addr}{xe:Value->Shared->Prop}{G:Gr}{Hf:Hp}
theorem P9 {dlb:List Slot}{e:Value}{i:Nat}{dn n:Str}{np vK:Pos}{b0:Stmt}{nV:List Stmt}{Dn:Ends}{G':Gr}{dl1:List Slot}(I:L2.Inv X pins st H s)(jQ:X.stack=X.env::X.outer)(Qa:X.env.frame=some X.env.locals)(x:t6 X.prog X.w X.stack H s (EX1 C G'.Hf G'.H) e s')(hN:X.N.Nodup)(hi:X.N[i]?=some n)(hk:X.env.kindOf n=some .local)(hD:Uz X.K D)(hm:X.mg dn=some (.ref D))(hg:Gl X dn)(jg:(dn == ("__debug__":Str))=false)(sF:W.mroIn X.K D (.type "BaseException")=some true)(Bj:W.mroIn X.K C (.ref D)=some true)(hs:∀ (ea:Addr) xe,mP { X with A:=X.A.mark (some (.ref ea)),calm:=false,xe:=xe} G E0 (dlb.set i (.val (.xo C))) (b0::nV) (.nx dl1))(Sb:dh X.K G st G'.Hf G'.H dlb)(k:∀ st aK H,aH G'.Hf aK->dh X.K G st aK H (dl1.set i .aY)->Dn.nx st H):wpAny (model X.prog X.w) X.A (noteFrame e X.env) (fun _ s2=>wpAny (model X.prog X.w) X.A (setFlight e none) (fun _ s3=>wpAny (model X.prog X.w) X.A (handleBy e X.env [.ExceptHandler (some (.Name dn np)) (some n) (b0::nV) vK]) (SP X pins Dn) X.xe s3) X.xe s2) X.xe s':=by
 obtain⟨ea,C',od,H',B,t,rfl,os,bare,un,aR,fl,EN,ER,b8,hn,sD,W5,rfl,av,g1⟩:=x;have Yy:=fl;rw[jQ] at fl;refine wpAny_looks_onW (A:=X.A) (by rw[I.ok.frames,jQ]) Qa fl fun h1 held up1=>?_
 refine wpAny_landsW (s:={ s' with heap:=h1}) held fun h2 HF Yz=>?_
 rw[<- jQ] at HF;have Me:∀ b o,s'.heap.get? b=some o->(∀ vs,o.data≠.fields vs)->∃ sl,h2.get? b=some { o with slots:=sl}:=fun b o e hd=>by
   obtain⟨sl,e1⟩:=up1 b o e hd;obtain⟨Fm,e2⟩:=Yz b _ e1 hd;exact⟨Fm,e2⟩
 have I2:=Dm I os bare un aR Yy.1 EN ER b8 HF.1 Me;refine wpAny_handleBy_cons (codeAny_handlers_test (lD (X:={ X with A:=X.A.mark (some (.ref ea)),calm:=false}) (nU I2) hg hm ?_ jg)) (by intro q;cases q);refine Hx (K:=X.K) (C:=C) I2.ke HF.there hD.ex sF Bj ?_;refine codeAny_handlers_suite_as (lands_againW (s:={ s' with heap:=h2}) HF fun h3 R7 YA=>?_);have I3:=Ji (C:=C) I os bare un aR Yy.1 EN ER b8 R7.1 (fun b o e hd=>by
   obtain⟨sl,e1⟩:=Me b o e hd;obtain⟨Fm,e2⟩:=YA b _ e1 hd;exact⟨Fm,e2⟩) hn sD R7.there
 refine sH (X:={ X with A:=X.A.mark (some (.ref ea)),calm:=false}) (v:=.ref ea) (nU I3) hN hi (.inl hk) rfl (fun s4 I4=>?_) (.inr hk);have g2:aU G'.Hf G'.H (upd av ea (.ext fun h=>pW h ea C)) (upd H' ea (.ext fun h=>pW h ea C)):=g1.trans (.alloc g1.sub sD);have S4:dh X.K G (st.set i (some (.ref ea))) (upd av ea (.ext fun h=>pW h ea C)) (upd H' ea (.ext fun h=>pW h ea C)) (dlb.set i (.val (.xo C))):=
   (Sb.grow g2).set (.xo ak fun h z=>z)
 refine wpAny_mono (hs ea _ pins s4 _ _ { nx:=fun st H=>∃ aK,aH G'.Hf aK/\dh X.K G st aK H dl1,rt:=fun _ _=>False} (nU (oH I.ok I4)) ⟨_,S4,fun st aK H sm S=>⟨aK,g2.bJ.trans sm,S⟩⟩) (fun f s5 q=>?_) (fun _ _ z=>z);cases f with
 | next=>
   obtain⟨σ,H5,I5,vq,sm5,S5⟩:=q;refine Hy (oH I.ok I5) hN hi hk fun s6 I6=>⟨_,H5,I6,k _ vq H5 sm5 (Dp S5)⟩
 | brk=>obtain⟨_,_,_,z⟩:=q;exact z.elim
 | cont=>obtain⟨_,_,_,z⟩:=q;exact z.elim
 | ret u=>obtain⟨_,_,_,_,_,z⟩:=q;exact z.elim
theorem x6 {E:XK}{dl dl1:List Slot}{body:List Stmt}{h0:ExceptHandler}{hs:List ExceptHandler}{pos:Pos}(hb:∀ pn xe,mP { X with pn:=pn,xe:=xe} G E0 dl body (.nx dl1)):ES X G E dl (.Try body (h0::hs) [] [] pos) (.nx dl1):=by
 intro pins s st H Dn I ⟨Hf,S,k⟩;refine wpAny_Try_except ?_;refine wpAny_mono (hb (X.pn ++ pins) _ [] s st H { nx:=Dn.nx,rt:=fun _ _=>False} (Bk I) ⟨Hf,S,k⟩) (fun f s5 q=>?_) (fun _ _ z=>z);cases f with
 | next=>
   obtain⟨σ,H5,I5,q⟩:=q;exact wpAny_execs_nil ⟨σ,H5,xZ I5,q⟩
 | brk=>obtain⟨_,_,_,z⟩:=q;exact z.elim
 | cont=>obtain⟨_,_,_,z⟩:=q;exact z.elim
 | ret u=>obtain⟨_,_,_,_,_,z⟩:=q;exact z.elim
end
noncomputable def YB (x:Str):It:=
 ⟨fun i H=>∃ c,x.cps[i]?=some c,fun i H v H'=>∃ p c,v=.ref p/\H p=none/\H'=upd H p (.tup [.int i,.str ⟨#[c]⟩])/\x.cps[i]?=some c,fun i H=>i=x.cps.size⟩
theorem FF {P:Program}{w:World}{K:W.Frag}{elts:List Expr}{kt:Nat}{AS:Pos}(x:Str)(t:Tok)(e it:Addr)(W2:e≠it):Turn P w K (.Tuple elts kt AS) (YB x) [e,it] e (fun i h=>(∃ old,IsEnum h e it i old)/\h.IsStrIter it "str_ascii_iterator" x t i) where
 mem:=by simp
 obj:=fun i h st b hb=>by
   obtain⟨⟨old,he⟩,o,e2,c,d⟩:=st;rcases aaz.mp hb with rfl | hb
   . exact⟨_,he,fun v z=>by cases z⟩
   . have:b=it:=by simpa using hb
     subst this;exact⟨o,e2,fun v z=>by rw[d] at z;cases z⟩
 keep:=fun i h h' st k=>by
   obtain⟨⟨old,he⟩,o,e2,r⟩:=st;exact⟨⟨old,k e (by simp) _ he⟩,o,k it (by simp) o e2,r⟩
 item:=by
   intro X hP hw hK hc i pins s σ H E I hf st hg;subst hP hw hK;obtain⟨c,hx⟩:=hg;obtain⟨⟨old,he⟩,hit⟩:=st;have Yq:e < s.heap.objs.size:=aak he;have hil:it < s.heap.objs.size:=by obtain⟨_,z,_⟩:=hit;exact aak z
   have dS:i < x.cps.size:=(acf.mp hx).1;refine wpAny_pyNext_enum_itemD (Draws.strAscii (A:=X.A.in1) (I.ok.hd hc) it x t) he hit dS W2 (by simpa using W2) fun u h1 tk hP ho UO hT hsz hk=>?_
   obtain⟨c',u',EK,rfl⟩:=hP;rw[hx] at EK;cases EK;refine⟨_,rfl,wpAny_letOwnedTupleGo_enum ho fun h2 Us AR=>?_⟩;have hT2:h2.get? s.heap.objs.size=some { cls:=.type "tuple",data:=.seq #[.int i tk,.str ⟨#[c]⟩ u']}:=(AR.2 _ (acu Yq)).trans hT;have k2:∀ b o,b ∉ [e,it]->s.heap.get? b=some o->h2.get? b=some o:=fun b o hb q=>(AR.2 b fun z=>hb (by simp[z])).trans (hk b o (fun z=>hb (by simp[z])) (fun z=>hb (by simp[z])) q)
   have hp:H s.heap.objs.size=none:=I.aR.fresh (aai _);have I2:L2.Inv X pins σ (upd H s.heap.objs.size (.tup [.int i,.str ⟨#[c]⟩])) { s with heap:=h2,toks:=tk+1}:=Dl I hf k2 (aai _) ⟨aaF rfl,[.int i tk,.str ⟨#[c]⟩ u'],.cons ⟨_,rfl⟩ (.cons ⟨_,rfl⟩ .nil),_,hT2,rfl,_,rfl⟩;refine⟨.ref s.heap.objs.size,_,I2,rfl,⟨_,c,rfl,hp,rfl,hx⟩,⟨⟨_,by simpa using Us⟩,let ⟨o,z1,z2⟩:=UO;⟨o,(AR.2 it (Ne.symm W2)).trans z1,z2⟩⟩,fun b hb=>?_⟩;have:b≠s.heap.objs.size:=by
     rcases aaz.mp hb with rfl | hb
     . exact aap Yq
     . have:b=it:=by simpa using hb
       subst this;exact aap hil
   rw[ag this];exact(hf b hb).1
 done:=by
   intro X hP hw hK hc i pins s σ H E I hf st hg;subst hP hw hK;have hg:i=x.cps.size:=hg;subst hg;obtain⟨⟨old,he⟩,hit⟩:=st;obtain⟨f0,f1,f2,f3,f4,f5⟩:=hf it (by simp);exact wpAny_pyNext_enum_endD (Draws.strAscii (A:=X.A.in1) (I.ok.hd hc) it x t) he hit fun h' eb=>⟨rfl,I.turned (t':=s.toks) (fun b o hb q=>eb b o hb q) f0 f1 f3 f4 f5⟩
 self:=fun _ i s Q E st h=>by
   obtain⟨⟨old,he⟩,_⟩:=st;exact wpAny_pyIter_enum he h
section
variable {X:Cx}{G:Gr}{dl:List Slot}{a:Expr}{x:Str}{p pos:Pos}
def Mf (ta:TA):TI:=fun σ H R=>ta σ H fun vs H1=>∃ x,vs=[.str x]/\k9 x=true/\R (YB x) H1
theorem Mg {elts:List Expr}{kt:Nat}{AS:Pos}{ta:TA}(hg:Gl X "enumerate")(hm:X.mg "enumerate"=none)(ha:PA X [a] ta)(hs:autoParam (starEach [a] X.env=[(false,eval a X.env)]) jp):PI X (.Tuple elts kt AS) (.Call (.Name "enumerate" p) [a] [] pos) (Mf ta):=by
 intro pins s σ H R I h;refine Call_ (rN I hg hm boot_enumerate (PyProof.Rows.callWith_type1 (bZ (ha pos pins s σ H _ I h) fun us s1 zq=>?_) hs rfl));obtain⟨vs,H1,I1,r1,q1⟩:=zq;obtain⟨x,e,UU,q⟩:=q1;subst e;cases r1 with
 | cons r rr=>
   cases rr;obtain⟨t,rfl⟩:=r;refine call_enumerate_str fun h' he hit hsz k=>wpAny_pyIter_enum he ?_
   have K7:strIterType x="str_ascii_iterator":=by unfold strIterType;rw[show x.cps.all (· < 128)=true from UU];rfl
   rw[K7] at hit;have I2:L2.Inv X pins σ H1 { s1 with heap:=h'}:=I1.kept (t':=s1.toks) k;refine⟨s1.heap.objs.size+1,[s1.heap.objs.size+1,s1.heap.objs.size],_,_,H1,rfl,I2,FF x t _ s1.heap.objs.size (ach _),⟨⟨_,he⟩,hit⟩,fun b hb=>?_,q⟩;have Ff:s1.heap.objs.size<=b:=by
     rcases aaz.mp hb with rfl | hb
     . exact abD _
     . have:b=s1.heap.objs.size:=by simpa using hb
       rw[this];exact aai _
   exact I1.zl Ff (I1.aR.fresh Ff)
theorem FG (hx:k9 x=true):vJ X G dl (vp (Sg.signs x)) (Mf (XZ X.K G dl [.str x])):=fun st H R zq=>aac zq fun Hf zq=>have S:=zq.1;have k:=zq.2;⟨Hf,S,fun vs av H1 g1 r1=>by
 cases r1 with
 | cons r t=>
   cases t;cases r;refine⟨x,rfl,hx,k _ av H1 g1 fun bD H2 s1 s2 i=>⟨fun z hz=>?_,fun hi=>?_⟩⟩
   . have hi:i < (Sg.signs x).length:=by
       have:=(aaj.mp hz).1;unfold vp at this;simpa using this
     unfold vp at hz;rw[aaf,aaP hi] at hz;cases hz;have Kq:(Sg.signs x)[i]?=some ((Sg.signs x).getD i .cz):=by rw[aae,aab hi];rfl
     rw[signs_get] at Kq;cases q:x.cps[i]? with
     | none=>rw[q] at Kq;cases Kq
     | some c=>
       rw[q] at Kq;have Kq:Dt.str ⟨#[c]⟩=(Sg.signs x).getD i .cz:=Option.some.inj Kq;refine⟨⟨c,q⟩,fun v H3 zq=>?_⟩;obtain⟨p,c',e1,e2,e3,e4⟩:=zq;rw[q] at e4;cases e4;subst e1 e3;show ∃ jP,aU bD H2 jP _/\Rep X.K jP (V.ref p) (Dt.tup [Dt.int i,(Sg.signs x).getD i Dt.cz]);rw[<- Kq];exact⟨upd bD p (.tup [.int i,.str ⟨#[c]⟩]),.alloc s2 e2,.tup (.of ak) (.cons (.int _) (.cons (.str _) .nil))⟩
   . show i=x.cps.size
     unfold vp at hi;rw[aaa,aa6,qA] at hi;exact hi⟩
end
theorem UW {us:List Value}{d:Value}(h:(us ++ [d]).length=3):∃ a b,us=[a,b]:=by
 rw[aaw] at h;have h:us.length=2:=Nat.succ.inj h
 match us,h with
 | [a,b],_=>exact⟨a,b,rfl⟩
end Sg
namespace Sg
open PySem PySem.Spec PyProof.Rows L2
open Sem (wp)
structure abY (z tI tO j1 j2:Addr)(f1 f2:List Addr):Prop where
 tz:tI≠z
 oz:tO≠z
 az:j1≠z
 bz:j2≠z
 to:tI≠tO
 ta:tI≠j1
 tb:tI≠j2
 oa:tO≠j1
 ob:tO≠j2
 ab:j1≠j2
 z1:z ∉ f1
 o1:tO ∉ f1
 b1:j2 ∉ f1
 z2:z ∉ f2
 o2:tO ∉ f2
 a2:j1 ∉ f2
inductive ZS where
 | txt (x:Str) (t:Tok)
 | lst (l:Addr)
noncomputable def ZS.val:ZS->Value
 | .txt x t=>.str x t
 | .lst l=>.ref l
noncomputable def ZS.obj:ZS->Obj
 | .txt x t=>{ cls:=.type (strIterType x),data:=.fields #[.str x t,.int 0 0]}
 | .lst l=>{ cls:=.type "list_iterator",data:=.fields #[.ref l,.int 0 0]}
def ZS.ok (h:Heap):ZS->Prop
 | .txt x _=>k9 x=true
 | .lst l=>∃ xs,h.IsList l xs
def ZS.at (it:Addr)(i:Nat)(h:Heap):ZS->Prop
 | .txt x t=>h.IsStrIter it "str_ascii_iterator" x t i
 | .lst l=>h.IsListIter it l i
noncomputable def ZS.v:ZS->V
 | .txt x _=>.str x
 | .lst l=>.ref l
section
inductive ZD:Dt->List Dt->Prop
 | lst (xs:List Dt):ZD (.lst xs) xs
 | str (x:Str):k9 x=true->ZD (.str x) (Sg.signs x)
end
section
variable {prog:Program}{w:World}{A:Around}{E:Value->Shared->Prop}{h:Heap}{g:Array GenState}{d:Drawn}{t:Nat}{os:OsState}
variable {nm q:Str}{C N:Addr}{bs bm bmB bmN:List Value}{hdct:Bool}{sn:List Str}{sub:List Value}{ab:Bool}{col:Option Bool}{dd:Option Addr}{k0 k1 k2 k3 k5:Option Value}{B Bn newId nid x8 inN:String}
theorem vL (Fn:ExcBaseFacts Bn newId inN bmN)(hBn:bmB.contains (.type Bn)=true)(F:ExcBaseFacts B nid x8 bmB)(T:OwnTail h bmB bm){mN:Str->Option Value}{rest:List Value}{fI:Addr}{oI:Obj}{Q:Fin->Shared->Prop}(hC:h.get? C=some (excClassObj nm q C N bs bm hdct sn sub ab col dd k0 k1 k2 k3 k5 newId))(hn:h.Ns N mN)(hi:mN "__init__"=some (.ref fI))(hfI:h.get? fI=some oI)(YC:oI.cls=.type "function")(hq:∀ h' e,h.objs.size<=e->acM h h' e (.ref C) rest->wpAny (model prog w) A (call (.ref fI) (.ref e::rest)) (fun r s'=>r=.none/\Q (.done (.ret (.ref e))) s') E ⟨h',g,d,t,os⟩)(Mh:rest.length<=sizeLine):wpAny (model prog w) A (Builtin.«type.__call__» ⟨.ref C::rest,[]⟩) Q E ⟨h,g,d,t,os⟩:=by
 repeat (first | with_reducible refine wpAny_loadPart_at hC ?_ | with_reducible refine wpAny_madeBy_exc hC ?_ | wp_step)
 refine codeAny_call_builtin_code (Code.quiet_builtin _ Fn.quiet) (wpAny_check_new_subU Fn hBn T hC ?_);refine codeAny_exc_new_subU Fn hBn F T hC ?_ Mh;show wpAny _ _ _ _ _ _;let h2:=(h.push { cls:=.type "tuple",data:=.seq rest.toArray}).push { cls:=.ref C,data:=.fields #[.ref h.objs.size,.none,.none,.none,.bool false,.none]};have up:∀ b o,h.get? b=some o->h2.get? b=some o:=fun b o e=>aad _ (aad _ e)
 have hC1:=up _ _ hC;have Qb:h2.Ns N mN:=hn.keeps up;have YD:h2.get? (h.objs.size+1)=some { cls:=.ref C,data:=.fields #[.ref h.objs.size,.none,.none,.none,.bool false,.none]}:=by
   show((h.push _).push _).get? _=_
   heap_get
 have hcC:(Value.ref C::bm).contains (.ref C)=true:=by simp
 have T1:=T.keeps (h':=h2) up;unfold isInstance
 repeat (first | with_reducible refine wpAny_loadPart_at YD ?_ | (with_reducible refine wpAny_isSubtype_exc hC1 ?_;rw[hcC]) | wp_step)
 show wpAny _ _ (typeLookup (.ref C) _) _ _ _;refine wpAny_typeLookup_tail hC1 Qb T1 F.mroIs F.init.lookup ?_;rw[hi];refine wpAny_holding (wpAny_bind ?_);unfold bindSpecial;refine wpAny_bind (wpAny_typeOf (T:="function") ⟨_,up _ _ hfI,YC⟩ ?_);rw[if_pos (by decide)];refine wpAny_pure (wpAny_bind (wpAny_mono (hq _ (h.objs.size+1) (abD _) ⟨up,acD (abD _),h.objs.size,YD,acD (aai _),?_⟩) (fun r s' hr=>?_) fun _ _ x=>x))
 . exact aad _ (Heap.get?_push_at rfl rfl)
 . obtain⟨rfl,hQ⟩:=hr
   wp_walk
   exact hQ
theorem FH (Fn:ExcBaseFacts Bn newId inN bmN)(hBn:bmB.contains (.type Bn)=true)(F:ExcBaseFacts B nid x8 bmB)(T:OwnTail h bmB bm){mN:Str->Option Value}{rest:List Value}{fI:Addr}{oI:Obj}{Q:Value->Shared->Prop}(hC:h.get? C=some (excClassObj nm q C N bs bm hdct sn sub ab col dd k0 k1 k2 k3 k5 newId))(hn:h.Ns N mN)(hi:mN "__init__"=some (.ref fI))(hfI:h.get? fI=some oI)(YC:oI.cls=.type "function")(hq:∀ h' e,h.objs.size<=e->acM h h' e (.ref C) rest->wpAny (model prog w) (A.under (.builtin "type.__call__" ⟨.ref C::rest,[]⟩)) (call (.ref fI) (.ref e::rest)) (fun r s'=>r=.none/\Q (.ref e) s') E ⟨h',g,d,t,os⟩)(Mh:rest.length<=sizeLine):wpAny (model prog w) A (call (.ref C) rest) Q E ⟨h,g,d,t,os⟩:=by
 have f1:=tc_lookup;have f2:=tc_bind (.ref C);have hT:(⟨h,g,d,t,os⟩:Shared).TypeIs (.ref C) "type":=⟨_,hC,rfl⟩
 refine wpAny_call (codeAny_of_tree ?_);show wpAny _ _ (callAny (.ref C) _) _ _ _
 repeat (any_goals (first | assumption | with_reducible refine wpAny_loadPart_at hC ?_ | wp_step))
 refine⟨rfl,?_⟩;exact codeAny_call_builtin_at (Code.quiet_builtin _ (by decide +kernel)) entry_typeCall (wpAny_check_type_call_sub hC (vL Fn hBn F T hC hn hi hfI YC (fun h' e hz hm=>hq h' e hz hm) Mh))
end
noncomputable def UX (C t:Addr)(od:Option Addr):Obj:={ cls:=.ref C,dict:=od,data:=.fields #[.ref t,.none,.none,.none,.bool false,.none]}
def OP (h:Heap)(e C:Addr)(od:Option Addr):Prop:=∃ t:Addr,h.get? e=some (UX C t od)
section
variable {prog:Program}{w:World}{A:Around}{E:Value->Shared->Prop}{h:Heap}{g:Array GenState}{d:Drawn}{t:Nat}{os:OsState}
variable {nm q:Str}{C N:Addr}{bs bm bmB:List Value}{hdct:Bool}{sn:List Str}{sub:List Value}{ab:Bool}{col:Option Bool}{dd:Option Addr}{k0 k1 k2 k3 k5:Option Value}{B newId nid x8:String}
theorem Jm (F:ExcBaseFacts B nid x8 bmB)(T:OwnTail h bmB bm){e t0:Addr}{od:Option Addr}{a:Value}{Q:Value->Shared->Prop}(hC:h.get? C=some (excClassObj nm q C N bs bm hdct sn sub ab col dd k0 k1 k2 k3 k5 newId))(he:h.get? e=some (UX C t0 od))(hq:∀ h',OP h' e C od->(∀ b o,b≠e->h.get? b=some o->h'.get? b=some o)->Q .none ⟨h',g,d,t,os⟩):wpAny (model prog w) A (call (.builtin x8) [.ref e,a]) Q E ⟨h,g,d,t,os⟩:=by
 have UY:h.get? e=some { cls:=.ref C,dict:=od,data:=.fields #[.ref t0,.none,.none,.none,.bool false,.none]}:=he;refine wpAny_call (codeAny_call_builtin F.init.plain F.initEntry (wpAny_check_init_subU F T hC UY rfl ?_))
 wp_walk
 refine hq _ ⟨h.objs.size,?_⟩ fun b o hb h1=>?_
 . rw[ab1 _ (aad _ UY) rfl];rfl
 . rw[ab7 _ _ (Ne.symm hb)];exact aad _ h1
structure R8 (K:W.Frag)(C:Addr)(f:Str):Prop where
 sa:W.findIn K (.ref C) "__setattr__"=some (some (.builtin "object.__setattr__"))
 na:W.findIn K (.ref C) f=some none
 ob:W.mroIn K C (.type "object")=some true
 mr:∃ G,(W.clsIn K C).map (·.mro)=some [.ref C,.ref G,.type "ValueError",.type "Exception",.type "BaseException",.type "object"]
 hd:(W.clsIn K C).map (·.hasDict)=some true
end
section
variable {prog:Program}{w:World}{A:Around}{K:W.Frag}{C e t0:Addr}{f:Str}{v:Value}{s:Shared}
open Builtin Builtin.ObjectAttr
theorem UZ {tk:Tok}{R:Result->Shared->Prop}(X:K.In s.heap)(S:R8 K C f)(he:s.heap.get? e=some (UX C t0 none))(hq:∀ h' Qc dx mA,h'.get? e=some (UX C t0 (some dx))->s.heap.objs.size<=dx->h'.Ns1 dx mA->mA f=some v->(∀ y,y≠f->mA y=none)->(∀ b o,b≠e->s.heap.get? b=some o->h'.get? b=some o)->R (.ok (.ret .none)) { s with heap:=h',toks:=Qc}):codeAny (model prog w) A (.call (.builtin "object.__setattr__") ⟨[.ref e,.str f tk,v],[]⟩) R s:=by
 have SF:=PySem.F.store_object;obtain⟨G,hmr⟩:=S.mr;obtain⟨cd,hc,hm⟩:=ab8.mp hmr;have hhd:cd.hasDict=true:=by have:=S.hd;rw[hc] at this;exact Option.some.inj this
 have K7:W.Looks (model prog w) s.heap (typeOf (.ref e)) (.ref C):=pW.ty ⟨_,he,rfl⟩;have sub:W.Looks (model prog w) s.heap (isInstance (.ref e) (.type "object")) true:=K7.andThen (W.looks_mroIn X S.ob);refine codeAny_call_builtin SF.slot.plain SF.entry (@W.check_slot (model prog w) _ _ s "object.__setattr__" "object" "__setattr__" (.ref e) [.str f tk,v] [] _ SF.kind SF.split sub (SF.args (.ref e) (.str f tk) v) ?_);have Bb:W.Looks (model prog w) s.heap (mroOf (.ref C)) cd.mro:=(W.looks_clsIn X hc).andThen .now;rw[W.osa_eq,refuse_eq];refine wpAny_bind (wpAny_bind (K7.here (wpAny_bind (Bb.here ?_))));rw[hm,refuseLoop_ref,refuseLoop_ref,PySem.F.store_ValueError.passes];refine wpAny_pure (wpAny_bind (K7.here (wpAny_bind ((W.looks_findIn X S.na).here (wpAny_bind (W.Looks.now.here ?_))))));show wpAny _ _ (storeInOwnDict (.ref e) (.ref C) (.str f tk) f v false) _ _ _;refine wpAny_bind (wpAny_pure (wpAny_bind (wpAny_bind (wpAny_loadPart he (wpAny_bind ((W.looks_clsIn X hc).here ?_))))));rw[hhd];have hes:e≠s.heap.objs.size:=aap (aak he);have hx1:(s.heap.push { cls:=.type "dict",data:=.dict #[]}).get? e=some (UX C t0 none):=aad _ he;refine wpAny_bind (wpAny_alloc' ?_);refine wpAny_bind (wpAny_update' hx1 ?_);refine wpAny_pure ?_;have hgd:((s.heap.push { cls:=.type "dict",data:=.dict #[]}).update e fun o=>{ cls:=o.cls,dict:=some s.heap.objs.size,data:=o.data,slots:=o.slots}).get? s.heap.objs.size=some { cls:=.type "dict",data:=.dict #[]}:=
   (Heap.get?_update_ne _ _ _ _ hes.symm).trans (Heap.get?_push_at rfl rfl)
 have hnd:((s.heap.push { cls:=.type "dict",data:=.dict #[]}).update e fun o=>{ cls:=o.cls,dict:=some s.heap.objs.size,data:=o.data,slots:=o.slots}).Ns s.heap.objs.size (fun _=>none):=
   ⟨_,#[],_,hgd,rfl,fun e he=>absurd he (by simp),fun _=>rfl⟩
 show wpAny _ _ (storeInDict s.heap.objs.size (.str f tk) f v) _ _ _;unfold storeInDict newKeyGuard;refine wpAny_bind (wpAny_pure (wpAny_bind (wpAny_nsSet1 (Heap.Ns1.of_empty hnd) fun h' sD hs=>?_)));obtain⟨oD,esD,epD,hoD,hdD,KY⟩:=sD.count (Within.cons f v Within.nil);refine wpAny_bind (wpAny_lookBehind hoD (by rw[hdD];exact pastItsLine_dict (aax KY (by rw[aaL,List.length_nil,sizeLine_eq];omega))) ?_);refine wpAny_pure (hq h' _ s.heap.objs.size _ ((hs.2 e hes).trans (ab1 _ hx1 rfl)) (aai _) sD (by simp) (fun y hy=>by simp[hy]) fun b o hb h1=>?_);exact(hs.2 b (aap (aak h1))).trans ((Heap.get?_update_ne _ _ _ _ hb).trans (aad _ h1))
end
theorem U0 {K:W.Frag}{h:Heap}{N:Addr}{mN:Str->Option Value}{n:Str}{v:Value}(X:K.In h)(G:h.Ns N mN)(e:W.nsIn K N n=some (some v)):mN n=some v:=by
 obtain⟨o,es,ep,ho,hd,_,hf⟩:=G;unfold W.nsIn at e
 split at e
 . rename_i q
   have z:=X _ _ q;rw[ho] at z;cases z;cases hd
   split at e
   . rename_i en he
     cases e;rw[<- hf];unfold nsFind findBy;rw[<- Array.find?_toList,he];rfl
   . split at e <;> cases e
 . cases e
noncomputable def x9 (K:W.Frag)(C:Addr)(bmB:List Value)(nw:String)(fI:Addr):Bool:=match K.lookup C with
 | some ⟨.type "type",_,.cls cd,sl⟩=>(match cd.mro,sl.toList with
   | .ref D::tl,[_,_,_,_,some (.builtin n),_]=>D == C && (n == nw && (!cd.hasDel && (W.tailIn K bmB tl && (W.nsOkIn K cd.ns && (W.nsIn K cd.ns "__init__" == some (some (.ref fI)))))))
   | _,_=>false)
 | _=>false
theorem ya {K:W.Frag}{h:Heap}{C fI:Addr}{bmB:List Value}{nw:String}(X:K.In h)(hq:x9 K C bmB nw fI=true):∃ z1 z2 z3 z4 z5 z6 z7 z8 z9 y1 y2 y3 y4 y5 y6 y7 mN,h.get? C=some (excClassObj z3 z4 C z2 z5 z1 z6 z7 z8 z9 y1 y2 y3 y4 y5 y6 y7 nw)/\h.Ns z2 mN/\mN "__init__"=some (.ref fI)/\OwnTail h bmB z1:=by
 unfold x9 at hq
 split at hq
 . rename_i odd X6 slots Lw
   split at hq
   . rename_i C2 tl a0 a1 a2 a3 nn a5 Bb WW
     simp only[aaE] at hq;obtain⟨q1,q2,q3,q4,q5,q6⟩:=hq;have q1:=beq_iff_eq.mp q1;have q2:=beq_iff_eq.mp q2;have q3:X6.hasDel=false:=by simpa using q3
     have q6:=beq_iff_eq.mp q6;subst q1 q2;have es:slots=#[a0,a1,a2,a3,some (.builtin nn),a5]:=by
       have:slots.toList=[a0,a1,a2,a3,some (.builtin nn),a5]:=WW;rw[<- Array.toArray_toList (xs:=slots),this]
     obtain⟨c1,c2,c3,c4,c5,c6,c7,c8,c9,c10,c11⟩:=X6;cases q3;have Bb:c3=.ref C2::tl:=Bb;subst Bb;subst es;have hN:h.Ns c4 (h.nsMap c4):=.of_isNs (W.isNs_of_in X q5);exact⟨tl,c4,c1,c5,c2,c6,c7,c8,c9,c10,odd,a0,a1,a2,a3,a5,_,X _ _ Lw,hN,U0 X hN q6,W.tail_of_in X q4⟩
   . cases hq
 . cases hq
structure W6 (K:W.Frag)(C fI:Addr):Prop where
 ex:x9 K C Uy "ValueError.__new__" fI=true
 fn:W.typeIn K (.ref fI)=some (.type "function")
 kp:W.keepIn K (.ref C)=true
structure XcB (K:W.Frag)(G:Addr):Prop where
 sp:W.specialIn K (.ref G) "__getattribute__"=some (some (.builtin "type.__getattribute__"))
 rd:W.readsIn K G (.type "type")=true
 fc:W.findCls K (.ref G) (.type "type") "__init__"=some (.val (.builtin "ValueError.__init__"))
theorem U1 {H:Hp}{z:Addr}{o:HO}(h:H z=some o):upd H z o=H:=by
 funext b
 by_cases e:b=z
 . subst e;rw[ak,h]
 . rw[ag e]
theorem Qd {z C:Addr}{od:Option Addr}{h1 h2:Heap}(a:OP h1 z C od)(k:∀ o,h1.get? z=some o->h2.get? z=some o):OP h2 z C od:=let ⟨t,e⟩:=a;⟨t,k _ e⟩
noncomputable abbrev xT (z C:Addr)(od:Option Addr):HO:=.ext fun h=>OP h z C od
theorem xok {P:Program}{w:World}{H:Hp}{h:Heap}{z C:Addr}{od:Option Addr}(a:OP h z C od):aM P w H h z (xT z C od):=⟨a,let ⟨t,e⟩:=a;⟨_,e⟩,fun _ _ b k=>Qd b k⟩
section
variable {X:Cx}{C fI G z:Addr}{a b e:Expr}{p1 pos apos:Pos}{gN x f:Str}{t:TA}{pl:Sem Bool}
def tBI (C:Addr)(t:TA):TE:=fun σ H Q=>t σ H fun vs H1=>∃ z x,vs=[.ref z,.str x]/\H1 z=some (xT z C none)/\Q .cz H1
theorem Mi (hC:W6 X.K C fI)(hB:XcB X.K G)(hm:X.mg gN=some (.ref G))(hg:Gl X gN)(ha:PA X [a,b] t)(jg:autoParam ((gN == ("__debug__":Str))=false) jO)
   (jQ:autoParam (starEach [a,b] X.env=(false,eval a X.env)::starEach [b] X.env) jp) (kW:autoParam ((backTo pos (starEach [b] X.env)).any (·.1)=false) jp)
   (ht:autoParam (eval (.Call (.Attribute (.Name gN p1) "__init__" apos) [a,b] [] pos) X.env=(do
     let ov <- eval (.Name gN p1) X.env
     standAt apos.atName
     let (f,first) <- holding [ov] (getMethod ov "__init__" pl)
     callWith pos f first (backTo pos (starEach [a,b] X.env)) (backToKw pos (keywordEach [] X.env)))) jp) :
   PE X (.Call (.Attribute (.Name gN p1) "__init__" apos) [a,b] [] pos) (tBI C t):=by
 intro pins s σ H Q I h;refine PySem.W.methodCall_KW (pl:=pl) (lD I hg hm ?_ jg) ht;refine PySem.W.method_cls I.ke hB.sp (PySem.W.cls_value (mc:=.type "type") I.ke hB.rd hB.fc rfl ?_);refine PyProof.Rows.callWith_builtin1 (bZ (ha pos pins { s with toks:=s.toks+1} σ H _ (I.tok _) h) fun us s1 zq=>?_) jQ kW;obtain⟨vs,H1,I1,r1,q1⟩:=zq;obtain⟨z,y,rfl,hz,q⟩:=q1;cases r1 with
 | cons ra rr=>
   cases rr with
   | cons rb r0=>
     cases r0;cases ra;obtain⟨t0,he⟩:OP s1.heap z C none:=(show aM X.prog X.w H1 s1.heap z (xT z C none) from I1.aR z _ hz).1;obtain⟨z1,z2,z3,z4,z5,z6,z7,z8,z9,y1,y2,y3,y4,y5,y6,y7,mN,hO,hN,X7,hT⟩:=ya I1.ke hC.ex;refine Jm (F:=PySem.F.excBase_ValueError) hT hO he fun h' xb keep=>⟨.cz,H1,?_,rfl,q⟩
     have W:=I1.write (x:=z) (e:=z) (o:=xT z C none) (t':=s1.toks) (h':=h') (by rw[hz];trivial) (.inl rfl) keep (let ⟨t,e⟩:=xb;⟨_,e⟩) (xok xb);rw[U1 hz] at W;exact W
end
section
variable {prog:Program}{w:World}{A:Around}{E:Value->Shared->Prop}{K:W.Frag}{C e t0:Addr}{f:Str}{v:Value}{s:Shared}
theorem ab6 {Q:Unit->Shared->Prop}(X:K.In s.heap)(S:R8 K C f)(he:s.heap.get? e=some (UX C t0 none))(hq:∀ h' Qc dx mA,h'.get? e=some (UX C t0 (some dx))->s.heap.objs.size<=dx->h'.Ns1 dx mA->mA f=some v->(∀ y,y≠f->mA y=none)->(∀ b o,b≠e->s.heap.get? b=some o->h'.get? b=some o)->Q () { s with heap:=h',toks:=Qc}):wpAny (model prog w) A (setAttr (.ref e) f v) Q E s:=by
 have K7:W.Looks (model prog w) s.heap (typeOf (.ref e)) (.ref C):=pW.ty ⟨_,he,rfl⟩;refine wpAny_bind (wpAny_mkText (wpAny_bind (wpAny_bind (wpAny_bind (K7 _ _ _ _ (fun _ _ e=>e) (W.looks_findIn X S.sa _ _ _ _ (fun _ _ e=>e) (wpAny_holding ?_)))))));rw[PySem.F.store_object.slot.bind];refine wpAny_bind (wpAny_pure (wpAny_bind (wpAny_call (UZ (s:={ s with toks:=s.toks+1}) X S he fun h' Qc dx mA a1 a2 a3 a4 a5 a6=>?_))));exact wpAny_pure (wpAny_pure (hq h' Qc dx mA a1 a2 a3 a4 a5 a6))
end
section
variable {X:Cx}{pins:List (Addr×Obj)}{σ:List (Option V)}{H:Hp}{s:Shared}{h':Heap}{C z dx:Addr}{o:HO}
theorem U2 {tk:Nat}(I:L2.Inv X pins σ H s)(hz:H z=some (xT z C none))(hd:s.heap.objs.size<=dx)(xb:OP h' z C (some dx))(hx:aM X.prog X.w (upd (upd H dx o) z (xT z C (some dx))) h' dx o)(k:∀ b u,b≠z->s.heap.get? b=some u->h'.get? b=some u):L2.Inv X pins σ (upd (upd H dx o) z (xT z C (some dx))) { s with heap:=h',toks:=tk}:=by
 have hn:H dx=none:=I.aR.fresh hd;have nz:dx≠z:=fun e=>by rw[e,hz] at hn;cases hn
 have at_:∀ b u,H b=some u->b≠z->upd (upd H dx o) z (xT z C (some dx)) b=some u:=fun b u e h=>by rw[ag h,ag (ax e hn)];exact e
 refine I.step (g':=s.gens) (d':=s.drawn) (t':=tk) (ch:=[]) (fun b hb=>absurd hb (by simp)) (fun b u _ _ _ e n=>k b u (fun q=>by rw[q,hz] at n;cases n) e) (fun b u _ _ _ e n=>⟨u.slots,k b u (fun q=>by rw[q,hz] at n;cases n) e⟩)
   (fun b u _ e n=>?_) (fun b u _ e=>?_) (fun b xs e=>at_ b _ e fun q=>by rw[q,hz] at e;cases e) (fun b ob u e=>at_ b _ e fun q=>by rw[q,hz] at e;cases e) (fun b ps e=>⟨#[],by rw[at_ b _ e fun q=>by rw[q,hz] at e;cases e];simp⟩) (fun m hm=>?_) (fun b u e=>?_) I.bare
 . have b1:b≠z:=fun q=>by rw[q,hz] at n;cases n
   have b2:b≠dx:=aap (aam (aak e) hd);rw[ag b1,ag b2];exact n
 . by_cases hb:b=z
   . subst hb;obtain⟨t,q⟩:=xb;exact⟨_,q⟩
   . exact⟨u,k b u hb e⟩
 . obtain⟨ob,es,ep,ho,r⟩:=hm
   exact⟨ob,es,ep,k _ ob (fun q=>by have:=I.free;rw[<- q,this] at hz;cases hz) ho,r⟩
 . by_cases hb:b=z
   . subst hb;rw[ak] at e;cases e;exact xok xb
   . rw[ag hb] at e
     by_cases U3:b=dx
     . subst U3;rw[ak] at e;cases e;exact hx
     . rw[ag U3] at e
       refine(I.aR b u e).qW (fun c v hc q=>k c v ?_ q) (fun c q=>at_ c _ q fun q'=>by rw[q',hz] at q;cases q) (fun c xs q=>at_ c _ q fun q'=>by rw[q',hz] at q;cases q) ⟨fun c u q kq=>at_ c _ q (fun q'=>by rw[q',hz] at q;cases q;exact kq),fun c q=>by
         have n1:c≠z:=fun q'=>by rw[q',hz] at q;exact q
         cases qq:H c with
         | none=>rw[qq] at q;exact q.elim
         | some u=>rw[at_ c u qq n1,<- qq];exact q,fun c y q=>at_ c _ q fun q'=>by rw[q',hz] at q;cases q⟩
       rcases hc with r | r | r
       . rw[r];exact hb
       . exact fun q'=>by rw[q',hz] at r;cases r
       . exact fun q'=>by rw[q',hz] at r;exact r
end
section
variable {X:Cx}{C z:Addr}{e value o:Expr}{pos pos':Pos}{x f:Str}{ta tv:TE}
def sXF (C:Addr)(f:Str)(ta tv:TE):TS:=fun D σ H=>tv σ H fun v H1=>ta σ H1 fun y H2=>∃ z,y=.ref z/\H2 z=some (xT z C none)/\∀ dx,H2 dx=none->dx≠z->D.nx σ (upd (upd H2 dx (.xd [(f,v)])) z (xT z C (some dx)))
theorem Qe (S:R8 X.K C f)(ha:PE X o ta)(hv:PE X value tv)(hs:swapsWith value (some (.Attribute o f pos')) pos.line X.env=pure false):PS X (.Assign [.Attribute o f pos'] value pos) (sXF C f ta tv):=by
 intro pins s σ H D I h;refine plainObj_wpAny_Assign_Attribute (bZ (hv pins s σ H _ I h) fun u s1 ⟨y,H1,I1,ry,q⟩=>bZ (ha pins s1 σ H1 _ I1 q) fun ov s2 zq=>?_) hs;obtain⟨x,H2,I2,rx,z,ex,hz,q2⟩:=zq;subst ex;obtain rfl:ov=Value.ref z:=rx;obtain⟨t0,he⟩:OP s2.heap z C none:=(show aM X.prog X.w H2 s2.heap z (xT z C none) from I2.aR z _ hz).1;refine ab6 I2.ke S he fun h' Qc dx mA a1 a2 a3 a4 a5 a6=>?_
 have hn:H2 dx=none:=I2.aR.fresh a2;refine⟨σ,_,U2 (o:=.xd [(f,y)]) I2 hz a2 ⟨t0,a1⟩ ⟨mA,a3,fun g=>?_⟩ a6,q2 dx hn fun e=>by rw[e,hz] at hn;cases hn⟩;rw[aaM];by_cases hg:g=f
 . subst hg;rw[beq_self_eq_true,a4];exact ry
 . rw[beq_eq_false_iff_ne.mpr hg,a5 g hg];exact trivial
end
def spX (K:PySem.W.Frag)(C:Addr)(f:Str)(ok:Dt->Prop):Sp:=fun vs H Q E=>∃ Hf H1 z v d,vs=[.ref z,v]/\H=upd H1 z (xT z C none)/\H1 z=none/\aH Hf H1/\Rep K Hf v d/\ok d /\
 ∀ bD H2 dx,aU Hf H bD H2->H2 dx=none->dx≠z->Q .cz (upd (upd H2 dx (.xd [(f,v)])) z (xT z C (some dx)))
def sXI (K:PySem.W.Frag)(C:Addr)(f:Str)(d:Dt):TS:=fun D σ H=>∃ Hf z v,σ=[some (.ref z),some v]/\H z=some (xT z C none)/\aH Hf H/\Rep K Hf v d /\
 ∀ bD H2 dx,aU Hf H bD H2->H2 dx=none->dx≠z->D.nx σ (upd (upd H2 dx (.xd [(f,v)])) z (xT z C (some dx)))
theorem Dv {P:Program}{w:World}{K:W.Frag}{mg:Str->Option Value}{base:Heap}{CX:qu}{qual nm:Str}{st:Stmt}{fI C:Addr}{fd:FuncData}{N ps:List Str}{k:Nat}{f:Str}{ok:Dt->Prop}(F:xV K nm qual st fI fd)(S:aq N ps (af st))(hN:N.length=2)(hp:ps.length=2)(nL:∀ (bc:Value) (A:Around) (outer:List Env) (s:Shared) (H:Hp) (E:XK) (d:Dt),dk k (A.deeper (envOfC qual (af st) s.heap.objs.size fI bc))->ok d->Cy (pM CX P w K mg base N qual (af st) fI bc A outer s H E) (aG st) (sXI K C f d)):jh P w K mg base CX (k+1) fI fd ps (spX K C f ok):=by
 obtain⟨oc,od,dV,kV,doc,pm,an,bc,ct,wA,rfl,lk,mh⟩:=F.ex;refine CI lk mh S (fun vs H Q E zq=>by obtain⟨Hf,H1,z,v,d,e,_⟩:=zq;rw[e,hp];rfl) fun A outer s H vs Q E hr zq=>?_;obtain⟨Hf,H1,z,v,d,e1,e2,hz,sm,rp,ho,hk⟩:=zq
 subst e1 e2;refine⟨_,nL bc A outer s _ E d hr ho,Hf,z,v,?_,ak,ur sm (sm.free hz),rp,hk⟩;unfold L2.start;simp[hN]
section
variable {X:Cx}{C fI Gc:Addr}{a tx:Expr}{p1 p2 p3 p4 pos pos' apos R9 bf:Pos}{gN an sn f y:Str}{d:Dt}{pl:Sem Bool}
theorem Sa (hC:W6 X.K C fI)(hB:XcB X.K Gc)(hS:R8 X.K C f)(hm:X.mg gN=some (.ref Gc))(ht:∀ G,EE X G [.aY,.val d] tx (.str y))(hg:autoParam (Gl X gN) jp)(P7:autoParam (X.N[0]?=some sn) jp)(hN1:autoParam (X.N[1]?=some an) jp)
   (U4:autoParam (vC X.env.scope sn) xz) (hv1:autoParam (vC X.env.scope an) xz)
   (hb0:autoParam ((sn == ("__debug__":Str))=false) jO) (U5:autoParam ((sn == ("__classdict__":Str))=false) jO) (W7:autoParam ((an == ("__debug__":Str))=false) jO) (hc1:autoParam ((an == ("__classdict__":Str))=false) jO)
   (jg:autoParam ((gN == ("__debug__":Str))=false) jO) (jQ:autoParam (starEach [.Name sn p2,tx] X.env=(false,eval (.Name sn p2) X.env)::starEach [tx] X.env) jp) (Jn:autoParam (starEach [tx] X.env=(false,eval tx X.env)::starEach [] X.env) jp) (kW:autoParam ((backTo bf (starEach [tx] X.env)).any (·.1)=false) jp)
   (hev:autoParam (eval (.Call (.Attribute (.Name gN p1) "__init__" apos) [.Name sn p2,tx] [] bf) X.env=(do
     let ov <- eval (.Name gN p1) X.env
     standAt apos.atName
     let (f,first) <- holding [ov] (getMethod ov "__init__" pl)
     callWith bf f first (backTo bf (starEach [.Name sn p2,tx] X.env)) (backToKw bf (keywordEach [] X.env)))) jp)
   (PM:autoParam (swapsWith (.Call (.Attribute (.Name gN p1) "__init__" apos) [.Name sn p2,tx] [] bf) none pos.line X.env=pure false) jp) (AR:autoParam (swapsWith (.Name an p4) (some (.Attribute (.Name sn p3) f R9)) pos'.line X.env=pure false) jp) :
   Cy X [.Expr (.Call (.Attribute (.Name gN p1) "__init__" apos) [.Name sn p2,tx] [] bf) pos,.Assign [.Attribute (.Name sn p3) f R9] (.Name an p4) pos'] (sXI X.K C f d):=by
 intro pins s σ H D I zq;obtain⟨Hf,z,v,e,hz,sm,r,k⟩:=zq;subst e;have S:dh X.K ⟨Hf,H⟩ [some (.ref z),some v] Hf H [.aY,.val d]:=by
   refine⟨.refl sm,rfl,fun i d' h=>?_,fun i o h=>?_,fun i j o o' a h=>?_⟩
   . match i,h with
     | 1,h=>cases h;exact⟨v,rfl,r⟩
   . match i,h with
     | 0,h=>cases h
     | 1,h=>cases h
   . match i,h with
     | 0,h=>cases h
     | 1,h=>cases h
 refine(nK (kf (Mi (pl:=pl) hC hB hm hg (kg (gU (i:=0) P7 U4 hb0 U5) (kg (ht ⟨Hf,H⟩) oA Jn) jQ) jg jQ kW hev) PM) (mU (Qe hS (gU (i:=0) P7 U4 hb0 U5) (gU (i:=1) hN1 hv1 W7 hc1) AR))) pins s _ H D I ?_;refine⟨.ref z,rfl,Hf,S,fun x av H1 g1 r1=>?_⟩;cases r1;exact⟨z,y,rfl,g1.big _ _ hz,v,rfl,.ref z,rfl,z,rfl,g1.big _ _ hz,fun dx hd sE=>k av H1 dx g1 hd sE⟩
end
structure XF (P:Program)(w:World)(K:W.Frag)(mg:Str->Option Value)(base:Heap)(CX:qu)(k:Nat)(x:Str)(C:Addr)(f:Str)(ok:Dt->Prop):Prop where
 ex:∃ fI fd ps,jh P w K mg base CX k fI fd ps (spX K C f ok)/\W6 K C fI/\mg x=some (.ref C)/\Binds K fd ps []
section
variable {X:Cx}{E:XK}{C:Addr}{e:Expr}{p pos:Pos}{x f:Str}{d:Dt}{ok:Dt->Prop}{CX:qu}{k k':Nat}{t:TA}
def tMX (K:W.Frag)(C:Addr)(f:Str)(ok:Dt->Prop)(E:XK)(t:TA):TE:=fun σ H Q=>t σ H fun vs H1=>∃ v,vs=[v]/\∀ z,H1 z=none->spX K C f ok [.ref z,v] (upd H1 z (xT z C none)) (fun u H2=>u=.cz/\Q (.ref z) H2) E
theorem Mj (F:XF X.prog X.w X.K X.mg X.base CX k x C f ok)(hr:dk k' X.A)(hx:Passes CX X E)(ha:PA X [e] t)(rB:k+1<=k')(hg:Gl X x)(jg:(x == ("__debug__":Str))=false)(he:starEach [e] X.env=(false,eval e X.env)::starEach [] X.env)(kW:(backTo pos (starEach [] X.env)).any (·.1)=false):PE X (.Call (.Name x p) [e] [] pos) (tMX X.K C f ok E t):=by
 intro pins s σ H Q I h;obtain⟨fI,fd,ps,Fo,hC,hm,hb⟩:=F.ex;refine wpAny_Call_Name_kw (lD I hg hm ?_ jg);refine W.callWith_K (h₀:=X.base) I.ok.mod.RG hC.kp (bZ (ha pos pins s σ H _ I h) fun us s1 ⟨vs,H1,I1,r,q⟩=>⟨I1.ke,?_⟩) he kW;obtain⟨v,rfl,q⟩:=q;obtain⟨u,rfl,ru⟩:=vals1 r;obtain⟨z1,z2,z3,z4,z5,z6,z7,z8,z9,y1,y2,y3,y4,y5,y6,y7,mN,hO,hN,X7,hT⟩:=ya I1.ke hC.ex;obtain⟨oI,hl,YC⟩:=ab8.mp hC.fn;refine FH (h:=s1.heap) (g:=s1.gens) (d:=s1.drawn) (t:=s1.toks) (os:=s1.os) PySem.F.excBase_ValueError (by decide) PySem.F.excBase_ValueError hT hO hN X7 (I1.ke _ _ hl) YC (fun h' z hz mx=>?_) (show 1<=sizeLine by decide);obtain⟨t0,e0,_,_⟩:=mx.there;have I2:L2.Inv X pins σ (upd H1 z (xT z C none)) { s1 with heap:=h',toks:=s1.toks}:=I1.laid mx.keeps hz (xok ⟨t0,e0⟩);have hq:=q z (I1.aR.fresh hz);have r2:Vals [V.ref z,v] [Value.ref z,u]:=.cons rfl (.cons ru .nil);have RP:([Value.ref z,u] ++ []).length=ps.length:=by
   have e:=r2.length;rw[Fo.len _ _ _ _ hq] at e;exact e.symm
 have U3:=hb { s1 with heap:=h'} [Value.ref z,u] I2.ke RP;refine wpAny_call (codeAny_mono (Fo.run _ X.stack { s1 with heap:=h'} _ ⟨[Value.ref z,u],[]⟩ [Value.ref z,u] _ _ E ((hr.mono rB).make C [u] []) (I2.Pa.make C [u] []) U3 r2 hq) fun r s' K1=>?_);cases r with
 | error e=>exact hx pins σ _ _ e s' I2 K1
 | ok fl=>
   cases fl with
   | ret u=>
     obtain⟨v,H',I3,rv,ev,q3⟩:=I2.after K1;subst ev;exact⟨rv,⟨V.ref z,H',I3,rfl,q3⟩⟩
   | next=>exact False.elim K1
   | brk=>exact False.elim K1
   | cont=>exact False.elim K1
theorem YE {Hf H bD H2:Hp}{z dx:Addr}{u o:HO}(s:aH Hf H)(hz:H z=none)(g:aU Hf (upd H z u) bD H2)(hd:H2 dx=none)(nk:¬ Kept u:=by exact fun z=>z):aU Hf H (upd bD dx o) (upd H2 dx o)/\H dx=none/\bD z=none:=by
 have z2:H2 z=some u:=g.big _ _ ak;have nz:dx≠z:=fun e=>by rw[e,z2] at hd;cases hd
 have hd1:H dx=none:=by have:=g.big.free hd;rw[ag nz] at this;exact this
 have fz:bD z=none:=by
   cases q:bD z with
   | none=>rfl
   | some o'=>
     obtain⟨o1,h1⟩:=g.xI ak nk q;rw[s.free hz] at h1;cases h1
 refine⟨⟨fun b w h=>?_,g.bJ.trans (bj (g.sub.free hd)),cR g.sub,fun b w h=>?_⟩,hd1,fz⟩
 . have bz:b≠z:=ax h hz
   rw[ag (ax h hd1)];exact g.big _ _ (by rw[ag bz];exact h)
 . by_cases hb:b=dx
   . subst hb;exact .inr (.inl hd1)
   . rw[ag hb] at h
     rcases g.new b w h with h1 | h1 | h1
     . exact .inl h1
     . by_cases bz:b=z
       . subst bz;rw[ak] at h1;cases h1
       . rw[ag bz] at h1;exact .inr (.inl h1)
     . exact .inr (.inr h1)
end
theorem FI {M:Model}{A:Around}{E:Value->Shared->Prop}{K:W.Frag}{C fI:Addr}{env:Env}{s:Shared}{x:Sem Value}{Q:Flow->Shared->Prop}(hC:W6 K C fI)(hh:A.handled=none)(h:wpAny M A x (fun v s1=>∃ e od,v=.ref e/\OP s1.heap e C od/\K.In s1.heap/\E (.ref e) s1) E s):wpAny M A (raiseStmt env (some x) none) Q E s:=by
 unfold raiseStmt;refine wpAny_bind (wpAny_mono h (fun v s1 h1=>?_) fun _ _ x=>x);obtain⟨e,od,rfl,⟨t,he⟩,KX,hE⟩:=h1;obtain⟨z1,z2,z3,z4,z5,z6,z7,z8,z9,y1,y2,y3,y4,y5,y6,y7,mN,hO,hN,X7,hT⟩:=ya KX hC.ex;have hcB:(Value.ref C::z1).contains (.type "BaseException")=true:=by rw[List.contains_cons,(show z1.contains (.type "BaseException")=true from hT.hasType (by decide)),Bool.or_true]
 obtain⟨hp,g,d,tk,os⟩:=s1;have UY:hp.get? e=some { cls:=.ref C,dict:=od,data:=.fields #[.ref t,.none,.none,.none,.bool false,.none]}:=he
 repeat (first | with_reducible refine wpAny_loadPart_at UY ?_ | with_reducible refine wpAny_loadPart_at hO ?_ | (with_reducible refine wpAny_isSubtype_exc hO ?_;rw[hcB]) | wp_step)
 exact wpAny_raiseNew_none hh hE
noncomputable def rmA (H:Hp)(z:Addr):Hp:=fun a=>if a=z then none else H a
def Ml (X:Cx)(G:Gr)(E:XK):Prop:=∀ (pins:List (Addr×Obj)) (st:L2.St) (H:Hp) (s:Shared) (ea C dx:Addr),L2.Inv X pins st (upd H ea (xT ea C (some dx))) s->H ea=none->G.H ea=none->E (.ref C) (some dx) H->X.xe (.ref ea) s
section
variable {P:Program}{w:World}{K:W.Frag}{mg:Str->Option Value}{base:Heap}{N:List Str}{qual:Str}{scope:Scope}{f:Addr}{cd:Value}{A:Around}{outer:List Env}{s0:Shared}{H0:Hp}{E:XK}{G:Gr}
theorem Mm {P:Program}{w:World}{H:Hp}{h:Heap}{z:Addr}{ph:Heap->Prop}(aR:pJ P w (upd H z (.ext ph)) h)(hz:H z=none):pJ P w H h:=fun a o e=>by
 have na:a≠z:=ax e hz;have k:∀ (c:Addr) (u:HO),upd H z (.ext ph) c=some u->(∀ p,u≠.ext p)->H c=some u:=fun c u q n=>by
   by_cases hc:c=z
   . subst hc;rw[ak] at q;cases q;exact absurd rfl (n _)
   . rw[ag hc] at q;exact q
 exact(aR a o (by rw[ag na];exact e)).qW (fun c u _ q=>q) (fun c q=>k c _ q (fun _ z=>by cases z)) (fun c xs q=>k c _ q (fun _ z=>by cases z)) ⟨fun c u q kq=>k c _ q (fun _ z=>by subst z;exact kq),fun c q=>by
   by_cases hc:c=z
   . rw[hc,ak] at q;exact q.elim
   . rw[ag hc] at q;exact q,fun c y q=>k c _ q (fun _ z=>by cases z)⟩
theorem Bl (hG:G.H=H0):Ml (pM (t6 P w) P w K mg base N qual scope f cd A outer s0 H0 E) G E:=by
 intro pins st H s ea C dx I hz hg hE;rw[hG] at hg;have fr:s.heap.FunFrames base (envOfC qual scope s0.heap.objs.size f cd::outer):=I.stack;let fs:=ea::kY (envOfC qual scope s0.heap.objs.size f cd::outer);have frees:∀ b∈kY (envOfC qual scope s0.heap.objs.size f cd::outer),upd H ea (xT ea C (some dx)) b=none:=I.lC;have nef:ea ∉ kY (envOfC qual scope s0.heap.objs.size f cd::outer):=fun h=>by have:=frees ea h;rw[ak] at this;cases this
 obtain⟨t,he⟩:OP s.heap ea C (some dx):=(show aM P w _ s.heap ea (xT ea C (some dx)) from I.aR ea _ ak).1;have OL:Un (kY outer) [] H0 (upd H ea (xT ea C (some dx))) s0.heap s.heap:=I.base;have oF:s0.heap.get? ea=none:=by
   cases q:s0.heap.get? ea with
   | none=>rfl
   | some o=>have:=OL.free ea o q hg (by simp);rw[ak] at this;cases this
 have bs:(W.hideAll s.heap fs).StaysIn s.heap:=fun b o q=>W.of_hideAll _ q
 have be:(W.hideAll s.heap fs).get? ea=none:=W.hideAll_none _ (abz ..);have UY:s.heap.get? ea=some { cls:=.ref C,dict:=some dx,data:=.fields #[.ref t,.none,.none,.none,.bool false,.none]}:=he;have di:p0 s.heap ea (some dx):=⟨_,UY,rfl⟩
 have hl:s.heap.FunFrames (W.hideAll s.heap fs) (envOfC qual scope s0.heap.objs.size f cd::outer):=W.funFrames_hide fr fun env hv b hb=>aaI _ (aco.mpr ⟨env,hv,hb⟩)
 refine wpAny_mono (nP (oE _ _) (wpAny_leaving_firstW (A:=A.deeper (envOfC qual scope s0.heap.objs.size f cd)) (a0:=.ref t) (base:=W.hideAll s.heap fs)
   (Q:=fun _ s2=>∃ h',s2={ s with heap:=h'}/\Heap.LeftW (W.hideAll s.heap fs) (envOfC qual scope s0.heap.objs.size f cd::outer) ea (.ref C) (.ref t) s.heap h') (I.ok.frames) hl rfl UY bs be rfl rfl rfl fun h' L=>⟨h',rfl,L⟩)) (fun _ s2 zq=>?_) (fun _ _ z=>z);obtain⟨⟨h',e2,L⟩,kd⟩:=zq
 subst e2;obtain⟨k1,⟨_,_,k2⟩,k3,k4⟩:=L;have fl:acg (W.hideAll s.heap fs) outer ea (.ref C) (.ref t) h':=⟨k1,be,k2,k3⟩
 have one:∀ b u,upd H ea (xT ea C (some dx)) b=some u->(∀ p,u≠.ext p)->H b=some u:=fun c u q n=>by
   by_cases hc:c=ea
   . subst hc;rw[ak] at q;cases q;exact absurd rfl (n _)
   . rw[ag hc] at q;exact q
 have Ux:Un (kY (envOfC qual scope s0.heap.objs.size f cd::outer)) [] (upd H ea (xT ea C (some dx))) H s.heap s.heap:=by
   refine⟨fun b o e _ _ _=>e,fun b o e _ _ _=>⟨o.slots,e⟩,fun b o e n _=>?_,fun b o e _=>⟨o,e⟩,fun b xs e=>one b _ e (fun _ z=>by cases z),fun b ob u e=>one b _ e (fun _ z=>by cases z),fun b ps e=>⟨#[],by rw[one b _ e (fun _ z=>by cases z)];simp⟩⟩;by_cases hb:b=ea
   . subst hb;rw[ak] at n;cases n
   . rw[ag hb] at n;exact n
 refine Lu (s':=s) (g:=s.heap) (H':=H) I rfl I.bare Ux (Mm I.aR hz) fl (fun b o q=>W.of_hideAll _ q) (fun b o e n hf=>W.hideAll_get _ e ?_) (fun b o e hf hb=>⟨o,W.hideAll_get _ e ?_⟩) (fun a o e=>?_) (fun b o _ e hd=>k4 b o e hd) oF hz (di.keep kd (let ⟨o,q,_⟩:=fl.there;⟨o,q⟩)) hE
 . intro h
   rcases aaz.mp h with h | h
   . subst h;rw[ak] at n;cases n
   . exact hf h
 . intro h
   rcases aaz.mp h with h | h
   . exact hb h
   . exact hf h
 . have na:a≠ea:=ax e hz
   obtain⟨u,hu⟩:=rV (I.aR a o (by rw[ag na];exact e));refine⟨u,W.hideAll_get _ hu fun h=>?_⟩;rcases aaz.mp h with h | h
   . exact na h
   . have:=frees a h;rw[ag na,e] at this;cases this
end
section
variable {X:Cx}{G:Gr}{E:XK}{dl:List Slot}{C:Addr}{e:Expr}{p pos np bf:Pos}{x f:Str}{d:Dt}{ok:Dt->Prop}{CX:qu}{k k':Nat}{t:TA}
theorem U6 {H:Hp}{z:Addr}{u:HO}:upd (rmA H z) z u=upd H z u:=by
 funext b
 by_cases h:b=z
 . subst h;rw[ak,ak]
 . rw[ag h,ag h];exact if_neg h
theorem uG (hx:Ml X G E)(F:XF X.prog X.w X.K X.mg X.base CX k x C f ok)(nx:C1 CX)(hr:dk k' X.A)(nO:X.calm=true)(ha:EE X G dl e d)(aR:ok d)(rB:autoParam (k+1<=k') jO)(hg:autoParam (Gl X x) jp)(jg:autoParam ((x == ("__debug__":Str))=false) jO)(he:autoParam (starEach [e] X.env=(false,eval e X.env)::starEach [] X.env) jp)(kW:autoParam ((backTo bf (starEach [] X.env)).any (·.1)=false) jp):ES X G E dl (.Raise (some (.Call (.Name x np) [e] [] bf)) none pos) (.ex (.ref C) [(f,d)]):=by
 intro pins s st H D I ⟨Hf,S,kk⟩;obtain⟨fI,fd,ps,Fo,hC,hm,hb⟩:=id F.ex;rw[arm_exec_Raise];refine wpAny_bind (wpAny_standAt ?_);refine FI (x:=(do let v <- eval (.Call (.Name x np) [e] [] bf) X.env;standAt pos;pure v)) hC (I.ok.hd nO) (wpAny_bind (bZ (Mj (p:=np) (E:=E0) F hr nx.passes (ae ha ai he) rB hg jg he kW pins s st H (fun v H'=>∃ z dx H3,v=.ref z/\H'=upd H3 z (xT z C (some dx))/\H3 z=none/\G.H z=none/\E (.ref C) (some dx) H3) I
   ⟨Hf,S,fun vs av H1 g1 r1=>?_⟩) fun v s1 ⟨w,H1,I1,r1,q1⟩=>wpAny_bind (wpAny_standAt (wpAny_pure ?_))))
 . cases r1 with
   | @cons v _ _ _ r t=>
     cases t;refine⟨_,rfl,fun z hz=>⟨av,H1,z,_,d,rfl,rfl,hz,g1.sub,r,aR,fun bD H2 dx g2 hd sE=>⟨rfl,z,dx,rmA (upd H2 dx (.xd [(f,v)])) z,rfl,U6.symm,if_pos rfl,S.gr.big.free (g1.big.free hz),?_⟩⟩⟩;obtain⟨g3,hd1,fz⟩:=YE (o:=.xd [(f,v)]) g1.sub hz g2 hd;have g4:aU av H1 (upd bD dx (.xd [(f,v)])) (rmA (upd H2 dx (.xd [(f,v)])) z):=by
       refine⟨fun b w h=>?_,g3.bJ,fun b w h=>?_,g3.new⟩
       . show(if b=z then none else _)=_
         rw[if_neg (ax h hz)];exact g3.big _ _ h
       . show(if b=z then none else _)=_
         have bz:b≠z:=fun q=>by rw[q,ag (Ne.symm sE),fz] at h;cases h
         rw[if_neg bz];exact g3.sub _ _ h
     exact kk (some dx) _ _ (S.gr.trans (g1.trans g4)) ⟨[(f,v)],ak,.cons (r.mono (g2.bJ.trans (bj (g2.sub.free hd)))) .nil⟩
 . obtain⟨z,dx,H3,rfl,rfl,hz,hgz,hE⟩:=q1
   cases (show v=Value.ref z from r1);exact⟨z,some dx,rfl,(show aM X.prog X.w _ s1.heap z (xT z C (some dx)) from I1.aR z _ ak).1,I1.ke,hx pins st H3 s1 z C dx I1 hz hgz hE⟩
end
section
variable {X:Cx}{G:Gr}{E:XK}{dl:List Slot}{C:Addr}{e:Expr}{pos:Pos}{f:Str}{d:Dt}{fs:List (Str×Dt)}
theorem Mn {M:Model}{K:W.Frag}{h:Heap}{x C dx:Addr}{f:Str}{mA:Str->Option Value}{v:Value}(X:K.In h)(S:R8 K C f)(I:pX h x C dx)(hn:h.Ns1 dx mA)(hv:mA f=some v):W.Looks M h (Builtin.ObjectAttr.find (.ref x) (.ref C) f) (.value v):=by
 obtain⟨ox,h1,h2,h3,vs,h4⟩:=I;obtain⟨cd,hc,hhd⟩:=ab8.mp S.hd;have own:W.Looks M h (Builtin.ObjectAttr.inOwnDict f (.ref x)) (some v):=by
   intro A Q E s k q;have KX:=X.keeps k;show wpAny M A (Builtin.ObjectAttr.ownDict x >>= fun d=>Builtin.ObjectAttr.inDict f d) Q E s;unfold Builtin.ObjectAttr.ownDict instanceDict loadHead;refine wpAny_bind (wpAny_bind (wpAny_loadPart (k _ _ h1) ?_));rw[h4];refine wpAny_bind (wpAny_loadPart (k _ _ h1) ?_);rw[h2];refine wpAny_bind ((W.looks_clsIn KX hc).here ?_);rw[hhd,h3,if_neg (by decide)];refine wpAny_pure (a:=some dx) ?_;show wpAny M A (nsGet dx f) Q E s;refine wpAny_nsGet (hn.keeps k).ns ?_;rw[hv];exact q
 refine(W.looks_findIn X S.na).andThen ?_;refine(W.Looks.now:W.Looks M h (Builtin.ObjectAttr.getOf none) none).andThen ?_;refine(W.Looks.now:W.Looks M h (Builtin.ObjectAttr.dataDescriptor? none none) none).andThen ?_;refine own.andThen ?_;exact W.Looks.tag .now
theorem HG (he:EE X G dl e (.sO C fs))(T:Ld X.K C)(S:R8 X.K C f)(hf:fs.lookup f=some d)(hb:autoParam (attributeBase e f X.env (eval e X.env)=eval e X.env) jp):EE X G dl (.Attribute e f pos) d:=by
 intro pins s st H Q I ⟨Hf,S0,kk⟩;refine GZ hb (bZ (he pins s st H (fun v H'=>∃ av,aU Hf H av H'/\Rep X.K av v (.sO C fs)) I ⟨Hf,S0,fun v av H1 g1 r1=>⟨av,g1,r1⟩⟩) fun u s1 zq=>?_);obtain⟨w,H1,I1,rw1,av,g1,r1⟩:=zq;cases r1 with
 | @sO a _ dx ph fv _ q hp g rr=>
   cases (show u=Value.ref a from rw1);have ok:aM X.prog X.w H1 s1.heap a (.ext ph):=I1.aR a _ (g1.sub _ _ q);obtain⟨mA,hn,hr⟩:=(show aM X.prog X.w H1 s1.heap dx (.xd fv) from I1.aR dx _ (g1.sub _ _ g))
   obtain⟨v,e1,rv⟩:=rr.lookup hf;have hr:=hr f;rw[e1] at hr;cases hm:mA f with
   | none=>rw[hm] at hr;exact hr.elim
   | some z=>
     rw[hm] at hr;refine wpAny_bind (wpAny_mkText ?_);refine Lc (s:={ s1 with toks:=s1.toks+1}) I1.ke (hp _ ok.1).of T.ga T.gt T.be (Mn I1.ke S (hp _ ok.1) hn hm) ?_;have q2:EP X pins st Q z { s1 with toks:=s1.toks+1}:=⟨v,H1,I1.tok _,hr,kk v av H1 g1 rv⟩
     exact W.handed_on (Ab hr) q2
end
def EX2 (K:PySem.W.Frag)(C:Addr)(fs:List (Str×Dt))(Hf H:Hp):XK:=fun c od H1=>c=.ref C/\∃ av,aU Hf H av H1/\ExcAt K av od fs
section
variable {X:Cx}{pins:List (Addr×Obj)}{st:L2.St}{H H':Hp}{s s':Shared}{h2 B:Heap}{ea t:Addr}{C D:Addr}{xe:Value->Shared->Prop}{G:Gr}{Hf:Hp}
theorem Jo {ph:Heap->Prop}(I:L2.Inv X pins st H s)(os:s'.os=s.os)(bare:AllBare s'.gens)(un:Un (kY X.stack) [] H H' s.heap s'.heap)(aR:pJ X.prog X.w H' s'.heap)(bg:∀ b o,B.get? b=some o->s'.heap.get? b=some o)(EN:∀ b o,s.heap.get? b=some o->H b=none->b ∉ kY X.stack->B.get? b=some o)(ER:∀ b o,s.heap.get? b=some o->b ∉ kY X.stack->∃ o',B.get? b=some o')(b8:∀ a o,H' a=some o->∃ ob,B.get? a=some ob)(bh:∀ b o,B.get? b=some o->h2.get? b=some o)(ups:∀ b o,s'.heap.get? b=some o->(∀ vs,o.data≠.fields vs)->∃ sl,h2.get? b=some { o with slots:=sl})(hn:s.heap.get? ea=none)(sD:H' ea=none)(hI:ph h2)(hth:∃ o,h2.get? ea=some o)(jQ:∀ h1 h2,ph h1->(∀ o,h1.get? ea=some o->h2.get? ea=some o)->ph h2):L2.Inv X pins st (upd H' ea (.ext ph)) { s' with heap:=h2}:=by
 have slot:∀ b o,s.heap.get? b=some o->H b=none->b∈kY X.stack->∃ sl,h2.get? b=some { o with slots:=sl}:=fun b o e0 oF hf=>by
   obtain⟨sl,e1⟩:=un.slot b o e0 oF hf (by simp);obtain⟨_,o2,e2,hd⟩:=I.stack.mem hf;have e2:s.heap.get? b=some o2:=e2;rw[e0] at e2;cases e2;obtain⟨Fm,e3⟩:=ups b _ e1 hd;exact⟨Fm,e3⟩
 have sm:aH H' (upd H' ea (.ext ph)):=bj sD;refine I.xw (s':={ s' with heap:=h2}) (ch:=[]) os ⟨fun b o e0 oF hf _=>bh _ _ (EN b o e0 oF hf),fun b o e0 oF hf _=>slot b o e0 oF hf,fun b o e0 oF hx=>?_,fun b o e0 _=>?_,fun b xs e=>sm _ _ (un.t9 b xs e),fun b o u e=>sm _ _ (un.sG b o u e),fun b ps e=>let ⟨m,q⟩:=un.ua b ps e;⟨m,sm _ _ q⟩⟩ (fun a o e=>?_) bare (fun b z=>absurd z (by simp))
 . have ne:b≠ea:=fun z=>by rw[z,hn] at e0;cases e0
   rw[ag ne];exact un.free b o e0 oF hx
 . by_cases hf:b∈kY X.stack
   . obtain⟨sl,e1⟩:=slot b o e0 (I.lC b hf) hf
     exact⟨_,e1⟩
   . obtain⟨o2,e2⟩:=ER b o e0 hf
     exact⟨o2,bh _ _ e2⟩
 . by_cases ha:a=ea
   . subst ha
     rw[ak] at e;cases e;exact⟨hI,hth,fun h1 h2 q k=>jQ h1 h2 q k⟩
   . rw[ag ha] at e
     refine(aR a o e).qW (fun b u hb eu=>?_) (fun b z=>sm _ _ z) (fun b xs z=>sm _ _ z) (.of sm);have Ff:∃ ob,B.get? b=some ob:=by
       rcases hb with rfl | hb | hb
       . exact b8 _ _ e
       . exact b8 _ _ hb
       . cases qq:H' b with
         | none=>rw[qq] at hb;exact hb.elim
         | some u=>exact b8 _ _ qq
     obtain⟨ob,eb⟩:=Ff;have:=bg _ _ eb;rw[eu] at this;cases this;exact bh _ _ eb
theorem Qf {fs:List (Str×Dt)}{dlb:List Slot}{e:Value}{i:Nat}{dn n:Str}{np vK:Pos}{b0:Stmt}{nV:List Stmt}{Dn:Ends}{G':Gr}{dl1:List Slot}(I:L2.Inv X pins st H s)(jQ:X.stack=X.env::X.outer)(Qa:X.env.frame=some X.env.locals)(x:t6 X.prog X.w X.stack H s (EX2 X.K C fs G'.Hf G'.H) e s')(sE:fs≠[])(hN:X.N.Nodup)(hi:X.N[i]?=some n)(hk:X.env.kindOf n=some .local)(hD:Uz X.K D)(hm:X.mg dn=some (.ref D))(hg:Gl X dn)(jg:(dn == ("__debug__":Str))=false)(sF:W.mroIn X.K D (.type "BaseException")=some true)(Bj:W.mroIn X.K C (.ref D)=some true)(hs:∀ (ea:Addr) xe,mP { X with A:=X.A.mark (some (.ref ea)),calm:=false,xe:=xe} G E0 (dlb.set i (.val (.sO C fs))) (b0::nV) (.nx dl1))(Sb:dh X.K G st G'.Hf G'.H dlb)(k:∀ st aK H,aH G'.Hf aK->dh X.K G st aK H (dl1.set i .aY)->Dn.nx st H):wpAny (model X.prog X.w) X.A (noteFrame e X.env) (fun _ s2=>wpAny (model X.prog X.w) X.A (setFlight e none) (fun _ s3=>wpAny (model X.prog X.w) X.A (handleBy e X.env [.ExceptHandler (some (.Name dn np)) (some n) (b0::nV) vK]) (SP X pins Dn) X.xe s3) X.xe s2) X.xe s':=by
 obtain⟨ea,C',od,H',B,t,rfl,os,bare,un,aR,fl,EN,ER,b8,hn,sD,W5,rfl,av,g1,hx⟩:=x;obtain⟨dx,rfl,fv,UG,hrf⟩:∃ dx,od=some dx/\∃ fv,av dx=some (.xd fv)/\bA X.K av fv fs:=by
   cases od with
   | none=>exact absurd hx sE
   | some dx=>exact⟨dx,rfl,hx⟩
 have Yy:=fl;rw[jQ] at fl;refine wpAny_mono (nP (Ai _ _) (wpAny_looks_onW (A:=X.A) (s:=s') (Q:=fun _ s2=>∃ h1,s2={ s' with heap:=h1}/\Heap.HeldW B (X.env::X.outer) ea (.ref C) (.ref t) X.env.locals h1/\s'.heap.UpToSlots h1) (by rw[I.ok.frames,jQ]) Qa fl fun h1 held up1=>⟨h1,rfl,held,up1⟩)) (fun _ s2 zq=>?_) (fun _ _ z=>z);obtain⟨⟨h1,e1,held,up1⟩,kd1⟩:=zq;subst e1;refine wpAny_mono (nP (eW _ _) (wpAny_landsW (s:={ s' with heap:=h1}) (Q:=fun _ s3=>∃ h2,s3={ s' with heap:=h2}/\acg B (X.env::X.outer) ea (.ref C) (.ref t) h2/\h1.UpToSlots h2) held fun h2 HF Yz=>⟨h2,rfl,HF,Yz⟩)) (fun _ s3 zq=>?_) (fun _ _ z=>z);obtain⟨⟨h2,e2,HF,Yz⟩,kd2⟩:=zq;subst e2;rw[<- jQ] at HF;have Me:∀ b o,s'.heap.get? b=some o->(∀ vs,o.data≠.fields vs)->∃ sl,h2.get? b=some { o with slots:=sl}:=fun b o e hd=>by
   obtain⟨sl,e1⟩:=up1 b o e hd;obtain⟨Fm,e2⟩:=Yz b _ e1 hd;exact⟨Fm,e2⟩
 have I2:=Dm I os bare un aR Yy.1 EN ER b8 HF.1 Me;refine wpAny_handleBy_cons (codeAny_handlers_test (lD (X:={ X with A:=X.A.mark (some (.ref ea)),calm:=false}) (nU I2) hg hm ?_ jg)) (by intro q;cases q);refine Hx (K:=X.K) (C:=C) I2.ke HF.there hD.ex sF Bj ?_;refine codeAny_handlers_suite_as (wpAny_mono (nP (eW _ _) (lands_againW (s:={ s' with heap:=h2}) (Q:=fun _ s4=>∃ h3,s4={ s' with heap:=h3}/\acg B X.stack ea (.ref C) (.ref t) h3/\h2.UpToSlots h3) HF fun h3 R7 YA=>⟨h3,rfl,R7,YA⟩)) (fun _ s4 zq=>?_) (fun _ _ z=>z));obtain⟨⟨h3,e3,R7,YA⟩,kd3⟩:=zq;subst e3;have di3:p0 h3 ea (some dx):=W5.keep ((kd1.trans kd2).trans kd3) (let ⟨o,q,_⟩:=R7.there;⟨o,q⟩);have hI:pX h3 ea C dx:=by
   obtain⟨o,q,hd⟩:=di3;obtain⟨oe,vs,q1,q2,q3,_⟩:=R7.first
   rw[q] at q1;cases q1;exact⟨o,q,q2,hd,vs,q3⟩
 have I3:=Jo (ph:=fun h=>pX h ea C dx) I os bare un aR Yy.1 EN ER b8 R7.1 (fun b o e hd=>by
   obtain⟨sl,e1⟩:=Me b o e hd;obtain⟨Fm,e2⟩:=YA b _ e1 hd;exact⟨Fm,e2⟩) hn sD hI (let ⟨o,q,_⟩:=hI;⟨o,q⟩) (fun h1 h2 ⟨o,q1,q2⟩ kk=>⟨o,kk _ q1,q2⟩)
 refine sH (X:={ X with A:=X.A.mark (some (.ref ea)),calm:=false}) (v:=.ref ea) (nU I3) hN hi (.inl hk) rfl (fun s4 I4=>?_) (.inr hk);have g2:aU G'.Hf G'.H (upd av ea (.ext fun h=>pX h ea C dx)) (upd H' ea (.ext fun h=>pX h ea C dx)):=g1.trans (.alloc g1.sub sD);have sm1:aH av (upd av ea (.ext fun h=>pX h ea C dx)):=bj (g1.sub.free sD);have S4:dh X.K G (st.set i (some (.ref ea))) (upd av ea (.ext fun h=>pX h ea C dx)) (upd H' ea (.ext fun h=>pX h ea C dx)) (dlb.set i (.val (.sO C fs))):=
   (Sb.grow g2).set (.sO ak (fun h z=>z) (sm1 _ _ UG) (hrf.mono sm1))
 refine wpAny_mono (hs ea _ pins s4 _ _ { nx:=fun st H=>∃ aK,aH G'.Hf aK/\dh X.K G st aK H dl1,rt:=fun _ _=>False} (nU (oH I.ok I4)) ⟨_,S4,fun st aK H sm S=>⟨aK,g2.bJ.trans sm,S⟩⟩) (fun f s5 q=>?_) (fun _ _ z=>z);cases f with
 | next=>
   obtain⟨σ,H5,I5,vq,sm5,S5⟩:=q;refine Hy (oH I.ok I5) hN hi hk fun s6 I6=>⟨_,H5,I6,k _ vq H5 sm5 (Dp S5)⟩
 | brk=>obtain⟨_,_,_,z⟩:=q;exact z.elim
 | cont=>obtain⟨_,_,_,z⟩:=q;exact z.elim
 | ret u=>obtain⟨_,_,_,_,_,z⟩:=q;exact z.elim
end
section
variable {P:Program}{w:World}{K:W.Frag}{mg:Str->Option Value}{base:Heap}{CX:qu}{x qual:Str}{st:Stmt}{f:Addr}{fd:FuncData}{N ps:List Str}{k n:Nat}{R:List Dt->Res->Prop}
theorem U7 (F:xV K x qual st f fd)(S:aq N ps (af st))(hn:ps.length=n)(nL:∀ (bc:Value) (A:Around) (outer:List Env) (s:Shared) (H:Hp) (E:XK) (G:Gr) (ds:List Dt) (r:Res),dk k (A.deeper (envOfC qual (af st) s.heap.objs.size f bc))->ds.length=n->R ds r->G.H=H->∃ o,Comes o r/\mP (pM CX P w K mg base N qual (af st) f bc A outer s H E) G E (slots N ds) (aG st) o):jh P w K mg base CX (k+1) f fd ps (Fg K n R):=by
 obtain⟨oc,od,dV,kV,doc,pm,an,bc,ct,wA,rfl,lk,mh⟩:=F.ex;refine CI lk mh S (fun vs H Q E zq=>by obtain⟨Hf,ds,r,s,rp,hl,_⟩:=zq;rw[rp.length,hl,hn]) fun A outer s H vs Q E hr zq=>?_;obtain⟨Hf,ds,r,sm,rp,hl,hR,hk⟩:=zq
 obtain⟨o,hc,hb⟩:=nL bc A outer s H E ⟨Hf,H⟩ ds r hr hl hR rfl;exact⟨_,hb,Hf,ux sm rp,hc.ends hk⟩
theorem Mo (F:Ui K x qual st f fd):xV K x qual st f fd:=by
 obtain⟨oc,od,kV,doc,pm,an,bc,ct,wA,e,lk,mh⟩:=F.ex;exact⟨oc,od,_,kV,doc,pm,an,bc,ct,wA,e,lk,mh⟩
end
section
variable {X:Cx}{G:Gr}{E:XK}{dl:List Slot}{a e:Expr}{es:List Expr}{ds dvs:List Dt}{pos p apos:Pos}{x m y:Str}{C:Addr}{fs fe:List (Str×Dt)}{k k' n:Nat}{R:List Dt->Res->Prop}{ob:Expr}{c:Value}
def tEx (K:W.Frag)(G:Gr)(E:XK)(dl:List Slot)(c:Value)(fe:List (Str×Dt)):TE:=fun st H _=>∃ Hf,dh K G st Hf H dl/\∀ od aK H',aU G.Hf G.H aK H'->ExcAt K aK od fe->E c od H'
abbrev YF (X:Cx)(G:Gr)(E:XK)(dl:List Slot)(e:Expr)(c:Value)(fe:List (Str×Dt)):Prop:=PE X e (tEx X.K G E dl c fe)
theorem Qg {pl:Sem Bool}(he:EE X G dl ob (.obj C fs))(F:Ho X.prog X.w X.K X.mg X.base (t6 X.prog X.w) k C m n dvs R)(hx:Passes (t6 X.prog X.w) X E)(hr:dk k' X.A)(ha:EA X G dl (e::es) ds)(h:R (.obj C fs::(ds ++ dvs)) (.exc c fe))(rB:autoParam (k<=k') jO)(hl:autoParam ((Dt.obj C fs::(ds ++ dvs)).length=n) jp)(oC:autoParam (fs.lookup m=none) jp)
   (jQ:autoParam (starEach (e::es) X.env=(false,eval e X.env)::starEach es X.env) jp) (kW:autoParam ((backTo pos (starEach es X.env)).any (·.1)=false) jp)
   (ht:autoParam (eval (.Call (.Attribute ob m apos) (e::es) [] pos) X.env=(do
     let ov <- eval ob X.env
     standAt apos.atName
     let (f,first) <- holding [ov] (getMethod ov m pl)
     callWith pos f first (backTo pos (starEach (e::es) X.env)) (backToKw pos (keywordEach [] X.env)))) jp):YF X G E dl (.Call (.Attribute ob m apos) (e::es) [] pos) c fe:=by
 obtain⟨f,fd,ps,Fh,vds,Fo,hm,hb,hd,A7⟩:=F.ex;exact gX (AV (dvs:=vds) (pl:=pl) (E:=E) he F.cl hm Fo (hr.mono rB) hb hd hx ha jQ kW ht) fun st H Q zq=>zn zq fun Hf S kk=>fun v av H1 g1 r1=>by
   cases r1 with
   | @obj a _ dx fv _ q r=>
     exact⟨a,dx,fv,rfl,d8 g1.sub q,r.none_of oC,av,S.grow g1,fun vs bD H2 g2 r2=>⟨bD,_,.exc c fe,g2.sub,.cons (.obj (d8 g2.bJ q) (r.mono g2.bJ)) (r2.append (A7 _)),hl,h,fun od jP H3 g3 xx=>kk od jP H3 (S.gr.trans ((g1.trans g2).trans g3)) xx⟩⟩
theorem uH {pl:Sem Bool}(he:EE X G dl ob (.obj C fs))(F:MF X.prog X.w X.K X.mg X.base (t6 X.prog X.w) k C m n R)(hx:Passes (t6 X.prog X.w) X E)(hr:dk k' X.A)(ha:EA X G dl (e::es) ds)(h:R (.obj C fs::ds) (.exc c fe))(rB:autoParam (k<=k') jO)(hl:autoParam ((Dt.obj C fs::ds).length=n) jp)(oC:autoParam (fs.lookup m=none) jp)
   (jQ:autoParam (starEach (e::es) X.env=(false,eval e X.env)::starEach es X.env) jp) (kW:autoParam ((backTo pos (starEach es X.env)).any (·.1)=false) jp)
   (ht:autoParam (eval (.Call (.Attribute ob m apos) (e::es) [] pos) X.env=(do
     let ov <- eval ob X.env
     standAt apos.atName
     let (f,first) <- holding [ov] (getMethod ov m pl)
     callWith pos f first (backTo pos (starEach (e::es) X.env)) (backToKw pos (keywordEach [] X.env)))) jp):YF X G E dl (.Call (.Attribute ob m apos) (e::es) [] pos) c fe:=
 Qg (pl:=pl) he (Ft F) hx hr ha (by rw[aaT];exact h) rB (by rw[aaT];exact hl) oC jQ kW ht
theorem Mp (F:GF X.prog X.w X.K X.mg X.base (t6 X.prog X.w) k x n R)(hx:Passes (t6 X.prog X.w) X E)(hr:dk k' X.A)(ha:EA X G dl (e::es) ds)(h:R ds (.exc c fe))(rB:autoParam (k<=k') jO)(hl:autoParam (ds.length=n) jp)(hg:autoParam (Gl X x) jp)(jg:autoParam ((x == ("__debug__":Str))=false) jO)(he:autoParam (starEach (e::es) X.env=(false,eval e X.env)::starEach es X.env) jp)(kW:autoParam ((backTo pos (starEach es X.env)).any (·.1)=false) jp):YF X G E dl (.Call (.Name x p) (e::es) [] pos) c fe:=by
 obtain⟨f,fd,ps,Fo,hm,hk,hb⟩:=F.ex;exact gX (AU (dvs:=[]) (E:=E) Fo (hr.mono rB) hg hm hk hb .nil hx ha jg he kW) fun st H Q zq=>zn zq fun Hf S kk=>fun vs av H1 g1 r1=>⟨av,ds,.exc c fe,g1.sub,by rw[aaT];exact r1,hl,h,fun od bD H2 g2 xx=>kk od bD H2 (S.gr.trans (g1.trans g2)) xx⟩
theorem jX (h:YF X G E dl e c fe)(hs:autoParam (swapsWith e none pos.line X.env=pure false) jp):ES X G E dl (.Expr e pos) (.ex c fe):=vG (kf h hs) fun D st H h=>h
theorem Mq (i:Nat){py:Pos}(hN:X.N.Nodup)(h:YF X G E dl e c fe)(hi:autoParam (X.N[i]?=some y) jp)(hy:autoParam (Loc X.env.scope y) vb)(hs:autoParam (swapsWith e (some (.Name y py)) pos.line X.env=pure false) jp)(hf:autoParam (X.fn y=true\/X.env.scope.names.lookup y=some .local) wr):ES X G E dl (.Assign [.Name y py] e pos) (.ex c fe):=vG (AN hN hi hy h hs hf) fun D st H h=>h
end
def ExK (X:Cx)(pn:List (Addr×Obj))(xl:Value->Shared->Prop)(st:L2.St)(Hf H:Hp)(C:Addr)(fs:List (Str×Dt)):Prop:=∀ H1 s1 e s',L2.Inv { X with pn:=pn,xe:=xl} [] st H1 s1->t6 X.prog X.w X.stack H1 s1 (EX2 X.K C fs Hf H) e s'->xl e s'
def REx (X:Cx)(dl:List Slot)(e:Expr)(C:Addr)(fs:List (Str×Dt)):Prop:=∀ pn xl s st uB H0 Hf H,ExK X pn xl st uB H0 C fs->L2.Inv { X with pn:=pn,xe:=xl} [] st H s->dh X.K ⟨uB,H0⟩ st Hf H dl->wpAny (model X.prog X.w) X.A (eval e X.env) (fun _ _=>False) xl s
def Sd (X:Cx)(dl:List Slot)(st:Stmt)(C:Addr)(fs:List (Str×Dt)):Prop:=∀ pn xl s σ uB H0 Hf H,ExK X pn xl σ uB H0 C fs->L2.Inv { X with pn:=pn,xe:=xl} [] σ H s->dh X.K ⟨uB,H0⟩ σ Hf H dl->wpAny (model X.prog X.w) X.A (exec st X.env) (fun _ _=>False) xl s
section
variable {X:Cx}{dl:List Slot}{b e c:Expr}{es:List Expr}{ds dvs:List Dt}{pos apos:Pos}{x m:Str}{C Co:Addr}{fs fe:List (Str×Dt)}{k k' n:Nat}{R:List Dt->Res->Prop}{ob:Expr}
theorem Qh {CX:qu}{f:Addr}{fd:FuncData}{ps:List Str}{sp:Sp}{dvs:List V}{ds:List Value}{E:XK}{pins:List (Addr×Obj)}{σ:L2.St}{H:Hp}{s:Shared}{Q:VK}{us:List Value}{vs:List V}(F:jh X.prog X.w X.K X.mg X.base CX k f fd ps sp)(hr:dk k X.A)(hb:Binds X.K fd ps ds)(hd:Vals dvs ds)(hx:∀ H1 s1 e s',L2.Inv X pins σ H1 s1->CX X.stack H1 s1 E e s'->X.xe e s')(I:L2.Inv X pins σ H s)(r:Vals vs us)(h:sp (vs ++ dvs) H Q E):wpAny (model X.prog X.w) X.A (call (.ref f) us) (EP X pins σ Q) X.xe s:=by
 have r2:Vals (vs ++ dvs) (us ++ ds):=r.append hd;have hl:(us ++ ds).length=ps.length:=by rw[<- r2.length];exact F.len _ _ _ _ h
 refine wpAny_call (codeAny_mono (F.run X.A X.stack s H ⟨us,[]⟩ (us ++ ds) (vs ++ dvs) Q E hr I.Pa (hb s us I.ke hl) r2 h) fun r s' hq=>?_);cases r with
 | error e=>exact hx H s e s' I hq
 | ok fl=>
   cases fl with
   | ret u=>exact I.after hq
   | next=>exact False.elim hq
   | brk=>exact False.elim hq
   | cont=>exact False.elim hq
theorem Bm {pl:Sem Bool}(he:∀ pn xl G1,EE { X with pn:=pn,xe:=xl} G1 dl ob (.obj Co fs))(F:Ho X.prog X.w X.K X.mg X.base (t6 X.prog X.w) k Co m n dvs R)(hr:dk k' X.A)(ha:∀ pn xl G1,EA { X with pn:=pn,xe:=xl} G1 dl (e::es) ds)(h:R (.obj Co fs::(ds ++ dvs)) (.exc (.ref C) fe))(rB:autoParam (k<=k') jO)(hl:autoParam ((Dt.obj Co fs::(ds ++ dvs)).length=n) jp)(oC:autoParam (fs.lookup m=none) jp)
   (jQ:autoParam (starEach (e::es) X.env=(false,eval e X.env)::starEach es X.env) jp) (kW:autoParam ((backTo pos (starEach es X.env)).any (·.1)=false) jp)
   (ht:autoParam (eval (.Call (.Attribute ob m apos) (e::es) [] pos) X.env=(do
     let ov <- eval ob X.env
     standAt apos.atName
     let (f,first) <- holding [ov] (getMethod ov m pl)
     callWith pos f first (backTo pos (starEach (e::es) X.env)) (backToKw pos (keywordEach [] X.env)))) jp):REx X dl (.Call (.Attribute ob m apos) (e::es) [] pos) C fe:=by
 intro pn xl s st uB H0 Hf H K I S;obtain⟨f,fd,ps,Fh,vds,Fo,hm,hb,hd,A7⟩:=F.ex;let X1:Cx:={ X with pn:=pn,xe:=xl}
 have I:L2.Inv X1 [] st H s:=I;refine W.methodCall_KW (pl:=pl) (bZ (he pn xl ⟨uB,H0⟩ [] s st H (fun v H'=>∃ av,aU Hf H av H'/\Rep X.K av v (.obj Co fs)) I ⟨Hf,S,fun v av H1 g1 r1=>⟨av,g1,r1⟩⟩) fun u s1 zq=>?_) ht;obtain⟨w,H1,I1,rw1,av,g1,r1⟩:=zq;cases r1 with
 | @obj q _ dx fv _ hq rr=>
   cases (show u=Value.ref q from rw1);refine rP (X:=X1) I1 (d8 g1.sub hq) F.cl hm (rr.none_of oC) ?_;refine W.callWith_K (first:=[.ref q]) (h₀:=X.base) I.ok.mod.RG hm.kp (bZ (ha pn xl ⟨uB,H0⟩ pos [] s1 st H1 (fun vs H'=>∃ bD,aU av H1 bD H'/\bK X.K bD vs ds) I1 ⟨av,S.grow g1,fun vs bD H2 g2 r2=>⟨bD,g2,r2⟩⟩) fun us s2 ⟨vs,H2,I2,rv,bD,g2,r2⟩=>⟨I2.ke,?_⟩) jQ kW;refine wpAny_mono (Qh (X:=X1) (E:=EX2 X.K C fe uB H0) (Q:=fun _ _=>False) (us:=.ref q::us) (vs:=.ref q::vs) Fo (hr.mono rB) hb hd (fun H1 s1 e s' J x=>K H1 s1 e s' J x) I2 (.cons rfl rv) ?_) (fun v s3 ⟨_,_,_,_,z⟩=>z.elim) (fun _ _ z=>z);exact⟨bD,_,.exc (.ref C) fe,g2.sub,.cons (.obj (d8 g2.bJ hq) (rr.mono g2.bJ)) (r2.append (A7 _)),hl,h,fun od jP H3 g3 xx=>⟨rfl,jP,S.gr.trans ((g1.trans g2).trans g3),xx⟩⟩
theorem yb (h:REx X dl e C fe)(hs:autoParam (swapsWith e none pos.line X.env=pure false) jp):Sd X dl (.Expr e pos) C fe:=fun pn xl s σ uB H0 Hf H K I S=>
 wpAny_Expr_any (wpAny_mono (h pn xl s σ uB H0 Hf H K I S) (fun _ _ z=>z.elim) (fun _ _ z=>z)) I.quiet hs
theorem yc {u:Bool}{UH EY:Stmt}{r1 r2:List Stmt}(hc:∀ pn xl G1,EB { X with pn:=pn,xe:=xl} G1 dl c u)(h1:u=true->Sd X dl UH C fe)(h2:u=false->Sd X dl EY C fe):Sd X dl (.If c (UH::r1) (EY::r2) pos) C fe:=by
 intro pn xl s σ uB H0 Hf H K I S;let X1:Cx:={ X with pn:=pn,xe:=xl}
 have I:L2.Inv X1 [] σ H s:=I;refine wpAny_If (bZ (hc pn xl ⟨uB,H0⟩ [] s σ H (fun b H'=>b=u/\∃ av,aU Hf H av H') I ⟨Hf,S,fun av H1 g1=>⟨rfl,av,g1⟩⟩) fun b s1 zq=>?_);obtain⟨H1,I1,eb,av,g1⟩:=zq;subst eb;cases b with
 | true=>exact wpAny_execs_cons (wpAny_mono (h1 rfl pn xl s1 σ uB H0 av H1 K I1 (S.grow g1)) (fun _ _ z=>z.elim) (fun _ _ z=>z))
 | false=>exact wpAny_execs_cons (wpAny_mono (h2 rfl pn xl s1 σ uB H0 av H1 K I1 (S.grow g1)) (fun _ _ z=>z.elim) (fun _ _ z=>z))
theorem Qi (i:Nat){G:Gr}{E:XK}{D:Addr}{dl dlb dl1:List Slot}{s0:Stmt}{rest:List Stmt}{dn n:Str}{np vK pos:Pos}{b0:Stmt}{nV:List Stmt}(jQ:X.stack=X.env::X.outer)(Qa:X.env.frame=some X.env.locals)(hN:X.N.Nodup)(hD:Uz X.K D)(hm:X.mg dn=some (.ref D))(sF:W.mroIn X.K D (.type "BaseException")=some true)(Bj:W.mroIn X.K C (.ref D)=some true)(oC:noOwn dlb=true)(hle:Le dlb dl)(sE:fe≠[])(hb:Sd X dlb s0 C fe)(hs:∀ (ea:Addr) xe G1,mP { X with A:=X.A.mark (some (.ref ea)),calm:=false,xe:=xe} G1 E0 (dlb.set i (.val (.sO C fe))) (b0::nV) (.nx dl1))(hi:autoParam (X.N[i]?=some n) jp)(hk:autoParam (X.env.kindOf n=some .local) jp)(hg:autoParam (Gl X dn) jp)(jg:autoParam ((dn == ("__debug__":Str))=false) jO):ES X G E dl (.Try (s0::rest) [.ExceptHandler (some (.Name dn np)) (some n) (b0::nV) vK] [] [] pos) (.nx (dl1.set i .aY)):=by
 intro pins s st H Dn I ⟨Hf,S,kk⟩;have Mr:=bo oC;have S':=S.weak hle;have Sb:dh X.K ⟨Hf,H⟩ st Hf H dlb:=⟨.refl S.sub,S'.len,S'.val,fun j o h=>absurd h (Mr j o),fun j _ o _ _ h=>absurd h (Mr j o)⟩
 refine wpAny_Try_except ?_;refine wpAny_execs_cons ?_;exact wpAny_mono (hb (X.pn ++ pins) (fun e s1=>wpAny (model X.prog X.w) X.A (noteFrame e X.env) (fun _ s2=>wpAny (model X.prog X.w) X.A (setFlight e none) (fun _ s3=>
     wpAny (model X.prog X.w) X.A (handleBy e X.env [.ExceptHandler (some (.Name dn np)) (some n) (b0::nV) vK]) (SP X pins Dn) X.xe s3) X.xe s2) X.xe s1) s st Hf H Hf H
   (fun H1 s1 e s' J x=>Qf (G:=G) (G':=⟨Hf,H⟩) (xZ J) jQ Qa x sE hN hi hk hD hm hg jg sF Bj (fun ea xe=>hs ea xe G) S' kk) (Bk I) Sb) (fun _ _ z=>z.elim) (fun _ _ z=>z)
end
section
variable {X:Cx}{G:Gr}{E:XK}{dl:List Slot}{e:Expr}{p pos apos bf:Pos}{x:Str}{ds OQ:List Dt}
theorem Jp (n:Nat){pn:Pos}(he:EE X G dl e (.lst OQ))(hl:ds.length+OQ.length<=sizeLine)(hd:autoParam (dl[n]?=some (.own (.lst ds))) jp)(hN:autoParam (X.N[n]?=some x) jp)(hv:autoParam (vC X.env.scope x) xz)
   (jg:autoParam ((x == ("__debug__":Str))=false) jO) (mh:autoParam ((x == ("__classdict__":Str))=false) jO)
   (kI:autoParam (attributeBase (.Name x pn) "extend" X.env (eval (.Name x pn) X.env)=eval (.Name x pn) X.env) jp)
   (xE:autoParam (((backTo bf (starEach [e] X.env)).all (fun x=>!x.1) && (backToKw bf (keywordEach [] X.env)).all (fun x=>x.1.isSome) && decide ([e].length+([]:List Keyword).length+(if ([]:List Keyword).isEmpty then 0 else 1) < 30))=true) jp)
   (kJ:autoParam ((apos.endLine == bf.line)=true) jp) (jQ:autoParam (starEach [e] X.env=(false,eval e X.env)::starEach [] X.env) jp) (hs:autoParam (swapsWith (.Call (.Attribute (.Name x pn) "extend" apos) [e] [] bf) none pos.line X.env=pure false) jp) :
   ES X G E dl (.Expr (.Call (.Attribute (.Name x pn) "extend" apos) [e] [] bf) pos) (.nx (dl.set n (.own (.lst (ds ++ OQ))))):=
 vG (kf (xD PySem.F.plainAttrs_list PySem.F.slot_list_extend PySem.F.type_list_extend IK (xR (p:=pn) n hd hN hv jg mh) (ae he ai jQ) kI xE kJ jQ rfl) hs) fun D st H zq=>aac zq fun Hf zq=>have S:=zq.1;have k:=zq.2;by
   obtain⟨q,z1,z2,z3,vs,hq,rp⟩:=S.own n _ hd;refine⟨Hf,q,S,z1,z2,⟨vs,hq,rp⟩,.inl ⟨rfl,vs,.of hq⟩,Hf,S,fun us av H1 g1 r1=>?_⟩;cases r1 with
   | cons r1 t1=>
     cases t1;cases r1 with
     | @lst b zs _ hb rz=>
       refine⟨q,b,vs,zs,rfl,rfl,g1.big _ _ hq,g1.sub _ _ hb,by rw[rp.length,rz.length];exact hl,?_⟩;exact k st av _ g1.bJ ((S.grow g1).IU hd z1 ⟨_,ak,(rp.mono g1.bJ).append rz⟩)
end
mutual
noncomputable def noL:Dt->Bool
 | .lst _=>false
 | .rq _=>false
 | .tup ds=>YG ds
 | .fw kds=>YH kds
 | .obj _ fs=>YI fs
 | .rQ _=>false
 | .xo _=>false
 | .sO _ _=>false
 | .d7 _=>false
 | .memo _ _ _ _=>false
 | .eG _ _ _ _=>false
 | .wC _ _ _=>false
 | .xH _ _ _ _ _=>false
 | .ny _=>false
 | _=>true
noncomputable def YG:List Dt->Bool
 | []=>true
 | d::r=>noL d && YG r
noncomputable def YH:List (Key×Dt)->Bool
 | []=>true
 | (_,d)::r=>noL d && YH r
noncomputable def YI:List (Str×Dt)->Bool
 | []=>true
 | (_,d)::r=>noL d && YI r
end
section
variable {X:Cx}{dl:List Slot}{e c:Expr}{pos:Pos}{x:Str}{C:Addr}{fe:List (Str×Dt)}{n:Nat}
theorem YJ {K:W.Frag}{Hf H:Hp}:∀ c od H',EX2 K C fe Hf H c od H'->EX1 C Hf H c od H':=fun c od H' ⟨h1,av,g,_⟩=>⟨h1,av,g⟩
theorem Ms (i:Nat){G:Gr}{E:XK}{D:Addr}{dl dlb dl1:List Slot}{s0:Stmt}{rest:List Stmt}{dn n:Str}{np vK pos:Pos}{b0:Stmt}{nV:List Stmt}(jQ:X.stack=X.env::X.outer)(Qa:X.env.frame=some X.env.locals)(hN:X.N.Nodup)(hD:Uz X.K D)(hm:X.mg dn=some (.ref D))(sF:W.mroIn X.K D (.type "BaseException")=some true)(Bj:W.mroIn X.K C (.ref D)=some true)(oC:noOwn dlb=true)(hle:Le dlb dl)(hb:Sd X dlb s0 C fe)(hs:∀ (ea:Addr) xe G1,mP { X with A:=X.A.mark (some (.ref ea)),calm:=false,xe:=xe} G1 E0 (dlb.set i (.val (.xo C))) (b0::nV) (.nx dl1))(hi:autoParam (X.N[i]?=some n) jp)(hk:autoParam (X.env.kindOf n=some .local) jp)(hg:autoParam (Gl X dn) jp)(jg:autoParam ((dn == ("__debug__":Str))=false) jO):ES X G E dl (.Try (s0::rest) [.ExceptHandler (some (.Name dn np)) (some n) (b0::nV) vK] [] [] pos) (.nx (dl1.set i .aY)):=by
 intro pins s st H Dn I ⟨Hf,S,kk⟩;have Mr:=bo oC;have S':=S.weak hle;have Sb:dh X.K ⟨Hf,H⟩ st Hf H dlb:=⟨.refl S.sub,S'.len,S'.val,fun j o h=>absurd h (Mr j o),fun j _ o _ _ h=>absurd h (Mr j o)⟩
 refine wpAny_Try_except ?_;refine wpAny_execs_cons ?_;exact wpAny_mono (hb (X.pn ++ pins) (fun e s1=>wpAny (model X.prog X.w) X.A (noteFrame e X.env) (fun _ s2=>wpAny (model X.prog X.w) X.A (setFlight e none) (fun _ s3=>
     wpAny (model X.prog X.w) X.A (handleBy e X.env [.ExceptHandler (some (.Name dn np)) (some n) (b0::nV) vK]) (SP X pins Dn) X.xe s3) X.xe s2) X.xe s1) s st Hf H Hf H
   (fun H1 s1 e s' J x=>P9 (G:=G) (G':=⟨Hf,H⟩) (xZ J) jQ Qa (x.mono YJ) hN hi hk hD hm hg jg sF Bj (fun ea xe=>hs ea xe G) S' kk) (Bk I) Sb) (fun _ _ z=>z.elim) (fun _ _ z=>z)
end
structure YK (k:Nat)(A:Around):Prop where
 dp:A.depth+3 * k+5 < recursionLimit
 un:A.units+16 * k+200 < cLine
structure YL (P:Program)(w:World)(K:W.Frag)(mg:Str->Option Value)(base:Heap)(CX:qu)(k:Nat)(f:Addr)(fd:FuncData)(ps:List Str)(sp:Sp):Prop where
 len:∀ vs H Q E,sp vs H Q E->vs.length=ps.length
 run:∀ (A:Around) (outer:List Env) (s:Shared) (H:Hp) (args:Args) (us:List Value) (vs:List V) (Q:VK) (E:XK),YK k A->CF P w K mg base A outer s H->BindsTo s fd args (ps.zip us)->Vals vs us->sp vs H Q E ->
   codeAny (model P w) A (.call (.ref f) args) (CR CX outer P w H s Q E) s
structure GFH (P:Program)(w:World)(K:W.Frag)(mg:Str->Option Value)(base:Heap)(CX:qu)(k:Nat)(x:Str)(n:Nat)(R:List Dt->Res->Prop):Prop where
 ex:∃ f fd ps,YL P w K mg base CX k f fd ps (Fg K n R)/\mg x=some (.ref f)/\W.keepIn K (.ref f)=true/\Binds K fd ps []
theorem yd:typeLookup (.type "list") "keys"=pure none:=am_miss_of_fast (by decide +kernel)
theorem Jq {prog:Program}{w:World}{A:Around}{E:Value->Shared->Prop}{s:Shared}{a:Addr}{o:Obj}{xs:Array Value}{k:Nat}{Q:Option Value->Shared->Prop}(hx:s.heap.get? a=some o)(hc:o.cls=.type "list")(YM:o.data=.seq xs k)(hd:o.dict=none)(hA:A.handled=none)(h:∀ h' tk,(∀ b u,s.heap.get? b=some u->h'.get? b=some u)->Q none { s with heap:=h',toks:=tk}):wpAny (model prog w) A (getAttr? (.ref a) "keys") Q E s:=by
 obtain⟨c,dct,dat,sl⟩:=o;simp only at hc YM hd;subst hc YM hd;obtain⟨hp,g,d,tk,os⟩:=s;have hT:∀ Qc,(⟨hp,g,d,Qc,os⟩:Shared).TypeIs (.ref a) "list":=fun _=>⟨_,hx,rfl⟩
 have f1:=sub_AttributeError;have f3:=F.slot_list_getattribute.lookup;have f4:=F.slot_list_getattribute.bind (.ref a);have f5:=am_list_getattr_none;unfold getAttr? getAttrBy? getAttrBy
 repeat (any_goals (first | assumption | exact hT _ | ((with_reducible show wpAny _ _ (call (Value.builtin "list.__getattribute__") _ _) _ _ _);refine call_meets F.slot_list_getattribute (hT _) am_entry_list_getattribute (F.args_list_getattribute_2 _ _) (meets_getattribute_miss_list a xs k sl "keys" _ yd (by decide +kernel)) ⟨hx,hA,fun h' Qc e Kq=>?_⟩) | wp_step))
 obtain⟨t',u',he⟩:=Kq.there;show wpAny _ _ (getattributeRaised _ _ _ _ _ _ _) _ _ _;unfold getattributeRaised
 repeat (any_goals (first | assumption | wp_step))
 exact h _ _ Kq.keeps
theorem kh:plainId "dict.update.loop"=true:=by decide +kernel
theorem rD:entryFor table "dict.update.loop"=some Builtin.«dict.update.loop»:=entryFor_of_fast (by kernel_rfl)
inductive Kr (K:W.Frag)(H:Hp):List V->List (Key×V)->Prop
 | nil:Kr K H [] []
 | cons {t:Addr} {k:Key} {v:V} {xs:List V} {kvs:List (Key×V)}:EL K H t [kV k,v]->Kr K H xs kvs->Kr K H (.ref t::xs) ((k,v)::kvs)
theorem Kr.length {K:W.Frag}{H:Hp}:∀ {xs:List V} {kvs:List (Key×V)},Kr K H xs kvs->xs.length=kvs.length
 | _,_,.nil=>rfl
 | _,_,.cons _ r=>congrArg (·+1) (Kr.length r)
theorem Kr.get {K:W.Frag}{H:Hp}:∀ {xs:List V} {kvs:List (Key×V)} {i:Nat} {kv:Key×V},Kr K H xs kvs->kvs[i]?=some kv->∃ t,xs[i]?=some (.ref t)/\EL K H t [kV kv.1,kv.2]
 | _,_,_,_,.nil,e=>by simp at e
 | _,_,0,_,.cons h _,e=>by simp at e;subst e;exact⟨_,rfl,h⟩
 | _,_,i+1,_,.cons _ r,e=>by
   obtain⟨t,h1,h2⟩:=Kr.get (i:=i) r (by simpa using e);exact⟨t,by simpa using h1,h2⟩
theorem Dw {kvs:List (Key×V)}{k:Key}(h:k ∉ kvs.map (·.1)):(pU kvs k).isSome=false:=by
 induction kvs with
 | nil=>rfl
 | cons p r ih=>
   have h1:¬ p.1=k:=fun e=>h (by simp[e])
   rw[nM h1];exact ih fun z=>h (by simp at z ⊢;exact .inr z)
section
variable {X:Cx}{pins:List (Addr×Obj)}{σ:L2.St}{H:Hp}{A:Around}{R:Result->Shared->Prop}{L d it:Addr}{xs:List V}{kvs:List (Key×V)}
theorem Mt (hA:A.handled=none)(hL:pL X.K H L xs)(hp:Kr X.K H xs kvs)(nd:(kvs.map (·.1)).Nodup)(hd:H d=none)(hf:mi X pins H it)(W5:d≠it)(hz:kvs.length<=sizeLine)(hR:∀ s',L2.Inv X pins σ (upd H d (.dK kvs)) s'->R (.ok (.ret .none)) s'):∀ (k i:Nat) (s:Shared) (tk:Tok),kvs.length - i=k->i<=kvs.length->L2.Inv X pins σ (upd H d (.dK (kvs.take i))) s->s.heap.IsListIter it L i->codeAny (model X.prog X.w) A (.builtin "dict.update.loop" ⟨[.ref d,.ref it,.int i tk,.none],[]⟩) R s:=by
 have hlen:=hp.length;have sm:∀ o,aH H (upd H d o):=fun o=>bj hd
 obtain⟨f0,f1,f2,f3,f4,f5⟩:=hf;intro k
 induction k with
 | zero=>
   intro i s tk hk hi I st;have U8:i=kvs.length:=by omega
   subst U8;obtain⟨aJ,rv,p,hz'⟩:=I.list ((sm _).seq hL);have hl:=rv.length;refine codeAny_builtin rD ?_;rw[Around.under_plainId kh _];show wpAny _ A.in1 (pyNext (.ref it) >>= _) _ _ s;refine wpAny_bind (wpAny_pyNext_list_end (show A.in1.handled=none from hA) st p.isList (by simp;omega) fun h' eb=>?_);have I1:L2.Inv X pins σ (upd H d (.dK (kvs.take kvs.length))) { s with heap:=h'}:=I.turned (t':=s.toks) (fun b o hb e=>eb b o hb e) (by rw[ag (Ne.symm W5)];exact f0) f1 f3 f4 f5;rw[abV] at I1;show wpAny _ A.in1 (Builtin.Dict.addKeywords d [] >>= _) _ _ _;exact wpAny_bind (wpAny_pure (wpAny_pure (hR _ I1)))
 | succ k ih=>
   intro i s tk hk hi I st;have dS:i < kvs.length:=by omega
   obtain⟨t,ht1,ht2⟩:=hp.get (aab dS);obtain⟨aJ,rv,p,hz'⟩:=I.list ((sm _).seq hL);obtain⟨u,hu,ru⟩:=rv.get ht1;cases (show u=Value.ref t from ru);refine codeAny_builtin rD ?_;rw[Around.under_plainId kh _];show wpAny _ A.in1 (pyNext (.ref it) >>= _) _ _ s;refine wpAny_bind (wpAny_pyNext_list_item st p.isList (x:=.ref t) (by simpa using hu) fun h' lr sb=>?_);have I1:L2.Inv X pins σ (upd H d (.dK (kvs.take i))) { s with heap:=h'}:=I.turned (t':=s.toks) (fun b o hb e=>(sb.2 b hb).trans e) (by rw[ag (Ne.symm W5)];exact f0) f1 f3 f4 f5;obtain⟨pit,rp,pt,hzt⟩:=I1.tuple (gk (sm _) ht2);cases rp with
   | cons rk rp=>cases rp with
     | cons rv' rp=>
       cases rp;rename_i ku vu;obtain⟨ot,eo,hcl,nn,hdt⟩:=pt;refine wpAny_bind (wpAny_holding (wpAny_bind (wpAny_tryCatch ?_)));unfold Builtin.Dict.pairItems;refine wpAny_bind (wpAny_typeOf (T:="tuple") ⟨_,eo,hcl⟩ ?_);simp only[show((Value.type "tuple" == Value.type "list") || (Value.type "tuple" == Value.type "tuple"))=true by decide,if_true];refine wpAny_bind (wpAny_seqItems eo hdt (wpAny_pure ?_));show wpAny _ A.in1 (holding [ku,vu] (dictSet d ku vu)) _ _ _;refine wpAny_holding ?_;have ed:(upd H d (HO.dK (kvs.take i))) d=some (.dK (kvs.take i)):=ak;obtain⟨z,hdm,vs,rel,dd⟩:=RT I1.aR ed;have hzv:vs.length<=sizeLine:=by rw[<- rel.length];exact z
       have YN:putK (kvs.take i) kvs[i].1 kvs[i].2=kvs.take (i+1):=by
         rw[HA (Dw ?_),List.take_succ,aab dS];rfl;rw[List.map_take];intro hm;obtain⟨j,hj,e⟩:=abJ.mp hm;rw[aaD,aaa] at hj;rw[acb,aa8] at e;have:=abB.mp nd j i (by rw[aaa];omega) (by rw[aaa];omega) (by omega);rw[aa8,aa8] at this;exact this e
       refine wpAny_dictSet_pairs (hsz:=hzv) (CP rk) dd fun h2 Ud hs=>?_
       have he:∃ q,h2.get? d=some q:=let ⟨q,_,_,hq,_⟩:=Ud;⟨q,hq⟩;have I2:L2.Inv X pins σ (upd (upd H d (.dK (kvs.take i))) d (.dK (putK (kvs.take i) kvs[i].1 kvs[i].2))) { s with heap:=h2,toks:=s.toks+1}:=oB (s:={ s with heap:=h'}) (t':=s.toks+1) I1 (by rw[ed];exact True.intro) hs he (K9 (by rw[YN,aaD];omega) hdm (rel.put _ rv') Ud);rw[wk,YN] at I2;exact wpAny_pure ⟨plainId_quiet kh _,ih (i+1) _ _ (by omega) (by omega) I2 (lr.at fun o e=>(hs.2 it (Ne.symm W5)).trans e)⟩
theorem Bo (hc:X.calm=true):mj X (.type "dict") (fun xs H Q=>∃ L ys kvs,xs=[.ref L]/\H L=some (.lst ys)/\Kr X.K H ys kvs/\(kvs.map (·.1)).Nodup/\kvs.length<=sizeLine/\∀ l,H l=none->Q (.ref l) (upd H l (.dK kvs))):=by
 intro pins s σ H xs us Q I r h;obtain⟨L,ys,kvs,rfl,hL,hp,nd,hz,q⟩:=h;obtain⟨u,rfl,rx⟩:=vals1 r;cases rx;refine callType_codes (Q₁:=fun obj s₁=>obj=.ref s.heap.objs.size/\s₁={ s with heap:=s.heap.push { cls:=.type "dict",data:=.dict #[]}}) F.kt_called_dict (F.kt_typeCall_dict_1 _) F.entry_dict_init (kt_code_dict_new _ ⟨rfl,rfl⟩) ?_
 rintro obj s₁ ⟨rfl,rfl⟩
 have IL:(s.heap.push { cls:=.type "dict",data:=.dict #[]}).DictOf (dj X.prog X.w) s.heap.objs.size []:=Heap.DictOf.new s.heap;have hn:=I.aR.fresh (aai _);have I1:L2.Inv X pins σ (upd H s.heap.objs.size (.dK [])) { s with heap:=s.heap.push { cls:=.type "dict",data:=.dict #[]}}:=I.laid (a:=s.heap.objs.size) (o:=.dK []) (t':=s.toks) (fun _ _ q=>aad _ q) (aai _) (CS s.heap I.big);refine⟨IL.typeIs,F.args_dict_init_2 _ _,?_⟩;unfold Builtin.«dict.__init__»;refine wpAny_bind ?_;unfold Builtin.Dict.selfAndRest;refine wpAny_bind (wpAny_notOrdered_dict IL.typeIs ?_);show wpAny _ _ (pure (s.heap.objs.size,[Value.ref L])) _ _ _;refine wpAny_pure ?_;show wpAny _ _ (Builtin.Dict.updateFrom "dict.__init__" s.heap.objs.size (.ref L) [] .none) _ _ _;unfold Builtin.Dict.updateFrom;have hdL:s.heap.objs.size≠L:=fun e=>by rw[<- e,hn] at hL;cases hL
 have hL1:(upd H s.heap.objs.size (HO.dK [])) L=some (.lst ys):=by rw[ag (Ne.symm hdL)];exact hL
 obtain⟨hz',aJ,n,rv,eL⟩:=(show aM X.prog X.w _ _ L (.lst ys) from I1.aR L _ hL1)
 have hA:X.A.handled=none:=I.ok.hd hc;refine wpAny_bind (wpAny_typeOf (T:="list") ⟨_,eL,rfl⟩ ?_);rw[if_pos (by decide)];refine wpAny_bind (Jq eL rfl rfl rfl (by exact hA) fun h1 YO kp1=>?_);rw[if_pos (by rfl)];have I2:L2.Inv X pins σ (upd H s.heap.objs.size (.dK [])) { s with heap:=h1,toks:=YO}:=I1.kept (t':=YO) kp1;have eL2:h1.get? L=some { cls:=.type "list",data:=.seq aJ.toArray n}:=kp1 _ _ eL;refine wpAny_bind (wpAny_rule (wpAny_bind (wpAny_pyIter_list (s:={ s with heap:=h1,toks:=YO}) (items:=aJ.toArray) ⟨_,eL2,rfl,n,rfl⟩ ?_)));have I3:L2.Inv X pins σ (upd H s.heap.objs.size (.dK [])) { s with heap:=h1.push { cls:=.type "list_iterator",data:=.fields #[.ref L,.int 0 0]},toks:=YO}:=I2.kept (t':=YO) fun b o e=>aad _ e
 have hsz:s.heap.objs.size < h1.objs.size:=I2.aR.lt ak;have hlo:s.heap.objs.size<=h1.objs.size:=abG hsz;have ace:H h1.objs.size=none:=by
   have:=I2.aR.fresh (aai h1.objs.size);rw[ag (acu hsz)] at this;exact this
 refine wpAny_pure ⟨plainId_quiet kh _,Mt (kvs:=kvs) (by exact hA) (.of hL) hp nd hn (I2.zl (b:=h1.objs.size) (aai _) ace) (aap hsz) hz (fun s' I'=>⟨rfl,.ref _,_,I',rfl,q _ hn⟩) kvs.length 0 _ _ (by omega) (by omega) I3 ⟨_,aaq _ rfl,rfl,rfl⟩⟩
end
section
variable {X:Cx}{G:Gr}{dl:List Slot}{a:Expr}{pos p:Pos}{kds:List (Key×Dt)}
noncomputable def OR (kd:Key×Dt):Dt:=.tup [kD kd.1,kd.2]
theorem Mu {K:W.Frag}{Hf H:Hp}(sm:aH Hf H):∀ {ys:List V} {kds:List (Key×Dt)},bK K Hf ys (kds.map OR)->∃ kvs,Kr K H ys kvs/\dm K Hf kvs kds
 | _,[],.nil=>⟨[],.nil,.nil⟩
 | _,(k,d)::kds,.cons r t=>by
   obtain⟨kvs,h1,h2⟩:=Mu sm t;cases r with
   | @tup a vs _ hs rp=>
     cases rp with
     | @cons v1 _ _ _ r1 r2=>cases r2 with
       | @cons v2 _ _ _ r2 r3=>
         cases r3;have e1:v1=kV k:=by
           cases k with
           | inl i=>cases r1;rfl
           | inr x=>cases r1;rfl
         subst e1;exact⟨(k,v2)::kvs,.cons (gk sm hs) h1,.cons r2 h2⟩
theorem dm.keys {K:W.Frag}{H:Hp}:∀ {v:List (Key×V)} {d:List (Key×Dt)},dm K H v d->v.map (·.1)=d.map (·.1)
 | _,_,.nil=>rfl
 | _,_,.cons _ r=>by rw[aas,aas,dm.keys r]
theorem nW (hm:X.mg "dict"=none)(hc:X.calm=true)(ha:EE X G dl a (.lst (kds.map OR)))(nd:(kds.map (·.1)).Nodup)(hz:kds.length<=sizeLine)(hg:autoParam (Gl X "dict") jp)(he:autoParam (starEach [a] X.env=[(false,eval a X.env)]) jp):EO X G dl (.Call (.Name "dict" p) [a] [] pos) (.fw kds):=
 gX (qv (Bo hc) hg hm boot_dict (ae ha ai he) (he:=he)) fun st H Q zq=>zn zq fun Hf S k=>fun vs av H1 g1 r1=>by
   cases r1 with
   | cons r t=>cases t;cases r with
     | @lst q vs _ z r=>
       obtain⟨kvs,h1,h2⟩:=Mu g1.sub r;exact⟨q,vs,kvs,rfl,g1.sub _ _ z,h1,by rw[h2.keys];exact nd,by rw[h2.length];exact hz,fun l hl=>k l av _ (g1.trans (.fX g1.sub hl)) (g1.big.free hl) (g1.sub.free hl) ⟨kvs,ak,h2⟩⟩
theorem Jr:WU X "str.count" (fun x vs H Q=>∃ z y:Str,x=.str z/\vs=[.str y]/\Q (.int (Txt.count z y)) H):=by
 intro pins s σ H x vs v us Q I rx rv zq;obtain⟨z,y,e1,e2,q⟩:=zq;subst e1 e2;obtain⟨t,rfl⟩:=(show ∃ t,v=Value.str z t from rx)
 obtain⟨u,rfl,ru⟩:=vals1 rv;obtain⟨t',rfl⟩:=(show ∃ t,u=Value.str y t from ru)
 exact PySem.SC.count ⟨.int (Txt.count z y),H,I.tok _,⟨_,rfl⟩,q⟩
end
section
inductive Mv:List (Key×Value)->List (Key×Value)->Prop
 | nil:Mv [] []
 | cons {k:Key} {i:Int} {t u:Tok} {xs ys:List (Key×Value)}:Mv xs ys->Mv ((k,.int i t)::xs) ((k,.int i u)::ys)
end
theorem ye {H:Hp}{q:Addr}{o:HO}(h:H q=some o):upd H q o=H:=by
 funext b
 by_cases e:b=q
 . subst e;rw[ak,h]
 . rw[ag e]
section
variable {X:Cx}{G:Gr}{dl:List Slot}{a b:Expr}{x:Str}{apos bf:Pos}{kds:List (Key×Dt)}
noncomputable def dI (kds:List (Key×Int)):List (Key×Dt):=kds.map fun kd=>(kd.1,Dt.int kd.2)
theorem Qj {K:W.Frag}{H:Hp}:∀ {kds:List (Key×Int)} {kvs:List (Key×V)},dm K H kvs (dI kds)->kvs=kds.map fun kd=>(kd.1,V.int kd.2)
 | [],_,.nil=>rfl
 | (k,i)::kds,_,.cons r t=>by
   cases r;rw[Qj (kds:=kds) t];rfl
theorem Js {z w:Str}(ha:EE X G dl a (.str z))(hb:EE X G dl b (.str w))(kI:autoParam (attributeBase a "count" X.env (eval a X.env)=eval a X.env) jp)
   (xE:autoParam (((backTo bf (starEach [b] X.env)).all (fun x=>!x.1) && (backToKw bf (keywordEach [] X.env)).all (fun x=>x.1.isSome) && decide ([b].length+([]:List Keyword).length+(if ([]:List Keyword).isEmpty then 0 else 1) < 30))=true) jp)
   (kJ:autoParam ((apos.endLine == bf.line)=true) jp) (jQ:autoParam (starEach [b] X.env=(false,eval b X.env)::starEach [] X.env) jp):EE X G dl (.Call (.Attribute a "count" apos) [b] [] bf) (.int (Txt.count z w)):=
 gX (xD PySem.F.plainAttrs_str PySem.F.slot_str_count PySem.F.type_str_count Jr ha (ae hb ai jQ) kI xE kJ jQ rfl) fun st H Q zq=>zn zq fun Hf S k=>fun v av H1 g1 r1=>by
   cases r1;exact⟨rfl,av,S.grow g1,fun vs bD H2 g2 r2=>by
     cases r2 with
     | cons r t=>cases t;cases r;exact⟨z,w,rfl,rfl,k _ bD H2 (g1.trans g2) (.int _)⟩⟩
end
structure Bp (X:Cx)(N:List Str)(xt:Str)(ix:List Nat)(sc:Scope):Prop where
 nd:N.Nodup
 nm:N=xt::ix.map (fun j=>X.N.getD j "")
 kind:sc.kind=.function
 one:sc.names.filter (fun y=>y.2 == .cell)=[(xt,.cell)]
 names:∀ y∈sc.names,y.2=.local->sc.names.lookup y.1=some .local
 hx:sc.names.lookup xt=some .cell
 Th:∀ y∈sc.names,y.2=.free->y.1≠xt
 fr:∀ y∈sc.names,y.2=.free->X.env.kindOf y.1=some .cell\/X.env.kindOf y.1=some .free
 X8:∀ j∈ix,∃ y,X.N[j]?=some y/\sc.names.lookup y=some .free
noncomputable def mS (X:Cx)(N:List Str)(sc:Scope)(xt:Str)(c C:Addr)(fp:List Addr)(s:Shared)(H:Hp):Cx:=
 { X with N:=N,s₀:=s,H₀:=H,env:=compEnvC sc ((xt,c)::mQ sc X.env) C X.env,outer:=X.stack,stack:=X.stack,ex:=fp,fn:=fun y=>y == xt,pn:=[],xe:=zt}
theorem HH:∀ {names:List (Str×NameKind)} {acc:List (Str×Addr)} {n:Nat} {h:Heap},names.filter (fun y=>y.2 == .cell)=[]->cellsFrom n names acc=acc/\pushCells h names=h
 | [],_,_,_,_=>⟨rfl,rfl⟩
 | (y,k)::r,acc,n,h,e=>by
   by_cases hk:(k == NameKind.cell)=true
   . rw[acr (by exact hk)] at e;cases e
   . rw[acq (by exact hk)] at e
     unfold cellsFrom pushCells;rw[if_neg hk,if_neg hk];exact HH e
theorem Dx {x:Str}:∀ {names:List (Str×NameKind)} {acc:List (Str×Addr)} {n:Nat} {h:Heap},names.filter (fun y=>y.2 == .cell)=[(x,.cell)]->cellsFrom n names acc=(x,n)::acc/\pushCells h names=h.push { cls:=.type "cell",data:=.cell none}
 | [],_,_,_,e=>by cases e
 | (y,k)::r,acc,n,h,e=>by
   by_cases hk:(k == NameKind.cell)=true
   . rw[acr (by exact hk)] at e
     injection e with e1 e2
     cases e1;unfold cellsFrom pushCells;rw[if_pos hk,if_pos hk];exact HH e2
   . rw[acq (by exact hk)] at e
     unfold cellsFrom pushCells;rw[if_neg hk,if_neg hk];exact Dx e
theorem Qk {M:Model}{A:Around}{E:Value->Shared->Prop}{s:Shared}{sc:Scope}{globals:Addr}{cl:List (Str×Addr)}{qual:Str}{around:Env}{x:Str}{Q:Env->Shared->Prop}(h1:sc.names.filter (fun y=>y.2 == .cell)=[(x,.cell)])(hQ:Q { scope:=sc,locals:=s.heap.objs.size,globals:=globals,cells:=(x,s.heap.objs.size+1)::cl,qual:=qual,func:=none,code:=around.code,frame:=around.frame,builtins:=around.builtins} { s with heap:=(s.heap.push { cls:=.type "dict",data:=.dict #[]}).push { cls:=.type "cell",data:=.cell none}}):wpAny M A (newFunctionEnv sc globals cl [] qual none .none (some around)) Q E s:=by
 simp only[newFunctionEnv,Option.isSome_some,if_true];refine wpAny_bind (wpAny_alloc ?_);refine wpAny_bind (wpAny_layCells _ (fun name kind cells=>by cases hkc:kind == NameKind.cell <;> simp[hkc]) _ _ _ _ ?_);obtain⟨e1,e2⟩:=Dx (acc:=cl) (n:=(s.heap.push { cls:=.type "dict",data:=.dict #[]}).objs.size) (h:=s.heap.push { cls:=.type "dict",data:=.dict #[]}) h1;show wpAny M A (forIn [] PUnit.unit _ >>= _) Q E _;rw[List.forIn_nil];refine wpAny_bind (wpAny_pure (wpAny_pure ?_));dsimp only;rw[e1,e2,abK];exact hQ
section
variable {X:Cx}{N:List Str}{xt:Str}{ix:List Nat}{sc:Scope}{pins:List (Addr×Obj)}{st:L2.St}{H H':Hp}{s s':Shared}{c C D:Addr}{fp:List Addr}{h1:Heap}
theorem Ql (B:Bp X N xt ix sc)(ok:X.Ok):closureFor sc X.env=pure (mQ sc X.env):=Be fun y hy hk=>ok.has y.1 (B.fr y hy hk)
theorem qD (B:Bp X N xt ix sc)(ok:X.Ok){y:Str}{c:Addr}(h:(mQ sc X.env).lookup y=some c):X.env.cells.lookup y=some c/\(y,NameKind.free)∈sc.names:=by
 rcases sR _ _ h with⟨h1,h2⟩ | h1
 . obtain⟨c',h3⟩:=ok.has y (B.fr _ h1 rfl)
   rw[h3] at h2;cases h2;exact⟨h3,h1⟩
 . cases h1
theorem jY {y xt:Str}{c d:Addr}{cl:List (Str×Addr)}(h:((xt,c)::cl).lookup y=some d):(y=xt/\d=c)\/(y≠xt/\cl.lookup y=some d):=by
 rw[aaM] at h;cases q:(y == xt) with
 | true=>rw[q] at h;exact .inl ⟨by simpa using q,(Option.some.inj h).symm⟩
 | false=>rw[q] at h;exact .inr ⟨by simpa using q,h⟩
theorem wI (B:Bp X N xt ix sc)(I:L2.Inv X pins st H s)(hC:s.heap.objs.size<=C)(hc:s.heap.objs.size<=c)(hf:∀ b∈fp,mi X pins H b)(dS:∀ b∈fp,b < s.heap.objs.size):(mS X N sc xt c C fp s H).Ok where
 mod:=I.ok.mod
 kind:=B.kind
 glob:=I.ok.glob
 blt:=I.ok.blt
 above:=hC
 inj:=fun y z d h1 h2=>by
   have old:∀ {y:Str},(mQ sc X.env).lookup y=some c->False:=fun {y} h=>by
     obtain⟨v,q⟩:=I.cell y c (qD B I.ok h).1;exact absurd (aam q.lt hc) (abF _)
   rcases jY h1 with⟨e1,e2⟩ | ⟨e1,e2⟩ <;> rcases jY h2 with⟨e3,e4⟩ | ⟨e3,e4⟩
   . rw[e1,e3]
   . rw[e2] at e4;exact(old e4).elim
   . rw[e4] at e2;exact(old e2).elim
   . exact I.ok.inj y z d (qD B I.ok e2).1 (qD B I.ok e4).1
 has:=fun y hy=>by
   have hy:(relabel sc X.env).names.lookup y=some .cell\/(relabel sc X.env).names.lookup y=some .free:=hy;show ∃ d,((xt,c)::mQ sc X.env).lookup y=some d;by_cases e:y=xt
   . subst e;exact⟨c,by simp[aaM]⟩
   . have nc:(y,NameKind.cell) ∉ sc.names:=fun hm=>by
       have:(y,NameKind.cell)∈sc.names.filter (fun y=>y.2 == .cell):=List.mem_filter.mpr ⟨hm,rfl⟩;rw[B.one] at this;have:=ab9.mp this;exact e (congrArg Prod.fst this)
     have:(y,NameKind.free)∈sc.names:=by
       rcases hy with hy | hy
       . obtain⟨k',h1,h2⟩:=gm hy
         rcases h2 with h2 | h2
         . subst h2;exact absurd h1 nc
         . subst h2;exact h1
       . obtain⟨k',h1,h2⟩:=gm hy
         rcases h2 with h2 | h2 <;> subst h2 <;> exact h1
     obtain⟨d,hd⟩:=kK (cells:=X.env.cells) sc.names [] (.inl this);refine⟨d,?_⟩;rw[aaM,show(y == xt)=false by simpa using e];exact hd
 O0:=fun y d h1 h2=>by
   rcases jY h2 with⟨_,e⟩ | ⟨e,_⟩
   . rw[e];exact hc
   . exact absurd (by have h1:(y == xt)=true:=h1;simpa using h1) e
 hd:=I.ok.hd
 frames:=I.ok.frames
 RH:=.inl rfl
 Kl:=fun b hb=>⟨aap (aam (dS b hb) hC),fun y d h=>by
   rcases jY h with⟨_,e⟩ | ⟨_,e⟩
   . rw[e];exact acu (aam (dS b hb) hc)
   . exact(hf b hb).2.2.2.2.1 y d (qD B I.ok e).1⟩
 bs:=I.bs
 Cw:=aax I.ok.Cw I.sz
 xp:=fun b o e hb=>by
   rcases (hf b hb).2.2.2.1 with z | z
   . exact I.ok.xp b o e z
   . exact absurd (aam (aak e) (aax I.ok.Cw z)) (abF _)
 xq:=fun b hb z=>by
   rcases aaz.mp (I.xu b z) with z | z
   . exact(hf b hb).2.1 z
   . exact(hf b hb).2.2.1 z
 pR:=I.stack
 GU:=I.lC
theorem FJ (B:Bp X N xt ix sc)(I:L2.Inv X pins st H s)(hf:∀ b∈fp,mi X pins H b)(dS:∀ b∈fp,b < s.heap.objs.size)(hC:C=s.heap.objs.size+1)(Xi:c=s.heap.objs.size+2)(k:∀ b o,s.heap.get? b=some o->h1.get? b=some o)(hn:h1.Ns C fun _=>none)(hce:h1.IsCell c none)(hD:h1.get? s.heap.objs.size=some { cls:=.type "list",data:=.seq ([]:List Value).toArray 0}){t':Nat}:L2.Inv (mS X N sc xt c C fp s H) [] (aal 1 none ++ frees ix st) (upd H s.heap.objs.size (.lst [])) { s with heap:=h1,toks:=t'}:=by
 have RW:s.heap.objs.size<=C:=by rw[hC];exact abD _
 have EK:s.heap.objs.size<=c:=by rw[Xi];exact aci _ _
 have fr:∀ a,s.heap.objs.size<=a->H a=none:=fun a ha=>I.aR.fresh ha
 have ok:=wI (c:=c) B I RW EK hf dS;have zZ:∀ y c,(mQ sc X.env).lookup y=some c->H c=none/\c < s.heap.objs.size/\∃ v,s.heap.IsCell c v:=fun y c h=>by
   have h:=(qD B I.ok h).1;obtain⟨v,q⟩:=I.cell y c h;exact⟨I.mf y c h,q.lt,v,q⟩
 refine⟨ok,rfl,I.bare,Un.laid k (aai _) (fr _ (aai _)),⟨_,hn,fun i y v e1 e2 e3=>?_⟩,fun y d h=>?_,?_,fun y d h=>?_,fun p hp=>absurd (show p∈([]:List (Addr×Obj)) from hp) (by simp),?_,?_⟩
 . have e1:N[i]?=some y:=e1
   cases i with
   | zero=>cases e2
   | succ i=>
     rw[B.nm,aby,aaf] at e1;have e2:(frees ix st)[i]?=some (some v):=e2;unfold frees at e2;rw[aaf] at e2;cases q:ix[i]? with
     | none=>rw[q] at e1;cases e1
     | some j=>
       rw[q] at e1 e2;obtain⟨y',OM,LA⟩:=B.X8 j (abX q);have PD:=PySem.mem_of_lookup LA;have ey:y=y':=by
         have e1:X.N.getD j ""=y:=Option.some.inj e1;rw[aae,OM] at e1;exact e1.symm
       subst ey;have e2:(st[j]?).join=some v:=Option.some.inj e2;have X9:st[j]?=some (some v):=by
         cases q2:st[j]? with
         | none=>rw[q2] at e2;cases e2
         | some z=>rw[q2] at e2;rw[show z=some v from e2]
       have kd:=B.fr _ PD rfl;have nx:y≠xt:=B.Th _ PD rfl;have Ya:vC X.env.scope y:=by
         rcases kd with z | z
         . exact .inr (.inl z)
         . exact .inr (.inr z)
       obtain⟨m,_,hl⟩:=I.loc;obtain⟨u,r,l⟩:=hl j y v OM X9 Ya;refine⟨u,r,.inr ?_⟩;rcases l with⟨z,_⟩ | ⟨_,d,hd,ic⟩
       . rcases kd with z' | z' <;> rw[z] at z' <;> cases z'
       . obtain⟨d',WR⟩:=kK (cells:=X.env.cells) sc.names [] (.inl PD)
         have:=(qD B I.ok WR).1;rw[hd] at this;cases this;obtain⟨oc,GW,A7⟩:=ic;refine⟨?_,d,?_,oc,k _ _ GW,A7⟩
         . rcases e3 with e3 | e3 | e3
           . have e3:(relabel sc X.env).names.lookup y=some .local:=e3
             rcases oG (env:=X.env) LA with z | z
             . exact absurd (e3.symm.trans z) (by decide)
             . exact absurd (e3.symm.trans z) (by decide)
           . exact .inl e3
           . exact .inr e3
         . show((xt,c)::mQ sc X.env).lookup y=some d
           rw[aaM,show(y == xt)=false by simpa using nx];exact WR
 . rcases jY h with⟨_,e⟩ | ⟨_,e⟩
   . rw[e];exact⟨none,hce⟩
   . obtain⟨_,_,v,oc,GW,hd⟩:=zZ y d e
     exact⟨v,oc,k _ _ GW,hd⟩
 . show upd H s.heap.objs.size (.lst []) C=none
   rw[ag (by rw[hC];exact ach _)];exact fr _ RW
 . show upd H s.heap.objs.size (.lst []) d=none
   rcases jY h with⟨_,e⟩ | ⟨_,e⟩
   . rw[e,ag (by rw[Xi];exact acu (Nat.lt_add_of_pos_right (by decide)))]
     exact fr _ EK
   . obtain⟨q1,q2,_⟩:=zZ y d e
     rw[ag (aap q2)];exact q1
 . exact I.aR.laid k (aai _) ⟨abh _,[],0,.nil,hD⟩
 . show(aal 1 none ++ frees ix st).length=N.length
   rw[B.nm];unfold frees;simp
theorem Mw {elt iter tg:Expr}{ifs:List Expr}{pos:Pos}{g:TG}{tt:TT}{te:TE}{J:It}{it:Addr}{tj:Nat->Heap->Prop}{Q:Addr->List V->Hp->Prop}{RR:Value->Addr->Result->Shared->Prop}{E:Value->Shared->Prop}(hc:X.calm=true)(B:Bp X N xt ix sc)(hg:∀ c C fp s H,PG (mS X N sc xt c C fp s H) tg g)(ht:∀ c C fp s H,R1 (mS X N sc xt c C fp s H) ifs tt)(k7:∀ c C fp s H,PE (mS X N sc xt c C fp s H) elt te)(I:L2.Inv X pins st H s)(T:Turn X.prog X.w X.K tg J fp it tj)(h0:tj 0 s.heap)(hf:∀ b∈fp,mi X pins H b)(hq:∀ D,H D=none->Hu 1 g tt te (frees ix st) J D (Q D) H)(Yb:∀ D C ys H' s',L2.Inv X pins st H' s'->(∃ m,s'.heap.Ns C m)->mi X pins H' C->Q D ys H'->RR (.ref D) C (.ok .next) s'):wpAny (model X.prog X.w) X.A (newList []) (fun acc s3=>wpAny (model X.prog X.w) X.A (newFunctionEnv sc X.env.globals (mQ sc X.env) [] X.env.qual none .none (some X.env)) (fun C7 s4=>codeAny (model X.prog X.w) X.A (.compStart (.ListComp elt [⟨tg,iter,ifs,0⟩] sc pos) 0 (.ref it) acc { C7 with scope:=relabel sc X.env}) (RR acc C7.locals) s4) E s3) E s:=by
 have dS:∀ b∈fp,b < s.heap.objs.size:=fun b hb=>by
   obtain⟨o,e,_⟩:=T.obj _ _ h0 b hb;exact aak e
 refine wpAny_newObj_type (Qk B.one ?_);dsimp only;generalize hG:s.heap.push { cls:=.type "list",dict:=none,data:=.seq ([]:List Value).toArray}=g';generalize hH1:(g'.push { cls:=.type "dict",data:=.dict #[]}).push { cls:=.type "cell",data:=.cell none}=h1;have hC:g'.objs.size=s.heap.objs.size+1:=by rw[<- hG,abK]
 have hDC:s.heap.objs.size≠g'.objs.size:=by rw[hC];exact aap (abR _)
 have old:∀ b o,s.heap.get? b=some o->h1.get? b=some o:=fun b o e=>by
   rw[<- hH1,<- hG];exact aad _ (aad _ (aad _ e))
 have LB:h1.get? s.heap.objs.size=some { cls:=.type "list",data:=.seq ([]:List Value).toArray 0}:=by
   rw[<- hH1,<- hG];exact aad _ (aad _ (aaq _ rfl))
 have Kn:h1.Ns g'.objs.size fun _=>none:=by
   rw[<- hH1];exact(Heap.Ns.new g' (.type "dict")).keeps fun b o e=>aad _ e
 have hce:h1.IsCell (g'.objs.size+1) none:=by
   rw[<- hH1];have e:g'.objs.size+1=(g'.push { cls:=.type "dict",data:=.dict #[]}).objs.size:=by rw[abK]
   rw[e];exact⟨_,aaq _ rfl,rfl⟩
 have hD:H s.heap.objs.size=none:=I.aR.fresh (aai _);obtain⟨W,⟨m0,w0⟩,turn⟩:=hq _ hD;have I0:=FJ (t':=s.toks) B I hf dS hC (show g'.objs.size+1=s.heap.objs.size+2 by rw[hC]) old Kn hce LB;have RX:tj 0 h1:=T.keep _ _ _ h0 fun b _ o e=>old b o e
 have p7:s.heap.objs.size<=g'.objs.size:=by rw[hC];exact abD _
 have rO:∀ {H':Hp},(∀ b∈fp,H' b=none)->∀ b∈fp,mi (mS X N sc xt (g'.objs.size+1) g'.objs.size fp s H) [] H' b:=fun {H'} hn b hb=>
   ⟨hn b hb,((wI B I p7 (aax p7 (abD _)) hf dS).Kl b hb).1,(wI B I p7 (aax p7 (abD _)) hf dS).xq b hb,.inl hb,((wI B I p7 (aax p7 (abD _)) hf dS).Kl b hb).2,fun p hp=>absurd (show p∈([]:List (Addr×Obj)) from hp) (by simp)⟩
 have loop:∀ s3:Shared,s3={ s with heap:=h1} ->
     codeAny (model X.prog X.w) X.A (.compLoop (.ListComp elt [⟨tg,iter,ifs,0⟩] sc pos) 0 (.ref it) (.ref s.heap.objs.size) (compEnvC sc ((xt,g'.objs.size+1)::mQ sc X.env) g'.objs.size X.env)) (RR (.ref s.heap.objs.size) g'.objs.size) s3:=by
   rintro s3 rfl
   refine Dg (fun n s'=>∃ i ys σ H',σ.length=1/\L2.Inv (mS X N sc xt (g'.objs.size+1) g'.objs.size fp s H) [] (σ ++ frees ix st) H' s'/\tj i s'.heap/\(∀ b∈fp,H' b=none)/\W i n ys H') ?_ m0
     ⟨0,[],aal 1 none,_,by simp,I0,RX,fun b hb=>?_,w0⟩
   . rintro n s5 ⟨i,ys,σ,H5,hσ,I5,Km,OI,w5⟩
     rcases turn i n ys H5 w5 with⟨stop,qn⟩ | ⟨go,hz,step⟩
     . refine bZ (T.done (mS X N sc xt (g'.objs.size+1) g'.objs.size fp s H) rfl rfl rfl hc i [] s5 _ H5 zt I5 (rO OI) Km stop) fun r s6 ⟨hr,I6⟩=>?_
       subst hr;refine Yb _ _ ys H5 s6 ?_ ?_ (I.zl p7 I6.free) qn
       . exact I.xw I6.os I6.base I6.aR I6.bare fun b hb=>⟨(hf b hb).2.2.2.1,(hf b hb).2.1,(hf b hb).2.2.2.2.1,(hf b hb).2.2.2.2.2⟩
       . obtain⟨m,hm,_⟩:=I6.loc
         exact⟨m,hm⟩
     . refine bZ (T.item (mS X N sc xt (g'.objs.size+1) g'.objs.size fp s H) rfl rfl rfl hc i [] s5 _ H5 zt I5 (rO OI) Km go) fun r s6 ⟨u,hr,h6⟩=>?_
       subst hr;refine bZ h6 fun _ s7 zq=>?_;obtain⟨v,H7,I7,r7,y7,LC,Yc⟩:=zq
       have Yd:=I7.pinned (rO Yc) (T.obj _ _ LC);refine bZ (hg (g'.objs.size+1) g'.objs.size fp s H _ s7 _ H7 v u _ Yd r7 (step σ hσ v H7 y7)) fun _ s8 h8=>?_
       obtain⟨σ8,H8,I8,σ',e8,Yn,h8⟩:=h8;subst e8;have pinned:∀ {σ9:L2.St} {H9:Hp} {s9:Shared},L2.Inv (mS X N sc xt (g'.objs.size+1) g'.objs.size fp s H) ([] ++ ug fp s7.heap) σ9 H9 s9->tj (i+1) s9.heap/\∀ b∈fp,H9 b=none:=fun {σ9 H9 s9} I9=>by
         refine⟨T.keep _ _ _ LC fun b hb o e=>(I9.pin (b,o) (aat _ (aat _ (gj hb e)))).1,fun b hb=>?_⟩;obtain⟨o,e,d⟩:=T.obj _ _ LC b hb;exact(I9.pin (b,o) (aat _ (aat _ (gj hb e)))).2.1
       refine bZ (ht (g'.objs.size+1) g'.objs.size fp s H _ s8 _ H8 _ I8 h8) fun ok s8' PQ=>?_
       obtain⟨H8',PR,PQ⟩:=PQ;cases ok with
       | false=>
         obtain⟨m',hm,w8⟩:=PQ;exact⟨m',hm,i+1,ys,σ',_,Yn,PR.kH (pins:=[]),(pinned PR).1,(pinned PR).2,w8⟩
       | true=>
         refine bZ (k7 (g'.objs.size+1) g'.objs.size fp s H _ s8' _ H8' _ PR PQ) fun z s9 zq=>?_;obtain⟨y,H9,I9,r9,Ye,m',hm,w9⟩:=zq
         refine bZ (qw _ s9 _ H9 (.ref s.heap.objs.size) [y] (.ref s.heap.objs.size) [z] (fun _ H'=>H'=upd H9 s.heap.objs.size (.lst (ys ++ [y]))) I9 rfl (.cons r9 .nil) ⟨_,ys,y,rfl,rfl,Ye,hz,rfl⟩) fun _ s10 Uw=>?_
         obtain⟨_,H10,LD,_,rfl⟩:=Uw;exact⟨m',hm,i+1,ys ++ [y],σ',_,Yn,LD.kH (pins:=[]),(pinned LD).1,(pinned LD).2,w9⟩
   . rw[ag (aap (dS b hb))]
     exact(hf b hb).1
 exact codeAny_compStart_list (loop _ rfl) (T.self _ 0 _ _ _ RX (loop _ rfl))
theorem yf {env:Env}{y:Str}:∀ {names:List (Str×NameKind)},names.lookup y=some .cell->(names.map fun(n,k)=>if (k == NameKind.free && env.scope.kind == .function && env.kindOf n == some .cell) then (n,NameKind.cell) else (n,k)).lookup y=some .cell
 | [],h=>by simp at h
 | (n,kk)::r,h=>by
   rw[aas,aaM];rw[aaM] at h;cases q:(y == n) with
   | true=>
     rw[q] at h;have:kk=.cell:=Option.some.inj h;subst this;simp[q]
   | false=>
     rw[q] at h;have ih:=yf (env:=env) h;by_cases hc:(kk == NameKind.free && env.scope.kind == .function && env.kindOf n == some .cell)=true
     . simp only[hc,if_true,q];exact ih
     . simp only[hc,abA,if_false,q];exact ih
end
section
variable {X:Cx}{G:Gr}{dl:List Slot}{a b elt iter tg:Expr}{ifs:List Expr}{pos px:Pos}{o:Out}{xt:Str}{N:List Str}{ix:List Nat}{sc:Scope}
variable {α:Type}{as:List α}{z f:α->Dt}{sl:α->List Slot}{keep:α->Bool}{g:TG}{wi:TI}
inductive Bq (X:Cx)(N:List Str)(xt:Str)(sc:Scope)(dl:List Slot)(ix:List Nat)(as:List α)(sl:α->List Slot)(keep:α->Bool):List Expr->Prop
 | nil:(∀ a∈as,keep a=true)->Bq X N xt sc dl ix as sl keep []
 | one {ce:Expr}:(∀ a∈as,∀ c C fp s H G',EB (mS X N sc xt c C fp s H) G' (sl a ++ jS dl ix) ce (keep a))->Bq X N xt sc dl ix as sl keep [ce]
theorem Qm (h:Bq X N xt sc dl ix as sl keep ifs):∀ c C fp s H,R1 (mS X N sc xt c C fp s H) ifs (PV X.K dl ix as sl keep):=fun c C fp s H=>by
 cases h with
 | nil h=>exact fun pins s' st H' Q I ⟨a,G',ha,Hf,S,k⟩=>wpAny_tests_nil ⟨H',I,by have:=k Hf H' (.refl S.sub);rw[h a ha] at this;exact this⟩
 | one h=>exact Ht fun pins s' st H' Q I ⟨a,G',ha,q⟩=>h a ha c C fp s H G' pins s' st H' Q I q
def YQ (X:Cx)(N:List Str)(xt:Str)(sc:Scope)(dl:List Slot)(ix:List Nat)(as:List α)(sl:α->List Slot)(keep:α->Bool)(f:α->Dt)(elt:Expr):Prop:=∀ a∈as,keep a=true->∀ c C fp s H G',EE (mS X N sc xt c C fp s H) G' (sl a ++ jS dl ix) elt (f a)
theorem U9 (h:YQ X N xt sc dl ix as sl keep f elt):∀ c C fp s H,PE (mS X N sc xt c C fp s H) elt (PX X.K dl ix as sl keep f):=fun c C fp s H pins s' st H' Q I ⟨a,G',ha,hk,q⟩=>h a ha hk c C fp s H G' pins s' st H' Q I q
theorem Va {tt:TT}{te:TE}(hc:X.calm=true)(B:Bp X N xt ix sc)(hi:PI X tg iter wi)(hg:∀ c C fp s H,PG (mS X N sc xt c C fp s H) tg g)(ht:∀ c C fp s H,R1 (mS X N sc xt c C fp s H) ifs tt)(k7:∀ c C fp s H,PE (mS X N sc xt c C fp s H) elt te)(hs:∀ z,foldedSetIterable iter X.env z=pure z):PE X (.ListComp elt [⟨tg,iter,ifs,0⟩] sc pos) (PY wi 1 ix g tt te):=by
 intro pins s st H Q I h;rw[eval_ListComp];refine wpAny_comprehension_free (use:=none) rfl hs (Ql B I.ok) B.kind B.names (bZ (hi pins s st H _ I h) fun v s1 h1=>bZ h1 fun TC s2 h2=>?_);obtain⟨it,fp,tj,J,H2,e,I2,T,EY,f2,hq⟩:=h2;subst e;refine Mw (RR:=fun acc C=>compPost (model X.prog X.w) X.A X.xe none (EP X pins st Q) acc C) hc B hg ht k7 I2 T EY f2 hq ?_;intro D C ws H' s' I' ⟨m,hn⟩ qY q;exact⟨m,hn,fun h' PK=>⟨.ref D,H',I'.turned (t':=s'.toks) (it:=C) (fun b o hb e=>(PK.2 b hb).trans e) qY.1 qY.2.1 qY.2.2.2.1 qY.2.2.2.2.1 qY.2.2.2.2.2,rfl,q⟩⟩
theorem Vb (as:List α)(z f:α->Dt)(sl:α->List Slot)(keep:α->Bool)(hc:X.calm=true)(B:Bp X N xt ix sc)(hi:PI X tg iter wi)(hg:∀ c C fp s H,PG (mS X N sc xt c C fp s H) tg g)(xU:vJ X G dl (as.map z) wi)(LU:∀ a∈as,UI X.K 1 g (z a) (sl a))(LV:Bq X N xt sc dl ix as sl keep ifs)(k7:YQ X N xt sc dl ix as sl keep f elt)(hn:as.length<=sizeLine)(hs:autoParam (∀ z,foldedSetIterable iter X.env z=pure z) xL):EO X G dl (.ListComp elt [⟨tg,iter,ifs,0⟩] sc pos) (.lst ((as.filter keep).map f)):=gX (Va hc B hi hg (Qm LV) (U9 k7) hs) (uD xU LU hn)
theorem Mx {px:Pos}(B:Bp X N xt ix sc):∀ c C fp s H,PG (mS X N sc xt c C fp s H) (.Name xt px) (rm 0):=fun c C fp s H=>by
 have hN:(mS X N sc xt c C fp s H).N[0]?=some xt:=by
   show N[0]?=some xt;rw[B.nm];rfl
 have ON:(mS X N sc xt c C fp s H).env.scope.names.lookup xt=some .cell:=yf B.hx;exact dM (X:=mS X N sc xt c C fp s H) B.nd hN (.inr ON) (.inl (by show(xt == xt)=true;simp))
end
noncomputable def My (sc Df:Scope)(XN N:List Str)(xt:Str)(ix:List Nat):Bool:=
 decide N.Nodup && (decide (N=xt::ix.map (fun j=>XN.getD j "")) && (decide (sc.kind=.function) && (decide (sc.names.filter (fun y=>y.2 == .cell)=[(xt,.cell)]) && (sc.names.all (fun y=>decide (y.2=.local->sc.names.lookup y.1=some .local)) && (decide (sc.names.lookup xt=some .cell) && (sc.names.all (fun y=>decide (y.2=.free->y.1≠xt)) &&
   (sc.names.all (fun y=>decide (y.2=.free->Df.names.lookup y.1=some .cell\/Df.names.lookup y.1=some .free)) && ix.all (fun j=>decide (sc.names.lookup (XN.getD j "")=some .free) && decide (j < XN.length)))))))))
theorem Se {X:Cx}{sc Df:Scope}{XN N:List Str}{xt:Str}{ix:List Nat}(h:My sc Df XN N xt ix=true)(e1:autoParam (X.env.scope=Df) jp)(e2:autoParam (X.N=XN) jp):Bp X N xt ix sc:=by
 subst e1 e2;unfold My at h;simp only[aaE,acB,decide_eq_true_eq] at h;obtain⟨h1,h2,h3,h4,h5,h6,h6',h7,h8⟩:=h;refine⟨h1,h2,h3,h4,h5,h6,h6',h7,fun j hj=>?_⟩;obtain⟨q1,q2⟩:=h8 j hj;refine⟨X.N.getD j "",?_,q1⟩;rw[aae,aab q2];rfl
noncomputable def mk:HO->Bool
 | .memo _=>true
 | .bT _ _=>true
 | _=>false
theorem Rd.ex {H:Hp}{a C dx:Addr}{fs:List (Str×V)}(h:Rd H a (.ins C dx fs)):∃ o,H a=some o/\mk o=false/\(∀ x,o≠.dK x)/\∀ H':Hp,H' a=some o->Rd H' a (.ins C dx fs):=by
 rcases h with h | ⟨o,h⟩ | ⟨tg,o,kvs,h,z⟩ | ⟨o,h⟩
 . exact⟨_,h,rfl,(fun _ z=>nomatch z),fun H' e=>.inl e⟩
 . exact⟨_,h,rfl,(fun _ z=>nomatch z),fun H' e=>.inr (.inl ⟨o,e⟩)⟩
 . cases z
 . exact⟨_,h,rfl,(fun _ z=>nomatch z),fun H' e=>.inr (.inr (.inr ⟨o,e⟩))⟩
theorem cu.mkd {H:Hp}{a:Addr}{ls:kU}(h:cu H a ls):∃ o,H a=some o/\mk o=true:=by
 rcases h with h | ⟨ns,h⟩
 . exact⟨_,h,rfl⟩
 . exact⟨_,h,rfl⟩
theorem cu.inj {H:Hp}{a:Addr}{ls ls':kU}(h:cu H a ls)(h':cu H a ls'):ls=ls':=by
 rcases h with h | ⟨ns,h⟩ <;> rcases h' with h' | ⟨ns',h'⟩ <;> rw[h] at h' <;> cases h' <;> rfl
section
variable {K:W.Frag}{Hf H:Hp}{a:Addr}{ls:kU}{u:HO}
theorem Qn (hm:cu Hf a ls){b:Addr}{o:HO}(h:Hf b=some o)(n:mk o=false):b≠a:=fun e=>by
 obtain⟨o',h1,h2⟩:=hm.mkd;rw[e,h1] at h;cases h;rw[h2] at n;cases n
theorem bE (hm:cu Hf a ls){b:Addr}{o:HO}(h:Hf b=some o)(n:mk o=false):(upd Hf a u) b=some o:=by rw[ag (Qn hm h n)];exact h
theorem sV (hm:cu Hf a ls)(hu:mk u=true):Kp Hf (upd Hf a u):=⟨fun b o e kq=>bE hm e (by cases o <;> first | rfl | exact(show False from kq).elim),fun b e=>by
 by_cases q:b=a
 . rw[q,ak]
   cases u <;> first | trivial | cases hu
 . rw[ag q];exact e,fun b x e=>bE hm e rfl⟩
def nX (ls:kU)(u:HO):Prop:=u=.memo ls\/∃ ns,u=.bT ls ns
theorem nX.mk {ls:kU}{u:HO}(h:nX ls u):mk u=true:=by rcases h with rfl | ⟨ns,rfl⟩ <;> rfl
theorem Jt (hm:cu Hf a ls)(hu:nX ls u){b:Addr}{ls':kU}(h:cu Hf b ls'):cu (upd Hf a u) b ls':=by
 by_cases e:b=a
 . subst e
   rw[h.inj hm];rcases hu with rfl | ⟨ns,rfl⟩
   . exact .inl ak
   . exact .inr ⟨ns,ak⟩
 . rcases h with h | ⟨ns,h⟩
   . exact .inl (by rw[ag e];exact h)
   . exact .inr ⟨ns,by rw[ag e];exact h⟩
theorem oJ (hm:cu Hf a ls)(hu:nX ls u){p:Addr}{f:Nat->List (Key×FD)}{n:Nat}(h:Known Hf p f n):Known (upd Hf a u) p f n:=fun i hi=>let ⟨q,o,kvs,h1,h2⟩:=h i hi;⟨q,o,kvs,bE hm h1 rfl,h2.kp (sV hm hu.mk)⟩
theorem Vc (hm:cu Hf a ls){b:Addr}{vs:List V}(s:EL K Hf b vs):EL K (upd Hf a u) b vs:=by
 rcases s with s | s
 . exact .inl (bE hm s rfl)
 . exact .inr s
theorem Mz (hm:cu Hf a ls){b C dx:Addr}{fs:List (Str×V)}(s:Rd Hf b (.ins C dx fs)):Rd (upd Hf a u) b (.ins C dx fs):=by
 rcases s with s | ⟨o,s⟩ | ⟨_,_,_,_,s⟩ | ⟨o,s⟩
 . exact .inl (bE hm s rfl)
 . exact .inr (.inl ⟨o,bE hm s rfl⟩)
 . cases s
 . exact .inr (.inr (.inr ⟨o,bE hm s rfl⟩))
theorem Vd (hm:cu Hf a ls){b:Addr}{vs:List V}(s:pL K Hf b vs):pL K (upd Hf a u) b vs:=by
 rcases s with(s | ⟨o,s⟩ | ⟨_,_,_,_,s⟩ | ⟨o,s⟩) | s
 . exact .inl (.inl (bE hm s rfl))
 . exact .inl (.inr (.inl ⟨o,bE hm s rfl⟩))
 . cases s
 . exact .inl (.inr (.inr (.inr ⟨o,bE hm s rfl⟩)))
 . exact .inr s
mutual
noncomputable def uI (a:Addr):Dt->Bool
 | .tup ds=>MA a ds
 | .lst ds=>MA a ds
 | .fw kds=>Br a kds
 | .rQ kds=>Br a kds
 | .d7 kds=>Br a kds
 | .obj _ fs=>lG a fs
 | .sO _ fs=>lG a fs
 | .memo b _ _ _=>decide (b≠a)
 | .xH _ _ _ _ _=>false
 | _=>true
noncomputable def MA (a:Addr):List Dt->Bool
 | []=>true
 | d::r=>uI a d && MA a r
noncomputable def Br (a:Addr):List (Key×Dt)->Bool
 | []=>true
 | (_,d)::r=>uI a d && Br a r
noncomputable def lG (a:Addr):List (Str×Dt)->Bool
 | []=>true
 | (_,d)::r=>uI a d && lG a r
end
theorem jm (hm:cu Hf a ls)(hu:nX ls u):∀ {v:V} {d:Dt},uI a d=true->Rep K Hf v d->Rep K (upd Hf a u) v d:=@fun v d zh zq=>@Rep.rec K Hf (fun v d _=>uI a d=true->Rep K (upd Hf a u) v d) (fun v d _=>MA a d=true->bK K (upd Hf a u) v d) (fun v d _=>Br a d=true->dm K (upd Hf a u) v d) (fun v d _=>lG a d=true->bA K (upd Hf a u) v d) (fun _=>.cz)
  (fun b _=>.bl b)
  (fun i _=>.int i)
  (fun x _=>.str x)
  (fun s r zi h=>.tup (Vc hm s) (zi (by rw[uI] at h;exact h)))
  (fun s r zi h=>.lst (bE hm s rfl) (zi (by rw[uI] at h;exact h)))
  (fun s _=>.rq (Vd hm s))
  (fun s r zi h=>.fw (bE hm s rfl) (zi (by rw[uI] at h;exact h)))
  (fun s r zi h=>.obj (Mz hm s) (zi (by rw[uI] at h;exact h)))
  (fun n _=>.ty n)
  (fun C _=>.cls C)
  (fun s r _=>.xo (bE hm s rfl) r)
  (fun s r zi h=>.rQ (bE hm s rfl) (zi (by rw[uI] at h;exact h)))
  (fun s q g r zi h=>.sO (bE hm s rfl) q (bE hm g rfl) (zi (by rw[uI] at h;exact h)))
  (fun s r zi h=>.d7 (bE hm s rfl) (zi (by rw[uI] at h;exact h)))
  (fun h1 h2 h3 h4 h=>.memo h1 (by rw[uI] at h;rw[ag (of_decide_eq_true h)];exact h2) (h3.imp id fun z=>bE hm z rfl) (oJ hm hu h4))
  (fun h1 h2 h3 h4 _=>.eG h1 (Jt hm hu h2) (h3.imp id fun z=>bE hm z rfl) (oJ hm hu h4))
  (fun h _=>.wC fun j p f z=>oJ hm hu (h j p f z))
  (fun _ _ _ zi h=>by rw[uI] at h;cases h)
  (fun s _=>.jf (s.st (sV hm hu.mk).st))
  (fun s _=>.ny (bE hm s rfl)) (fun _=>.nil) (fun r t zi zj h=>by rw[MA,aaE] at h;exact .cons (zi h.1) (zj h.2)) (fun _=>.nil) (fun r t zi zj h=>by rw[Br,aaE] at h;exact .cons (zi h.1) (zj h.2)) (fun _=>.nil) (fun r t zi zj h=>by rw[lG,aaE] at h;exact .cons (zi h.1) (zj h.2)) _ _ zq zh
theorem uJ (hm:cu Hf a ls)(hu:nX ls u):∀ {v:List V} {d:List Dt},MA a d=true->bK K Hf v d->bK K (upd Hf a u) v d:=by
 intro v d h q;induction d generalizing v with
 | nil=>cases q;exact .nil
 | cons _ _ ih=>cases q with|cons r t=>rw[MA,aaE] at h;exact .cons (jm hm hu h.1 r) (ih h.2 t)
theorem qE (hm:cu Hf a ls)(hu:nX ls u):∀ {v:List (Key×V)} {d:List (Key×Dt)},Br a d=true->dm K Hf v d->dm K (upd Hf a u) v d:=by
 intro v d h q;induction d generalizing v with
 | nil=>cases q;exact .nil
 | cons _ _ ih=>cases q with|cons r t=>rw[Br,aaE] at h;exact .cons (jm hm hu h.1 r) (ih h.2 t)
theorem jZ (hm:cu Hf a ls)(hu:nX ls u):∀ {v:List (Str×V)} {d:List (Str×Dt)},lG a d=true->bA K Hf v d->bA K (upd Hf a u) v d:=by
 intro v d h q;induction d generalizing v with
 | nil=>cases q;exact .nil
 | cons _ _ ih=>cases q with|cons r t=>rw[lG,aaE] at h;exact .cons (jm hm hu h.1 r) (ih h.2 t)
noncomputable def j0 (Hf H:Hp):Hp:=fun b=>match H b with
 | some (.kd tg o kvs)=>some (.kd tg o kvs)
 | some (.kx o u)=>some (.kx o u)
 | some (.tup xs)=>some (.tup xs)
 | _=>Hf b
theorem Bs {b:Addr}{u:HO}(h:H b=some u)(k:Kept u):j0 Hf H b=some u:=by
 unfold j0;rw[h];cases u <;> first | rfl | exact(show False from k).elim
theorem HI {b:Addr}{tg:Option (Addr×Nat)}{o:Obj}{kvs:List (Key×V)}(h:H b=some (.kd tg o kvs)):j0 Hf H b=some (.kd tg o kvs):=by unfold j0;rw[h]
theorem qF (b:Addr):(∃ u,H b=some u/\Kept u/\j0 Hf H b=some u)\/j0 Hf H b=Hf b:=by
 unfold j0;cases h:H b with
 | none=>exact .inr rfl
 | some u=>cases u <;> first | exact .inr rfl | exact .inl ⟨_,rfl,trivial,rfl⟩
theorem gC (s:aH Hf H):aH Hf (j0 Hf H):=fun b u e=>by
 rcases qF (Hf:=Hf) (H:=H) b with⟨u',h1,_,h3⟩ | h
 . rw[s _ _ e] at h1;cases h1;exact h3
 . rw[h];exact e
theorem p9 (s:aH Hf H):aH (j0 Hf H) H:=fun b u e=>by
 rcases qF (Hf:=Hf) (H:=H) b with⟨u',h1,_,h3⟩ | h
 . rw[h3] at e;cases e;exact h1
 . rw[h] at e;exact s _ _ e
theorem qG (s:aH Hf H):aU Hf H (j0 Hf H) H:=⟨aH.refl _,gC s,p9 s,fun b u e=>by
 rcases qF (Hf:=Hf) (H:=H) b with⟨u',h1,h2,h3⟩ | h
 . rw[h3] at e;cases e;exact .inr (.inr h2)
 . rw[h] at e;exact .inl ⟨u,e⟩⟩
end
noncomputable def fdD:FD->Dt
 | .int i=>.int i
 | .fw kds=>.d7 (dI kds)
 | d=>.jf d
noncomputable def pN (fd:List (Key×FD)):List (Key×Dt):=fd.map fun kd=>(kd.1,fdD kd.2)
theorem Ap {K:W.Frag}{H:Hp}:∀ (kds:List (Key×Int)),dm K H (kds.map fun kd=>(kd.1,V.int kd.2)) (dI kds)
 | []=>.nil
 | (k,i)::r=>.cons (.int i) (Ap r)
theorem MB {K:W.Frag}{H:Hp}:∀ {v:V} {d:FD},Fz H v d->Rep K H v (fdD d)
 | _,_,.int i=>.int i
 | _,_,.fw e=>.d7 e (Ap _)
 | _,_,.lst e=>.jf (.lst e)
 | _,_,.tup e=>.jf (.tup e)
 | _,_,.obj e f=>.jf (.obj e f)
theorem wJ {K:W.Frag}{H:Hp}:∀ {kvs:List (Key×V)} {fd:List (Key×FD)},t8 H kvs fd->dm K H kvs (pN fd)
 | _,_,.nil=>.nil
 | _,_,.cons h t=>.cons (MB h) (wJ t)
theorem Sf {K:W.Frag}{H:Hp}:∀ {v:V} {d:FD},Rep K H v (fdD d)->Fz H v d
 | _,.int i,r=>by cases r;exact .int i
 | _,.lst ns,r=>by cases r with | jf h=>exact h
 | _,.tup K ns,r=>by cases r with | jf h=>exact h
 | _,.obj C fs,r=>by cases r with | jf h=>exact h
 | _,.fw kds,r=>by
   cases r with
   | @d7 a tg ob kvs _ h r=>
     rw[Qj r] at h;exact .fw h
theorem rW {K:W.Frag}{H:Hp}:∀ {kvs:List (Key×V)} {fd:List (Key×FD)},dm K H kvs (pN fd)->t8 H kvs fd
 | _,[],.nil=>.nil
 | _,(k,d)::fd,.cons h t=>.cons (Sf h) (rW t)
theorem Ve {H H':Hp}(k:∀ b u,H b=some u->Kept u->H' b=some u){v:V}{d:FD}(h:Fz H v d):Fz H' v d:=h.st k
theorem gD {H H':Hp}(k:∀ b u,H b=some u->Kept u->H' b=some u):∀ {kvs:List (Key×V)} {kds:List (Key×FD)},t8 H kvs kds->t8 H' kvs kds
 | _,_,.nil=>.nil
 | _,_,.cons h t=>.cons (Ve k h) (gD k t)
section
variable {X:Cx}{G:Gr}{dl:List Slot}{a b e i:Expr}{pos p:Pos}{ls:kU}{j n:Nat}{l:Addr}{f:Nat->List (Key×FD)}{ns:List Nat}
theorem Qo:WT X (fun x y H Q=>∃ (p:Addr) (k:Nat) (q:Addr) (o:Obj) (kvs:List (Key×V)),x=.ref p/\y=.int (k:Int)/\H q=some (.kd (some (p,k)) o kvs)/\k < 10000/\Q (.ref q) H):=by
 intro value slice pins s σ H x y v u Q I rx ry h hs;obtain⟨p,k,q,o,kvs,rfl,rfl,hq,hk,kk⟩:=h;cases rx;obtain⟨t,rfl⟩:=ry;obtain⟨_,_,hm⟩:=(show aM X.prog X.w H s.heap q (.kd (some (p,k)) o kvs) from I.aR q _ hq)
 obtain⟨_,aJ,c,e1,e2⟩:=hm p k rfl;have hn:=nv;exact item_listR (items:=aJ.toArray) ⟨_,e1,rfl,c,rfl⟩ (by omega) (by omega) (by rw[abn];simpa using e2) ⟨.ref q,H,I,rfl,kk⟩ hs
theorem uK {k:Nat}(hb:EE X G dl b (.memo l ls j n))(hi:EE X G dl i (.int (k:Int)))(hf:(ls.map (·.2))[j]?=some f)(hk:k < n)(hn:n<=1000)(hs:autoParam (lF i) wl):EE X G dl (.Subscript b i pos) (.d7 (pN (f k))):=
 gX (xC Qo hb hi hs) fun st H Q zq=>zn zq fun Hf S kk=>fun v av H1 g1 r1=>⟨av,S.grow g1,fun w bD H2 g2 r2=>by
   cases r2;cases r1 with
   | @memo _ p _ _ _ f' h1 h2 h3 h4=>
     have e:f'=f:=by
       rw[aaf,h1] at hf;exact Option.some.inj hf
     subst e;obtain⟨q,o,kvs,q1,q2⟩:=h4 k hk;exact⟨p,k,q,o,kvs,rfl,rfl,g2.big _ _ (g1.sub _ _ q1),by omega,kk _ bD H2 (g1.trans g2) (.d7 (g2.bJ _ _ q1) (wJ (q2.kp (.of g2.bJ))))⟩⟩
theorem MC:WT X (fun x y H Q=>∃ (a:Addr) (ls:kU) (ns:List Nat) (j:Nat) (p:Addr) (f:Nat->List (Key×FD)) (N:Nat),x=.ref p/\y=.int (-1)/\H a=some (.bT ls ns)/\ls[j]?=some (p,f)/\ns[j]?=some N/\0 < N/\∀ q o kvs,H q=some (.kd (some (p,N - 1)) o kvs)->t8 H kvs (f (N - 1))->Q (.ref q) H):=by
 intro value slice pins s σ H x y v u Q I rx ry h hs;obtain⟨a,ls,ns,j,p,f,N,rfl,rfl,ha,hj,hN,h0,kk⟩:=h;cases rx;obtain⟨t,rfl⟩:=ry;obtain⟨_,_,_,_,_,h5,h6⟩:=(show aM X.prog X.w H s.heap a (.bT ls ns) from I.aR a _ ha)
 obtain⟨aJ,c,e1,e2,e3⟩:=h6 j p f N hj hN;obtain⟨q,o,kvs,q1,q2,q3⟩:=e3 (N - 1) (by omega);have hn:=nv;have hN':=h5 N (abX hN);have hl:Heap.IsList s.heap p aJ.toArray:=⟨_,e1,rfl,c,rfl⟩
 exact subscriptTail_builtinR (x:=.ref q) hl.typeIs slot_list_getitem.lookup
     (wpAny_getItem_list_neg (Q:=fun r s'=>r=.ref q/\EP X pins σ Q r s') hl (by omega) (by rw[aao] <;> omega) (by omega) (by rw[aao,e2,show((-1:Int)+(N:Nat)).toNat=N - 1 by omega];simpa using q1) ⟨rfl,.ref q,H,I,rfl,kk q o kvs q2 q3⟩) hs
theorem Dy {N:Nat}(hx:G.Hf l=some (.bT ls ns))(hb:EE X G dl b (.eG l ls j n))(hi:EE X G dl i (.int (-1)))(hf:(ls.map (·.2))[j]?=some f)(hN:ns[j]?=some N)(h0:0 < N)(hs:autoParam (lF i) wl):EE X G dl (.Subscript b i pos) (.d7 (pN (f (N - 1)))):=
 gX (xC MC hb hi hs) fun st H Q zq=>zn zq fun Hf S kk=>fun v av H1 g1 r1=>⟨av,S.grow g1,fun w bD H2 g2 r2=>by
   cases r2;cases r1 with
   | @eG _ p _ _ _ f' h1 h2 h3 h4=>
     have e:f'=f:=by
       rw[aaf,h1] at hf;exact Option.some.inj hf
     subst e;have g:=g1.trans g2;refine⟨l,ls,ns,j,p,f',N,rfl,rfl,g.sub _ _ (g.bJ _ _ (S.gr.bJ _ _ hx)),h1,hN,h0,fun q o kvs q1 q2=>?_⟩;have ga:=qG g2.sub;exact kk _ _ H2 (g.trans ga) (.d7 (HI q1) (wJ (gD (fun b u e kq=>Bs e kq) q2)))⟩
theorem Ju:mj X (.builtin "len") (fun xs H Q=>∃ (a:Addr) (ls:kU) (ns:List Nat) (j:Nat) (p:Addr) (f:Nat->List (Key×FD)) (N:Nat),xs=[.ref p]/\H a=some (.bT ls ns)/\ls[j]?=some (p,f)/\ns[j]?=some N/\Q (.int (N:Nat)) H):=by
 intro pins s σ H xs us Q I r h;obtain⟨a,ls,ns,j,p,f,N,rfl,ha,hj,hN,q⟩:=h;obtain⟨u,rfl,rx⟩:=vals1 r;cases rx;obtain⟨_,_,_,_,_,h5,h6⟩:=(show aM X.prog X.w H s.heap a (.bT ls ns) from I.aR a _ ha)
 obtain⟨aJ,c,e1,e2,e3⟩:=h6 j p f N hj hN;have hn:=nv;have hN':=h5 N (abX hN);have hl:Heap.IsList s.heap p aJ.toArray:=⟨_,e1,rfl,c,rfl⟩
 exact Calls.call_len_list hl (by simp only[aao] <;> omega) ⟨.int (N:Nat),H,I.tok _,⟨s.toks+1,by rw[aao,e2]⟩,q⟩
theorem HJ {N:Nat}(hm:X.mg "len"=none)(hx:G.Hf l=some (.bT ls ns))(hb:EE X G dl b (.eG l ls j n))(hN:ns[j]?=some N)(hg:autoParam (Gl X "len") jp)(he:autoParam (starEach [b] X.env=[(false,eval b X.env)]) jp):EE X G dl (.Call (.Name "len" p) [b] [] pos) (.int (N:Nat)):=
 gX (ip Ju hg hm PySem.boot_len (ae hb ai he) (he:=he)) fun st H Q zq=>zn zq fun Hf S kk=>fun vs av H1 g1 r1=>by
   cases r1 with
   | cons r t=>cases t;cases r with
     | @eG _ p _ _ _ f' h1 h2 h3 h4=>exact⟨l,ls,ns,j,p,f',N,rfl,g1.sub _ _ (g1.bJ _ _ (S.gr.bJ _ _ hx)),h1,hN,kk _ av H1 g1 (.int _)⟩
theorem kN {d:Dt}{k:Str}{kds:List (Key×Dt)}(hu:X.A.units+1 < cLine)(ho:EE X G dl b (.d7 kds))(hi:EE X G dl i (.str k))(h:mR kds (.inr k)=some d)(hs:Pl i):EE X G dl (.Subscript b i pos) d:=
 gX (G9 hu ho hi hs) fun st H Q zq=>zn zq fun Hf S kk=>fun v av H1 g1 r1=>⟨av,S.grow g1,fun w bD H2 g2 r2=>by
   cases r2;cases r1 with
   | @d7 q tg ob kvs _ hq rp=>
     obtain⟨y,z1,z2⟩:=rp.val h;have e:vE H2 q (kV (.inr k)) (pU kvs (.inr k)):=.inl ⟨kvs,.inr k,.inr (.inr (.inl ⟨tg,ob,kvs,g2.big _ _ (g1.sub _ _ hq),rfl⟩)),rfl,rfl⟩;rw[z1] at e;exact⟨q,y,rfl,e,kk y bD H2 (g1.trans g2) (z2.mono g2.bJ)⟩⟩
theorem Sh {kds:List (Key×Dt)}(h:EO X G dl e (.fw kds)):EE X G dl e (.d7 kds):=by
 intro pins s st H Q I ⟨Hf,S,kk⟩;refine bZ (h pins s st H (fun v H'=>∃ p aK,v=.ref p/\aU Hf H aK H'/\H p=none/\aK p=none/\iq X.K aK H' p (.fw kds)) I ⟨Hf,S,fun p aK H' g n n' r=>⟨p,aK,rfl,g,n,n',r⟩⟩) fun u s1 zq=>?_;obtain⟨v,H',I1,rv,q,aK,ev,g,n,n',kvs,hq,rp⟩:=zq
 subst ev;obtain⟨hz,lo,vs,kv,ob,es,ep,ho,hr⟩:=(show aM X.prog X.w H' s1.heap q (.dK kvs) from I1.aR q _ hq)
 have I2:L2.Inv X pins st (upd H' q (.kd none ob kvs)) s1:=oB (h':=s1.heap) (t':=s1.toks) I1 (by rw[hq];trivial) ⟨rfl,fun _ _=>rfl⟩ ⟨ob,ho⟩ ⟨ho,⟨hz,lo,vs,kv,ob,es,ep,ho,hr⟩,fun p i z=>by cases z⟩;have sm:aH aK (upd aK q (.kd none ob kvs)):=bj n';refine⟨.ref q,_,I2,rv,kk _ (upd aK q (.kd none ob kvs)) _ ⟨fun b o hb=>?_,g.bJ.trans sm,cR g.sub,fun b o hb=>?_⟩ (.d7 ak (rp.mono sm))⟩
 . rw[ag (ax hb n)];exact g.big _ _ hb
 . by_cases e:b=q
   . subst e;exact .inr (.inl n)
   . rw[ag e] at hb;exact g.new b o hb
theorem FK:WU X "dict.values" (fun x xs H Q=>∃ (d:Addr) (kvs:List (Key×V)),x=.ref d/\xs=[]/\Rd H d (.dK kvs)/\∀ l,H l=none->Q (.ref l) (upd H l (.ext fun h=>h.IsValuesView l d))):=by
 intro pins s σ H x xs v us Q I rx rv zq;obtain⟨d,kvs,e1,e2,hq,q⟩:=zq;subst e1 e2;cases rx;cases rv;obtain⟨hz,lo,vs,kv,hD⟩:=vj I.aR hq;refine call_meetsIn PySem.F.slot_dict_values hD.typeIs PySem.F.entry_dict_values (PySem.F.args_dict_values_1 _) (meets_dict_values (dj X.prog X.w) d lo) ⟨⟨vs,hD⟩,?_⟩;refine⟨.ref s.heap.objs.size,_,I.laid (a:=s.heap.objs.size) (t':=s.toks) (o:=.ext fun h=>h.IsValuesView s.heap.objs.size d) (fun b o e=>aad _ e) (aai _) ?_,rfl,q _ (I.aR.fresh (aai _))⟩;exact⟨⟨_,aaq _ rfl,rfl,rfl⟩,⟨_,aaq _ rfl⟩,fun h1 h2 ⟨ox,z1,z2⟩ kk=>⟨ox,kk _ z1,z2⟩⟩
theorem MD:∀ {kds:List (Key×Int)} {vs:List (Key×Value)} {i:Nat} {k:Key} {v:Value},KV (kds.map fun kd=>(kd.1,V.int kd.2)) vs->vs[i]?=some (k,v)->∃ t,v=.int ((kds.map (·.2)).getD i 0) t
 | [],_,_,_,_,.nil,e=>by simp at e
 | (k0,z)::kds,_,0,_,_,.cons r _,e=>by
   simp at e;subst e;obtain⟨_,t,q⟩:=r;exact⟨t,q⟩
 | (k0,z)::kds,_,i+1,_,_,.cons _ t,e=>by
   obtain⟨t',q⟩:=MD (i:=i) t (by simpa using e);exact⟨t',by simpa using q⟩
theorem Jv (hc:X.calm=true):mj X (.builtin "sum") (fun xs H Q=>∃ (v d:Addr) (φ:Heap->Prop) (kds:List (Key×Int)),xs=[.ref v]/\H v=some (.ext φ)/\(∀ h,φ h->h.IsValuesView v d)/\Rd H d (.dK (kds.map fun kd=>(kd.1,V.int kd.2)))/\Q (.int (kds.map (·.2)).sum) H):=by
 intro pins s σ H xs us Q I r h;obtain⟨v,d,φ,kds,rfl,hv,hφ,hq,q⟩:=h;obtain⟨u,rfl,rx⟩:=vals1 r;cases rx;obtain⟨hz,lo,vs,kv,o,es,ep,ho,hr⟩:=vj I.aR hq;have hvv:=hφ _ (I.aR v _ hv).1;have hl:=FC kv;rw[aaa] at hl;have hA:X.A.handled=none:=I.ok.hd hc;refine call_sum_walkAnyS ?_;have Ks:=PySem.W.kdl_values (prog:=X.prog) (w:=X.w) (knd:=dj X.prog X.w) (r:=v) (d:=d) (kvs:=vs) (ep:=ep);have aR:s.heap.IsValuesView v d/\s.heap.DictAt (dj X.prog X.w) d vs ep:=⟨hvv,o,es,ho,hr⟩
 obtain⟨oI,St,hit,W,st⟩:=Ks.iter X.A.in1 s hA aR;refine hit _ _ ⟨s.heap.objs.size,_,_,_,vs.length,_,_,fun i=>(kds.map (·.2)).getD i 0,rfl,W.toS,st,fun b hb=>?_,fun i w ⟨k,hk⟩=>MD kv hk,fun s' t' hm=>?_⟩
 . show b < (s.heap.push oI).objs.size
   rw[abK];rcases aaz.mp hb with e | hb
   . rw[e];exact abR _
   . rw[ab9.mp hb];exact acw (Ks.there _ aR).2
 . have hk:∀ b o,s.heap.get? b=some o->s'.heap.get? b=some o:=fun b o e=>
     hm.heap b o (fun hI=>absurd (aak e) (by rw[ab9.mp hI];exact abF _)) (aad _ e)
   have es:preSum (fun i=>(kds.map (·.2)).getD i 0) vs.length=(kds.map (·.2)).sum:=by
     rw[uE _ _ (by rw[aaa];omega),ab0 (by rw[aaa];omega)]
   rw[es,Moved.eq_with hm];exact⟨.int _,H,I.kept (t':=s'.toks) hk,⟨t',rfl⟩,q⟩
def intsOf (d:Dt)(kds:List (Key×Int)):Prop:=d=.d7 (dI kds)\/d=.fw (dI kds)
theorem Qp {kds:List (Key×Int)}{d:Dt}{apos bf:Pos}(hm:X.mg "sum"=none)(hc:X.calm=true)(ha:EE X G dl a d)(hd:intsOf d kds)(hg:autoParam (Gl X "sum") jp)(kI:autoParam (attributeBase a "values" X.env (eval a X.env)=eval a X.env) jp)(kJ:autoParam ((apos.endLine == bf.line)=true) jp)(he:autoParam (starEach [.Call (.Attribute a "values" apos) [] [] bf] X.env=[(false,eval (.Call (.Attribute a "values" apos) [] [] bf) X.env)]) jp):EE X G dl (.Call (.Name "sum" p) [.Call (.Attribute a "values" apos) [] [] bf] [] pos) (.int (kds.map (·.2)).sum):=
 gX (ip (Jv hc) hg hm boot_sum (kg (K6 PySem.F.plainAttrs_dict PySem.F.slot_dict_values PySem.F.type_dict_values FK ha kI kJ) oA he) (he:=he)) fun st H Q zq=>aac zq fun Hf zq=>have S:=zq.1;have k:=zq.2;⟨Hf,S,fun v av H1 g1 r1=>by
   have key:∃ q,v=.ref q/\Rd H1 q (.dK (kds.map fun kd=>(kd.1,V.int kd.2)))/\tyV X.K "dict" v H1:=by
     rcases hd with rfl | rfl
     . cases r1 with
       | @d7 q tg ob kvs _ hq rp=>
         rw[Qj rp] at hq;exact⟨q,rfl,.inr (.inr (.inl ⟨tg,ob,_,g1.sub _ _ hq,rfl⟩)),.inr (.inr (.inl ⟨rfl,.inr (.inr ⟨tg,ob,_,g1.sub _ _ hq⟩)⟩))⟩
     . cases r1 with
       | @fw q kvs _ hq rp=>
         rw[Qj rp] at hq;exact⟨q,rfl,.inl (g1.sub _ _ hq),.inr (.inr (.inl ⟨rfl,.inl ⟨_,g1.sub _ _ hq⟩⟩))⟩
   obtain⟨q,rfl,hq,ty⟩:=key;refine⟨ty,q,_,rfl,rfl,hq,fun v hv=>⟨v,q,_,kds,rfl,ak,fun h x=>x,?_,k _ av _ (g1.trans (.fX g1.sub hv)) (.int _)⟩⟩;exact d8 (bj hv) hq⟩
variable {pins:List (Addr×Obj)}{σ:L2.St}{H:Hp}{s:Shared}
theorem Inv.flip {u:HO}(I:L2.Inv X pins σ H s)(hm:cu H l ls)(hu:nX ls u)(new:aM X.prog X.w (upd H l u) s.heap l u):L2.Inv X pins σ (upd H l u) s:=by
 refine I.un (h':=s.heap) (t':=s.toks) ⟨fun b o e _ _ _=>e,fun b o e _ _ _=>⟨o.slots,e⟩,fun b o e n _=>?_,fun b o e _=>⟨o,e⟩,fun b xs e=>bE hm e rfl,fun b o u e=>bE hm e rfl,fun b ps e=>⟨#[],by rw[bE hm e rfl];simp⟩⟩ fun b o e=>?_
 . rw[ag (fun z=>by obtain⟨o',h1,_⟩:=hm.mkd;rw[z,h1] at n;cases n)];exact n
 . by_cases eb:b=l
   . subst eb;rw[ak] at e;cases e;exact new
   . rw[ag eb] at e
     exact(I.aR b o e).qW (fun _ _ _ q=>q) (fun c q=>bE hm q rfl) (fun c xs q=>bE hm q rfl) (sV hm hu.mk)
theorem Inv.exact(I:L2.Inv X pins σ H s)(hm:H l=some (.memo ls)):∃ n,0 < n/\n<=10000/\L2.Inv X pins σ (upd H l (.bT ls (aal ls.length n))) s:=by
 obtain⟨ho,n,hn,q⟩:=(show aM X.prog X.w H s.heap l (.memo ls) from I.aR l _ hm)
 have hl:0 < ls.length:=by
   obtain⟨⟨f,hf⟩,_⟩:=q;exact(aaj.mp hf).1
 have h5:n<=10000:=q.2.2.2.2.1 n (by rw[List.mem_replicate];exact⟨by omega,rfl⟩);exact⟨n,hn,h5,Inv.flip I (.inl hm) (.inr ⟨_,rfl⟩) ⟨ho,q.kp (sV (.inl hm) rfl) fun _ _ _ e=>e⟩⟩
theorem Inv.pack {n:Nat}(I:L2.Inv X pins σ H s)(hm:H l=some (.bT ls (aal ls.length n)))(hn:0 < n):L2.Inv X pins σ (upd H l (.memo ls)) s:=by
 obtain⟨ho,q⟩:=(show aM X.prog X.w H s.heap l (.bT ls _) from I.aR l _ hm)
 exact Inv.flip I (.inr ⟨_,hm⟩) (.inl rfl) ⟨ho,n,hn,q.kp (sV (.inr ⟨_,hm⟩) rfl) fun _ _ _ e=>e⟩
theorem rX:WU X "list.append" (fun x vs H Q=>∃ (a:Addr) (ls:kU) (ns:List Nat) (j:Nat) (p:Addr) (f:Nat->List (Key×FD)) (N:Nat) (q:Addr) (kvs:List (Key×V)),x=.ref p/\vs=[.ref q]/\H a=some (.bT ls ns)/\ls[j]?=some (p,f)/\ns[j]?=some N/\N < 9000/\H q=some (.dK kvs)/\t8 H kvs (f N)/\∀ o,Q .cz (upd (upd H a (.bT ls (ns.set j (N+1)))) q (.kd (some (p,N)) o kvs))):=by
 intro pins s σ H x vs v us Q I rx rv zq;obtain⟨a,ls,ns,j,p,f,N,q,kvs,e1,e2,ha,hj,hN,hN9,hq,hfz,kk⟩:=zq;subst e1 e2;cases (show v=Value.ref p from rx);obtain⟨u,rfl,ru⟩:=vals1 rv;cases (show u=Value.ref q from ru);obtain⟨⟨oa,hoa⟩,⟨f0,h1⟩,h2,h3,h4,h5,h6⟩:=(show aM X.prog X.w H s.heap a (.bT ls ns) from I.aR a _ ha)
 obtain⟨aJ,c,e,hlen,hit⟩:=h6 j p f N hj hN;obtain⟨hz,lo,vs,kv,oq,es,ep,hoq,hr⟩:=(show aM X.prog X.w H s.heap q (.dK kvs) from I.aR q _ hq)
 have Kt:nr (H p):=by
   rcases h3 j p f hj with z | z
   . rw[z,ha];trivial
   . rw[z];trivial
 have hpq:p≠q:=fun z=>by rw[z,hq] at Kt;exact Kt
 have haq:a≠q:=fun z=>by rw[z,hq] at ha;cases ha
 have hnm:=nv;refine call_meets PySem.F.slot_list_append ⟨_,e,rfl⟩ PySem.F.entry_list_append (PySem.F.args_list_append_2 _ _) (PySem.list_append p aJ.toArray c (.ref q) (by rw[aao];exact aax (show aJ.length<=10000 by omega) (by decide))) ⟨e,?_⟩;have e':=PySem.IsL.update e (fun x=>x.push (Value.ref q));rw[show aJ.toArray.push (Value.ref q)=(aJ ++ [Value.ref q]).toArray by simp] at e';generalize hh':s.heap.update p (Obj.mapSeq fun x=>x.push (Value.ref q))=h' at e';have FL:∀ b o,b≠p->s.heap.get? b=some o->h'.get? b=some o:=fun b o hb z=>by rw[<- hh'];exact(ab7 s.heap _ (Ne.symm hb)).trans z
 let H':Hp:=upd (upd H a (.bT ls (ns.set j (N+1)))) q (.kd (some (p,N)) oq kvs);have vM:∀ b o,H b=some o->b≠a->b≠q->H' b=some o:=fun b o z n1 n2=>by show(upd (upd H a _) q _) b=_;rw[ag n2,ag n1];exact z
 have nk:∀ b o,H b=some o->mk o=false->b≠a:=fun b o z n z'=>by rw[z',ha] at z;cases z;cases n
 have nq:∀ b o,H b=some o->(∀ x,o≠.dK x)->b≠q:=fun b o z n z'=>by rw[z',hq] at z;exact n _ (Option.some.inj z).symm
 have kp:Kp H H':=⟨fun b o z kq=>vM b _ z (nk b _ z (by cases o <;> first | rfl | exact(show False from kq).elim)) (nq b _ z fun x y=>by subst y;exact kq),fun b z=>by
   by_cases ba:b=a
   . rw[ba];show nr ((upd (upd H a _) q _) a);rw[ag haq,ak];trivial
   . have bq:b≠q:=fun z'=>by rw[z',hq] at z;exact z
     show nr ((upd (upd H a _) q _) b);rw[ag bq,ag ba];exact z,fun b x z=>vM b _ z (nk b _ z rfl) (nq b _ z fun x y=>by cases y)⟩
 have hl:∀ p' i c',nr (H p')->Xf s.heap p' i c'->Xf h' p' i c':=fun p' i c' _ zq=>by
   obtain⟨its',n',z1,z2⟩:=zq;by_cases pp:p'=p
   . subst pp
     rw[e] at z1;have z3:its'=aJ:=by
       have:=congrArg (fun o:Option Obj=>o.map (·.data)) z1;simp at this;exact this.1.symm
     subst z3;exact⟨_,_,e',by rw[aay (aaj.mp z2).1];exact z2⟩
   . exact⟨its',n',FL _ _ pp z1,z2⟩
 have R6:Xf h' p N q:=⟨_,_,e',by rw[aaB (by omega),hlen,Nat.sub_self];rfl⟩
 have fz':t8 H' kvs (f N):=hfz.kp kp;have hqo:h'.get? q=some oq:=FL _ _ (Ne.symm hpq) hoq;have YR:∀ b,H b=none->H' b=none:=fun b n=>by
   have n1:b≠a:=fun z=>by rw[z,ha] at n;cases n
   have n2:b≠q:=fun z=>by rw[z,hq] at n;cases n
   show(upd (upd H a _) q _) b=none;rw[ag n2,ag n1];exact n
 have nop:∀ b,H b=none->b≠p:=fun b n z=>by rw[<- z,n] at Kt;exact Kt
 have ths:∀ b o,s.heap.get? b=some o->∃ o',h'.get? b=some o':=fun b o z=>by
   by_cases bp:b=p
   . rw[bp];exact⟨_,e'⟩
   . exact⟨o,FL _ _ bp z⟩
 refine⟨.cz,H',I.un (h':=h') (t':=s.toks) ⟨fun b o z n _ _=>FL b o (nop b n) z,fun b o z n _ _=>⟨o.slots,FL b o (nop b n) z⟩,fun b o _ n _=>YR b n,fun b o z _=>ths b o z,fun b xs z=>vM b _ z (nk b _ z rfl) (nq b _ z fun x y=>by cases y),
   fun b o u z=>vM b _ z (nk b _ z rfl) (nq b _ z fun x y=>by cases y),fun b ps z=>⟨#[],by rw[vM b _ z (nk b _ z rfl) (nq b _ z fun x y=>by cases y)];simp⟩⟩ fun b u z=>?_,rfl,kk oq⟩
 by_cases bq:b=q
 . subst bq
   have z:(upd (upd H a _) b _) b=some u:=z;rw[ak] at z;cases z;refine⟨hqo,⟨hz,lo,vs,kv,oq,es,ep,hqo,hr⟩,fun p' i ht=>?_⟩;cases ht;exact⟨kp.mem _ Kt,R6⟩
 . by_cases ba:b=a
   . subst ba
     have z:(upd (upd H b _) q _) b=some u:=z;rw[ag bq,ak] at z;cases z;refine⟨ths _ _ hoa,⟨f0,h1⟩,by rw[acI];exact h2,fun j' p' f' z=>(h3 j' p' f' z).imp id fun z=>kp.part _ _ z,h4,fun n hn=>?_,fun j' p' f' n z1 z2=>?_⟩
     . obtain⟨i,hi,ei⟩:=abJ.mp hn
       rw[List.getElem_set] at ei
       split at ei
       . omega
       . rw[<- ei];exact h5 _ (aaN _)
     . by_cases jj:j=j'
       . subst jj
         rw[hj] at z1;cases z1;have hjl:j < ns.length:=(aaj.mp hN).1;rw[aag hjl] at z2;cases z2;refine⟨_,_,e',by rw[aaw,hlen];rfl,fun i hi=>?_⟩;by_cases hiN:i < N
         . obtain⟨q',o',kv',w1,w2,w3⟩:=hit i hiN
           exact⟨q',o',kv',by rw[aay (by omega)];exact w1,kp.kd _ _ _ _ w2,w3.kp kp⟩
         . have:i=N:=by omega
           subst this;exact⟨q,oq,kvs,by rw[aaB (by omega),hlen,Nat.sub_self];rfl,ak,fz'⟩
       . rw[aah jj] at z2
         have pp:p'≠p:=fun z=>by
           subst z;obtain⟨i1,e1⟩:=aaj.mp hj;obtain⟨i2,e2⟩:=aaj.mp z1;have pw:=abB.mp h4;rcases Nat.lt_or_gt_of_ne jj with lt | lt
           . have:=pw j j' (by rw[aaa];exact i1) (by rw[aaa];exact i2) lt
             rw[aa8,aa8,e1,e2] at this;exact this rfl
           . have:=pw j' j (by rw[aaa];exact i2) (by rw[aaa];exact i1) lt
             rw[aa8,aa8,e1,e2] at this;exact this rfl
         exact(h6 j' p' f' n z1 z2).kp kp fun u z=>FL _ _ pp z
   . have z0:H b=some u:=by
       have z:(upd (upd H a _) q _) b=some u:=z;rw[ag bq,ag ba] at z;exact z
     by_cases bp:b=p
     . subst bp
       rcases h3 j b f hj with z1 | z1
       . exact absurd z1 ba
       . rw[z1] at z0;cases z0
         exact⟨_,e'⟩
     . refine(I.aR b u z0).RF (fun c' v' EK z'=>FL c' v' ?_ z') (fun c' z'=>vM c' _ z' (nk c' _ z' rfl) (nq c' _ z' fun x y=>by cases y)) (fun c' xs z'=>vM c' _ z' (nk c' _ z' rfl) (nq c' _ z' fun x y=>by cases y)) kp hl
       rcases EK with rfl | z1 | z1
       . exact bp
       . exact fun z'=>by rw[z'] at z1;rw[z1] at Kt;exact Kt
       . intro z'
         rw[z'] at z1;rcases h3 j p f hj with z2 | z2
         . rw[z2,ha] at z1;cases z1
         . rw[z2] at z1;cases z1;exact ba rfl
end
noncomputable def qZ (fs:List (Str×Dt))(nm:List Str)(a:Addr)(ls:kU)(n:Nat):List (Str×Dt):=fs ++ (aan nm.length).map fun j=>(nm.getD j "",.eG a ls j n)
section
variable {K:W.Frag}{Hf H:Hp}
theorem bA.split:∀ {W8 OQ:List (Str×Dt)} {fv:List (Str×V)},bA K H fv (W8 ++ OQ)->∃ f1 f2,fv=f1 ++ f2/\bA K H f1 W8/\bA K H f2 OQ
 | [],_,fv,r=>⟨[],fv,rfl,.nil,r⟩
 | (k,d)::W8,OQ,_,.cons h t=>by
   obtain⟨f1,f2,e,r1,r2⟩:=bA.split t;exact⟨(k,_)::f1,f2,by rw[e];rfl,.cons h r1,r2⟩
theorem bA.join:∀ {W8 OQ:List (Str×Dt)} {f1 f2:List (Str×V)},bA K H f1 W8->bA K H f2 OQ->bA K H (f1 ++ f2) (W8 ++ OQ)
 | _,_,_,_,.nil,r=>r
 | _,_,_,_,.cons h t,r=>.cons h (bA.join t r)
theorem qH {nm:Nat->Str}{d d':Nat->Dt}{H':Hp}(h:∀ j v,Rep K H v (d j)->Rep K H' v (d' j)):∀ {js:List Nat} {fv:List (Str×V)},bA K H fv (js.map fun j=>(nm j,d j))->bA K H' fv (js.map fun j=>(nm j,d' j))
 | [],_,.nil=>.nil
 | j::js,_,.cons r t=>.cons (h j _ r) (qH h t)
def wK (H:Hp)(ls:kU)(n:Nat):Prop:=∀ (j:Nat) (p:Addr) (f:Nat->List (Key×FD)),ls[j]?=some (p,f)->Known H p f n
variable {fs:List (Str×Dt)}{nm:List Str}{l:Addr}{ls:kU}{n m:Nat}{fv:List (Str×V)}{u:HO}
theorem yg (hn:0 < nm.length)(r:bA K Hf fv (vk fs nm l ls n)):Hf l=some (.memo ls):=by
 obtain⟨f1,f2,_,_,r2⟩:=bA.split r;cases hk:nm.length with
 | zero=>omega
 | succ k=>
   rw[hk,List.range_succ_eq_map,aas] at r2;cases r2 with
   | cons h t=>cases h with
     | memo _ h2 _ _=>exact h2
theorem YS (hs:lG l fs=true)(hm:Hf l=some (.memo ls))(hu:nX ls u)(r:bA K Hf fv (vk fs nm l ls n)):bA K (upd Hf l u) fv (qZ fs nm l ls n):=by
 obtain⟨f1,f2,e,r1,r2⟩:=bA.split r;subst e;refine bA.join (jZ (.inl hm) hu hs r1) (qH (fun j v q=>?_) r2);cases q with
 | memo h1 h2 h3 h4=>exact jm (.inl hm) hu rfl (.eG h1 (.inl h2) h3 h4)
theorem Si (hs:lG l fs=true)(hm:cu Hf l ls)(r:bA K Hf fv (qZ fs nm l ls n)):bA K (upd Hf l (.memo ls)) fv (vk fs nm l ls n):=by
 obtain⟨f1,f2,e,r1,r2⟩:=bA.split r;subst e;refine bA.join (jZ hm (.inl rfl) hs r1) (qH (fun j v q=>?_) r2);cases q with
 | eG h1 h2 h3 h4=>exact .memo h1 ak (h3.imp id fun z=>bE hm z rfl) (oJ hm (.inl rfl) h4)
theorem Dz (hk:wK Hf ls m)(r:bA K Hf fv (vk fs nm l ls n)):bA K Hf fv (vk fs nm l ls m):=by
 obtain⟨f1,f2,e,r1,r2⟩:=bA.split r;subst e;refine bA.join r1 (qH (fun j v q=>?_) r2);cases q with
 | memo h1 h2 h3 h4=>exact .memo h1 h2 h3 (hk _ _ _ h1)
theorem Qq (hl:ls.length<=nm.length)(r:bA K Hf fv (vk fs nm l ls n)):wK Hf ls n:=fun j p f e=>by
 obtain⟨f1,f2,_,_,r2⟩:=bA.split r;have hj:j < nm.length:=aam (aaj.mp e).1 hl;have key:∀ {js:List Nat} {fv:List (Str×V)},bA K Hf fv (js.map fun j=>(nm.getD j "",Dt.memo l ls j n))->j∈js->Known Hf p f n:=by
   intro js
   induction js with
   | nil=>intro fv _ h;cases h
   | cons i js ih=>
     intro fv r h;cases r with
     | cons q t=>
       rcases aaz.mp h with z | z
       . subst z
         cases q with
         | memo h1 h2 h3 h4=>rw[e] at h1;cases h1;exact h4
       . exact ih t z
 exact key r2 (acs.mpr hj)
theorem Vf {A B bD H2:Hp}(hA:A l=some (.memo ls))(hB:B l=some (.memo ls))(g:aU (upd A l u) (upd B l u) bD H2):aU A B (upd bD l (.memo ls)) (upd H2 l (.memo ls)):=by
 refine⟨fun b o e=>?_,fun b o e=>?_,cR g.sub,fun b o e=>?_⟩
 . by_cases hb:b=l
   . subst hb;rw[hB] at e;cases e;exact ak
   . rw[ag hb];exact g.big _ _ (by rw[ag hb];exact e)
 . by_cases hb:b=l
   . subst hb;rw[hA] at e;cases e;exact ak
   . rw[ag hb];exact g.bJ _ _ (by rw[ag hb];exact e)
 . by_cases hb:b=l
   . subst hb;exact .inl ⟨_,hA⟩
   . rw[ag hb] at e
     rcases g.new b o e with⟨o',z⟩ | z | z
     . rw[ag hb] at z;exact .inl ⟨o',z⟩
     . rw[ag hb] at z;exact .inr (.inl z)
     . exact .inr (.inr z)
variable {G G0:Gr}{st:L2.St}{dl:List Slot}
theorem dh.rebase (S:dh K G0 st Hf H dl)(no:noOwn dl=true)(g:aU G.Hf G.H G0.Hf G0.H):dh K G st Hf H dl:=⟨g.trans S.gr,S.len,S.val,fun i o h=>absurd h (bo no i o),fun i j o o' a h=>absurd h (bo no i o)⟩
noncomputable def sW (a:Addr):List Slot->Bool
 | []=>true
 | .aY::r=>sW a r
 | .val d::r=>uI a d && sW a r
 | .own _::_=>false
theorem nY {l:Addr}:∀ {tl:List Slot} {i:Nat} {d:Dt},sW l tl=true->tl[i]?=some (.val d)->uI l d=true
 | [],_,_,_,e=>by simp at e
 | .aY::r,0,_,_,e=>by simp at e
 | .aY::r,i+1,_,h,e=>nY (tl:=r) (i:=i) h (by simpa using e)
 | .val d::r,0,_,h,e=>by
   rw[sW,aaE] at h;simp at e;subst e;exact h.1
 | .val d::r,i+1,_,h,e=>by
   rw[sW,aaE] at h;exact nY (tl:=r) (i:=i) h.2 (by simpa using e)
theorem iw {l:Addr}:∀ {tl:List Slot},sW l tl=true->noOwn tl=true
 | [],_=>rfl
 | .aY::r,h=>iw (tl:=r) h
 | .val d::r,h=>by
   rw[sW,aaE] at h;exact iw (tl:=r) h.2
variable {C:Addr}{tl:List Slot}
noncomputable abbrev Cr (C:Addr)(fs:List (Str×Dt))(nm:List Str)(l:Addr)(ls:kU)(n:Nat)(tl:List Slot):List Slot:=.val (.obj C (vk fs nm l ls n))::tl
noncomputable abbrev slY (C:Addr)(fs:List (Str×Dt))(nm:List Str)(l:Addr)(ls:kU)(n:Nat)(tl:List Slot):List Slot:=.val (.obj C (qZ fs nm l ls n))::tl
theorem dh.YT {m:Nat}(S:dh K G st Hf H (Cr C fs nm l ls n tl))(kn:wK Hf ls m):dh K G st Hf H (Cr C fs nm l ls m tl):=by
 have own:∀ {i:Nat} {o:Own},(Cr C fs nm l ls m tl)[i]?=some (.own o)->(Cr C fs nm l ls n tl)[i]?=some (.own o):=fun {i o} h=>by
   cases i with
   | zero=>cases h
   | succ i=>exact h
 refine⟨S.gr,S.len,fun i d h=>?_,fun i o h=>S.own i o (own h),fun i j o o' a h1 h2=>S.He i j o o' a (own h1) (own h2)⟩;cases i with
 | zero=>
   cases h;obtain⟨v,hv,rv⟩:=S.val 0 _ rfl;cases rv with
   | obj q r=>exact⟨_,hv,.obj q (Dz kn r)⟩
 | succ i=>exact S.val (i+1) d h
noncomputable def YU (G0:Gr)(l:Addr)(u:HO):Gr:=⟨upd G0.Hf l u,upd G0.H l u⟩
theorem dh.toX (S:dh K G st Hf H (Cr C fs nm l ls n tl))(hs:lG l fs=true)(ht:sW l tl=true)(hn:0 < nm.length)(hu:nX ls u):Hf l=some (.memo ls)/\dh K (YU ⟨j0 Hf H,H⟩ l u) st (upd (j0 Hf H) l u) (upd H l u) (slY C fs nm l ls n tl):=by
 obtain⟨v,hv,rv⟩:=S.val 0 _ rfl;have sm:=gC S.sub;cases rv with
 | @obj a _ dx fv _ q r=>
   have hm:=yg hn r;have hm':j0 Hf H l=some (.memo ls):=sm _ _ hm;refine⟨hm,⟨.refl (cR (p9 S.sub)),S.len,fun i d h=>?_,fun i o h=>?_,fun i j o o' a h=>?_⟩⟩
   . cases i with
     | zero=>
       cases h;exact⟨_,hv,.obj (Mz (.inl hm') (d8 sm q)) (YS hs hm' hu (r.mono sm))⟩
     | succ i=>
       have h:tl[i]?=some (.val d):=h;obtain⟨w,w1,w2⟩:=S.val (i+1) d h;exact⟨w,w1,jm (.inl hm') hu (nY ht h) (w2.mono sm)⟩
   . cases i with
     | zero=>cases h
     | succ i=>exact absurd h (bo (iw ht) i o)
   . cases i with
     | zero=>cases h
     | succ i=>exact absurd h (bo (iw ht) i o)
end
section
variable {X:Cx}{G:Gr}{E:XK}{dl:List Slot}{c e:Expr}{body:List Stmt}{pos p:Pos}{fs:List (Str×Dt)}{nm:List Str}{l C:Addr}{ls:kU}{n m age:Nat}{tl:List Slot}
def Vg (X:Cx)(c:Expr):TT:=fun st H Q=>∃ G dl b,EB X G dl c b/\X0 X.K G dl b st H Q
theorem ME:PT X c (Vg X c):=fun pins s st H Q I ⟨G,dl,b,h,q⟩=>h pins s st H Q I q
def Vh (X:Cx)(E:XK)(body:List Stmt):TS:=fun D st H=>∃ G pre o,mP X G E pre body o/\tO X.K G E pre o D st H
theorem Jw {body:List Stmt}:Cy X body (Vh X E body):=fun pins s st H D J ⟨G,pre,o,h,q⟩=>h pins s st H D J q
def RM (K:W.Frag)(G0:Gr)(C:Addr)(fs:List (Str×Dt))(nm:List Str)(l:Addr)(ls:kU)(n:Nat)(tl:List Slot)(M:Nat):L2.St->Hp->Prop:=fun st H=>H l=some (.bT ls (aal ls.length M))/\∃ Hf,dh K G0 st Hf (upd H l (.memo ls)) (Cr C fs nm l ls n tl)
theorem Aq (hp:PassesOwn (model X.prog X.w) X.A X.env X.xe)(hs:lG l fs=true)(ht:sW l tl=true)(hn:0 < nm.length)(gF:age < 9000)(hc:∀ (N:Nat) (G:Gr),G.Hf l=some (.bT ls (aal ls.length N))->EB X G (slY C fs nm l ls n tl) c (decide (N<=age)))(hb:∀ N,0 < N->N<=age->∀ G0:Gr,G0.Hf l=some (.memo ls)->G0.H l=some (.memo ls)->mP X (YU G0 l (.bT ls (aal ls.length N))) E (slY C fs nm l ls n tl) body (.raw (RM X.K G0 C fs nm l ls n tl (N+1)))):ES X G E (Cr C fs nm l ls n tl) (.While c body [] pos) (.nx (Cr C fs nm l ls (age+1) tl)):=by
 intro pins s st H D I ⟨Hf,S,k⟩;have no:noOwn (Cr C fs nm l ls n tl)=true:=show noOwn tl=true from iw ht
 have hm:Hf l=some (.memo ls):=(S.toX (u:=.memo ls) hs ht hn (.inl rfl)).1;obtain⟨N0,h0,h1,IX⟩:=Inv.exact I (S.sub _ _ hm);let XX:Nat->HO:=fun N=>.bT ls (aal ls.length N)
 have mu:∀ N,nX ls (XX N):=fun N=>.inr ⟨_,rfl⟩
 let W:Nat->L2.St->Hp->Prop:=fun m st H=>∃ N,m=age+1 - N/\0 < N/\H l=some (XX N)/\∃ av,aH Hf av/\dh X.K G st av (upd H l (.memo ls)) (Cr C fs nm l ls n tl)
 refine bZ (CC (pos:=pos) hp (ME (X:=X) (c:=c)) (Jw (E:=E)) pins s st _ { D with nx:=fun lr H'=>∃ N,age < N/\H' l=some (XX N)/\∃ av,aH Hf av/\dh X.K G lr av (upd H' l (.memo ls)) (Cr C fs nm l ls n tl)} IX ?_) fun f s7 q7=>?_
 . refine⟨W,⟨_,N0,rfl,h0,ak,Hf,aH.refl _,by rw[wk,ye (S.sub _ _ hm)];exact S⟩,?_⟩
   rintro mm UH H1 ⟨N,rfl,hN,R6,av,s1,S1⟩
   have eH:upd (upd H1 l (.memo ls)) l (XX N)=H1:=by rw[wk,ye R6]
   obtain⟨hm1,SX⟩:=S1.toX (u:=XX N) hs ht hn (mu N);rw[eH] at SX;have hA:j0 av (upd H1 l (.memo ls)) l=some (.memo ls):=gC S1.sub _ _ hm1;refine⟨_,_,decide (N<=age),hc N (YU ⟨j0 av (upd H1 l (.memo ls)),upd H1 l (.memo ls)⟩ l (XX N)) ak,_,SX,fun bD H2 g2=>?_⟩;have g2':aU (upd (j0 av (upd H1 l (.memo ls))) l (XX N)) (upd (upd H1 l (.memo ls)) l (XX N)) bD H2:=by rw[eH];exact g2
   have gp:=Vf (ls:=ls) hA ak g2';have gg:=(qG S1.sub).trans gp;have S2:=S1.grow gg;have RP:H2 l=some (XX N):=g2.big _ _ R6;by_cases hle:N<=age
   . rw[decide_eq_true hle]
     have eH2:upd (upd H2 l (.memo ls)) l (XX N)=H2:=by rw[wk,ye RP]
     obtain⟨hm2,SX2⟩:=S2.toX (u:=XX N) hs ht hn (mu N);rw[eH2] at SX2;have hA2:j0 (upd bD l (.memo ls)) (upd H2 l (.memo ls)) l=some (.memo ls):=gC S2.sub _ _ hm2;refine CW ⟨fun lr H'=>H' l=some (XX (N+1))/\∃ av,aH Hf av/\dh X.K G lr av (upd H' l (.memo ls)) (Cr C fs nm l ls n tl),fun lr H' ⟨z1,z2⟩=>⟨age+1 - (N+1),by omega,N+1,rfl,by omega,z1,z2⟩,?_⟩;refine⟨_,_,_,hb N hN hle ⟨j0 (upd bD l (.memo ls)) (upd H2 l (.memo ls)),upd H2 l (.memo ls)⟩ hA2 ak,_,SX2,fun lr H' ⟨z1,aK,z2⟩=>⟨z1,aK,?_,?_⟩⟩
     . exact((s1.trans gg.bJ).trans (gC S2.sub)).trans z2.gr.bJ
     . exact z2.rebase no (S2.gr.trans (qG S2.sub))
   . rw[decide_eq_false hle]
     exact CV ⟨N,by omega,RP,_,s1.trans gg.bJ,S2⟩
 . cases f with
   | next=>
     obtain⟨σ7,H7,I7,N,hN,hl7,Hf7,s7',S7⟩:=q7;have I8:=Inv.pack I7 hl7 (by omega);refine⟨σ7,_,I8,?_⟩;obtain⟨_,_,hlen,_,_,_,h6⟩:=(show aM X.prog X.w H7 s7.heap l (XX N) from I7.aR l _ hl7)
     have kn:wK (j0 Hf7 (upd H7 l (.memo ls))) ls (age+1):=fun j p f e i hi=>by
       have hj:j < ls.length:=(aaj.mp e).1;obtain⟨aJ,cc,e1,e2,e3⟩:=h6 j p f N e (by rw[aaU,if_pos hj]);obtain⟨q,o,kvs,q1,q2,q3⟩:=e3 i (by omega);have key:∀ b u,H7 b=some u->Kept u->j0 Hf7 (upd H7 l (.memo ls)) b=some u:=fun b u z kq=>Bs (by rw[ag (fun zz=>by rw[zz,hl7] at z;cases z;exact kq)];exact z) kq
       exact⟨q,o,kvs,key _ _ q2 trivial,gD key q3⟩
     have S8:=S7.grow (qG S7.sub);exact k σ7 _ _ (s7'.trans (gC S7.sub)) (S8.YT kn)
   | cont=>exact q7
   | brk=>exact q7
   | ret v=>exact q7
theorem mz (he:EE X G (Cr C fs nm l ls n tl) e (.wC l ls m))(hs:autoParam (swapsWith e none pos.line X.env=pure false) jp):ES X G E (Cr C fs nm l ls n tl) (.Expr e pos) (.nx (Cr C fs nm l ls m tl)):=
 vG (kf he hs) fun D st H zq=>zn zq fun Hf S k=>fun v av H1 g1 r1=>by
   have S1:=S.grow g1;cases r1 with
   | wC kn=>
     exact k st av H1 g1.bJ (S1.YT kn)
theorem qI (hl:ls.length<=nm.length):Comes (.nx (Cr C fs nm l ls n tl)) (.ret (.wC l ls n)):=.kn fun K G st Hf H S=>by
 obtain⟨v,hv,rv⟩:=S.val 0 _ rfl;cases rv with
 | obj q r=>exact .wC (Qq hl r)
theorem DA (i:Nat){o:Out}{sts:List Stmt}{gs:List (Nat->List (Key×FD))}(h:∀ l ls,ls.map (·.2)=gs->mP X G E (dl.set i (.val (.obj C (vk fs nm l ls n)))) sts o)(hd:autoParam (dl[i]?=some (.val (.xH C fs gs nm n))) jp):mP X G E dl sts o:=by
 intro pins s st H D I ⟨Hf,S,k⟩;obtain⟨v,hv,rv⟩:=S.val i _ hd;cases rv with
 | @xH s' a _ dx fv _ _ _ _ ls' e q r=>
   refine h a ls' e pins s st H D I ⟨Hf,⟨S.gr,by simp[S.len],fun j d hj=>?_,fun j o' hj=>?_,fun j m o1 o2 c q1 q2 q3 q4=>?_⟩,k⟩
   . by_cases ej:i=j
     . subst ej
       have hl:i < dl.length:=(aaj.mp hd).1;rw[aag hl] at hj;cases hj;exact⟨_,hv,.obj q r⟩
     . rw[aah ej] at hj;exact S.val j d hj
   . have ej:i≠j:=fun z=>by
       subst z;rw[aag (aaj.mp hd).1] at hj;cases hj
     rw[aah ej] at hj;exact S.own j o' hj
   . have ne:∀ {j:Nat} {o':Own},(dl.set i (.val (.obj C (vk fs nm a ls' n))))[j]?=some (.own o')->dl[j]?=some (.own o'):=fun {j o'} hj=>by
       have ej:i≠j:=fun z=>by
         subst z;rw[aag (aaj.mp hd).1] at hj;cases hj
       rw[aah ej] at hj;exact hj
     exact S.He j m o1 o2 c (ne q1) (ne q2) q3 q4
end
theorem DB {l:Addr}:∀ (a b:List (Str×Dt)),lG l (a ++ b)=(lG l a && lG l b)
 | [],b=>by rw[List.nil_append,lG];rfl
 | (k,d)::a,b=>by rw[List.cons_append,lG,lG,DB a b,Bool.and_assoc]
theorem MG (nm:Nat->Str)(l:Addr)(ls:kU)(n:Nat):∀ js:List Nat,lG l (js.map fun j=>(nm j,Dt.eG l ls j n))=true
 | []=>rfl
 | j::js=>by rw[aas,lG,MG nm l ls n js];rfl
theorem Ar {fs:List (Str×Dt)}{nm:List Str}{l:Addr}{ls:kU}{n:Nat}(h:lG l fs=true):lG l (qZ fs nm l ls n)=true:=by
 unfold qZ;rw[DB,h,MG];rfl
section
variable {X:Cx}{G0:Gr}{E:XK}{arg:Expr}{fs:List (Str×Dt)}{l C:Addr}{ls:kU}{n N:Nat}{tl:List Slot}{f g:Nat->List (Key×FD)}{n0 n1 x0 xg:Str}{p1 p2 p3 p4 p5 a1 a2 c1 c2 q1 q2:Pos}
theorem DC (ng:Nat)(hs:lG l fs=true)(ht:sW l tl=true)(hu:tl[ng]?=some .aY)(mZ:ls.map (·.2)=[f,g])(hN:N < 9000)(cl:wz X.K C)(Vi:bW X.K C n0)(na1:bW X.K C n1)(hA:G0.Hf l=some (.memo ls))(hB:G0.H l=some (.memo ls))
   (acm:∀ G2,EO X G2 (.val (.obj C (qZ fs [n0,n1] l ls n))::tl.set ng (.val (.d7 (pN (f N))))) arg (.fw (pN (g N))))
   (W4:autoParam ((qZ fs [n0,n1] l ls n).lookup n0=some (.eG l ls 0 n)) jp) (R6:autoParam ((qZ fs [n0,n1] l ls n).lookup n1=some (.eG l ls 1 n)) jp)
   (P7:autoParam (X.N[0]?=some x0) jp) (U4:autoParam (vC X.env.scope x0) xz) (hd0:autoParam ((x0 == ("__debug__":Str))=false) jO) (U5:autoParam ((x0 == ("__classdict__":Str))=false) jO)
   (hNg:autoParam (X.N[ng+1]?=some xg) jp) (hvg:autoParam (vC X.env.scope xg) xz) (hdg:autoParam ((xg == ("__debug__":Str))=false) jO) (hcg:autoParam ((xg == ("__classdict__":Str))=false) jO)
   (W7:autoParam (attributeBase (.Name x0 p1) n0 X.env (eval (.Name x0 p1) X.env)=eval (.Name x0 p1) X.env) jp) (U3:autoParam (attributeBase (.Name x0 p4) n1 X.env (eval (.Name x0 p4) X.env)=eval (.Name x0 p4) X.env) jp)
   (FN:autoParam (attributeBase (.Attribute (.Name x0 p1) n0 p2) "append" X.env (eval (.Attribute (.Name x0 p1) n0 p2) X.env)=eval (.Attribute (.Name x0 p1) n0 p2) X.env) jp)
   (Vj:autoParam (attributeBase (.Attribute (.Name x0 p4) n1 p5) "append" X.env (eval (.Attribute (.Name x0 p4) n1 p5) X.env)=eval (.Attribute (.Name x0 p4) n1 p5) X.env) jp)
   (MH:autoParam (((backTo c1 (starEach [.Name xg p3] X.env)).all (fun x=>!x.1) && (backToKw c1 (keywordEach [] X.env)).all (fun x=>x.1.isSome) && decide ([Expr.Name xg p3].length+([]:List Keyword).length+(if ([]:List Keyword).isEmpty then 0 else 1) < 30))=true) jp)
   (YV:autoParam (((backTo c2 (starEach [arg] X.env)).all (fun x=>!x.1) && (backToKw c2 (keywordEach [] X.env)).all (fun x=>x.1.isSome) && decide ([arg].length+([]:List Keyword).length+(if ([]:List Keyword).isEmpty then 0 else 1) < 30))=true) jp)
   (FO:autoParam ((a1.endLine == c1.line)=true) jp) (Vk:autoParam ((a2.endLine == c2.line)=true) jp) (Bt:autoParam (starEach [.Name xg p3] X.env=(false,eval (.Name xg p3) X.env)::starEach [] X.env) jp) (Jn:autoParam (starEach [arg] X.env=(false,eval arg X.env)::starEach [] X.env) jp)
   (Ko:autoParam (swapsWith (.Call (.Attribute (.Attribute (.Name x0 p1) n0 p2) "append" a1) [.Name xg p3] [] c1) none q1.line X.env=pure false) jp) (AR:autoParam (swapsWith (.Call (.Attribute (.Attribute (.Name x0 p4) n1 p5) "append" a2) [arg] [] c2) none q2.line X.env=pure false) jp) :
   mP X (YU G0 l (.bT ls (aal ls.length N))) E (.val (.obj C (qZ fs [n0,n1] l ls n))::tl.set ng (.own (.fw (pN (f N)))))
     [.Expr (.Call (.Attribute (.Attribute (.Name x0 p1) n0 p2) "append" a1) [.Name xg p3] [] c1) q1,.Expr (.Call (.Attribute (.Attribute (.Name x0 p4) n1 p5) "append" a2) [arg] [] c2) q2] (.raw (RM X.K G0 C fs [n0,n1] l ls n tl (N+1))):=by
 have YW:PE X arg (fun st H Q=>∃ G2,tDO X.K G2 (.val (.obj C (qZ fs [n0,n1] l ls n))::tl.set ng (.val (.d7 (pN (f N))))) (.fw (pN (g N))) st H Q):=fun pins s st H Q I ⟨G2,q⟩=>acm G2 pins s st H Q I q
 refine C0 (nK (kf (xD PySem.F.plainAttrs_list PySem.F.slot_list_append PySem.F.type_list_append rX (xy (gU (pos:=p1) P7 U4 hd0 U5) W7) (kg (gU (pos:=p3) hNg hvg hdg hcg) oA Bt) FN MH FO Bt rfl) Ko)
   (mU (kf (xD PySem.F.plainAttrs_list PySem.F.slot_list_append PySem.F.type_list_append rX (xy (gU (pos:=p4) P7 U4 hd0 U5) U3) (kg YW oA Jn) Vj YV Vk Jn rfl) AR))) fun D st H zq=>aac zq fun Hf zq=>have S:=zq.1;have k:=zq.2;?_
 have e2:ls.length=2:=by have:=congrArg abI mZ;simpa using this
 have eR:∀ M:Nat,aal ls.length M=[M,M]:=fun M=>by rw[e2];rfl
 rw[eR] at S;have YX:ng < tl.length:=(aaj.mp hu).1;obtain⟨v0,hv,rv⟩:=S.val 0 _ rfl;cases rv with
 | @obj sa _ dx fv _ Vl rf=>
   obtain⟨oa,FP,hmk,_,back⟩:=Rd.ex Vl;have Vm:Hf l=some (.bT ls [N,N]):=S.gr.bJ _ _ ak;have Sk:H l=some (.bT ls [N,N]):=S.sub _ _ Vm;have hm:cu Hf l ls:=.inr ⟨_,Vm⟩;obtain⟨y0,hy0,ry0⟩:=rf.lookup W4;obtain⟨y1,OM,ry1⟩:=rf.lookup R6;obtain⟨qa,hq,YY,hqg,kvs,Sl,rk⟩:=S.own (ng+1) (.fw (pN (f N))) (by show(tl.set ng _)[ng]?=_;rw[aag YX]);cases ry0 with
   | @eG _ p _ _ _ f0 Du _ acv _=>cases ry1 with
     | @eG _ pp _ _ _ f1 hp1 _ agF _=>
       have ef0:f0=f:=by
         have:=congrArg (fun z=>z[0]?) mZ;simp only[aaf,Du] at this;exact Option.some.inj this
       have ef1:f1=g:=by
         have:=congrArg (fun z=>z[1]?) mZ;simp only[aaf,hp1] at this;exact Option.some.inj this
       subst ef0 ef1;have fzH:t8 H kvs (f0 N):=gD (fun b u e _=>S.sub _ _ e) (rW rk);have nql:qa≠l:=fun z=>by rw[z,Sk] at Sl;cases Sl
       have YZ:sa≠l:=fun z=>by rw[z,Vm] at FP;cases FP;cases hmk
       have nsq:sa≠qa:=fun z=>by rw[z,YY] at FP;cases FP
       refine⟨_,hv,sa,C,dx,fv,_,rfl,back _ (S.sub _ _ FP),cl,Vi,hy0,.inr (.inr (.inr (.inr ⟨rfl,l,ls,[N,N],0,f0,N,Sk,Du,rfl⟩))),_,hq,l,ls,[N,N],0,p,f0,N,qa,kvs,rfl,rfl,Sk,Du,rfl,hN,Sl,fzH,fun oq=>?_⟩;let H4:Hp:=upd (upd H l (.bT ls ([N,N].set 0 (N+1)))) qa (.kd (some (p,N)) oq kvs);let u4:HO:=.bT ls [N+1,N];have h4l:H4 l=some u4:=by show(upd (upd H l _) qa _) l=_;rw[ag (Ne.symm nql),ak];rfl
       have h4q:H4 qa=some (.kd (some (p,N)) oq kvs):=ak;have h4b:∀ b o,H b=some o->b≠l->b≠qa->H4 b=some o:=fun b o e n1 n2=>by show(upd (upd H l _) qa _) b=_;rw[ag n2,ag n1];exact e
       have h4n:∀ b,H4 b=none->H b=none:=fun b e=>by
         have n1:b≠l:=fun z=>by rw[z,h4l] at e;cases e
         have n2:b≠qa:=fun z=>by rw[z,h4q] at e;cases e
         have e:(upd (upd H l _) qa _) b=none:=e;rw[ag n2,ag n1] at e;exact e
       have hfq:∀ b o,Hf b=some o->b≠qa:=fun b o e z=>by rw[z,YY] at e;cases e
       have Bu:aH (upd Hf l u4) H4:=fun b o e=>by
         by_cases bl:b=l
         . rw[bl,ak] at e;cases e;rw[bl];exact h4l
         . rw[ag bl] at e;exact h4b b o (S.sub _ _ e) bl (hfq b o e)
       let OO:Hp:=j0 (upd Hf l u4) H4;have Y0:aH (upd Hf l u4) OO:=gC Bu;have mu4:nX ls u4:=.inr ⟨_,rfl⟩;have acA:∀ b u,H b=some u->Kept u->OO b=some u:=fun b u e kq=>Bs (h4b b _ e (fun z=>by rw[z,Sk] at e;cases e;exact kq) (fun z=>by rw[z,Sl] at e;cases e;exact kq)) kq
       have S4:dh X.K ⟨OO,H4⟩ st OO H4 (.val (.obj C (qZ fs [n0,n1] l ls n))::tl.set ng (.val (.d7 (pN (f0 N))))):=by
         have no:∀ (i:Nat) o,(Slot.val (.obj C (qZ fs [n0,n1] l ls n))::tl.set ng (.val (.d7 (pN (f0 N)))))[i]?≠some (.own o):=fun i o h=>by
           cases i with
           | zero=>cases h
           | succ i=>
             have h:(tl.set ng (.val (.d7 (pN (f0 N)))))[i]?=some (.own o):=h;by_cases e:ng=i
             . subst e;rw[aag YX] at h;cases h
             . rw[aah e] at h;exact bo (iw ht) i o h
         refine⟨.refl (p9 Bu),by have:=S.len;simpa using this,fun i d h=>?_,fun i o h=>absurd h (no i o),fun i j o o' a h=>absurd h (no i o)⟩;cases i with
         | zero=>
           cases h;exact⟨_,hv,.obj (back _ (Y0 _ _ (bE hm FP hmk))) ((jZ hm mu4 (Ar hs) rf).mono Y0)⟩
         | succ i=>
           have h:(tl.set ng (.val (.d7 (pN (f0 N)))))[i]?=some (.val d):=h;by_cases e:ng=i
           . subst e
             rw[aag YX] at h;cases h;exact⟨_,hq,.d7 (HI h4q) (wJ (gD acA fzH))⟩
           . rw[aah e] at h
             obtain⟨w,w1,w2⟩:=S.val (i+1) d (by show(tl.set ng _)[i]?=_;rw[aah e];exact h);exact⟨w,w1,(jm hm mu4 (nY ht h) w2).mono Y0⟩
       refine⟨_,hv,sa,C,dx,fv,_,rfl,back _ (h4b _ _ (S.sub _ _ FP) YZ nsq),cl,na1,OM,.inr (.inr (.inr (.inr ⟨rfl,l,ls,[N+1,N],1,f1,N,h4l,hp1,rfl⟩))),⟨OO,H4⟩,OO,S4,fun ra vq H5 g5 n5 n5' ⟨Vn,RU,Yu⟩=>?_⟩;have h5l:H5 l=some u4:=g5.big _ _ h4l;have nrl:ra≠l:=fun z=>by rw[z,h5l] at RU;have RU:=Option.some.inj RU;have RU:HO.bT ls [N+1,N]=.dK Vn:=RU;cases RU
       refine⟨l,ls,[N+1,N],1,pp,f1,N,ra,Vn,rfl,rfl,h5l,hp1,rfl,hN,RU,gD (fun b u e _=>g5.sub _ _ e) (rW Yu),fun or=>?_⟩;let H6:Hp:=upd (upd H5 l (.bT ls ([N+1,N].set 1 (N+1)))) ra (.kd (some (pp,N)) or Vn);show D.nx st H6;have h6l:H6 l=some (.bT ls [N+1,N+1]):=by show(upd (upd H5 l _) ra _) l=_;rw[ag (Ne.symm nrl),ak];rfl
       have Y1:∀ b o,H5 b=some o->b≠l->b≠ra->(upd H6 l (.memo ls)) b=some o:=fun b o e n1 n2=>by
         rw[ag n1];show(upd (upd H5 l _) ra _) b=_;rw[ag n2,ag n1];exact e
       have f5r:∀ b o,vq b=some o->b≠ra:=fun b o e z=>by rw[z,n5'] at e;cases e
       have MI:aH (upd vq l (.memo ls)) (upd H6 l (.memo ls)):=fun b o e=>by
         by_cases bl:b=l
         . rw[bl,ak] at e ⊢;exact e
         . rw[ag bl] at e;exact Y1 b o (g5.sub _ _ e) bl (f5r b o e)
       have MJ:=gC MI;have f4:∀ b o,Hf b=some o->b≠l->vq b=some o:=fun b o e n1=>g5.bJ _ _ (Y0 _ _ (by rw[ag n1];exact e))
       have g6:aU G0.Hf G0.H (j0 (upd vq l (.memo ls)) (upd H6 l (.memo ls))) (upd H6 l (.memo ls)):=by
         refine⟨fun b o e=>?_,fun b o e=>?_,p9 MI,fun b o e=>?_⟩
         . by_cases bl:b=l
           . rw[bl,hB] at e;cases e;rw[bl];exact ak
           . have h3:H b=some o:=S.gr.big _ _ (by show(upd G0.H l _) b=_;rw[ag bl];exact e)
             have nbq:b≠qa:=fun z=>by
               have:(upd G0.H l (.bT ls [N,N])) qa=none:=hqg;rw[<- z,ag bl,e] at this;cases this
             have h4:=h4b b o h3 bl nbq;exact Y1 b o (g5.big _ _ h4) bl (fun z=>by have n5:H4 ra=none:=n5;rw[z,n5] at h4;cases h4)
         . by_cases bl:b=l
           . rw[bl,hA] at e;cases e;rw[bl];exact MJ _ _ ak
           . have h3:Hf b=some o:=S.gr.bJ _ _ (by show(upd G0.Hf l _) b=_;rw[ag bl];exact e)
             exact MJ _ _ (by rw[ag bl];exact f4 b o h3 bl)
         . rcases qF (Hf:=upd vq l (.memo ls)) (H:=upd H6 l (.memo ls)) b with⟨u',z1,z2,z3⟩ | z
           . rw[z3] at e;cases e;exact .inr (.inr z2)
           . rw[z] at e
             by_cases bl:b=l
             . rw[bl];exact .inl ⟨_,hA⟩
             . rw[ag bl] at e
               rcases g5.new b o e with⟨o',w⟩ | w | w
               . have eo:o'=o:=by have:=g5.bJ _ _ w;rw[e] at this;exact(Option.some.inj this).symm
                 subst eo;rcases qF (Hf:=upd Hf l u4) (H:=H4) b with⟨u',z1,z2,z3⟩ | z'
                 . have w:j0 (upd Hf l u4) H4 b=some o':=w
                   rw[z3] at w;cases w;exact .inr (.inr z2)
                 . have w:j0 (upd Hf l u4) H4 b=some o':=w
                   rw[z',ag bl] at w;rcases S.gr.new b o' w with⟨Uj,y⟩ | y | y
                   . have y:(upd G0.Hf l _) b=some Uj:=y
                     rw[ag bl] at y;exact .inl ⟨Uj,y⟩
                   . have y:(upd G0.H l _) b=none:=y
                     rw[ag bl] at y;exact .inr (.inl y)
                   . exact .inr (.inr y)
               . have y:(upd G0.H l (.bT ls [N,N])) b=none:=S.gr.big.free (h4n b w)
                 rw[ag bl] at y;exact .inr (.inl y)
               . exact .inr (.inr w)
       have g45:aH (upd Hf l u4) vq:=Y0.trans g5.bJ;have hm5:cu vq l ls:=.inr ⟨_,g45 _ _ ak⟩;have Vo:∀ {v:V} {d:Dt},uI l d=true->Rep X.K Hf v d->Rep X.K (j0 (upd vq l (.memo ls)) (upd H6 l (.memo ls))) v d:=fun {v d} hn r=>(jm hm5 (.inl rfl) hn ((jm hm mu4 hn r).mono g45)).mono MJ
       refine k st H6 ⟨by rw[eR];exact h6l,_,⟨g6,by have:=S.len;simpa using this,fun i d h=>?_,fun i o h=>?_,fun i j o o' a h=>?_⟩⟩
       . cases i with
         | zero=>
           cases h;refine⟨_,hv,.obj (back _ (MJ _ _ (by rw[ag YZ];exact f4 _ _ FP YZ))) ?_⟩;have r5:=(jZ hm mu4 (Ar hs) rf).mono g45;exact(Si hs hm5 r5).mono MJ
         | succ i=>
           have h:tl[i]?=some (.val d):=h;have e:ng≠i:=fun z=>by rw[<- z,hu] at h;cases h
           obtain⟨w,w1,w2⟩:=S.val (i+1) d (by show(tl.set ng _)[i]?=_;rw[aah e];exact h);exact⟨w,w1,Vo (nY ht h) w2⟩
       . cases i with
         | zero=>cases h
         | succ i=>exact absurd h (bo (iw ht) i o)
       . cases i with
         | zero=>cases h
         | succ i=>exact absurd h (bo (iw ht) i o)
end
noncomputable def ldk:HO->Bool
 | .lst _=>true
 | .dK _=>true
 | _=>false
noncomputable def conv (H:Hp)(p p2 q1 q2:Addr)(u1 u2 u3 u4:HO):Hp:=upd (upd (upd (upd H p u1) p2 u2) q1 u3) q2 u4
section
variable {X:Cx}{pins:List (Addr×Obj)}{σ:L2.St}{H:Hp}{s:Shared}{p p2 q1 q2:Addr}{pC Cs:List (Key×V)}{f g:Nat->List (Key×FD)}
theorem Inv.Vp (I:L2.Inv X pins σ H s)(hp:H p=some (.lst [.ref q1]))(A2:H p2=some (.lst [.ref q2]))(Ku:H q1=some (.dK pC))(Y2:H q2=some (.dK Cs))(f1:t8 H pC (f 0))(f2:t8 H Cs (g 0))(n1:p≠p2)(n2:q1≠q2):∃ o1 o2,L2.Inv X pins σ (conv H p p2 q1 q2 (.memo [(p,f),(p2,g)]) (.part p) (.kd (some (p,0)) o1 pC) (.kd (some (p2,0)) o2 Cs)) s:=by
 obtain⟨z1,i1,c1,r1,e1⟩:=(show aM X.prog X.w H s.heap p (.lst [.ref q1]) from I.aR p _ hp)
 obtain⟨z2,i2,c2,r2,e2⟩:=(show aM X.prog X.w H s.heap p2 (.lst [.ref q2]) from I.aR p2 _ A2)
 obtain⟨Qr,lo1,vs1,kr1,o1,es1,ep1,Y3,hr1⟩:=(show aM X.prog X.w H s.heap q1 (.dK pC) from I.aR q1 _ Ku)
 obtain⟨hz2,lo2,vs2,kr2,o2,es2,ep2,ho2,hr2⟩:=(show aM X.prog X.w H s.heap q2 (.dK Cs) from I.aR q2 _ Y2)
 obtain⟨u1,rfl,w1⟩:=vals1 r1;obtain⟨u2,rfl,w2⟩:=vals1 r2;cases (show u1=Value.ref q1 from w1);cases (show u2=Value.ref q2 from w2);refine⟨o1,o2,?_⟩;have m1:p≠q1:=fun z=>by rw[z,Ku] at hp;cases hp
 have m2:p≠q2:=fun z=>by rw[z,Y2] at hp;cases hp
 have m3:p2≠q1:=fun z=>by rw[z,Ku] at A2;cases A2
 have m4:p2≠q2:=fun z=>by rw[z,Y2] at A2;cases A2
 generalize Qs:conv H p p2 q1 q2 (.memo [(p,f),(p2,g)]) (.part p) (.kd (some (p,0)) o1 pC) (.kd (some (p2,0)) o2 Cs)=H'
 have Y4:H' p=some (.memo [(p,f),(p2,g)]):=by rw[<- Qs];unfold conv;rw[ag m2,ag m1,ag n1,ak]
 have Vq:H' p2=some (.part p):=by rw[<- Qs];unfold conv;rw[ag m4,ag m3,ak]
 have MK:H' q1=some (.kd (some (p,0)) o1 pC):=by rw[<- Qs];unfold conv;rw[ag n2,ak]
 have Y5:H' q2=some (.kd (some (p2,0)) o2 Cs):=by rw[<- Qs];unfold conv;rw[ak]
 have FL:∀ b,b≠p->b≠p2->b≠q1->b≠q2->H' b=H b:=fun b a1 a2 a3 a4=>by rw[<- Qs];unfold conv;rw[ag a4,ag a3,ag a2,ag a1]
 have vM:∀ b o,H b=some o->ldk o=false->H' b=some o:=fun b o e n=>by
   rw[FL b (fun z=>by rw[z,hp] at e;cases e;cases n) (fun z=>by rw[z,A2] at e;cases e;cases n) (fun z=>by rw[z,Ku] at e;cases e;cases n) (fun z=>by rw[z,Y2] at e;cases e;cases n)];exact e
 have kp:Kp H H':=⟨fun b o e kq=>vM b _ e (by cases o <;> first | rfl | exact(show False from kq).elim),fun b e=>by
   cases q:H b with
   | none=>rw[q] at e;exact e.elim
   | some u=>
     rw[q] at e;rw[vM b u q (by cases u <;> first | rfl | exact e.elim)];exact e,fun b x e=>vM b _ e rfl⟩
 refine I.un (h':=s.heap) (t':=s.toks) ⟨fun b o e _ _ _=>e,fun b o e _ _ _=>⟨o.slots,e⟩,fun b o e n _=>?_,fun b o e _=>⟨o,e⟩,fun b xs e=>vM b _ e rfl,fun b o u e=>vM b _ e rfl,fun b ps e=>⟨#[],by rw[vM b _ e rfl];simp⟩⟩ fun b u e=>?_
 . rw[FL b (fun z=>by rw[z,hp] at n;cases n) (fun z=>by rw[z,A2] at n;cases n) (fun z=>by rw[z,Ku] at n;cases n) (fun z=>by rw[z,Y2] at n;cases n)]
   exact n
 . by_cases b1:b=p
   . subst b1
     rw[Y4] at e;cases e;refine⟨⟨_,e1⟩,1,by decide,⟨f,rfl⟩,rfl,fun j a h hj=>?_,by simp[n1],fun n hn=>by rw[List.mem_replicate] at hn;omega,fun j a h n hj hn=>?_⟩
     . match j,hj with
       | 0,hj=>cases hj;exact .inl rfl
       | 1,hj=>cases hj;exact .inr Vq
     . match j,hj,hn with
       | 0,hj,hn=>
         cases hj;cases hn;refine⟨_,_,e1,rfl,fun i hi=>?_⟩;have:i=0:=by omega
         subst this;exact⟨q1,o1,pC,rfl,MK,f1.kp kp⟩
       | 1,hj,hn=>
         cases hj;cases hn;refine⟨_,_,e2,rfl,fun i hi=>?_⟩;have:i=0:=by omega
         subst this;exact⟨q2,o2,Cs,rfl,Y5,f2.kp kp⟩
   . by_cases b2:b=p2
     . subst b2;rw[Vq] at e;cases e;exact⟨_,e2⟩
     . by_cases b3:b=q1
       . subst b3;rw[MK] at e;cases e
         refine⟨Y3,⟨Qr,lo1,vs1,kr1,o1,es1,ep1,Y3,hr1⟩,fun a i ht=>?_⟩;cases ht;exact⟨by rw[Y4];trivial,_,_,e1,rfl⟩
       . by_cases b4:b=q2
         . subst b4;rw[Y5] at e;cases e
           refine⟨ho2,⟨hz2,lo2,vs2,kr2,o2,es2,ep2,ho2,hr2⟩,fun a i ht=>?_⟩;cases ht;exact⟨by rw[Vq];trivial,_,_,e2,rfl⟩
         . rw[FL b b1 b2 b3 b4] at e
           exact(I.aR b u e).qW (fun _ _ _ q=>q) (fun c q=>vM c _ q rfl) (fun c xs q=>vM c _ q rfl) kp
end
theorem HK (n0:Str)(v:V):∀ fv:List (Str×V),(fP n0 v fv).length<=fv.length+1
 | []=>aai _
 | (k,w)::r=>by
   have ih:=HK n0 v r;unfold fP
   split
   . simp
   . simp only[aaL];omega
section
variable {X:Cx}{G:Gr}{E:XK}{e1 e2:Expr}{fs:List (Str×Dt)}{z C:Addr}{tl:List Slot}{f g:Nat->List (Key×FD)}{n0 n1 x0:Str}{Vr pn2 Vs ap2 Vt lp2 q1 q2:Pos}
theorem Bv (no:noOwn tl=true)(cl:wz X.K C)(Vi:bW X.K C n0)(na1:bW X.K C n1)(he1:EO X G (.own (.CZ z C fs)::tl) e1 (.fw (pN (f 0))))(Us:EO X G (.aY::tl) e2 (.fw (pN (g 0))))(Vu:autoParam (∀ p ls,putD n1 (.memo p ls 1 1) (putD n0 (.memo p ls 0 1) fs)=vk fs [n0,n1] p ls 1) wl)(hlen:autoParam (Nat.ble fs.length 990=true) jp)(hN:autoParam (X.N[0]?=some x0) jp)(hv:autoParam (vC X.env.scope x0) xz)(jg:autoParam ((x0 == ("__debug__":Str))=false) jO)(mh:autoParam ((x0 == ("__classdict__":Str))=false) jO)(Bt:autoParam (starEach [e1] X.env=[(false,eval e1 X.env)]) jp)(Jn:autoParam (starEach [e2] X.env=[(false,eval e2 X.env)]) jp)(Ko:autoParam (swapsWith (.List [e1] Vt) (some (.Attribute (.Name x0 Vr) n0 Vs)) q1.line X.env=pure false) jp)(AR:autoParam (swapsWith (.List [e2] lp2) (some (.Attribute (.Name x0 pn2) n1 ap2)) q2.line X.env=pure false) jp):mP X G E (.own (.CZ z C fs)::tl) [.Assign [.Attribute (.Name x0 Vr) n0 Vs] (.List [e1] Vt) q1,.Assign [.Attribute (.Name x0 pn2) n1 ap2] (.List [e2] lp2) q2] (.nx (.own (.A3 z C fs [f,g] [n0,n1] 1)::tl)):=by
 intro pins s st H D I ⟨Hf,S,k⟩;have base:=nK (xA (pos:=q1) (pos':=Vs) (gU (pos:=Vr) hN hv jg mh) (xB (pos:=Vt) (kg he1 oA Bt)) Ko) (mU (xA (pos:=q2) (pos':=ap2) (gU (pos:=pn2) hN hv jg mh) (xB (pos:=lp2) (kg Us oA Jn)) AR));let RQ:L2.St->Hp->Prop:=fun lr H'=>∃ p p2 a1 a2 pC Cs,H' p=some (.lst [.ref a1])/\H' p2=some (.lst [.ref a2])/\H' a1=some (.dK pC)/\H' a2=some (.dK Cs)/\t8 H' pC (f 0)/\t8 H' Cs (g 0)/\p≠p2/\a1≠a2/\ ∀ o1 o2,D.nx lr (conv H' p p2 a1 a2 (.memo [(p,f),(p2,g)]) (.part p) (.kd (some (p,0)) o1 pC) (.kd (some (p2,0)) o2 Cs))
 refine bZ (base pins s st H { D with nx:=RQ} I ?_) fun fl s7 q7=>?_
 . obtain⟨za,hz,hzf,W9,ez,dx,fv,Qt,rf⟩:=S.own 0 _ rfl
   subst ez;refine⟨Hf,S,fun a1 av H1 g1 Y6 Vv ⟨pC,UT,rk1⟩=>⟨aaF rfl,fun p hp=>?_⟩⟩;have Qr:H1 za=some (.ins C dx fv):=g1.big _ _ Qt;have OS:za≠p:=ax Qr hp;have Y7:a1≠p:=ax UT hp;have Sm:za≠a1:=fun w=>by rw[w,Y6] at Qt;cases Qt
   have hzp:(upd H1 p (.lst [.ref a1])) za=some (.ins C dx fv):=by rw[ag OS];exact Qr
   refine⟨_,hz,za,C,dx,fv,rfl,hzp,cl,Vi,by rw[rf.length];exact aaO (aaF hlen) (by decide),?_⟩;let H2:Hp:=upd (upd H1 p (.lst [.ref a1])) za (.ins C dx (fP n0 (.ref p) fv));have Jx:av za=none:=g1.my hzf Qt;have gz1:aU av H1 av (upd H1 p (.lst [.ref a1])):=.fX g1.sub hp;have S0:dh X.K G st Hf H (.aY::tl):=S.weak ⟨rfl,fun i s' e n=>by
     cases i with
     | zero=>cases e;exact absurd rfl n
     | succ i=>exact e⟩
   have nou:noOwn (.aY::tl)=true:=no;have S2:dh X.K G st av H2 (.aY::tl):=qC ((S0.grow g1).grow gz1) nou Jx W9;refine⟨av,S2,fun a2 jP H3 g3 n3 n3' ⟨Cs,P8,Yu⟩=>⟨aaF rfl,fun p2 A2=>?_⟩⟩;have n3h:H2 a2=none:=n3;have h2z:H2 za=some (.ins C dx (fP n0 (.ref p) fv)):=ak;have h2p:H2 p=some (.lst [.ref a1]):=by show(upd (upd H1 p _) za _) p=_;rw[ag (Ne.symm OS),ak]
   have h2a:H2 a1=some (.dK pC):=by show(upd (upd H1 p _) za _) a1=_;rw[ag (Ne.symm Sm),ag Y7];exact UT
   have h3z:=g3.big _ _ h2z;have h3p:=g3.big _ _ h2p;have h3a:=g3.big _ _ h2a;have Qu:za≠p2:=ax h3z A2;have Vw:p≠p2:=ax h3p A2;have So:a1≠p2:=ax h3a A2;have Sq:a2≠p2:=ax P8 A2;have Vx:za≠a2:=fun w=>by rw[w,n3h] at h2z;cases h2z
   have acT:p≠a2:=fun w=>by rw[w,n3h] at h2p;cases h2p
   have Y8:a1≠a2:=fun w=>by rw[w,n3h] at h2a;cases h2a
   have acU:(upd H3 p2 (.lst [.ref a2])) za=some (.ins C dx (fP n0 (.ref p) fv)):=by rw[ag Qu];exact h3z
   refine⟨_,hz,za,C,dx,_,rfl,acU,cl,na1,?_,?_⟩
   . have:=HK n0 (.ref p) fv
     have h9:=aaF hlen;have:=rf.length;omega
   let H4:Hp:=upd (upd H3 p2 (.lst [.ref a2])) za (.ins C dx (fP n1 (.ref p2) (fP n0 (.ref p) fv)));have h4p:H4 p=some (.lst [.ref a1]):=by show(upd (upd H3 p2 _) za _) p=_;rw[ag (Ne.symm OS),ag Vw];exact h3p
   have acW:H4 p2=some (.lst [.ref a2]):=by show(upd (upd H3 p2 _) za _) p2=_;rw[ag (Ne.symm Qu),ak]
   have Vy:H4 a1=some (.dK pC):=by show(upd (upd H3 p2 _) za _) a1=_;rw[ag (Ne.symm Sm),ag So];exact h3a
   have acX:H4 a2=some (.dK Cs):=by show(upd (upd H3 p2 _) za _) a2=_;rw[ag (Ne.symm Vx),ag Sq];exact P8
   have h4z:H4 za=some (.ins C dx (fP n1 (.ref p2) (fP n0 (.ref p) fv))):=ak;have f3z:jP za=none:=g3.my Jx h2z;have f3p:jP p=none:=g3.my (g1.sub.free hp) h2p;have ac0:jP a1=none:=g3.my Vv h2a;have Y9:jP p2=none:=g3.sub.free A2;have Bu:aH jP H4:=fun b o e=>by
     have b1:b≠za:=fun w=>by rw[w,f3z] at e;cases e
     have b2:b≠p2:=fun w=>by rw[w,Y9] at e;cases e
     show(upd (upd H3 p2 _) za _) b=_;rw[ag b1,ag b2];exact g3.sub _ _ e
   have S4:dh X.K G st jP H4 (.aY::tl):=qC ((S2.grow g3).grow (.fX g3.sub A2)) nou f3z W9;have gp:G.H p=none:=S.gr.big.free (g1.big.free hp);have Za:G.H a1=none:=S.gr.big.free Y6;have gp2:G.H p2=none:=S2.gr.big.free (g3.big.free A2);have ga2:G.H a2=none:=S2.gr.big.free n3;have Zb:t8 jP pC (f 0):=rW (rk1.mono g3.bJ);have fz2:t8 jP Cs (g 0):=rW Yu;refine⟨p,p2,a1,a2,pC,Cs,h4p,acW,Vy,acX,gD (fun b u e _=>Bu _ _ e) Zb,gD (fun b u e _=>Bu _ _ e) fz2,Vw,Y8,fun o1 o2=>?_⟩;let ls:kU:=[(p,f),(p2,g)]
   let u1:HO:=.memo ls;let u3:HO:=.kd (some (p,0)) o1 pC;let u4:HO:=.kd (some (p2,0)) o2 Cs;have m1:p≠a1:=Ne.symm Y7;have cat:∀ (B:Hp),conv B p p2 a1 a2 u1 (.part p) u3 u4 p=some u1/\conv B p p2 a1 a2 u1 (.part p) u3 u4 p2=some (.part p)/\conv B p p2 a1 a2 u1 (.part p) u3 u4 a1=some u3/\conv B p p2 a1 a2 u1 (.part p) u3 u4 a2=some u4:=fun B=>by
     unfold conv
     refine⟨?_,?_,?_,?_⟩
     . rw[ag acT,ag m1,ag Vw,ak]
     . rw[ag (Ne.symm Sq),ag (Ne.symm So),ak]
     . rw[ag Y8,ak]
     . rw[ak]
   have yh:∀ (B:Hp) b,b≠p->b≠p2->b≠a1->b≠a2->conv B p p2 a1 a2 u1 (.part p) u3 u4 b=B b:=fun B b c1 c2 c3 c4=>by unfold conv;rw[ag c4,ag c3,ag c2,ag c1]
   let vq:Hp:=conv jP p p2 a1 a2 u1 (.part p) u3 u4
   have Kv:aH jP vq:=fun b o e=>by
     show conv jP p p2 a1 a2 u1 (.part p) u3 u4 b=some o
     rw[yh jP b (fun w=>by rw[w,f3p] at e;cases e) (fun w=>by rw[w,Y9] at e;cases e) (fun w=>by rw[w,ac0] at e;cases e) (fun w=>by rw[w,n3'] at e;cases e)];exact e
   have key:∀ (A B:Hp),aH A B->aH (conv A p p2 a1 a2 u1 (.part p) u3 u4) (conv B p p2 a1 a2 u1 (.part p) u3 u4):=fun A B sm=>cR (cR (cR (cR sm)))
   have Vz:aH vq (conv H4 p p2 a1 a2 u1 (.part p) u3 u4):=key _ _ Bu;have ML:bA X.K vq (fP n1 (.ref p2) (fP n0 (.ref p) fv)) (vk fs [n0,n1] p ls 1):=by
     rw[<- Vu p ls];refine((rf.mono ((g1.bJ.trans g3.bJ).trans Kv)).put (f:=n0) (d:=.memo p ls 0 1) ?_).put (f:=n1) (d:=.memo p ls 1 1) ?_
     . refine .memo (f:=f) rfl (cat jP).1 (.inl rfl) fun i hi=>?_
       have:i=0:=by omega
       subst this;exact⟨a1,o1,pC,(cat jP).2.2.1,gD (fun b u e _=>Kv _ _ e) Zb⟩
     . refine .memo (f:=g) rfl (cat jP).1 (.inr (cat jP).2.1) fun i hi=>?_
       have:i=0:=by omega
       subst this;exact⟨a2,o2,Cs,(cat jP).2.2.2,gD (fun b u e _=>Kv _ _ e) fz2⟩
   have czH:conv H4 p p2 a1 a2 u1 (.part p) u3 u4 za=some (.ins C dx (fP n1 (.ref p2) (fP n0 (.ref p) fv))):=by rw[yh H4 za OS Qu Sm Vx];exact h4z
   have czF:vq za=none:=by show conv jP p p2 a1 a2 u1 (.part p) u3 u4 za=none;rw[yh jP za OS Qu Sm Vx];exact f3z
   refine k st vq _ ((g1.bJ.trans g3.bJ).trans Kv) ⟨⟨fun b o e=>?_,S4.gr.bJ.trans Kv,Vz,fun b o e=>?_⟩,by have:=S4.len;simpa using this,fun i d h=>?_,fun i o h=>?_,fun i j o o' a w1 w2=>?_⟩
   . rw[yh H4 b (fun w=>by rw[w,gp] at e;cases e) (fun w=>by rw[w,gp2] at e;cases e) (fun w=>by rw[w,Za] at e;cases e) (fun w=>by rw[w,ga2] at e;cases e)]
     exact S4.gr.big _ _ e
   . by_cases c1:b=p
     . rw[c1];exact .inr (.inl gp)
     . by_cases c2:b=p2
       . rw[c2];exact .inr (.inl gp2)
       . by_cases c3:b=a1
         . rw[c3];exact .inr (.inl Za)
         . by_cases c4:b=a2
           . rw[c4];exact .inr (.inl ga2)
           . have e:conv jP p p2 a1 a2 u1 (.part p) u3 u4 b=some o:=e
             rw[yh jP b c1 c2 c3 c4] at e;exact S4.gr.new b o e
   . cases i with
     | zero=>cases h
     | succ i=>
       obtain⟨w,w1,w2⟩:=S4.val (i+1) d h;exact⟨w,w1,w2.mono Kv⟩
   . cases i with
     | zero=>
       cases h;exact⟨za,hz,czF,W9,rfl,dx,_,p,ls,rfl,czH,ML⟩
     | succ i=>exact absurd h (bo no i o)
   . cases i with
     | zero=>cases j with
       | zero=>exact fun _ _=>rfl
       | succ j=>exact absurd w2 (bo no j o')
     | succ i=>exact absurd w1 (bo no i o)
 . cases fl with
   | next=>
     obtain⟨σ7,H7,I7,p,p2,a1,a2,pC,Cs,y1,y2,y3,y4,y5,y6,y7,y8,kk⟩:=q7;obtain⟨o1,o2,I8⟩:=Inv.Vp I7 y1 y2 y3 y4 y5 y6 y7 y8;exact⟨σ7,_,I8,kk o1 o2⟩
   | cont=>exact q7
   | brk=>exact q7
   | ret v=>exact q7
end
section
variable {X:Cx}{G:Gr}{E:XK}{dl:List Slot}{a b e:Expr}{pos:Pos}{k:Str}
variable {d1 d2 d3 d4:Dt}
theorem Qv (n1 n2 n3 n4:Nat){a b c f:Str}{pa pb pc pf tp:Pos}{cx:Nat}(hN:X.N.Nodup)(hc:X.calm=true)(he:EE X G dl e (.tup [d1,d2,d3,d4]))(hi1:autoParam (X.N[n1]?=some a) jp)(hi2:autoParam (X.N[n2]?=some b) jp)(hi3:autoParam (X.N[n3]?=some c) jp)(hi4:autoParam (X.N[n4]?=some f) jp)(hx1:autoParam (Loc X.env.scope a) vb)(hx2:autoParam (Loc X.env.scope b) vb)(hx3:autoParam (Loc X.env.scope c) vb)(hx4:autoParam (Loc X.env.scope f) vb)(hf1:autoParam (X.fn a=true\/X.env.scope.names.lookup a=some .local) wr)(hf2:autoParam (X.fn b=true\/X.env.scope.names.lookup b=some .local) wr)(hf3:autoParam (X.fn c=true\/X.env.scope.names.lookup c=some .local) wr)(hf4:autoParam (X.fn f=true\/X.env.scope.names.lookup f=some .local) wr)(hn:autoParam ((assignEach [.Name a pa,.Name b pb,.Name c pc,.Name f pf] X.env).length=4) jp)(jQ:autoParam ((assignEach [.Name a pa,.Name b pb,.Name c pc,.Name f pf] X.env).findIdx? (·.1)=none) jp)(q1:autoParam ((assignEach [.Name a pa,.Name b pb,.Name c pc,.Name f pf] X.env).map (·.2)=assign (.Name a pa) X.env::(assignEach [.Name b pb,.Name c pc,.Name f pf] X.env).map (·.2)) jp)(q2:autoParam ((assignEach [.Name b pb,.Name c pc,.Name f pf] X.env).map (·.2)=assign (.Name b pb) X.env::(assignEach [.Name c pc,.Name f pf] X.env).map (·.2)) jp)(q3:autoParam ((assignEach [.Name c pc,.Name f pf] X.env).map (·.2)=assign (.Name c pc) X.env::(assignEach [.Name f pf] X.env).map (·.2)) jp)(q4:autoParam ((assignEach [.Name f pf] X.env).map (·.2)=assign (.Name f pf) X.env::(assignEach [] X.env).map (·.2)) jp)(hs:autoParam (swapsWithSole [.Tuple [.Name a pa,.Name b pb,.Name c pc,.Name f pf] cx tp] e pos.line X.env=pure false) jp)(hw:autoParam (swappedStores [.Tuple [.Name a pa,.Name b pb,.Name c pc,.Name f pf] cx tp] e X.env=pure none) jp)(h1:autoParam ((assignEach [.Tuple [.Name a pa,.Name b pb,.Name c pc,.Name f pf] cx tp] X.env).map (·.2)=[assign (.Tuple [.Name a pa,.Name b pb,.Name c pc,.Name f pf] cx tp) X.env]) jp):ES X G E dl (.Assign [.Tuple [.Name a pa,.Name b pb,.Name c pc,.Name f pf] cx tp] e pos) (.nx ((((dl.set n1 (.val d1)).set n2 (.val d2)).set n3 (.val d3)).set n4 (.val d4))):=
 vG (KO he (AM hc (il (dM (pos:=pa) hN hi1 hx1 hf1) (il (dM (pos:=pb) hN hi2 hx2 hf2) (il (dM (pos:=pc) hN hi3 hx3 hf3) (il (dM (pos:=pf) hN hi4 hx4 hf4) wq q4) q3) q2) q1) hn jQ) hs hw h1) fun D st H zq=>zn zq fun Hf S k=>fun v av H1 g1 r1=>by
   cases r1 with
   | @tup q vs _ hq rp=>
     cases rp with
     | cons r1 t1=>cases t1 with
       | cons r2 t2=>cases t2 with
         | cons r3 t3=>cases t3 with
           | cons r4 t4=>
             cases t4;exact⟨q,_,rfl,gk g1.sub hq,rfl,_,_,rfl,_,_,rfl,_,_,rfl,_,_,rfl,rfl,k _ av H1 g1.bJ (((((S.grow g1).set r1).set r2).set r3).set r4)⟩
end
theorem iy:PySem.Slot "reversed" "__next__" "reversed.__next__":=
 .of (owner:="reversed") (n:="__next__") (by rw[typeLookup_type,builtinLookup_eq_fast];kernel_rfl) (by decide +kernel) (by decide +kernel) (by decide +kernel)
   (by first | exact .inl (by decide +kernel) | exact .inr (by decide +kernel)) (by rw[isSubtype_type];kernel_rfl)
theorem qb:entryFor table "reversed.__next__"=some Builtin.«reversed.__next__»:=entryFor_of_tree (by kernel_rfl)
theorem pD (a:Value):argsOk "reversed.__next__" ⟨[a],[]⟩:=by unfold argsOk;kernel_rfl
theorem rE:PySem.Slot "reversed" "__iter__" "reversed.__iter__":=
 .of (owner:="reversed") (n:="__iter__") (by rw[typeLookup_type,builtinLookup_eq_fast];kernel_rfl) (by decide +kernel) (by decide +kernel) (by decide +kernel)
   (by first | exact .inl (by decide +kernel) | exact .inr (by decide +kernel)) (by rw[isSubtype_type];kernel_rfl)
theorem vN (a:Value):argsOk "reversed.__iter__" ⟨[a],[]⟩:=by unfold argsOk;kernel_rfl
theorem yi:entryFor table "reversed.__iter__"=some Builtin.«dict_keyiterator.__iter__»:=
 entryFor_alias (id':="dict_keyiterator.__iter__") (by kernel_rfl) (by first | rfl | decide +kernel | (unfold String.splitOn;simp +decide [String.splitOnAux])) (by decide +kernel) (by kernel_rfl)
theorem zv:PySem.Slot "reversed" "__init__" "object.__init__":=
 .of (owner:="object") (n:="__init__") (by rw[typeLookup_type,builtinLookup_eq_fast];kernel_rfl) (by decide +kernel) (by decide +kernel) (by decide +kernel)
   (by first | exact .inl (by decide +kernel) | exact .inr (by decide +kernel)) (by rw[isSubtype_type];kernel_rfl)
theorem FQ:TypeCalled "reversed" "reversed.__new__" "object.__init__":=
 ⟨by decide +kernel,by decide +kernel,⟨_,_,F.mro_reversed⟩,F.made_reversed,by decide +kernel,F.sub_reversed_self,zv⟩
theorem q8:typeLookup (.type "str") "__reversed__"=pure none:=by rw[typeLookup_type,builtinLookup_eq_fast];kernel_rfl
theorem mB:typeLookup (.type "str") "__getitem__"=pure (some (.builtin "str.__getitem__")):=by rw[typeLookup_type,builtinLookup_eq_fast];kernel_rfl
theorem zw:isSubtype (.type "str") (.type "dict")=pure false:=by rw[isSubtype_type];kernel_rfl
section
variable {prog:Program}{w:World}{A:Around}{E:Value->Shared->Prop}{s:Shared}
noncomputable def Sr (x:Str)(t:Tok)(i:Int):Obj:={ cls:=.type "reversed",data:=.fields #[.str x t,rawInt i]}
def rY (h:Heap)(a:Addr)(x:Str)(t:Tok)(i:Int):Prop:=∃ o,h.get? a=some o/\o.cls=.type "reversed"/\o.data=.fields #[.str x t,rawInt i]
theorem rY.typeIs {a:Addr}{x:Str}{t:Tok}{i:Int}(q:rY s.heap a x t i):s.TypeIs (.ref a) "reversed":=let ⟨o,ho,hc,_⟩:=q;⟨o,ho,hc⟩
theorem MN (x:Str)(t:Tok)(xF:¬ (x.length:Int) >= 2 ^ 63):MeetsIn prog w (Builtin.«reversed.__new__» ⟨[.type "reversed",.str x t],[]⟩) (fun A R s=>R (.ok (.ret (.ref s.heap.objs.size))) { s with heap:=s.heap.push (Sr x t ((x.length:Int) - 1)),toks:=s.toks+1+1}):=
 .of_wp fun A R s h=>by
   unfold Builtin.«reversed.__new__»;refine wpAny_bind (wpAny_of_eq (newClass_reversed _) ?_)
   try dsimp only
   refine wpAny_bind (wpAny_of_eq (a:=()) (by first | rfl | kernel_rfl) ?_);refine wpAny_bind (wpAny_of_eq (a:=()) (by first | rfl | kernel_rfl) ?_)
   try dsimp only
   refine wpAny_bind (wpAny_specialOf (typeIs_str s x t) q8 ?_)
   try dsimp only
   refine wpAny_bind (wpAny_bind (wpAny_isInstance (typeIs_str s x t) zw ?_));rw[if_neg aav];refine wpAny_bind (wpAny_specialOf (typeIs_str s x t) mB ?_);refine wpAny_of_eq (a:=true) (by kernel_rfl) ?_;rw[if_neg (show ¬ ((!true)=true) from aav)]
   try dsimp only
   refine wpAny_bind (len_str xF ?_);refine wpAny_bind (wpAny_of_eq (a:=some (x.length:Int)) rfl ?_)
   try dsimp only
   refine wpAny_bind ?_;show wpAny _ _ (newObj (.type "reversed") (.fields #[.str x t,rawInt ((x.length:Int) - 1)])) _ _ _;exact wpAny_newObj_type (wpAny_pure ⟨_,rfl,h⟩)
theorem Jy {x:Str}{t:Tok}{Q:Value->Shared->Prop}(xF:¬ (x.length:Int) >= 2 ^ 63)(h:Q (.ref s.heap.objs.size) { s with heap:=s.heap.push (Sr x t ((x.length:Int) - 1)),toks:=s.toks+1+1}):wpAny (model prog w) A (call (.type "reversed") [.str x t]) Q E s:=
 callType_newIn FQ (by decide) (F.typeCall_reversed_1 _) (F.newCall_reversed_1 _) (fun obj=>F.args_object_init_2 obj _) F.entry_reversed_new (MN x t xF) ⟨⟨_,aaq _ rfl,rfl⟩,h⟩
theorem uL {it:Addr}{x:Str}{t:Tok}{i c:Nat}{Q:Option Value->Shared->Prop}(hit:rY s.heap it x t (i:Int))(hx:x.cps[i]?=some c)(xF:¬ (x.length:Int) >= 2 ^ 63)(hQ:∀ h',rY h' it x t ((i:Int) - 1)->ab5 it s.heap h'->Q (some (.str ⟨#[c]⟩ (s.toks+1))) { s with heap:=h',toks:=s.toks+1+1}):wpAny (model prog w) A (pyNext (.ref it)) Q E s:=by
 obtain⟨o,ho,hc,hd⟩:=id hit;have hil:i < x.length:=by
   have:=(acf.mp hx).1;exact this
 unfold pyNext;refine wpAny_bind (wpAny_attempt (wpAny_callSpecial?_slot (name:=Str.ofString "__next__") hit.typeIs iy
   (wpAny_call_entry iy hit.typeIs qb ?_ (pD _))))
 unfold Builtin.«reversed.__next__»;refine wpAny_bind (wpAny_of_eq (a:=(Value.ref it,[])) rfl ?_)
 try dsimp only
 refine wpAny_bind (wpAny_field ho hd (x:=.str x t) rfl ?_);refine wpAny_bind (wpAny_field ho hd (x:=rawInt (i:Int)) rfl ?_);show wpAny _ _ (if (i:Int) < 0 then _ else _) _ _ s;rw[if_neg (by omega)];refine wpAny_bind (wpAny_specialOf (typeIs_str s x t) mB ?_);rw[if_neg (show ¬ ((some (Value.builtin "str.__getitem__")).isNone=true) from aav)]
 try dsimp only
 refine wpAny_bind (wpAny_mkInt ?_);refine wpAny_bind (wpAny_attempt (getItem_str (c:=c) ?_ ?_ ?_))
 . have e1:decide ((i:Int) < -(2 ^ 63:Int))=false:=decide_eq_false (by omega)
   have e2:decide ((i:Int) >= 2 ^ 63)=false:=decide_eq_false (by omega);rw[e1,e2];rfl
 . have e:seqIndex? (i:Int) x.length=some i:=by
     unfold seqIndex?;simp;omega
   rw[e];exact hx
 try dsimp only
 refine wpAny_bind (wpAny_field ho hd (x:=rawInt (i:Int)) rfl ?_)
 try dsimp only
 refine wpAny_bind (wpAny_setField ho hd (by simp) ?_);refine wpAny_pure ⟨_,rfl,wpAny_pure (hQ _ ?_ (ab5.update ..))⟩;exact⟨_,ab1 _ ho (Obj.isFreed_of_fields (Obj.data_mapFields hd _)),(Obj.cls_mapFields ..).trans hc,by
   rw[Obj.data_mapFields hd];simp⟩
theorem vO {it:Addr}{x:Str}{t:Tok}{Q:Option Value->Shared->Prop}(hh:A.handled=none)(hit:rY s.heap it x t (-1))(hQ:∀ h',Heap.ExtBut it s.heap h'->Q none { s with heap:=h'}):wpAny (model prog w) A (pyNext (.ref it)) Q E s:=by
 obtain⟨o,ho,hc,hd⟩:=id hit;unfold pyNext;refine wpAny_bind (wpAny_attempt (wpAny_callSpecial?_slot (name:=Str.ofString "__next__") hit.typeIs iy
   (wpAny_call_entry iy hit.typeIs qb ?_ (pD _))))
 unfold Builtin.«reversed.__next__»;refine wpAny_bind (wpAny_of_eq (a:=(Value.ref it,[])) rfl ?_)
 try dsimp only
 refine wpAny_bind (wpAny_field ho hd (x:=.str x t) rfl ?_);refine wpAny_bind (wpAny_field ho hd (x:=rawInt (-1)) rfl ?_);show wpAny _ _ (if (-1:Int) < 0 then _ else _) _ _ s;rw[if_pos (by decide)];refine wpAny_bind (wpAny_rule ?_);refine wpAny_bind (wpAny_bind (wpAny_setField ho hd (by simp) ?_));have ho2:=ab1 (Obj.mapFields (·.setIfInBounds 1 (rawInt (-1)))) ho (Obj.isFreed_of_fields (Obj.data_mapFields hd _));refine wpAny_setField ho2 (Obj.data_mapFields hd _) (by simp) ?_;refine wpAny_bind ?_;show wpAny _ _ (newExc (.type "StopIteration") [] >>= _) _ _ _;refine wpAny_bind ?_;simp only[newExc,newTuple];refine wpAny_bind (wpAny_newObj_type ?_ (by size_fits));refine wpAny_bind (m:=firstArgMember _ _) (wpAny_of_eq (a:=Value.none) (by first | rfl | (simp only[firstArgMember];rfl)) ?_);refine wpAny_newObj_type ?_ (by size_fits);simp only[raiseNew];refine wpAny_bind (wpAny_handled ?_)
 first | rw[show A.in1.handled=none from hh] | rw[hh]
 refine wpAny_bind (wpAny_pure (wpAny_throw ?_));refine wpAny_bind (wpAny_isInstance (T:="StopIteration") (b:=true) ⟨_,aaq _ rfl,rfl⟩ isSubtype_stop ?_);exact wpAny_pure (hQ _ (Heap.ExtBut.push (Heap.ExtBut.push (fun b o ne e=>((ab5.update ..).2 b ne).trans (((ab5.update ..).2 b ne).trans e)) _) _))
theorem vt {it:Addr}{x:Str}{t:Tok}{i:Int}{Q:Value->Shared->Prop}(hit:rY s.heap it x t i)(h:Q (.ref it) s):wpAny (model prog w) A (pyIter (.ref it)) Q E s:=by
 refine wpAny_pyIter_slot hit.typeIs rE (wpAny_call_entry rE hit.typeIs yi ?_ (vN _));show wpAny _ _ (ret (.ref it)) _ _ s;exact wpAny_pure ⟨_,rfl,"reversed",_,hit.typeIs,iy.lookup,h⟩
end
noncomputable def Zc (x:Str):It:=
 ⟨fun i H=>i < x.length,fun i H v H'=>H'=H/\∃ c,x.cps[x.length - 1 - i]?=some c/\v=.str ⟨#[c]⟩,fun i H=>i=x.length⟩
theorem Jz {P:Program}{w:World}{K:W.Frag}{tg:Expr}(x:Str)(t:Tok)(it:Addr)(xF:¬ (x.length:Int) >= 2 ^ 63):Turn P w K tg (Zc x) [it] it (fun i h=>rY h it x t ((x.length:Int) - 1 - i)) where
 mem:=by simp
 obj:=fun i h st b hb=>by
   have e:b=it:=by simpa using hb
   subst e;obtain⟨o,e,c,d⟩:=st;exact⟨o,e,fun v z=>by rw[d] at z;cases z⟩
 keep:=fun i h h' st k=>let ⟨o,e,c,d⟩:=st;⟨o,k it (by simp) o e,c,d⟩
 item:=by
   intro X hP hw hK hc i pins s σ H E I hf st hg;subst hP hw hK;have hg:i < x.length:=hg;obtain⟨f0,f1,f2,f3,f4,f5⟩:=hf it (by simp);have e1:(x.length:Int) - 1 - i=((x.length - 1 - i:Nat):Int):=by omega
   rw[e1] at st;have dS:x.length - 1 - i < x.cps.size:=by show _ < x.length;omega
   refine uL (c:=x.cps[x.length - 1 - i]) st (Array.getElem?_eq_getElem dS) xF fun h' lr sb=>?_
   have I1:L2.Inv X pins σ H { s with heap:=h',toks:=s.toks+1+1}:=I.turned (t':=s.toks+1+1) (fun b o hb e=>(sb.2 b hb).trans e) f0 f1 f3 f4 f5;have e2:((x.length - 1 - i:Nat):Int) - 1=(x.length:Int) - 1 - ((i+1:Nat):Int):=by omega
   rw[e2] at lr;obtain⟨o,e,c,d⟩:=id lr;exact⟨_,rfl,GY (s:={ s with heap:=h',toks:=s.toks+1+1}) e c d (by decide) ⟨.str ⟨#[x.cps[x.length - 1 - i]]⟩,H,I1,⟨_,rfl⟩,⟨rfl,_,Array.getElem?_eq_getElem dS,rfl⟩,lr,fun b hb=>(hf b hb).1⟩⟩
 done:=by
   intro X hP hw hK hc i pins s σ H E I hf st hg;subst hP hw hK;have hg:i=x.length:=hg;subst hg;obtain⟨f0,f1,f2,f3,f4,f5⟩:=hf it (by simp);have e1:(x.length:Int) - 1 - (x.length:Nat)=-1:=by omega
   rw[e1] at st;exact vO (I.ok.hd hc) st fun h' eb=>⟨rfl,I.turned (t':=s.toks) (fun b o hb e=>eb b o hb e) f0 f1 f3 f4 f5⟩
 self:=fun _ _ _ _ _ st h=>vt st h
theorem MO:bootBuiltins "reversed"=some (.type "reversed"):=by decide +kernel
section
variable {X:Cx}{G:Gr}{dl:List Slot}{a:Expr}{x:Str}{p pos:Pos}
def Ss (ta:TA):TI:=fun σ H R=>ta σ H fun vs H1=>∃ x,vs=[.str x]/\(¬ (x.length:Int) >= 2 ^ 63)/\R (Zc x) H1
theorem Qw {tg:Expr}{ta:TA}(hm:X.mg "reversed"=none)(ha:PA X [a] ta)(hg:autoParam (Gl X "reversed") jp)(hs:autoParam (starEach [a] X.env=[(false,eval a X.env)]) jp):PI X tg (.Call (.Name "reversed" p) [a] [] pos) (Ss ta):=by
 intro pins s σ H R I h;refine Call_ (rN I hg hm MO (PyProof.Rows.callWith_type1 (bZ (ha pos pins s σ H _ I h) fun us s1 zq=>?_) hs rfl));obtain⟨vs,H1,I1,r1,q1⟩:=zq;obtain⟨x,e,xF,q⟩:=q1;subst e;cases r1 with
 | cons r rr=>
   cases rr;obtain⟨t,rfl⟩:=(show ∃ t,_=Value.str x t from r)
   refine Jy xF (vt (x:=x) (t:=t) (i:=(x.length:Int) - 1) ⟨_,aaq _ rfl,rfl,rfl⟩ ?_);refine⟨s1.heap.objs.size,[s1.heap.objs.size],_,_,H1,rfl,I1.kept (t':=s1.toks+1+1) fun b o e=>aad _ e,Jz x t _ xF,?_,fun b hb=>?_,q⟩
   . have e:((x.length:Int) - 1)=(x.length:Int) - 1 - ((0:Nat):Int):=by omega
     rw[<- e];exact⟨_,aaq _ rfl,rfl,rfl⟩
   . have e:b=s1.heap.objs.size:=by simpa using hb
     subst e;exact I1.zl (aai _) (I1.aR.fresh (aai _))
theorem JA (hl:x.length<=1000000):vJ X G dl (signs x).reverse (Ss (XZ X.K G dl [.str x])):=fun st H R zq=>zn zq fun Hf S k=>fun vs av H1 g1 r1=>by
 cases r1 with
 | cons r t=>
   cases t;cases r;have WW:=qA x;refine⟨x,rfl,by omega,k _ av H1 g1 fun bD H2 s1 s2 i=>⟨fun z hz=>?_,fun hi=>?_⟩⟩
   . have hi:i < (signs x).length:=by
       have:=(aaj.mp hz).1;simpa using this
     rw[List.getElem?_reverse hi,signs_get,WW] at hz;refine⟨by show i < x.length;omega,fun v H3 hy=>?_⟩;obtain⟨e1,c,e2,e3⟩:=hy;subst e1 e3;rw[e2] at hz;cases hz;exact⟨bD,.refl s2,.str _⟩
   . show i=x.length
     rw[hi,acj,WW]
theorem As {K:W.Frag}{H:Hp}:∀ {ds:List Dt} {d:Dt} {vs:List V},bK K H vs (ds ++ [d])->∃ ws v,vs=ws ++ [v]/\bK K H ws ds/\Rep K H v d
 | [],d,_,.cons r .nil=>⟨[],_,rfl,.nil,r⟩
 | e::ds,d,_,.cons r t=>by
   obtain⟨ws,v,e1,r1,r2⟩:=As t;exact⟨_::ws,v,by rw[e1];rfl,.cons r r1,r2⟩
variable {E:XK}{d:Dt}{ds:List Dt}{y z:Str}{px pn apos bf:Pos}
theorem VA (m n:Nat)(hN:X.N.Nodup)(hd:dl[n]?=some (.own (.lst (ds ++ [d]))))(hm:autoParam (X.N[m]?=some y) jp)(hy:autoParam (Loc X.env.scope y) vb)(hNn:autoParam (X.N[n]?=some z) jp)(hv:autoParam (vC X.env.scope z) xz)(jg:autoParam ((z == ("__debug__":Str))=false) jO)(mh:autoParam ((z == ("__classdict__":Str))=false) jO)(kI:autoParam (attributeBase (.Name z pn) "pop" X.env (eval (.Name z pn) X.env)=eval (.Name z pn) X.env) jp)(kJ:autoParam ((apos.endLine == bf.line)=true) jp)(hs:autoParam (swapsWith (.Call (.Attribute (.Name z pn) "pop" apos) [] [] bf) (some (.Name y px)) pos.line X.env=pure false) jp)(hf:autoParam (X.fn y=true\/X.env.scope.names.lookup y=some .local) v6):ES X G E dl (.Assign [.Name y px] (.Call (.Attribute (.Name z pn) "pop" apos) [] [] bf) pos) (.nx ((dl.set n (.own (.lst ds))).set m (.val d))):=
 vG (AN hN hm hy (K6 PySem.F.plainAttrs_list PySem.F.slot_list_pop PySem.F.type_list_pop T9 (xR (G:=G) (p:=pn) n hd hNn hv jg mh) kI kJ) hs hf) fun D st H zq=>aac zq fun Hf zq=>have S:=zq.1;have k:=zq.2;by
   obtain⟨q,z1,z2,z3,vs,hq,rp⟩:=S.own n _ hd;obtain⟨ws,v,ev,r1,r2⟩:=As rp;subst ev;refine⟨Hf,q,S,z1,z2,⟨_,hq,rp⟩,.inl ⟨rfl,_,.of hq⟩,q,_,v,rfl,rfl,hq,by simp,k _ Hf _ (aH.refl _) ((S.IU hd z1 (w':=.lst ds) ⟨_,ak,?_⟩).set r2)⟩;rw[List.dropLast_concat];exact r1
end
section
variable {ns:List Int}
theorem qx:∀ {ns:List Int} {aJ:List Value},Vals (ns.map V.int) aJ->IntsAre aJ ns
 | [],_,r=>by cases r;exact .nil
 | n::ns,_,r=>by
   cases r with
   | cons h t=>obtain⟨tk,rfl⟩:=h;exact .cons _ tk (qx t)
end
theorem Au {K:W.Frag}{H:Hp}:∀ (ns:List Int),bK K H (ns.map V.int) (ns.map Dt.int)
 | []=>.nil
 | n::r=>.cons (.int n) (Au r)
theorem sX {K:W.Frag}{H:Hp}:∀ {ns:List Int} {vs:List V},bK K H vs (ns.map Dt.int)->vs=ns.map V.int
 | [],_,.nil=>rfl
 | n::r,_,.cons h t=>by cases h;rw[sX t];rfl
noncomputable def Kw (fs:List (Str×FD)):List (Str×Dt):=fs.map fun kd=>(kd.1,fdD kd.2)
theorem HL {K:W.Frag}{H:Hp}:∀ {fv:List (Str×V)} {fs:List (Str×FD)},KA H fv fs->bA K H fv (Kw fs)
 | _,_,.nil=>.nil
 | _,_,.cons h t=>.cons (MB h) (HL t)
theorem MP {K:W.Frag}{H:Hp}:∀ {fv:List (Str×V)} {fs:List (Str×FD)},bA K H fv (Kw fs)->KA H fv fs
 | _,[],.nil=>.nil
 | _,(k,d)::fd,.cons h t=>.cons (Sf h) (MP t)
section
variable {X:Cx}{G:Gr}{E:XK}{dl:List Slot}{e:Expr}{sts:List Stmt}{ou:Out}{C:Addr}{fs:List (Str×FD)}{ns:List Int}{K':W.Frag}
theorem Sv (h:EE X G dl e (.jf (.obj C fs))):EE X G dl e (.obj C (Kw fs)):=gX h fun st H Q zq=>zn zq fun Hf S k=>fun v av H1 g1 r1=>by
 cases r1 with
 | jf h=>cases h with
   | @obj a _ dx o fv _ e f=>exact k _ av H1 g1 (.obj (.inr (.inr (.inr ⟨o,e⟩))) (HL f))
theorem rZ (h:EE X G dl e (.jf (.lst ns))):EE X G dl e (.rq ns):=gX h fun st H Q zq=>zn zq fun Hf S k=>fun v av H1 g1 r1=>by
 cases r1 with
 | jf h=>cases h with
   | @lst a o _ e=>exact k _ av H1 g1 (.rq (.inl (.inr (.inr (.inr ⟨o,e⟩)))))
theorem VB (h:EE X G dl e (.jf (.tup K' ns)))(hK:K'=X.K):EE X G dl e (.tup (ns.map .int)):=gX h fun st H Q zq=>zn zq fun Hf S k=>fun v av H1 g1 r1=>by
 subst hK;cases r1 with
 | jf h=>cases h with
   | tup e=>exact k _ av H1 g1 (.tup e (Au _))
theorem VC (h:EE X G dl e (.tup (ns.map .int)))(hK:K'=X.K):EE X G dl e (.jf (.tup K' ns)):=gX h fun st H Q zq=>zn zq fun Hf S k=>fun v av H1 g1 r1=>by
 subst hK;cases r1 with
 | tup s r=>
   rw[sX r] at s;exact k _ av H1 g1 (.jf (.tup s))
theorem MQ (h:EO X G dl e (.obj C (Kw fs))):EE X G dl e (.jf (.obj C fs)):=by
 intro pins s st H Q I ⟨Hf,S,kk⟩;refine bZ (h pins s st H (fun v H'=>∃ p aK,v=.ref p/\aU Hf H aK H'/\H p=none/\aK p=none/\iq X.K aK H' p (.obj C (Kw fs))) I ⟨Hf,S,fun p aK H' g n n' r=>⟨p,aK,rfl,g,n,n',r⟩⟩) fun u s1 zq=>?_;obtain⟨v,H',I1,rv,q,aK,ev,g,n,n',dx,fv,hq,rp⟩:=zq
 subst ev;obtain⟨hd,hz,ne,ho,mA,hr⟩:=(show aM X.prog X.w H' s1.heap q (.ins C dx fv) from I1.aR q _ hq)
 let ob:=W.instObj C dx;have I2:L2.Inv X pins st (upd H' q (.kx ob (.ins C dx fv))) s1:=oB (h':=s1.heap) (t':=s1.toks) I1 (by rw[hq];trivial) ⟨rfl,fun _ _=>rfl⟩ ⟨ob,ho⟩ ⟨ho,⟨by rw[ag ne];exact hd,hz,ne,ho,mA,hr⟩⟩;have sm:aH aK (upd aK q (.kx ob (.ins C dx fv))):=bj n';refine⟨.ref q,_,I2,rv,kk _ (upd aK q (.kx ob (.ins C dx fv))) _ ⟨fun b o hb=>?_,g.bJ.trans sm,cR g.sub,fun b o hb=>?_⟩ (.jf (.obj ak ((MP rp).st fun b u e _=>sm b u e)))⟩
 . rw[ag (ax hb n)];exact g.big _ _ hb
 . by_cases e:b=q
   . subst e;exact .inr (.inl n)
   . rw[ag e] at hb;exact g.new b o hb
theorem VD (h:EO X G dl e (.lst (ns.map .int))):EE X G dl e (.jf (.lst ns)):=by
 intro pins s st H Q I ⟨Hf,S,kk⟩;refine bZ (h pins s st H (fun v H'=>∃ p aK,v=.ref p/\aU Hf H aK H'/\H p=none/\aK p=none/\iq X.K aK H' p (.lst (ns.map .int))) I ⟨Hf,S,fun p aK H' g n n' r=>⟨p,aK,rfl,g,n,n',r⟩⟩) fun u s1 zq=>?_;obtain⟨v,H',I1,rv,q,aK,ev,g,n,n',vs,hq,rp⟩:=zq
 subst ev;have ev:=sX rp;subst ev;obtain⟨hz,aJ,c,r,ho⟩:=(show aM X.prog X.w H' s1.heap q (.lst (ns.map V.int)) from I1.aR q _ hq)
 let ob:Obj:={ cls:=.type "list",data:=.seq aJ.toArray c}
 have I2:L2.Inv X pins st (upd H' q (.kx ob (.lst (ns.map V.int)))) s1:=oB (h':=s1.heap) (t':=s1.toks) I1 (by rw[hq];trivial) ⟨rfl,fun _ _=>rfl⟩ ⟨ob,ho⟩ ⟨ho,hz,aJ,c,r,ho⟩;have sm:aH aK (upd aK q (.kx ob (.lst (ns.map V.int)))):=bj n';refine⟨.ref q,_,I2,rv,kk _ (upd aK q (.kx ob (.lst (ns.map V.int)))) _ ⟨fun b o hb=>?_,g.bJ.trans sm,cR g.sub,fun b o hb=>?_⟩ (.jf (.lst ak))⟩
 . rw[ag (ax hb n)];exact g.big _ _ hb
 . by_cases e:b=q
   . subst e;exact .inr (.inl n)
   . rw[ag e] at hb;exact g.new b o hb
theorem wL (n:Nat)(h:mP X G E (dl.set n (.val (.jf (.lst ns)))) sts ou)(hd:autoParam (dl[n]?=some (.own (.lst (ns.map .int)))) jp):mP X G E dl sts ou:=by
 intro pins s st H D I ⟨Hf,S,k⟩;have ln:=S.len;obtain⟨q,h1,h2,h3,vs,h4,h5⟩:=S.own n _ hd;have ev:=sX h5;subst ev;have hl:n < dl.length:=(aaj.mp hd).1;obtain⟨hz,aJ,c,r,ho⟩:=(show aM X.prog X.w H s.heap q (.lst (ns.map V.int)) from I.aR q _ h4)
 let ob:Obj:={ cls:=.type "list",data:=.seq aJ.toArray c}
 have I':L2.Inv X pins st (upd H q (.kx ob (.lst (ns.map V.int)))) s:=oB (h':=s.heap) (t':=s.toks) I (by rw[h4];trivial) ⟨rfl,fun _ _=>rfl⟩ ⟨ob,ho⟩ ⟨ho,hz,aJ,c,r,ho⟩;have sm:aH Hf (upd Hf q (.kx ob (.lst (ns.map V.int)))):=bj h2;refine h pins s st _ D I' ⟨upd Hf q (.kx ob (.lst (ns.map V.int))),⟨⟨fun b o hb=>?_,S.gr.bJ.trans sm,cR S.sub,fun c o hc=>?_⟩,by simp[S.len],fun j y hj=>?_,fun j o' hj=>?_,fun j m o1 o2 c q1 q2 q3 q4=>?_⟩,k.mono sm⟩
 . rw[ag (ax hb h3)];exact S.gr.big _ _ hb
 . by_cases hb:c=q
   . subst hb;exact .inr (.inl h3)
   . rw[ag hb] at hc;exact S.gr.new c o hc
 . by_cases e:n=j
   . subst e
     rw[aag hl] at hj;cases hj;exact⟨_,h1,.jf (.lst ak)⟩
   . rw[aah e] at hj
     obtain⟨v,z1,z2⟩:=S.val j y hj;exact⟨v,z1,z2.mono sm⟩
 . by_cases e:n=j
   . subst e;rw[aag hl] at hj;cases hj
   . rw[aah e] at hj
     obtain⟨c,z1,z2,z3,z4⟩:=S.own j o' hj;have ne:c≠q:=fun z=>by subst z;exact e (S.He n j _ _ _ hd hj h1 z1)
     exact⟨c,z1,by rw[ag ne];exact z2,z3,z4.grow (ag ne) sm⟩
 . have nj:n≠j:=fun e=>by subst e;rw[aag hl] at q1;cases q1
   have nm:n≠m:=fun e=>by subst e;rw[aag hl] at q2;cases q2
   rw[aah nj] at q1;rw[aah nm] at q2;exact S.He j m o1 o2 c q1 q2 q3 q4
theorem Qx {zs:List Int}:LM X G dl zs.length (fun k=>(zs.map Dt.int).getD k .cz) (KP X.K (tD X.K G dl (.rq zs))):=fun st H R zq=>zn zq fun Hf S k=>fun v av H1 g1 r1=>by
 cases r1 with
 | @rq q _ hq=>
   refine⟨q,rfl,⟨_,g1.sub.seq hq⟩,k _ av H1 g1 fun bD H2 g2 i=>⟨fun hi=>?_,fun hi=>⟨_,g2.big.seq (g1.sub.seq hq),by rw[aaa];omega⟩⟩⟩;have hs:pL X.K H2 q (zs.map V.int):=g2.big.seq (g1.sub.seq hq);have z1:(zs.map V.int)[i]?=some (.int zs[i]):=by rw[aaf,aab hi];rfl
   refine⟨⟨_,_,hs,z1⟩,fun v H3 hy=>?_⟩;obtain⟨e1,e2⟩:=hy;have e2:=e2 _ hs;rw[z1] at e2;cases e2;refine⟨e1,?_⟩;have e3:(zs.map Dt.int).getD i .cz=.int zs[i]:=by rw[aae,aaf,aab hi];rfl
   show Rep _ _ _ ((zs.map Dt.int).getD i .cz);rw[e3];exact .int _
theorem DD {x:Str}{p pos:Pos}(M:Uq X.K C)(hm:X.mg x=some (.ref C))(hg:autoParam (Gl X x) jp)(jg:autoParam ((x == ("__debug__":Str))=false) jO):EE X G dl (.Call (.Name x p) [] [] pos) (.jf (.obj C [])):=by
 refine MQ (fs:=[]) ?_;intro pins s st H Q I ⟨Hf,S,k⟩;refine wpAny_Call_Name_kw (lD I hg hm ?_ jg);refine W.callWith_K0 I.ke M.kp (IW M I fun x dx hx UG ne=>?_);have Kq:(upd H dx (.own x)) x=none:=by rw[ag (Ne.symm ne)];exact hx
 have g1:aU Hf H Hf (upd H dx (.own x)):=.fX S.sub UG;have g2:aU Hf (upd H dx (.own x)) Hf (upd (upd H dx (.own x)) x (.ins C dx [])):=.fX g1.sub Kq;exact k _ _ _ (g1.trans g2) hx (S.sub.free hx) ⟨dx,[],ak,.nil⟩
end
noncomputable def jo (H:Hp)(p q1:Addr)(u1 u3:HO):Hp:=upd (upd H p u1) q1 u3
section
variable {X:Cx}{pins:List (Addr×Obj)}{σ:L2.St}{H:Hp}{s:Shared}{p q1:Addr}{pC:List (Key×V)}{f:Nat->List (Key×FD)}
theorem Inv.Qy (I:L2.Inv X pins σ H s)(hp:H p=some (.lst [.ref q1]))(Ku:H q1=some (.dK pC))(f1:t8 H pC (f 0)):∃ o1,L2.Inv X pins σ (jo H p q1 (.memo [(p,f)]) (.kd (some (p,0)) o1 pC)) s:=by
 obtain⟨z1,i1,c1,r1,e1⟩:=(show aM X.prog X.w H s.heap p (.lst [.ref q1]) from I.aR p _ hp)
 obtain⟨Qr,lo1,vs1,kr1,o1,es1,ep1,Y3,hr1⟩:=(show aM X.prog X.w H s.heap q1 (.dK pC) from I.aR q1 _ Ku)
 obtain⟨u1,rfl,w1⟩:=vals1 r1;cases (show u1=Value.ref q1 from w1);refine⟨o1,?_⟩;have m1:p≠q1:=fun z=>by rw[z,Ku] at hp;cases hp
 generalize Qs:jo H p q1 (.memo [(p,f)]) (.kd (some (p,0)) o1 pC)=H';have Y4:H' p=some (.memo [(p,f)]):=by rw[<- Qs];unfold jo;rw[ag m1,ak]
 have MK:H' q1=some (.kd (some (p,0)) o1 pC):=by rw[<- Qs];unfold jo;rw[ak]
 have FL:∀ b,b≠p->b≠q1->H' b=H b:=fun b a1 a3=>by rw[<- Qs];unfold jo;rw[ag a3,ag a1]
 have vM:∀ b o,H b=some o->ldk o=false->H' b=some o:=fun b o e n=>by
   rw[FL b (fun z=>by rw[z,hp] at e;cases e;cases n) (fun z=>by rw[z,Ku] at e;cases e;cases n)];exact e
 have kp:Kp H H':=⟨fun b o e kq=>vM b _ e (by cases o <;> first | rfl | exact(show False from kq).elim),fun b e=>by
   cases q:H b with
   | none=>rw[q] at e;exact e.elim
   | some u=>
     rw[q] at e;rw[vM b u q (by cases u <;> first | rfl | exact e.elim)];exact e,fun b x e=>vM b _ e rfl⟩
 refine I.un (h':=s.heap) (t':=s.toks) ⟨fun b o e _ _ _=>e,fun b o e _ _ _=>⟨o.slots,e⟩,fun b o e n _=>?_,fun b o e _=>⟨o,e⟩,fun b xs e=>vM b _ e rfl,fun b o u e=>vM b _ e rfl,fun b ps e=>⟨#[],by rw[vM b _ e rfl];simp⟩⟩ fun b u e=>?_
 . rw[FL b (fun z=>by rw[z,hp] at n;cases n) (fun z=>by rw[z,Ku] at n;cases n)]
   exact n
 . by_cases b1:b=p
   . subst b1
     rw[Y4] at e;cases e;refine⟨⟨_,e1⟩,1,by decide,⟨f,rfl⟩,rfl,fun j a h hj=>?_,by simp,fun n hn=>by rw[List.mem_replicate] at hn;omega,fun j a h n hj hn=>?_⟩
     . match j,hj with
       | 0,hj=>cases hj;exact .inl rfl
     . match j,hj,hn with
       | 0,hj,hn=>
         cases hj;cases hn;refine⟨_,_,e1,rfl,fun i hi=>?_⟩;have:i=0:=by omega
         subst this;exact⟨q1,o1,pC,rfl,MK,f1.kp kp⟩
   . by_cases b3:b=q1
     . subst b3;rw[MK] at e;cases e
       refine⟨Y3,⟨Qr,lo1,vs1,kr1,o1,es1,ep1,Y3,hr1⟩,fun a i ht=>?_⟩;cases ht;exact⟨by rw[Y4];trivial,_,_,e1,rfl⟩
     . rw[FL b b1 b3] at e
       exact(I.aR b u e).qW (fun _ _ _ q=>q) (fun c q=>vM c _ q rfl) (fun c xs q=>vM c _ q rfl) kp
end
section
variable {X:Cx}{G:Gr}{E:XK}{e1:Expr}{fs:List (Str×Dt)}{z C:Addr}{tl:List Slot}{f:Nat->List (Key×FD)}{n0 x0:Str}{Vr Vs Vt q1:Pos}
theorem zx (no:noOwn tl=true)(cl:wz X.K C)(Vi:bW X.K C n0)(he1:EO X G (.own (.CZ z C fs)::tl) e1 (.fw (pN (f 0))))(Vu:autoParam (∀ p ls,putD n0 (.memo p ls 0 1) fs=vk fs [n0] p ls 1) wl)(hlen:autoParam (Nat.ble fs.length 990=true) jp)(hN:autoParam (X.N[0]?=some x0) jp)(hv:autoParam (vC X.env.scope x0) xz)(jg:autoParam ((x0 == ("__debug__":Str))=false) jO)(mh:autoParam ((x0 == ("__classdict__":Str))=false) jO)(Bt:autoParam (starEach [e1] X.env=[(false,eval e1 X.env)]) jp)(Ko:autoParam (swapsWith (.List [e1] Vt) (some (.Attribute (.Name x0 Vr) n0 Vs)) q1.line X.env=pure false) jp):mP X G E (.own (.CZ z C fs)::tl) [.Assign [.Attribute (.Name x0 Vr) n0 Vs] (.List [e1] Vt) q1] (.nx (.own (.A3 z C fs [f] [n0] 1)::tl)):=by
 intro pins s st H D I ⟨Hf,S,k⟩;have base:=mU (xA (pos:=q1) (pos':=Vs) (gU (pos:=Vr) hN hv jg mh) (xB (pos:=Vt) (kg he1 oA Bt)) Ko);let RQ:L2.St->Hp->Prop:=fun lr H'=>∃ p a1 pC,H' p=some (.lst [.ref a1])/\H' a1=some (.dK pC)/\t8 H' pC (f 0)/\∀ o1,D.nx lr (jo H' p a1 (.memo [(p,f)]) (.kd (some (p,0)) o1 pC))
 refine bZ (base pins s st H { D with nx:=RQ} I ?_) fun fl s7 q7=>?_
 . obtain⟨za,hz,hzf,W9,ez,dx,fv,Qt,rf⟩:=S.own 0 _ rfl
   subst ez;refine⟨Hf,S,fun a1 av H1 g1 Y6 Vv ⟨pC,UT,rk1⟩=>⟨aaF rfl,fun p hp=>?_⟩⟩;have Qr:H1 za=some (.ins C dx fv):=g1.big _ _ Qt;have OS:za≠p:=ax Qr hp;have Y7:a1≠p:=ax UT hp;have Sm:za≠a1:=fun w=>by rw[w,Y6] at Qt;cases Qt
   have hzp:(upd H1 p (.lst [.ref a1])) za=some (.ins C dx fv):=by rw[ag OS];exact Qr
   refine⟨_,hz,za,C,dx,fv,rfl,hzp,cl,Vi,by rw[rf.length];exact aaO (aaF hlen) (by decide),?_⟩;let H4:Hp:=upd (upd H1 p (.lst [.ref a1])) za (.ins C dx (fP n0 (.ref p) fv));have Jx:av za=none:=g1.my hzf Qt;have gz1:aU av H1 av (upd H1 p (.lst [.ref a1])):=.fX g1.sub hp;have S0:dh X.K G st Hf H (.aY::tl):=S.weak ⟨rfl,fun i s' e n=>by
     cases i with
     | zero=>cases e;exact absurd rfl n
     | succ i=>exact e⟩
   have nou:noOwn (.aY::tl)=true:=no;have S4:dh X.K G st av H4 (.aY::tl):=qC ((S0.grow g1).grow gz1) nou Jx W9;have h4z:H4 za=some (.ins C dx (fP n0 (.ref p) fv)):=ak;have h4p:H4 p=some (.lst [.ref a1]):=by show(upd (upd H1 p _) za _) p=_;rw[ag (Ne.symm OS),ak]
   have Vy:H4 a1=some (.dK pC):=by show(upd (upd H1 p _) za _) a1=_;rw[ag (Ne.symm Sm),ag Y7];exact UT
   have f3p:av p=none:=g1.sub.free hp;have Bu:aH av H4:=fun b o e=>by
     have b1:b≠za:=fun w=>by rw[w,Jx] at e;cases e
     have b2:b≠p:=fun w=>by rw[w,f3p] at e;cases e
     show(upd (upd H1 p _) za _) b=_;rw[ag b1,ag b2];exact g1.sub _ _ e
   have gp:G.H p=none:=S.gr.big.free (g1.big.free hp);have Za:G.H a1=none:=S.gr.big.free Y6;have Zb:t8 av pC (f 0):=rW rk1;refine⟨p,a1,pC,h4p,Vy,gD (fun b u e _=>Bu _ _ e) Zb,fun o1=>?_⟩;let ls:kU:=[(p,f)]
   let u1:HO:=.memo ls;let u3:HO:=.kd (some (p,0)) o1 pC;have m1:p≠a1:=Ne.symm Y7;have cat:∀ (B:Hp),jo B p a1 u1 u3 p=some u1/\jo B p a1 u1 u3 a1=some u3:=fun B=>by
     unfold jo;refine⟨?_,?_⟩
     . rw[ag m1,ak]
     . rw[ak]
   have yh:∀ (B:Hp) b,b≠p->b≠a1->jo B p a1 u1 u3 b=B b:=fun B b c1 c3=>by unfold jo;rw[ag c3,ag c1]
   let vq:Hp:=jo av p a1 u1 u3;have Kv:aH av vq:=fun b o e=>by
     show jo av p a1 u1 u3 b=some o;rw[yh av b (fun w=>by rw[w,f3p] at e;cases e) (fun w=>by rw[w,Vv] at e;cases e)];exact e
   have key:∀ (A B:Hp),aH A B->aH (jo A p a1 u1 u3) (jo B p a1 u1 u3):=fun A B sm=>cR (cR sm)
   have Vz:aH vq (jo H4 p a1 u1 u3):=key _ _ Bu;have ML:bA X.K vq (fP n0 (.ref p) fv) (vk fs [n0] p ls 1):=by
     rw[<- Vu p ls];refine(rf.mono (g1.bJ.trans Kv)).put (f:=n0) (d:=.memo p ls 0 1) ?_;refine .memo (f:=f) rfl (cat av).1 (.inl rfl) fun i hi=>?_
     have:i=0:=by omega
     subst this;exact⟨a1,o1,pC,(cat av).2,gD (fun b u e _=>Kv _ _ e) Zb⟩
   have czH:jo H4 p a1 u1 u3 za=some (.ins C dx (fP n0 (.ref p) fv)):=by rw[yh H4 za OS Sm];exact h4z
   have czF:vq za=none:=by show jo av p a1 u1 u3 za=none;rw[yh av za OS Sm];exact Jx
   refine k st vq _ (g1.bJ.trans Kv) ⟨⟨fun b o e=>?_,S4.gr.bJ.trans Kv,Vz,fun b o e=>?_⟩,by have:=S4.len;simpa using this,fun i d h=>?_,fun i o h=>?_,fun i j o o' a w1 w2=>?_⟩
   . rw[yh H4 b (fun w=>by rw[w,gp] at e;cases e) (fun w=>by rw[w,Za] at e;cases e)]
     exact S4.gr.big _ _ e
   . by_cases c1:b=p
     . rw[c1];exact .inr (.inl gp)
     . by_cases c3:b=a1
       . rw[c3];exact .inr (.inl Za)
       . have e:jo av p a1 u1 u3 b=some o:=e
         rw[yh av b c1 c3] at e;exact S4.gr.new b o e
   . cases i with
     | zero=>cases h
     | succ i=>
       obtain⟨w,w1,w2⟩:=S4.val (i+1) d h;exact⟨w,w1,w2.mono Kv⟩
   . cases i with
     | zero=>
       cases h;exact⟨za,hz,czF,W9,rfl,dx,_,p,ls,rfl,czH,ML⟩
     | succ i=>exact absurd h (bo no i o)
   . cases i with
     | zero=>cases j with
       | zero=>exact fun _ _=>rfl
       | succ j=>exact absurd w2 (bo no j o')
     | succ i=>exact absurd w1 (bo no i o)
 . cases fl with
   | next=>
     obtain⟨σ7,H7,I7,p,a1,pC,y1,y3,y5,kk⟩:=q7;obtain⟨o1,I8⟩:=Inv.Qy I7 y1 y3 y5;exact⟨σ7,_,I8,kk o1⟩
   | cont=>exact q7
   | brk=>exact q7
   | ret v=>exact q7
end
section
variable {X:Cx}{G0:Gr}{E:XK}{fs:List (Str×Dt)}{l C:Addr}{ls:kU}{n N:Nat}{tl:List Slot}{f:Nat->List (Key×FD)}{n0 x0 xg:Str}{p1 p2 p3 a1 c1 q1:Pos}
theorem DE (ng:Nat)(hs:lG l fs=true)(ht:sW l tl=true)(hu:tl[ng]?=some .aY)(mZ:ls.map (·.2)=[f])(hN:N < 9000)(cl:wz X.K C)(Vi:bW X.K C n0)(hA:G0.Hf l=some (.memo ls))(hB:G0.H l=some (.memo ls))
   (W4:autoParam ((qZ fs [n0] l ls n).lookup n0=some (.eG l ls 0 n)) jp)
   (P7:autoParam (X.N[0]?=some x0) jp) (U4:autoParam (vC X.env.scope x0) xz) (hd0:autoParam ((x0 == ("__debug__":Str))=false) jO) (U5:autoParam ((x0 == ("__classdict__":Str))=false) jO)
   (hNg:autoParam (X.N[ng+1]?=some xg) jp) (hvg:autoParam (vC X.env.scope xg) xz) (hdg:autoParam ((xg == ("__debug__":Str))=false) jO) (hcg:autoParam ((xg == ("__classdict__":Str))=false) jO)
   (W7:autoParam (attributeBase (.Name x0 p1) n0 X.env (eval (.Name x0 p1) X.env)=eval (.Name x0 p1) X.env) jp)
   (FN:autoParam (attributeBase (.Attribute (.Name x0 p1) n0 p2) "append" X.env (eval (.Attribute (.Name x0 p1) n0 p2) X.env)=eval (.Attribute (.Name x0 p1) n0 p2) X.env) jp)
   (MH:autoParam (((backTo c1 (starEach [.Name xg p3] X.env)).all (fun x=>!x.1) && (backToKw c1 (keywordEach [] X.env)).all (fun x=>x.1.isSome) && decide ([Expr.Name xg p3].length+([]:List Keyword).length+(if ([]:List Keyword).isEmpty then 0 else 1) < 30))=true) jp)
   (FO:autoParam ((a1.endLine == c1.line)=true) jp) (Bt:autoParam (starEach [.Name xg p3] X.env=(false,eval (.Name xg p3) X.env)::starEach [] X.env) jp)
   (Ko:autoParam (swapsWith (.Call (.Attribute (.Attribute (.Name x0 p1) n0 p2) "append" a1) [.Name xg p3] [] c1) none q1.line X.env=pure false) jp) :
   mP X (YU G0 l (.bT ls (aal ls.length N))) E (.val (.obj C (qZ fs [n0] l ls n))::tl.set ng (.own (.fw (pN (f N)))))
     [.Expr (.Call (.Attribute (.Attribute (.Name x0 p1) n0 p2) "append" a1) [.Name xg p3] [] c1) q1] (.raw (RM X.K G0 C fs [n0] l ls n tl (N+1))):=by
 refine C0 (mU (kf (xD PySem.F.plainAttrs_list PySem.F.slot_list_append PySem.F.type_list_append rX (xy (gU (pos:=p1) P7 U4 hd0 U5) W7) (kg (gU (pos:=p3) hNg hvg hdg hcg) oA Bt) FN MH FO Bt rfl) Ko)) fun D st H zq=>aac zq fun Hf zq=>have S:=zq.1;have k:=zq.2;?_
 have e2:ls.length=1:=by have:=congrArg abI mZ;simpa using this
 have eR:∀ M:Nat,aal ls.length M=[M]:=fun M=>by rw[e2];rfl
 rw[eR] at S;have YX:ng < tl.length:=(aaj.mp hu).1;obtain⟨v0,hv,rv⟩:=S.val 0 _ rfl;cases rv with
 | @obj sa _ dx fv _ Vl rf=>
   obtain⟨oa,FP,hmk,_,back⟩:=Rd.ex Vl;have Vm:Hf l=some (.bT ls [N]):=S.gr.bJ _ _ ak;have Sk:H l=some (.bT ls [N]):=S.sub _ _ Vm;have hm:cu Hf l ls:=.inr ⟨_,Vm⟩;obtain⟨y0,hy0,ry0⟩:=rf.lookup W4;obtain⟨qa,hq,YY,hqg,kvs,Sl,rk⟩:=S.own (ng+1) (.fw (pN (f N))) (by show(tl.set ng _)[ng]?=_;rw[aag YX]);cases ry0 with
   | @eG _ p _ _ _ f0 Du _ acv _=>
       have ef0:f0=f:=by
         have:=congrArg (fun z=>z[0]?) mZ;simp only[aaf,Du] at this;exact Option.some.inj this
       subst ef0;have fzH:t8 H kvs (f0 N):=gD (fun b u e _=>S.sub _ _ e) (rW rk);have nql:qa≠l:=fun z=>by rw[z,Sk] at Sl;cases Sl
       have YZ:sa≠l:=fun z=>by rw[z,Vm] at FP;cases FP;cases hmk
       have nsq:sa≠qa:=fun z=>by rw[z,YY] at FP;cases FP
       refine⟨_,hv,sa,C,dx,fv,_,rfl,back _ (S.sub _ _ FP),cl,Vi,hy0,.inr (.inr (.inr (.inr ⟨rfl,l,ls,[N],0,f0,N,Sk,Du,rfl⟩))),_,hq,l,ls,[N],0,p,f0,N,qa,kvs,rfl,rfl,Sk,Du,rfl,hN,Sl,fzH,fun oq=>?_⟩;let H6:Hp:=upd (upd H l (.bT ls ([N].set 0 (N+1)))) qa (.kd (some (p,N)) oq kvs);show D.nx st H6;have h6l:H6 l=some (.bT ls [N+1]):=by show(upd (upd H l _) qa _) l=_;rw[ag (Ne.symm nql),ak];rfl
       have Y1:∀ b o,H b=some o->b≠l->b≠qa->(upd H6 l (.memo ls)) b=some o:=fun b o e n1 n2=>by
         rw[ag n1];show(upd (upd H l _) qa _) b=_;rw[ag n2,ag n1];exact e
       have f5r:∀ b o,Hf b=some o->b≠qa:=fun b o e z=>by rw[z,YY] at e;cases e
       have MI:aH (upd Hf l (.memo ls)) (upd H6 l (.memo ls)):=fun b o e=>by
         by_cases bl:b=l
         . rw[bl,ak] at e ⊢;exact e
         . rw[ag bl] at e;exact Y1 b o (S.sub _ _ e) bl (f5r b o e)
       have MJ:=gC MI;have g6:aU G0.Hf G0.H (j0 (upd Hf l (.memo ls)) (upd H6 l (.memo ls))) (upd H6 l (.memo ls)):=by
         refine⟨fun b o e=>?_,fun b o e=>?_,p9 MI,fun b o e=>?_⟩
         . by_cases bl:b=l
           . rw[bl,hB] at e;cases e;rw[bl];exact ak
           . have h3:H b=some o:=S.gr.big _ _ (by show(upd G0.H l _) b=_;rw[ag bl];exact e)
             have nbq:b≠qa:=fun z=>by
               have:(upd G0.H l (.bT ls [N])) qa=none:=hqg;rw[<- z,ag bl,e] at this;cases this
             exact Y1 b o h3 bl nbq
         . by_cases bl:b=l
           . rw[bl,hA] at e;cases e;rw[bl];exact MJ _ _ ak
           . have h3:Hf b=some o:=S.gr.bJ _ _ (by show(upd G0.Hf l _) b=_;rw[ag bl];exact e)
             exact MJ _ _ (by rw[ag bl];exact h3)
         . rcases qF (Hf:=upd Hf l (.memo ls)) (H:=upd H6 l (.memo ls)) b with⟨u',z1,z2,z3⟩ | z
           . rw[z3] at e;cases e;exact .inr (.inr z2)
           . rw[z] at e
             by_cases bl:b=l
             . rw[bl];exact .inl ⟨_,hA⟩
             . rw[ag bl] at e
               rcases S.gr.new b o e with⟨Uj,y⟩ | y | y
               . have y:(upd G0.Hf l _) b=some Uj:=y
                 rw[ag bl] at y;exact .inl ⟨Uj,y⟩
               . have y:(upd G0.H l _) b=none:=y
                 rw[ag bl] at y;exact .inr (.inl y)
               . exact .inr (.inr y)
       have Vo:∀ {v:V} {d:Dt},uI l d=true->Rep X.K Hf v d->Rep X.K (j0 (upd Hf l (.memo ls)) (upd H6 l (.memo ls))) v d:=fun {v d} hn r=>(jm hm (.inl rfl) hn r).mono MJ
       refine k st H6 ⟨by rw[eR];exact h6l,_,⟨g6,by have:=S.len;simpa using this,fun i d h=>?_,fun i o h=>?_,fun i j o o' a h=>?_⟩⟩
       . cases i with
         | zero=>
           cases h;refine⟨_,hv,.obj (back _ (MJ _ _ (by rw[ag YZ];exact FP))) ?_⟩;exact(Si hs hm rf).mono MJ
         | succ i=>
           have h:tl[i]?=some (.val d):=h;have e:ng≠i:=fun z=>by rw[<- z,hu] at h;cases h
           obtain⟨w,w1,w2⟩:=S.val (i+1) d (by show(tl.set ng _)[i]?=_;rw[aah e];exact h);exact⟨w,w1,Vo (nY ht h) w2⟩
       . cases i with
         | zero=>cases h
         | succ i=>exact absurd h (bo (iw ht) i o)
       . cases i with
         | zero=>cases h
         | succ i=>exact absurd h (bo (iw ht) i o)
end
noncomputable abbrev Xa (g:Str)(C':Addr)(fs':List (Str×Dt))(nm':List Str)(l':Addr)(ls':kU)(n':Nat):List (Str×Dt):=[(g,.obj C' (vk fs' nm' l' ls' n'))]
section
variable {X:Cx}{G:Gr}{E:XK}{dl:List Slot}{e:Expr}{pos:Pos}{sts:List Stmt}{o:Out}{C C' l l':Addr}{ls ls':kU}{n n' m:Nat}{nm nm':List Str}{fs':List (Str×Dt)}{g:Str}{tl:List Slot}{K:W.Frag}{Hf H:Hp}{st:L2.St}
theorem HM {fv:List (Str×V)}(r:bA K Hf fv (vk (Xa g C' fs' nm' l' ls' n') nm l ls n)):∃ v f2,fv=(g,v)::f2/\Rep K Hf v (.obj C' (vk fs' nm' l' ls' n'))/\bA K Hf f2 ((aan nm.length).map fun j=>(nm.getD j "",.memo l ls j n)):=by
 have r:bA K Hf fv ((g,.obj C' (vk fs' nm' l' ls' n'))::(aan nm.length).map fun j=>(nm.getD j "",.memo l ls j n)):=r;cases r with
 | cons h t=>exact⟨_,_,rfl,h,t⟩
theorem JB (i:Nat)(hn:0 < nm.length)(sD:0 < nm'.length)(hl:ls'.length≠ls.length)(h:l'≠l->mP X G E dl sts o)(hd:autoParam (dl[i]?=some (.val (.obj C (vk (Xa g C' fs' nm' l' ls' n') nm l ls n)))) jp):mP X G E dl sts o:=by
 intro pins s st H D I ⟨Hf,S,k⟩;obtain⟨v,hv,rv⟩:=S.val i _ hd;refine h ?_ pins s st H D I ⟨Hf,S,k⟩;cases rv with
 | obj q r=>
   obtain⟨v',f2,_,r1,r2⟩:=HM r;have h1:=yg hn r;cases r1 with
   | obj q' r'=>
     have h2:=yg sD r';intro z;rw[z,h1] at h2;have:=HO.memo.inj (Option.some.inj h2);exact hl (by rw[this])
theorem JC (he:EE X G (.val (.obj C (vk (Xa g C' fs' nm' l' ls' n') nm l ls n))::tl) e (.wC l' ls' m))(hs:autoParam (swapsWith e none pos.line X.env=pure false) jp):ES X G E (.val (.obj C (vk (Xa g C' fs' nm' l' ls' n') nm l ls n))::tl) (.Expr e pos) (.nx (.val (.obj C (vk (Xa g C' fs' nm' l' ls' m) nm l ls n))::tl)):=
 vG (kf he hs) fun D st H zq=>zn zq fun Hf S k=>fun v av H1 g1 r1=>by
   have S1:=S.grow g1;cases r1 with
   | wC kn=>
     refine k st av H1 g1.bJ ⟨S1.gr,S1.len,fun i d h=>?_,fun i o h=>S1.own i o ?_,fun i j o o' a h1 h2=>S1.He i j o o' a ?_ ?_⟩
     . cases i with
       | zero=>
         cases h;obtain⟨v,hv,rv⟩:=S1.val 0 _ rfl;cases rv with
         | obj q r=>
           obtain⟨v',f2,ef,r1,r2⟩:=HM r;subst ef;cases r1 with
           | obj q' r'=>exact⟨_,hv,.obj q (.cons (.obj q' (Dz kn r')) r2)⟩
       | succ i=>exact S1.val (i+1) d h
     . cases i with
       | zero=>cases h
       | succ i=>exact h
     . cases i with
       | zero=>cases h1
       | succ i=>exact h1
     . cases j with
       | zero=>cases h2
       | succ j=>exact h2
end
end Sg
namespace Pf
open PySem PySem.Spec PyProof.Rows L2 Sg
structure gq (K:W.Frag)(x q:Str)(st:Stmt)(ps:List Str)(f:Addr)(d:FuncData):Prop where
 F:Ui K x q st f d
 b:Binds K d ps []
structure JD (K:W.Frag)(x q:Str)(st:Stmt)(ps:List Str)(f:Addr)(d:FuncData):Prop where
 F:xV K x q st f d
 b:Binds K d ps []
structure mT (K:W.Frag)(x:Str)(st:Stmt)(ps:List Str)(f:Addr)(d:FuncData):Prop where
 F:Ui K x x st f d
 b:Binds K d ps []
 a:W.nsIn K mainGlobals x=some (some (.ref f))
structure JE (K:W.Frag)(x:Str)(C:Addr):Prop where
 a:W.nsIn K mainGlobals x=some (some (.ref C))
 cl:wz K C
 kc:W.keepIn K (.ref C)=true
abbrev VE (x q:Str)(st:Stmt)(ps:List Str):Prop:=∀ (kV doc pm:Value) (an:Option Addr) (bc ct:Value) (us:List Value),us.length=ps.length->bindArgs (W.fnOf x q (cv st) (aG st) (af st) .none kV doc pm an bc ct) ⟨us,[]⟩=pure (ps.zip us)
section
variable {K:W.Frag}{x q:Str}{st:Stmt}{ps:List Str}{f:Addr}{oc:Value}{od an:Option Addr}{wA:Array (Option Value)}{kV doc pm bc ct:Value}
theorem VF (l:K.lookup f=some ⟨oc,od,.func (W.fnOf x q (cv st) (aG st) (af st) .none kV doc pm an bc ct),wA⟩)(c:W.codeIn K bc q=true)(k:W.keepIn K (.ref f)=true)(b:VE x q st ps):gq K x q st ps f (W.fnOf x q (cv st) (aG st) (af st) .none kV doc pm an bc ct):=⟨xG l c k,(xG l c k).binds b⟩
theorem VG (l:K.lookup f=some ⟨oc,od,.func (W.fnOf x q (cv st) (aG st) (af st) .none kV doc pm an bc ct),wA⟩)(c:W.codeIn K bc q=true)(k:W.keepIn K (.ref f)=true)(b:VE x q st ps):JD K x q st ps f (W.fnOf x q (cv st) (aG st) (af st) .none kV doc pm an bc ct):=⟨sS l c,(xG l c k).binds b⟩
theorem VH (a:W.nsIn K mainGlobals q=some (some (.ref f)))(l:K.lookup f=some ⟨oc,od,.func (W.fnOf q q (cv st) (aG st) (af st) .none kV doc pm an bc ct),wA⟩)(c:W.codeIn K bc q=true)(k:W.keepIn K (.ref f)=true)(b:VE q q st ps):mT K q st ps f (W.fnOf q q (cv st) (aG st) (af st) .none kV doc pm an bc ct):=⟨xG l c k,(xG l c k).binds b,a⟩
theorem VI {C:Addr}(a:W.nsIn K mainGlobals x=some (some (.ref C)))(p:W.plainGet K C Str.empty=true)(h:W.hasDictIn K C=true)(o:W.plainOver K C=true)(s:W.findIn K (.ref C) "__setattr__"=some (some (.builtin "object.__setattr__")))(k:W.keepIn K (.ref C)=true):JE K x C:=⟨a,⟨p,h,o,s⟩,k⟩
end
theorem gY {N P:List Str}{sc:Scope}(h:(sc.kind == .function && !sc.isCoroutine && !sc.isGenerator && decide N.Nodup && decide (N.take P.length=P) && P.all (fun x=>decide (sc.names.lookup x=some .local\/sc.names.lookup x=some .cell)) && sc.names.all fun y=>decide (y.2≠.free))=true):aq N P sc:=by
 simp only[aaE,acB,decide_eq_true_eq,Bool.not_eq_true',beq_iff_eq] at h;exact⟨h.1.1.1.1.1.1,h.1.1.1.1.1.2,h.1.1.1.1.2,h.1.1.1.2,h.1.1.2,h.1.2,h.2⟩
noncomputable def top (i:Nat):Stmt:=PySem.Challenge.pw_strokegrow_k58_stretches_refused.main.body.getD i (.Pass ⟨0,0,0,0⟩)
noncomputable abbrev lg:Stmt:=inClass (top 9) 0
noncomputable abbrev mC:Stmt:=inClass (top 10) 0
noncomputable abbrev Bw:Stmt:=top 14
noncomputable abbrev Bx:Stmt:=top 15
noncomputable abbrev mD:Stmt:=top 16
noncomputable abbrev oK:Stmt:=inClass (top 17) 3
noncomputable abbrev oM:Stmt:=inClass (top 17) 4
noncomputable abbrev r6:Stmt:=inClass (top 17) 5
noncomputable abbrev qc:Stmt:=inClass (top 17) 6
noncomputable abbrev mE:Stmt:=inClass (top 18) 0
noncomputable abbrev fZ:Stmt:=inClass (top 18) 1
noncomputable abbrev lh:Stmt:=inClass (top 18) 2
noncomputable abbrev oN:Stmt:=inClass (top 19) 0
noncomputable abbrev gZ:Stmt:=inClass (top 19) 1
noncomputable abbrev nC:Stmt:=inClass (top 19) 2
noncomputable abbrev yj:Stmt:=top 20
noncomputable abbrev oO:Stmt:=inClass (top 22) 0
noncomputable abbrev oP:Stmt:=inClass (top 22) 1
noncomputable abbrev oQ:Stmt:=inClass (top 22) 2
noncomputable abbrev lj:Stmt:=inClass (top 22) 3
noncomputable abbrev cJ:Stmt:=inClass (top 22) 4
noncomputable abbrev fR:Stmt:=inClass (top 22) 5
noncomputable abbrev cK:Stmt:=inClass (top 22) 6
noncomputable abbrev cL:Stmt:=inClass (top 22) 7
noncomputable abbrev oR:Stmt:=inClass (top 22) 8
noncomputable abbrev mF:Stmt:=inClass (top 22) 10
noncomputable abbrev oS:Stmt:=inClass (top 22) 11
noncomputable abbrev By:Stmt:=top 23
noncomputable abbrev cY:Stmt:=top 24
noncomputable abbrev r8:Stmt:=top 25
noncomputable abbrev nE:Stmt:=top 28
noncomputable abbrev sY:Stmt:=top 29
noncomputable abbrev gu:Stmt:=inClass (top 31) 0
noncomputable abbrev i0:Stmt:=inClass (top 31) 1
noncomputable abbrev ck:Stmt:=inClass (top 31) 2
noncomputable abbrev iC:Stmt:=inClass (top 31) 3
noncomputable abbrev cU:Stmt:=inClass (top 31) 4
noncomputable abbrev j4:Stmt:=inClass (top 31) 5
noncomputable abbrev kO:Stmt:=top 33
noncomputable abbrev eX:Stmt:=top 34
noncomputable abbrev eE:Stmt:=inClass (top 35) 0
noncomputable abbrev g7:Stmt:=inClass (top 35) 1
noncomputable abbrev bX:Stmt:=inClass (top 35) 3
noncomputable abbrev mG:Stmt:=inClass (top 35) 4
noncomputable abbrev gv:Stmt:=inClass (top 35) 5
noncomputable abbrev cA:Stmt:=inClass (top 35) 7
noncomputable abbrev fD:Stmt:=inClass (top 35) 8
noncomputable abbrev dU:Stmt:=inClass (top 35) 9
noncomputable abbrev iD:Stmt:=inClass (top 35) 11
noncomputable abbrev jq:Stmt:=top 39
noncomputable abbrev gw:Stmt:=top 40
noncomputable abbrev fE:Stmt:=top 41
noncomputable abbrev lH:Stmt:=inClass (top 42) 0
noncomputable abbrev qd:Stmt:=inClass (top 42) 1
noncomputable abbrev ll:Stmt:=inClass (top 42) 2
noncomputable abbrev jr:Stmt:=inClass (top 42) 4
noncomputable abbrev oT:Stmt:=inClass (top 42) 5
noncomputable abbrev oU:Stmt:=inClass (top 42) 6
noncomputable abbrev bw:Stmt:=inClass (top 42) 7
noncomputable abbrev FR:Stmt:=top 44
noncomputable abbrev sd:Stmt:=top 46
noncomputable abbrev FT:Stmt:=top 47
noncomputable abbrev Bz:Stmt:=top 48
noncomputable abbrev wM:Stmt:=top 49
noncomputable abbrev j5:Stmt:=top 50
noncomputable abbrev MR:Stmt:=top 51
noncomputable abbrev DF:Stmt:=top 52
noncomputable abbrev vP:List Str:=["self","letter"]
theorem uM:aq vP ["self","letter"] (af lg):=gY (by decide +kernel)
noncomputable abbrev yk:List Str:=["self","place"]
theorem vQ:aq yk ["self","place"] (af mC):=gY (by decide +kernel)
noncomputable abbrev Qz:List Str:=["one","other"]
theorem MS:aq Qz ["one","other"] (af Bw):=gY (by decide +kernel)
noncomputable abbrev QA:List Str:=["one","other"]
theorem MT:aq QA ["one","other"] (af Bx):=gY (by decide +kernel)
noncomputable abbrev yl:List Str:=["deed"]
theorem vR:aq yl ["deed"] (af mD):=gY (by decide +kernel)
noncomputable abbrev BA:List Str:=["self","number"]
theorem zy:aq BA ["self","number"] (af oK):=gY (by decide +kernel)
noncomputable abbrev BB:List Str:=["self","spot","by","turns"]
theorem nF:aq BB ["self","spot","by"] (af oM):=gY (by decide +kernel)
noncomputable abbrev FU:List Str:=["self","way"]
theorem DG:aq FU ["self","way"] (af r6):=gY (by decide +kernel)
noncomputable abbrev DH:List Str:=["self","deed","spot","way"]
theorem sZ:aq DH ["self","deed","spot","way"] (af qc):=gY (by decide +kernel)
noncomputable abbrev ym:List Str:=["self"]
theorem vS:aq ym ["self"] (af mE):=gY (by decide +kernel)
noncomputable abbrev pO:List Str:=["self","spot"]
theorem oV:aq pO ["self","spot"] (af fZ):=gY (by decide +kernel)
noncomputable abbrev vT:List Str:=["self","way","spot","x","y"]
theorem j6:aq vT ["self","way","spot"] (af lh):=gY (by decide +kernel)
noncomputable abbrev BC:List Str:=["self"]
theorem zA:aq BC ["self"] (af oN):=gY (by decide +kernel)
noncomputable abbrev q9:List Str:=["self","spot"]
theorem qe:aq q9 ["self","spot"] (af gZ):=gY (by decide +kernel)
noncomputable abbrev zB:List Str:=["self","way","spot","x","y"]
theorem mH:aq zB ["self","way","spot"] (af nC):=gY (by decide +kernel)
noncomputable abbrev MU:List Str:=["ways"]
theorem JF:aq MU ["ways"] (af yj):=gY (by decide +kernel)
noncomputable abbrev BD:List Str:=["self","pen","deed_count","last_way","last_spot","stroke_count","reaches","touches","crosses"]
theorem zC:aq BD ["self","pen","deed_count","last_way","last_spot","stroke_count","reaches","touches","crosses"] (af oO):=gY (by decide +kernel)
noncomputable abbrev BE:List Str:=["self"]
theorem zD:aq BE ["self"] (af oP):=gY (by decide +kernel)
noncomputable abbrev BF:List Str:=["self"]
theorem zE:aq BF ["self"] (af oQ):=gY (by decide +kernel)
noncomputable abbrev vU:List Str:=["self"]
theorem uN:aq vU ["self"] (af lj):=gY (by decide +kernel)
noncomputable abbrev zF:List Str:=["self","first"]
theorem yn:aq zF ["self","first"] (af cJ):=gY (by decide +kernel)
noncomputable abbrev pE:List Str:=["self","numbers","first"]
theorem uO:aq pE ["self","numbers","first"] (af fR):=gY (by decide +kernel)
noncomputable abbrev zG:List Str:=["self","first"]
theorem yo:aq zG ["self","first"] (af cK):=gY (by decide +kernel)
noncomputable abbrev zH:List Str:=["self","first"]
theorem yp:aq zH ["self","first"] (af cL):=gY (by decide +kernel)
noncomputable abbrev BG:List Str:=["self"]
theorem zI:aq BG ["self"] (af oR):=gY (by decide +kernel)
noncomputable abbrev yq:List Str:=["self","other","pen","shift","reaches","touches","way"]
theorem pF:aq yq ["self","other"] (af mF):=gY (by decide +kernel)
noncomputable abbrev BH:List Str:=["self"]
theorem zJ:aq BH ["self"] (af oS):=gY (by decide +kernel)
noncomputable abbrev QB:List Str:=["pen"]
theorem MV:aq QB ["pen"] (af By):=gY (by decide +kernel)
noncomputable abbrev lp:List Str:=["pen","deed","behind","spot","reaches","touches"]
theorem nZ:aq lp ["pen","deed"] (af cY):=gY (by decide +kernel)
noncomputable abbrev FV:List Str:=["pen","deeds","track","deed"]
theorem vv:aq FV ["pen","deeds"] (af r8):=gY (by decide +kernel)
noncomputable abbrev zK:List Str:=["age","first","last"]
theorem qf:aq zK ["age","first","last"] (af nE):=gY (by decide +kernel)
noncomputable abbrev HN:List Str:=["rules","word"]
theorem DI:aq HN ["rules","word"] (af sY):=gY (by decide +kernel)
noncomputable abbrev qg:List Str:=["self","growth","rules"]
theorem pG:aq qg ["self","growth"] (af gu):=gY (by decide +kernel)
noncomputable abbrev se:List Str:=["self","tracks","whole","track"]
theorem lu:aq se ["self","tracks"] (af i0):=gY (by decide +kernel)
noncomputable abbrev lx:List Str:=["self","age","rules","last","grown","letter"]
theorem kP:aq lx ["self","age"] (af ck):=gY (by decide +kernel)
noncomputable abbrev vV:List Str:=["self","age","letter"]
theorem n6:aq vV ["self","age","letter"] (af iC):=gY (by decide +kernel)
noncomputable abbrev m5:List Str:=["self","age","begin","end"]
theorem mI:aq m5 ["self","age","begin","end"] (af cU):=gY (by decide +kernel)
noncomputable abbrev uP:List Str:=["self","age","place","track"]
theorem gc:aq uP ["self","age","place"] (af j4):=gY (by decide +kernel)
noncomputable abbrev DJ:List Str:=["tallies","letters"]
theorem Av:aq DJ ["tallies","letters"] (af kO):=gY (by decide +kernel)
noncomputable abbrev n8:List Str:=["word","rounds"]
theorem tf:aq n8 ["word","rounds"] (af eX):=gY (by decide +kernel)
noncomputable abbrev nG:List Str:=["self","rules","start"]
theorem qh:aq nG ["self","rules","start"] (af eE):=gY (by decide +kernel)
noncomputable abbrev rg:List Str:=["self"]
theorem qi:aq rg ["self"] (af g7):=gY (by decide +kernel)
noncomputable abbrev i3:List Str:=["self","age","letters","last","grown","letter"]
theorem ly:aq i3 ["self","age"] (af bX):=gY (by decide +kernel)
noncomputable abbrev yr:List Str:=["self","age"]
theorem pH:aq yr ["self","age"] (af mG):=gY (by decide +kernel)
noncomputable abbrev qj:List Str:=["self","age","place"]
theorem jT:aq qj ["self","age","place"] (af gv):=gY (by decide +kernel)
noncomputable abbrev pP:List Str:=["self","letter"]
theorem jt:aq pP ["self","letter"] (af cA):=gY (by decide +kernel)
noncomputable abbrev oW:List Str:=["self","age","begin","end"]
theorem jc:aq oW ["self","age","begin","end"] (af fD):=gY (by decide +kernel)
noncomputable abbrev pI:List Str:=["self","age"]
theorem uQ:aq pI ["self","age"] (af dU):=gY (by decide +kernel)
noncomputable abbrev vW:List Str:=["self","age","begin","end","between","waiting","place","piece","rounds","behind"]
theorem n9:aq vW ["self","age","begin","end"] (af iD):=gY (by decide +kernel)
noncomputable abbrev tm:List Str:=["text"]
theorem sh:aq tm ["text"] (af jq):=gY (by decide +kernel)
noncomputable abbrev qk:List Str:=["word","letters"]
theorem vX:aq qk ["word","letters"] (af gw):=gY (by decide +kernel)
noncomputable abbrev oX:List Str:=["rows","firsts","letters","number","row","letter_fits"]
theorem rF:aq oX ["rows"] (af fE):=gY (by decide +kernel)
noncomputable abbrev BI:List Str:=["self","ways","rows","drawer","row"]
theorem rG:aq BI ["self","ways","rows"] (af lH):=gY (by decide +kernel)
noncomputable abbrev DK:List Str:=["self"]
theorem BJ:aq DK ["self"] (af qd):=gY (by decide +kernel)
noncomputable abbrev vY:List Str:=["self"]
theorem uR:aq vY ["self"] (af ll):=gY (by decide +kernel)
noncomputable abbrev yt:List Str:=["self","letter"]
theorem vZ:aq yt ["self","letter"] (af jr):=gY (by decide +kernel)
noncomputable abbrev BK:List Str:=["self","letter"]
theorem zL:aq BK ["self","letter"] (af oT):=gY (by decide +kernel)
noncomputable abbrev BL:List Str:=["self","letter"]
theorem zM:aq BL ["self","letter"] (af oU):=gY (by decide +kernel)
noncomputable abbrev v3:List Str:=["self","text","most","at","sign"]
theorem og:aq v3 ["self","text","most"] (af bw):=gY (by decide +kernel)
noncomputable abbrev VJ:List Str:=["_law_script","_law_k","_law_cell_here","_law_low"]
theorem wN:aq VJ ["_law_script","_law_k"] (af FR):=gY (by decide +kernel)
noncomputable abbrev FW:List Str:=["_law_cell_here","_law_many","_law_free","_law_found","_law_k","_law_at"]
theorem vw:aq FW ["_law_cell_here","_law_many"] (af sd):=gY (by decide +kernel)
noncomputable abbrev VL:List Str:=["_law_number","_law_alphabet_here","_law_most","_law_found","_law_size","_law_k"]
theorem HP:aq VL ["_law_number","_law_alphabet_here","_law_most"] (af FT):=gY (by decide +kernel)
noncomputable abbrev QC:List Str:=["_law_script","_law_far","_law_first","_law_way","_law_age","_law_many","_law_most","_law_alphabet_here","_law_rows","_law_k","_law_cell_here","_law_deed","_law_start"]
theorem DL:aq QC ["_law_script","_law_far"] (af Bz):=gY (by decide +kernel)
noncomputable abbrev BM:List Str:=["_law_error","_law_found"]
theorem DM:aq BM ["_law_error"] (af wM):=gY (by decide +kernel)
noncomputable abbrev qJ:List Str:=["_law_drawing","_law_kind","_law_age","_law_letter","_law_one","_law_other","_law_error","e"]
theorem yu:aq qJ ["_law_drawing","_law_kind","_law_age","_law_letter","_law_one","_law_other"] (af j5):=gY (by decide +kernel)
noncomputable abbrev Zd:List Str:=["_law_size","_law_alphabet_here","_law_kind","_law_age","_law_letter","_law_one","_law_other"]
theorem VM:aq Zd ["_law_size","_law_alphabet_here","_law_kind","_law_age","_law_letter","_law_one","_law_other"] (af MR):=gY (by decide +kernel)
noncomputable abbrev Sx:List Str:=["_law_script","_law_ways","_law_rows","_law_start","_law_age","_law_growth","_law_drawing","_law_size","_law_before","_law_far","_law_when","_law_letter","_law_places","_law_one","_law_other","_law_kind","_law_due_here","_law_k"]
theorem MW:aq Sx ["_law_script"] (af DF):=gY (by decide +kernel)
structure dy where
 (cq cQ wO wQ ju ee eh gx fA eY bR dW gG cm fT tq gH gI gJ dX cM dY cN cO gK eZ gL wR iE oY ki wU ff cF bL cZ cg dB ql gM fU cn bY fg b5 aT bF da dc gd jv lI fF jd dZ dF gO gQ bx BN oZ BO wV tu oh HQ tw:Addr)
 (iF jw wW wX jx lJ lK o3 m6 jy dN iG lL eI kj tE lM lN lO iH kl iI km ko lP jz lQ wY iJ o4 kr wZ jA fG eJ iK gf gR tF gS ky eK fH jB er dO dq iL iM gh jC lR lS m7 iN jD lU lV iO BP o5 BQ w4 w6 qK HR yv:FuncData)
 (kz kA kB iP:Tok)
 (aX cw aV au aA aw aE aC fV ar ay lW dA:Addr)
 (DN yw BR:Tok)
 K:W.Frag
structure Txt (K:W.Frag)(mg:Str->Option Value)(t:dy):Prop where
 hK:t.K=K
 g:∀ {x:Str} {v:Value},W.nsIn K mainGlobals x=some (some v)->mg x=some v
 gn:∀ {x:Str},W.nsIn K mainGlobals x=some none->mg x=none
 j7:JE K "Quarter" t.aX
 o6:JE K "Sixth" t.cw
 eO:JE K "Rules" t.aV
 aO:JE K "Growth" t.au
 aF:JE K "Track" t.aA
 aP:JE K "Drawing" t.aw
 m8:mg "GrowError"=some (.ref t.aE)
 qL:mg "NoRound"=some (.ref t.aC)
 uS:mg "TooLong"=some (.ref t.fV)
 o7:mg "NoLetter"=some (.ref t.ar)
 qM:mg "NoPlace"=some (.ref t.ay)
 tG:Uz K t.aE
 QD:Ld K t.aE
 FX:Uz K t.aC
 mJ:Ld K t.aC
 je:Ld K t.ar
 j8:Ld K t.ay
 vx:W6 K t.ar t.cq
 vy:R8 K t.ar "letter"
 yx:W6 K t.ay t.cQ
 yy:R8 K t.ay "place"
 tH:XcB K t.aE
 si:Uq K t.aX
 yz:Uq K t.cw
 yA:L2.Mk K t.aV t.fF
 uT:L2.Mk K t.au t.fU
 yB:L2.Mk K t.aA t.gH
 sj:L2.Mk K t.aw t.ff
 iQ:bW K t.aV "drawer"
 bb:bW K t.aV "row_by_letter"
 de:bW K t.au "rules"
 gy:bW K t.au "seed"
 cV:bW K t.au "tallies"
 bN:bW K t.au "lengths"
 d0:bW K t.aA "drawer"
 bM:bW K t.aA "deed_count"
 bO:bW K t.aA "last_way"
 bu:bW K t.aA "last_spot"
 cB:bW K t.aA "stroke_count"
 cG:bW K t.aA "reaches"
 fh:bW K t.aA "touches"
 fi:bW K t.aA "crosses"
 aW:bW K t.aw "growth"
 bP:bW K t.aw "tracks"
 BS:mg "DEEDS"=some (.ref t.lW)
 BU:∀ H,Rep K H (.ref t.lW) (.tup [.str "stroke",.str "step",.str "left",.str "right",.str "rest"])
 rH:mg "GOING_DEEDS"=some (.ref t.dA)
 rJ:∀ H,Rep K H (.ref t.dA) (.tup [.str "stroke",.str "step"])
 DO:mg "MOST_ROWS"=some (.int 6 t.DN)
 yC:mg "MOST_IN_WORD"=some (.int 8 t.yw)
 jE:mg "LAST_ROUND"=some (.int 200 t.BR)
 iR:JD K "__init__" "NoLetter.__init__" lg ["self","letter"] t.cq t.iF
 jF:JD K "__init__" "NoPlace.__init__" mC ["self","place"] t.cQ t.jw
 qN:mT K "added" Bw ["one","other"] t.wO t.wW
 qO:mT K "cross" Bx ["one","other"] t.wQ t.wX
 fj:mT K "turn_of_deed" mD ["deed"] t.ju t.jx
 f6:Meth K t.aX "way_of" t.ee
 g8:Meth K t.cw "way_of" t.ee
 lX:gq K "way_of" "Pen.way_of" oK ["self","number"] t.ee t.lJ
 f7:Meth K t.aX "turned" t.eh
 g9:Meth K t.cw "turned" t.eh
 lY:gq K "turned" "Pen.turned" oM ["self","spot","by"] t.eh t.lK
 hU:Meth K t.aX "step" t.gx
 jG:Meth K t.cw "step" t.gx
 o8:gq K "step" "Pen.step" r6 ["self","way"] t.gx t.o3
 gz:Meth K t.aX "after" t.fA
 i4:Meth K t.cw "after" t.fA
 m9:gq K "after" "Pen.after" qc ["self","deed","spot","way"] t.fA t.m6
 fk:Meth K t.aX "ways" t.eY
 jH:gq K "ways" "Quarter.ways" mE ["self"] t.eY t.jy
 cH:Meth K t.aX "turned_left" t.bR
 dP:gq K "turned_left" "Quarter.turned_left" fZ ["self","spot"] t.bR t.dN
 eF:Meth K t.aX "along" t.dW
 iS:gq K "along" "Quarter.along" lh ["self","way","spot"] t.dW t.iG
 hV:Meth K t.cw "ways" t.gG
 lZ:gq K "ways" "Sixth.ways" oN ["self"] t.gG t.lL
 dH:Meth K t.cw "turned_left" t.cm
 eP:gq K "turned_left" "Sixth.turned_left" gZ ["self","spot"] t.cm t.eI
 gA:Meth K t.cw "along" t.fT
 kC:gq K "along" "Sixth.along" nC ["self","way","spot"] t.fT t.kj
 oi:mT K "pen_of" yj ["ways"] t.tq t.tE
 l1:JD K "__init__" "Track.__init__" oO ["self","pen","deed_count","last_way","last_spot","stroke_count","reaches","touches","crosses"] t.gH t.lM
 hX:Meth K t.aA "many" t.gI
 l2:gq K "many" "Track.many" oP ["self"] t.gI t.lN
 hZ:Meth K t.aA "turn" t.gJ
 l3:gq K "turn" "Track.turn" oQ ["self"] t.gJ t.lO
 fJ:Meth K t.aA "strokes" t.dX
 iT:gq K "strokes" "Track.strokes" lj ["self"] t.dX t.iH
 eA:Meth K t.aA "shift" t.cM
 yD:Binds K t.kl ["self","first"] [.int 0 t.kz]
 zN:xV K "shift" "Track.shift" cJ t.cM t.kl
 OT:W.keepIn K (.ref t.cM)=true
 zO:Binds K t.kl ["self","first"] []
 fK:Meth K t.aA "by_ways" t.dY
 iU:gq K "by_ways" "Track.by_ways" fR ["self","numbers","first"] t.dY t.iI
 eB:Meth K t.aA "reach" t.cN
 yE:Binds K t.km ["self","first"] [.int 0 t.kA]
 zP:xV K "reach" "Track.reach" cK t.cN t.km
 OU:W.keepIn K (.ref t.cN)=true
 zQ:Binds K t.km ["self","first"] []
 eC:Meth K t.aA "touch" t.cO
 yF:Binds K t.ko ["self","first"] [.int 0 t.kB]
 zR:xV K "touch" "Track.touch" cL t.cO t.ko
 OV:W.keepIn K (.ref t.cO)=true
 zS:Binds K t.ko ["self","first"] []
 ia:Meth K t.aA "area" t.gK
 l4:gq K "area" "Track.area" oR ["self"] t.gK t.lP
 f9:Meth K t.aA "joined" t.eZ
 jI:gq K "joined" "Track.joined" mF ["self","other"] t.eZ t.jz
 ib:Meth K t.aA "told" t.gL
 l5:gq K "told" "Track.told" oS ["self"] t.gL t.lQ
 qP:mT K "still" By ["pen"] t.wR t.wY
 d5:mT K "track_of_deed" cY ["pen","deed"] t.iE t.iJ
 j9:mT K "track_of" r8 ["pen","deeds"] t.oY t.o4
 cb:mT K "check_round" nE ["age","first","last"] t.ki t.kr
 qQ:mT K "tally" sY ["rules","word"] t.wU t.wZ
 jJ:JD K "__init__" "Drawing.__init__" gu ["self","growth"] t.ff t.jA
 dt:Meth K t.aw "join_all" t.cF
 fL:gq K "join_all" "Drawing.join_all" i0 ["self","tracks"] t.cF t.fG
 df:Meth K t.aw "deepen_to" t.bL
 eQ:gq K "deepen_to" "Drawing.deepen_to" ck ["self","age"] t.bL t.eJ
 cP:Meth K t.aw "whole" t.cZ
 d6:gq K "whole" "Drawing.whole" iC ["self","age","letter"] t.cZ t.iK
 cj:Meth K t.aw "stretch" t.cg
 cW:gq K "stretch" "Drawing.stretch" cU ["self","age","begin","end"] t.cg t.gf
 cy:Meth K t.aw "pen_at" t.dB
 dC:gq K "pen_at" "Drawing.pen_at" j4 ["self","age","place"] t.dB t.gR
 oj:mT K "summed" kO ["tallies","letters"] t.ql t.tF
 dD:mT K "waiting_pieces" eX ["word","rounds"] t.gM t.gS
 kE:JD K "__init__" "Growth.__init__" eE ["self","rules","start"] t.fU t.ky
 du:Meth K t.au "rules_told" t.cn
 eU:gq K "rules_told" "Growth.rules_told" g7 ["self"] t.cn t.eK
 dJ:Meth K t.au "deepen_to" t.bY
 fM:gq K "deepen_to" "Growth.deepen_to" bX ["self","age"] t.bY t.fH
 dv:Meth K t.au "enter" t.fg
 fm:gq K "enter" "Growth.enter" mG ["self","age"] t.fg t.jB
 bV:Meth K t.au "check_place" t.b5
 b6:gq K "check_place" "Growth.check_place" gv ["self","age","place"] t.b5 t.er
 bQ:Meth K t.au "check_letter" t.aT
 bS:gq K "check_letter" "Growth.check_letter" cA ["self","letter"] t.aT t.dO
 bG:Meth K t.au "check_stretch" t.bF
 bH:gq K "check_stretch" "Growth.check_stretch" fD ["self","age","begin","end"] t.bF t.dq
 fo:Meth K t.au "length" t.da
 iV:gq K "length" "Growth.length" dU ["self","age"] t.da t.iL
 fq:Meth K t.au "pieces" t.dc
 iW:gq K "pieces" "Growth.pieces" iD ["self","age","begin","end"] t.dc t.iM
 cX:mT K "is_small_letter" jq ["text"] t.gd t.gh
 fu:mT K "is_word_over" gw ["word","letters"] t.jv t.jC
 gT:mT K "check_rows" fE ["rows"] t.lI t.lR
 l6:JD K "__init__" "Rules.__init__" lH ["self","ways","rows"] t.fF t.lS
 i8:Meth K t.aV "pen" t.jd
 nh:gq K "pen" "Rules.pen" qd ["self"] t.jd t.m7
 fN:Meth K t.aV "letters" t.dZ
 iX:gq K "letters" "Rules.letters" ll ["self"] t.dZ t.iN
 gb:Meth K t.aV "row_of" t.dF
 jK:gq K "row_of" "Rules.row_of" jr ["self","letter"] t.dF t.jD
 ig:Meth K t.aV "deed" t.gO
 l7:gq K "deed" "Rules.deed" oT ["self","letter"] t.gO t.lU
 ij:Meth K t.aV "word" t.gQ
 l8:gq K "word" "Rules.word" oU ["self","letter"] t.gQ t.lV
 fO:Meth K t.aV "word_of" t.bx
 uU:Binds K t.iO ["self","text","most"] [.int 8 t.iP]
 v5:xV K "word_of" "Rules.word_of" bw t.bx t.iO
 Kx:W.keepIn K (.ref t.bx)=true
 Ky:Binds K t.iO ["self","text","most"] []
 uV:mT K "_law_cell" FR ["_law_script","_law_k"] t.BN t.BP
 ka:mT K "_law_alphabet" sd ["_law_cell_here","_law_many"] t.oZ t.o5
 uW:mT K "_law_text" FT ["_law_number","_law_alphabet_here","_law_most"] t.BO t.BQ
 qR:mT K "_law_shape" Bz ["_law_script","_law_far"] t.wV t.w4
 qS:mT K "_law_kinds" wM ["_law_error"] t.tu t.w6
 md:mT K "_law_refused" j5 ["_law_drawing","_law_kind","_law_age","_law_letter","_law_one","_law_other"] t.oh t.qK
 Aw:mT K "_law_due" MR ["_law_size","_law_alphabet_here","_law_kind","_law_age","_law_letter","_law_one","_law_other"] t.HQ t.HR
 DP:mT K "law" DF ["_law_script"] t.tw t.yv
 qm:mg "dict"=none
 ni:mg "enumerate"=none
 aQ:mg "isinstance"=none
 mK:mg "len"=none
 BV:mg "list"=none
 MX:mg "max"=none
 HS:mg "min"=none
 kF:mg "range"=none
 sk:mg "reversed"=none
 DQ:mg "sum"=none
 BW:mg "tuple"=none
 MY:mg "all"=none
 jL:mg "ValueError"=none
 FY:W.mroIn K t.ar (.ref t.aE)=some true
 uX:W.mroIn K t.ay (.ref t.aE)=some true
 JG:W.mroIn K t.aC (.ref t.aE)=some true
 be:W.mroIn K t.aE (.type "BaseException")=some true
 tJ:W.kitOne K (.ref t.ar) (.ref t.ar)=some true
 uY:W.kitOne K (.ref t.ar) (.ref t.ay)=some false
 uZ:W.kitOne K (.ref t.ar) (.ref t.aC)=some false
 u0:W.kitOne K (.ref t.ar) (.ref t.fV)=some false
 JH:W.kitOne K (.ref t.ar) (.type "ValueError")=some true
 u5:W.kitOne K (.ref t.ay) (.ref t.ar)=some false
 v7:W.kitOne K (.ref t.ay) (.ref t.ay)=some true
 v8:W.kitOne K (.ref t.ay) (.ref t.aC)=some false
 v9:W.kitOne K (.ref t.ay) (.ref t.fV)=some false
 MZ:W.kitOne K (.ref t.ay) (.type "ValueError")=some true
 u6:W.kitOne K (.ref t.aC) (.ref t.ar)=some false
 wa:W.kitOne K (.ref t.aC) (.ref t.ay)=some false
 wb:W.kitOne K (.ref t.aC) (.ref t.aC)=some true
 wc:W.kitOne K (.ref t.aC) (.ref t.fV)=some false
 M0:W.kitOne K (.ref t.aC) (.type "ValueError")=some true
theorem VN {K:W.Frag}{h:Heap}{mg:Str->Option Value}(X:K.In h)(G:h.Ns mainGlobals mg){cq cQ wO wQ ju ee eh gx fA eY bR dW gG cm fT tq gH gI gJ dX cM dY cN cO gK eZ gL wR iE oY ki wU ff cF bL cZ cg dB ql gM fU cn bY fg b5 aT bF da dc gd jv lI fF jd dZ dF gO gQ bx BN oZ BO wV tu oh HQ tw aX cw aV au aA aw aE aC fV ar ay lW dA:Addr}{iF jw wW wX jx lJ lK o3 m6 jy dN iG lL eI kj tE lM lN lO iH iI lP jz lQ wY iJ o4 kr wZ jA fG eJ iK gf gR tF gS ky eK fH jB er dO dq iL iM gh jC lR lS m7 iN jD lU lV BP o5 BQ w4 w6 qK HR yv:FuncData}{kz kA kB iP y0 y1 y2:Tok}{y3:Option Addr}{y4:Nat}{y5:Array (Option Value)}{M3 M4 M5 M6 M7:Tok}{y6:Option Addr}{y7:Nat}{y8:Array (Option Value)}{yG yH:Tok}{y9 y10:Option Addr}{y11:Array (Option Value)}{y12 y13 y14 y15 y16 y17:Value}{nH:Addr}{y18:Option Addr}{y19:Value}{y20:Nat}{y21:Array (Option Value)}{y22 y23:Option Addr}{y24:Array (Option Value)}{y25 y26 y27 y28 y29 y30:Value}{nI:Addr}{y31:Option Addr}{y32:Value}{y33:Nat}{y34:Array (Option Value)}{y35 y36:Option Addr}{y37:Array (Option Value)}{y38 y39 y40 y41 y42 y43:Value}{nJ:Addr}{y44:Option Addr}{y45:Value}{y46:Nat}{y47:Array (Option Value)}{y48 y49:Option Addr}{y50:Array (Option Value)}{y51 y52 y53 y54 y55 y56:Value}{lq:Addr}{y57:Option Addr}{y58:Value}{y59:Nat}{y60:Array (Option Value)}
   (j7:JE K "Quarter" aX)
   (o6:JE K "Sixth" cw)
   (eO:JE K "Rules" aV)
   (aO:JE K "Growth" au)
   (aF:JE K "Track" aA)
   (aP:JE K "Drawing" aw)
   (FZ:W.nsIn K mainGlobals "GrowError"=some (some (.ref aE)))
   (M8:W.nsIn K mainGlobals "NoRound"=some (some (.ref aC)))
   (M9:W.nsIn K mainGlobals "TooLong"=some (some (.ref fV)))
   (JI:W.nsIn K mainGlobals "NoLetter"=some (some (.ref ar)))
   (Na:W.nsIn K mainGlobals "NoPlace"=some (some (.ref ay)))
   (DR:W.excIn K aE Sg.Uy "ValueError.__new__"=true)
   (DS:(W.clsIn K aE).isSome=true)
   (DT:W.findIn K (.ref aE) "__getattribute__"=some (some (.builtin "BaseException.__getattribute__")))
   (DU:W.findIn K (.ref aE) "__getattr__"=some none)
   (DV:W.mroIn K aE (.type "BaseException")=some true)
   (DW:W.findIn K (.ref aE) "__class__"=some (some (.builtin "object.__class__")))
   (DX:W.mroIn K aE (.type "object")=some true)
   (DY:W.specialIn K (.builtin "object.__class__") "__get__"=some (some (.builtin "getset_descriptor.__get__")))
   (DZ:W.takesIn K (.builtin "object.__class__")=some true)
   (JJ:W.excIn K aC Sg.Uy "ValueError.__new__"=true)
   (JK:(W.clsIn K aC).isSome=true)
   (JL:W.findIn K (.ref aC) "__getattribute__"=some (some (.builtin "BaseException.__getattribute__")))
   (JM:W.findIn K (.ref aC) "__getattr__"=some none)
   (JN:W.mroIn K aC (.type "BaseException")=some true)
   (JO:W.findIn K (.ref aC) "__class__"=some (some (.builtin "object.__class__")))
   (JP:W.mroIn K aC (.type "object")=some true)
   (JQ:W.specialIn K (.builtin "object.__class__") "__get__"=some (some (.builtin "getset_descriptor.__get__")))
   (JR:W.takesIn K (.builtin "object.__class__")=some true)
   (F0:(W.clsIn K ar).isSome=true)
   (F1:W.findIn K (.ref ar) "__getattribute__"=some (some (.builtin "BaseException.__getattribute__")))
   (F2:W.findIn K (.ref ar) "__getattr__"=some none)
   (F3:W.mroIn K ar (.type "BaseException")=some true)
   (F4:W.findIn K (.ref ar) "__class__"=some (some (.builtin "object.__class__")))
   (F5:W.mroIn K ar (.type "object")=some true)
   (F6:W.specialIn K (.builtin "object.__class__") "__get__"=some (some (.builtin "getset_descriptor.__get__")))
   (F7:W.takesIn K (.builtin "object.__class__")=some true)
   (JS:(W.clsIn K ay).isSome=true)
   (JT:W.findIn K (.ref ay) "__getattribute__"=some (some (.builtin "BaseException.__getattribute__")))
   (JU:W.findIn K (.ref ay) "__getattr__"=some none)
   (JV:W.mroIn K ay (.type "BaseException")=some true)
   (JW:W.findIn K (.ref ay) "__class__"=some (some (.builtin "object.__class__")))
   (JX:W.mroIn K ay (.type "object")=some true)
   (JY:W.specialIn K (.builtin "object.__class__") "__get__"=some (some (.builtin "getset_descriptor.__get__")))
   (JZ:W.takesIn K (.builtin "object.__class__")=some true)
   (VO:W.findIn K (.ref ar) "__init__"=some (some (.ref cq)))
   (F8:Sg.x9 K ar Sg.Uy "ValueError.__new__" cq=true)
   (F9:W.typeIn K (.ref cq)=some (.type "function"))
   (Ga:W.keepIn K (.ref ar)=true)
   (D1:W.findIn K (.ref ar) "__setattr__"=some (some (.builtin "object.__setattr__")))
   (D2:W.findIn K (.ref ar) "letter"=some none)
   (D3:W.mroIn K ar (.type "object")=some true)
   (D4:(W.clsIn K ar).map (·.mro)=some [.ref ar,.ref aE,.type "ValueError",.type "Exception",.type "BaseException",.type "object"])
   (D5:(W.clsIn K ar).map (·.hasDict)=some true)
   (Xb:W.findIn K (.ref ay) "__init__"=some (some (.ref cQ)))
   (J0:Sg.x9 K ay Sg.Uy "ValueError.__new__" cQ=true)
   (J1:W.typeIn K (.ref cQ)=some (.type "function"))
   (J2:W.keepIn K (.ref ay)=true)
   (Gb:W.findIn K (.ref ay) "__setattr__"=some (some (.builtin "object.__setattr__")))
   (Gd:W.findIn K (.ref ay) "place"=some none)
   (Ge:W.mroIn K ay (.type "object")=some true)
   (Gf:(W.clsIn K ay).map (·.mro)=some [.ref ay,.ref aE,.type "ValueError",.type "Exception",.type "BaseException",.type "object"])
   (Gg:(W.clsIn K ay).map (·.hasDict)=some true)
   (BX:W.specialIn K (.ref aE) "__getattribute__"=some (some (.builtin "type.__getattribute__")))
   (BY:W.readsIn K aE (.type "type")=true)
   (BZ:W.findCls K (.ref aE) (.type "type") "__init__"=some (.val (.builtin "ValueError.__init__")))
   (si:Uq K aX)
   (yz:Uq K cw)
   (yA:L2.Mk K aV fF)
   (uT:L2.Mk K au fU)
   (yB:L2.Mk K aA gH)
   (sj:L2.Mk K aw ff)
   (iQ:W.findIn K (.ref aV) "drawer"=some none)
   (bb:W.findIn K (.ref aV) "row_by_letter"=some none)
   (de:W.findIn K (.ref au) "rules"=some none)
   (gy:W.findIn K (.ref au) "seed"=some none)
   (cV:W.findIn K (.ref au) "tallies"=some none)
   (bN:W.findIn K (.ref au) "lengths"=some none)
   (d0:W.findIn K (.ref aA) "drawer"=some none)
   (bM:W.findIn K (.ref aA) "deed_count"=some none)
   (bO:W.findIn K (.ref aA) "last_way"=some none)
   (bu:W.findIn K (.ref aA) "last_spot"=some none)
   (cB:W.findIn K (.ref aA) "stroke_count"=some none)
   (cG:W.findIn K (.ref aA) "reaches"=some none)
   (fh:W.findIn K (.ref aA) "touches"=some none)
   (fi:W.findIn K (.ref aA) "crosses"=some none)
   (aW:W.findIn K (.ref aw) "growth"=some none)
   (bP:W.findIn K (.ref aw) "tracks"=some none)
   (Nb:W.nsIn K mainGlobals "DEEDS"=some (some (.ref lW)))
   (Nc:K.lookup lW=some ⟨.type "tuple",y3,.seq #[.str "stroke" M3,.str "step" M4,.str "left" M5,.str "right" M6,.str "rest" M7] y4,y5⟩)
   (yI:W.nsIn K mainGlobals "GOING_DEEDS"=some (some (.ref dA)))
   (yJ:K.lookup dA=some ⟨.type "tuple",y6,.seq #[.str "stroke" yG,.str "step" yH] y7,y8⟩)
   (B0:W.nsIn K mainGlobals "MOST_ROWS"=some (some (.int 6 y0)))
   (we:W.nsIn K mainGlobals "MOST_IN_WORD"=some (some (.int 8 y1)))
   (zT:W.nsIn K mainGlobals "LAST_ROUND"=some (some (.int 200 y2)))
   (iR:JD K "__init__" "NoLetter.__init__" lg ["self","letter"] cq iF)
   (jF:JD K "__init__" "NoPlace.__init__" mC ["self","place"] cQ jw)
   (qN:mT K "added" Bw ["one","other"] wO wW)
   (qO:mT K "cross" Bx ["one","other"] wQ wX)
   (fj:mT K "turn_of_deed" mD ["deed"] ju jx)
   (f6:Meth K aX "way_of" ee)
   (g8:Meth K cw "way_of" ee)
   (lX:gq K "way_of" "Pen.way_of" oK ["self","number"] ee lJ)
   (f7:Meth K aX "turned" eh)
   (g9:Meth K cw "turned" eh)
   (lY:gq K "turned" "Pen.turned" oM ["self","spot","by"] eh lK)
   (hU:Meth K aX "step" gx)
   (jG:Meth K cw "step" gx)
   (o8:gq K "step" "Pen.step" r6 ["self","way"] gx o3)
   (gz:Meth K aX "after" fA)
   (i4:Meth K cw "after" fA)
   (m9:gq K "after" "Pen.after" qc ["self","deed","spot","way"] fA m6)
   (fk:Meth K aX "ways" eY)
   (jH:gq K "ways" "Quarter.ways" mE ["self"] eY jy)
   (cH:Meth K aX "turned_left" bR)
   (dP:gq K "turned_left" "Quarter.turned_left" fZ ["self","spot"] bR dN)
   (eF:Meth K aX "along" dW)
   (iS:gq K "along" "Quarter.along" lh ["self","way","spot"] dW iG)
   (hV:Meth K cw "ways" gG)
   (lZ:gq K "ways" "Sixth.ways" oN ["self"] gG lL)
   (dH:Meth K cw "turned_left" cm)
   (eP:gq K "turned_left" "Sixth.turned_left" gZ ["self","spot"] cm eI)
   (gA:Meth K cw "along" fT)
   (kC:gq K "along" "Sixth.along" nC ["self","way","spot"] fT kj)
   (oi:mT K "pen_of" yj ["ways"] tq tE)
   (l1:JD K "__init__" "Track.__init__" oO ["self","pen","deed_count","last_way","last_spot","stroke_count","reaches","touches","crosses"] gH lM)
   (hX:Meth K aA "many" gI)
   (l2:gq K "many" "Track.many" oP ["self"] gI lN)
   (hZ:Meth K aA "turn" gJ)
   (l3:gq K "turn" "Track.turn" oQ ["self"] gJ lO)
   (fJ:Meth K aA "strokes" dX)
   (iT:gq K "strokes" "Track.strokes" lj ["self"] dX iH)
   (eA:Meth K aA "shift" cM)
   (y61:K.lookup cM=some ⟨y12,y9,.func (W.fnOf "shift" "Track.shift" (cv cJ) (aG cJ) (af cJ) (.ref nH) y13 y14 y15 y10 y16 y17),y11⟩)
   (y62:K.lookup nH=some ⟨y19,y18,.seq #[.int 0 kz] y20,y21⟩)
   (y63:W.codeIn K y16 "Track.shift"=true)
   (y64:W.keepIn K (.ref cM)=true)
   (fK:Meth K aA "by_ways" dY)
   (iU:gq K "by_ways" "Track.by_ways" fR ["self","numbers","first"] dY iI)
   (eB:Meth K aA "reach" cN)
   (y65:K.lookup cN=some ⟨y25,y22,.func (W.fnOf "reach" "Track.reach" (cv cK) (aG cK) (af cK) (.ref nI) y26 y27 y28 y23 y29 y30),y24⟩)
   (y66:K.lookup nI=some ⟨y32,y31,.seq #[.int 0 kA] y33,y34⟩)
   (y67:W.codeIn K y29 "Track.reach"=true)
   (y68:W.keepIn K (.ref cN)=true)
   (eC:Meth K aA "touch" cO)
   (y69:K.lookup cO=some ⟨y38,y35,.func (W.fnOf "touch" "Track.touch" (cv cL) (aG cL) (af cL) (.ref nJ) y39 y40 y41 y36 y42 y43),y37⟩)
   (y70:K.lookup nJ=some ⟨y45,y44,.seq #[.int 0 kB] y46,y47⟩)
   (y71:W.codeIn K y42 "Track.touch"=true)
   (y72:W.keepIn K (.ref cO)=true)
   (ia:Meth K aA "area" gK)
   (l4:gq K "area" "Track.area" oR ["self"] gK lP)
   (f9:Meth K aA "joined" eZ)
   (jI:gq K "joined" "Track.joined" mF ["self","other"] eZ jz)
   (ib:Meth K aA "told" gL)
   (l5:gq K "told" "Track.told" oS ["self"] gL lQ)
   (qP:mT K "still" By ["pen"] wR wY)
   (d5:mT K "track_of_deed" cY ["pen","deed"] iE iJ)
   (j9:mT K "track_of" r8 ["pen","deeds"] oY o4)
   (cb:mT K "check_round" nE ["age","first","last"] ki kr)
   (qQ:mT K "tally" sY ["rules","word"] wU wZ)
   (jJ:JD K "__init__" "Drawing.__init__" gu ["self","growth"] ff jA)
   (dt:Meth K aw "join_all" cF)
   (fL:gq K "join_all" "Drawing.join_all" i0 ["self","tracks"] cF fG)
   (df:Meth K aw "deepen_to" bL)
   (eQ:gq K "deepen_to" "Drawing.deepen_to" ck ["self","age"] bL eJ)
   (cP:Meth K aw "whole" cZ)
   (d6:gq K "whole" "Drawing.whole" iC ["self","age","letter"] cZ iK)
   (cj:Meth K aw "stretch" cg)
   (cW:gq K "stretch" "Drawing.stretch" cU ["self","age","begin","end"] cg gf)
   (cy:Meth K aw "pen_at" dB)
   (dC:gq K "pen_at" "Drawing.pen_at" j4 ["self","age","place"] dB gR)
   (oj:mT K "summed" kO ["tallies","letters"] ql tF)
   (dD:mT K "waiting_pieces" eX ["word","rounds"] gM gS)
   (kE:JD K "__init__" "Growth.__init__" eE ["self","rules","start"] fU ky)
   (du:Meth K au "rules_told" cn)
   (eU:gq K "rules_told" "Growth.rules_told" g7 ["self"] cn eK)
   (dJ:Meth K au "deepen_to" bY)
   (fM:gq K "deepen_to" "Growth.deepen_to" bX ["self","age"] bY fH)
   (dv:Meth K au "enter" fg)
   (fm:gq K "enter" "Growth.enter" mG ["self","age"] fg jB)
   (bV:Meth K au "check_place" b5)
   (b6:gq K "check_place" "Growth.check_place" gv ["self","age","place"] b5 er)
   (bQ:Meth K au "check_letter" aT)
   (bS:gq K "check_letter" "Growth.check_letter" cA ["self","letter"] aT dO)
   (bG:Meth K au "check_stretch" bF)
   (bH:gq K "check_stretch" "Growth.check_stretch" fD ["self","age","begin","end"] bF dq)
   (fo:Meth K au "length" da)
   (iV:gq K "length" "Growth.length" dU ["self","age"] da iL)
   (fq:Meth K au "pieces" dc)
   (iW:gq K "pieces" "Growth.pieces" iD ["self","age","begin","end"] dc iM)
   (cX:mT K "is_small_letter" jq ["text"] gd gh)
   (fu:mT K "is_word_over" gw ["word","letters"] jv jC)
   (gT:mT K "check_rows" fE ["rows"] lI lR)
   (l6:JD K "__init__" "Rules.__init__" lH ["self","ways","rows"] fF lS)
   (i8:Meth K aV "pen" jd)
   (nh:gq K "pen" "Rules.pen" qd ["self"] jd m7)
   (fN:Meth K aV "letters" dZ)
   (iX:gq K "letters" "Rules.letters" ll ["self"] dZ iN)
   (gb:Meth K aV "row_of" dF)
   (jK:gq K "row_of" "Rules.row_of" jr ["self","letter"] dF jD)
   (ig:Meth K aV "deed" gO)
   (l7:gq K "deed" "Rules.deed" oT ["self","letter"] gO lU)
   (ij:Meth K aV "word" gQ)
   (l8:gq K "word" "Rules.word" oU ["self","letter"] gQ lV)
   (fO:Meth K aV "word_of" bx)
   (y73:K.lookup bx=some ⟨y51,y48,.func (W.fnOf "word_of" "Rules.word_of" (cv bw) (aG bw) (af bw) (.ref lq) y52 y53 y54 y49 y55 y56),y50⟩)
   (y74:K.lookup lq=some ⟨y58,y57,.seq #[.int 8 iP] y59,y60⟩)
   (y75:W.codeIn K y55 "Rules.word_of"=true)
   (y76:W.keepIn K (.ref bx)=true)
   (uV:mT K "_law_cell" FR ["_law_script","_law_k"] BN BP)
   (ka:mT K "_law_alphabet" sd ["_law_cell_here","_law_many"] oZ o5)
   (uW:mT K "_law_text" FT ["_law_number","_law_alphabet_here","_law_most"] BO BQ)
   (qR:mT K "_law_shape" Bz ["_law_script","_law_far"] wV w4)
   (qS:mT K "_law_kinds" wM ["_law_error"] tu w6)
   (md:mT K "_law_refused" j5 ["_law_drawing","_law_kind","_law_age","_law_letter","_law_one","_law_other"] oh qK)
   (Aw:mT K "_law_due" MR ["_law_size","_law_alphabet_here","_law_kind","_law_age","_law_letter","_law_one","_law_other"] HQ HR)
   (DP:mT K "law" DF ["_law_script"] tw yv)
   (qm:W.nsIn K mainGlobals "dict"=some none)
   (ni:W.nsIn K mainGlobals "enumerate"=some none)
   (aQ:W.nsIn K mainGlobals "isinstance"=some none)
   (mK:W.nsIn K mainGlobals "len"=some none)
   (BV:W.nsIn K mainGlobals "list"=some none)
   (MX:W.nsIn K mainGlobals "max"=some none)
   (HS:W.nsIn K mainGlobals "min"=some none)
   (kF:W.nsIn K mainGlobals "range"=some none)
   (sk:W.nsIn K mainGlobals "reversed"=some none)
   (DQ:W.nsIn K mainGlobals "sum"=some none)
   (BW:W.nsIn K mainGlobals "tuple"=some none)
   (MY:W.nsIn K mainGlobals "all"=some none)
   (jL:W.nsIn K mainGlobals "ValueError"=some none)
   (B1:W.mroIn K ar (.ref aE)=some true)
   (D6:W.mroIn K ay (.ref aE)=some true)
   (D7:W.mroIn K aC (.ref aE)=some true)
   (ac7:W.mroIn K aE (.type "BaseException")=some true)
   (rh:W.kitOne K (.ref ar) (.ref ar)=some true)
   (sq:W.kitOne K (.ref ar) (.ref ay)=some false)
   (su:W.kitOne K (.ref ar) (.ref aC)=some false)
   (sv:W.kitOne K (.ref ar) (.ref fV)=some false)
   (D8:W.kitOne K (.ref ar) (.type "ValueError")=some true)
   (sx:W.kitOne K (.ref ay) (.ref ar)=some false)
   (tK:W.kitOne K (.ref ay) (.ref ay)=some true)
   (tL:W.kitOne K (.ref ay) (.ref aC)=some false)
   (tM:W.kitOne K (.ref ay) (.ref fV)=some false)
   (Gh:W.kitOne K (.ref ay) (.type "ValueError")=some true)
   (sy:W.kitOne K (.ref aC) (.ref ar)=some false)
   (tN:W.kitOne K (.ref aC) (.ref ay)=some false)
   (tP:W.kitOne K (.ref aC) (.ref aC)=some true)
   (tQ:W.kitOne K (.ref aC) (.ref fV)=some false)
   (Gi:W.kitOne K (.ref aC) (.type "ValueError")=some true)
   : ∃ t,Txt K mg t/\t.tw=tw:=
 ⟨⟨cq,cQ,wO,wQ,ju,ee,eh,gx,fA,eY,bR,dW,gG,cm,fT,tq,gH,gI,gJ,dX,cM,dY,cN,cO,gK,eZ,gL,wR,iE,oY,ki,wU,ff,cF,bL,cZ,cg,dB,ql,gM,fU,cn,bY,fg,b5,aT,bF,da,dc,gd,jv,lI,fF,jd,dZ,dF,gO,gQ,bx,BN,oZ,BO,wV,tu,oh,HQ,tw,iF,jw,wW,wX,jx,lJ,lK,o3,m6,jy,dN,iG,lL,eI,kj,tE,lM,lN,lO,iH,(W.fnOf "shift" "Track.shift" (cv cJ) (aG cJ) (af cJ) (.ref nH) y13 y14 y15 y10 y16 y17),iI,(W.fnOf "reach" "Track.reach" (cv cK) (aG cK) (af cK) (.ref nI) y26 y27 y28 y23 y29 y30),(W.fnOf "touch" "Track.touch" (cv cL) (aG cL) (af cL) (.ref nJ) y39 y40 y41 y36 y42 y43),lP,jz,lQ,wY,iJ,o4,kr,wZ,jA,fG,eJ,iK,gf,gR,tF,gS,ky,eK,fH,jB,er,dO,dq,iL,iM,gh,jC,lR,lS,m7,iN,jD,lU,lV,(W.fnOf "word_of" "Rules.word_of" (cv bw) (aG bw) (af bw) (.ref lq) y52 y53 y54 y49 y55 y56),BP,o5,BQ,w4,w6,qK,HR,yv,kz,kA,kB,iP,aX,cw,aV,au,aA,aw,aE,aC,fV,ar,ay,lW,dA,y0,y1,y2,K⟩,⟨rfl,
   W.mg_of X G,
   W.mg_none_of X G,
   j7,
   o6,
   eO,
   aO,
   aF,
   aP,
   W.mg_of X G FZ,
   W.mg_of X G M8,
   W.mg_of X G M9,
   W.mg_of X G JI,
   W.mg_of X G Na,
   ⟨DR⟩,
   ⟨DS,DT,DU,DV,DW,DY,DZ,DX⟩,
   ⟨JJ⟩,
   ⟨JK,JL,JM,JN,JO,JQ,JR,JP⟩,
   ⟨F0,F1,F2,F3,F4,F6,F7,F5⟩,
   ⟨JS,JT,JU,JV,JW,JY,JZ,JX⟩,
   ⟨F8,F9,Ga⟩,
   ⟨D1,D2,D3,⟨_,D4⟩,D5⟩,
   ⟨J0,J1,J2⟩,
   ⟨Gb,Gd,Ge,⟨_,Gf⟩,Gg⟩,
   ⟨BX,BY,BZ⟩,
   si,
   yz,
   yA,
   uT,
   yB,
   sj,
   iQ,
   bb,
   de,
   gy,
   cV,
   bN,
   d0,
   bM,
   bO,
   bu,
   cB,
   cG,
   fh,
   fi,
   aW,
   bP,
   W.mg_of X G Nb,
   fun H=>.tup (vs:=[.str "stroke",.str "step",.str "left",.str "right",.str "rest"]) (.inr ⟨_,_,_,Nc,rfl,rfl,aaF rfl,.cons ⟨_,rfl⟩ (.cons ⟨_,rfl⟩ (.cons ⟨_,rfl⟩ (.cons ⟨_,rfl⟩ (.cons ⟨_,rfl⟩ (.nil)))))⟩) (.cons (.str _) (.cons (.str _) (.cons (.str _) (.cons (.str _) (.cons (.str _) (.nil)))))),
   W.mg_of X G yI,
   fun H=>.tup (vs:=[.str "stroke",.str "step"]) (.inr ⟨_,_,_,yJ,rfl,rfl,aaF rfl,.cons ⟨_,rfl⟩ (.cons ⟨_,rfl⟩ (.nil))⟩) (.cons (.str _) (.cons (.str _) (.nil))),
   W.mg_of X G B0,
   W.mg_of X G we,
   W.mg_of X G zT,
   iR,
   jF,
   qN,
   qO,
   fj,
   f6,
   g8,
   lX,
   f7,
   g9,
   lY,
   hU,
   jG,
   o8,
   gz,
   i4,
   m9,
   fk,
   jH,
   cH,
   dP,
   eF,
   iS,
   hV,
   lZ,
   dH,
   eP,
   gA,
   kC,
   oi,
   l1,
   hX,
   l2,
   hZ,
   l3,
   fJ,
   iT,
   eA,
   fun s us X hl=>by obtain⟨z,rfl⟩:=Fq hl;exact BindsTo.of_defaults rfl (X _ _ y62) rfl rfl rfl,
   sS (st:=cJ) y61 y63,
   y64,
   fun s us X hl=>by obtain⟨z,y,rfl⟩:=Bg hl;exact BindsTo.of_defaults rfl (X _ _ y62) rfl rfl rfl,
   fK,
   iU,
   eB,
   fun s us X hl=>by obtain⟨z,rfl⟩:=Fq hl;exact BindsTo.of_defaults rfl (X _ _ y66) rfl rfl rfl,
   sS (st:=cK) y65 y67,
   y68,
   fun s us X hl=>by obtain⟨z,y,rfl⟩:=Bg hl;exact BindsTo.of_defaults rfl (X _ _ y66) rfl rfl rfl,
   eC,
   fun s us X hl=>by obtain⟨z,rfl⟩:=Fq hl;exact BindsTo.of_defaults rfl (X _ _ y70) rfl rfl rfl,
   sS (st:=cL) y69 y71,
   y72,
   fun s us X hl=>by obtain⟨z,y,rfl⟩:=Bg hl;exact BindsTo.of_defaults rfl (X _ _ y70) rfl rfl rfl,
   ia,
   l4,
   f9,
   jI,
   ib,
   l5,
   qP,
   d5,
   j9,
   cb,
   qQ,
   jJ,
   dt,
   fL,
   df,
   eQ,
   cP,
   d6,
   cj,
   cW,
   cy,
   dC,
   oj,
   dD,
   kE,
   du,
   eU,
   dJ,
   fM,
   dv,
   fm,
   bV,
   b6,
   bQ,
   bS,
   bG,
   bH,
   fo,
   iV,
   fq,
   iW,
   cX,
   fu,
   gT,
   l6,
   i8,
   nh,
   fN,
   iX,
   gb,
   jK,
   ig,
   l7,
   ij,
   l8,
   fO,
   fun s us X hl=>by obtain⟨z,y,rfl⟩:=UW hl;exact BindsTo.of_defaults rfl (X _ _ y74) rfl rfl rfl,
   sS (st:=bw) y73 y75,
   y76,
   fun s us X hl=>match us,hl with | [_,_,_],_=>BindsTo.of_defaults rfl (X _ _ y74) rfl rfl rfl,
   uV,
   ka,
   uW,
   qR,
   qS,
   md,
   Aw,
   DP,
   W.mg_none_of X G qm,
   W.mg_none_of X G ni,
   W.mg_none_of X G aQ,
   W.mg_none_of X G mK,
   W.mg_none_of X G BV,
   W.mg_none_of X G MX,
   W.mg_none_of X G HS,
   W.mg_none_of X G kF,
   W.mg_none_of X G sk,
   W.mg_none_of X G DQ,
   W.mg_none_of X G BW,
   W.mg_none_of X G MY,
   W.mg_none_of X G jL,
   B1,
   D6,
   D7,
   ac7,
   rh,
   sq,
   su,
   sv,
   D8,
   sx,
   tK,
   tL,
   tM,
   Gh,
   sy,
   tN,
   tP,
   tQ,
   Gi⟩,rfl⟩
theorem VP {K:W.Frag}{mg:Str->Option Value}{t:dy}(T:Txt K mg t)(s:Shared)(u:Value):BindsTo s t.yv ⟨[u],[]⟩ [("_law_script",u)]:=by
 obtain⟨oc,od,kV,doc,pm,an,bc,ct,wA,e,lk,mh⟩:=T.DP.F.ex;rw[e];exact .of_eq rfl
abbrev CX:qu:=CX0
noncomputable def sg (c:Nat):Str:=⟨#[c]⟩
noncomputable def tx (w:List Nat):Str:=⟨w.toArray⟩
structure Row where
 c:Nat
 d:Str
 w:List Nat
noncomputable def rK:List Str:=["stroke","step","left","right","rest"]
noncomputable def qo (r:Row):Dt:=.tup [.str (sg r.c),.str r.d,.str (tx r.w)]
def small (c:Nat):Prop:=97<=c/\c<=122
structure dg (rows:List Row):Prop where
 pos:0 < rows.length
 le:rows.length<=6
 nd:(rows.map (·.c)).Nodup
 sm:∀ r∈rows,small r.c
 dd:∀ r∈rows,r.d∈rK
 wp:∀ r∈rows,0 < r.w.length/\r.w.length<=8
 wo:∀ r∈rows,∀ x∈r.w,x∈rows.map (·.c)
noncomputable def u7 (rows:List Row):List (Key×Dt):=rows.map fun r=>(.inr (sg r.c),qo r)
abbrev Rl:=List Dt->Res->Prop
noncomputable def wy (six:Bool):Int:=if six then 6 else 4
noncomputable def dy.pc (t:dy)(six:Bool):Addr:=if six then t.cw else t.aX
noncomputable def dy.Ct (t:dy)(six:Bool)(rows:List Row):Dt:=.obj t.aV [("drawer",.jf (.obj (t.pc six) [])),("row_by_letter",.fw (u7 rows))]
theorem u9 {a b:Nat}(h:sg a=sg b):a=b:=by
 have:=congrArg (fun s:Str=>s.cps.toList) h;simpa [sg] using this
theorem Nd {c:Nat}{L:List Nat}:sg c∈L.map sg ↔ c∈L:=by
 constructor
 . intro h
   obtain⟨x,hx,e⟩:=aaK.mp h;rw[<- u9 e];exact hx
 . exact fun h=>aaK.mpr ⟨c,h,rfl⟩
theorem ac8 {c:Nat}(h:97<=c):UQ "a" (sg c)=true:=by
 have e:("a":Str).cps.toList=[97]:=rfl;unfold UQ;rw[e];show(!decide ([c] < [97]))=true;have:¬ ([c] < [97]):=by
   intro z;rcases List.cons_lt_cons_iff.mp z with z | ⟨_,z⟩
   . omega
   . exact absurd z (by simp)
 simp[this]
theorem ac9 {c:Nat}(h:c<=122):UQ (sg c) "z"=true:=by
 have e:("z":Str).cps.toList=[122]:=rfl;unfold UQ;rw[e];show(!decide ([122] < [c]))=true;have:¬ ([122] < [c]):=by
   intro z;rcases List.cons_lt_cons_iff.mp z with z | ⟨_,z⟩
   . omega
   . exact absurd z (by simp)
 simp[this]
theorem yK (w:List Nat):Sg.signs (tx w)=(w.map sg).map Dt.str:=by
 unfold Sg.signs tx;rw[aar];rfl
theorem ik (w:List Nat):(tx w).length=w.length:=by show w.toArray.size=w.length;simp
theorem kQ {w:List Nat}(h:∀ x∈w,x < 128):k9 (tx w)=true:=by
 unfold k9 tx;rw[Array.all_eq_true_iff_forall_mem];intro x hx;exact decide_eq_true (h x (by simpa using hx))
theorem va:∀ {rows:List Row},(rows.map (·.c)).Nodup->∀ {r:Row},r∈rows->mR (u7 rows) (.inr (sg r.c))=some (qo r)
 | [],_,r,h=>by cases h
 | q::rows,nd,r,h=>by
   rw[aas,aca] at nd;rcases aaz.mp h with rfl | h
   . exact sU (p:=(.inr (sg r.c),qo r)) rfl
   . have ne:¬ (Sum.inr (sg q.c):Key)=.inr (sg r.c):=fun z=>nd.1 (by
       rw[u9 (Sum.inr.inj z)];exact aaK.mpr ⟨r,h,rfl⟩)
     show mR ((.inr (sg q.c),qo q)::u7 rows) _=_;rw[p8 (p:=(.inr (sg q.c),qo q)) ne];exact va nd.2 h
theorem t7 {n:Nat}(h:n<=2000):n<=sizeLine:=aax h (by decide)
def QE:Rl:=fun ds r=>∃ c,ds=[.str (sg c)]/\small c/\r=.ret (.bl true)
def VQ:Rl:=fun ds r=>∃ (w L:List Nat),ds=[.str (tx w),.lst ((L.map sg).map .str)]/\(0 < w.length/\w.length<=8)/\(∀ x∈w,x∈L)/\(∀ x∈L,small x)/\r=.ret (.bl true)
def QF:Rl:=fun ds r=>∃ rows,ds=[.lst (rows.map qo)]/\dg rows/\r=.ret .cz
noncomputable def VR:Stmt->Scope
 | .Return (some (.BoolOp _ [_,.Call _ [.ListComp _ _ sc _] _ _] _)) _=>sc
 | _=>af (.Pass ⟨0,0,0,0⟩)
noncomputable abbrev QG:Scope:=VR ((aG gw).getD 0 (.Pass ⟨0,0,0,0⟩))
theorem HU:kM QG (af gw) qk ["sign","letters"] ["sign"] [1]=true:=by decide +kernel
noncomputable abbrev J3:Scope:=Ym ((aG fE).getD 2 (.Pass ⟨0,0,0,0⟩))
theorem Ax:kM J3 (af fE) oX ["row"] ["row"] []=true:=by decide +kernel
noncomputable abbrev QH:Scope:=Ym ((aG fE).getD 3 (.Pass ⟨0,0,0,0⟩))
theorem HV:kM QH (af fE) oX ["first"] ["first"] []=true:=by decide +kernel
theorem gi {X:Cx}{G:Gr}{dl:List Slot}{zs zs':List Dt}{wi:TI}(h:vJ X G dl zs wi)(e:zs'=zs):vJ X G dl zs' wi:=by subst e;exact h
variable {P:Program}{w:World}{K:W.Frag}{mg:Str->Option Value}{base:Heap}{t:dy}
theorem Nf (T:Txt K mg t):GF P w K mg base CX 1 "is_small_letter" 1 QE:=by
 refine⟨_,_,_,jb T.cX.F sh rfl fun bc A outer s H E G ds r hr hl hR=>?_,(T.g T.cX.a),T.cX.F.kp,T.cX.b⟩;obtain⟨c,rfl,⟨h1,h2⟩,rfl⟩:=hR;exact⟨_,.rt _,ao (aN (Fe (u:=true) (v:=true) (bI (Uv (A9 T.mK (aa 0 rfl) (t7 (n:=1) (by decide))) aj) rfl) fun _=>(A6 (bI (L6 cf (aa 0 rfl) cf) (by rw[ac8 h1,ac9 h2];rfl)))))⟩
theorem QI (T:Txt K mg t):GF P w K mg base CX 1 "is_word_over" 2 VQ:=by
 refine⟨_,_,_,jb T.fu.F vX rfl fun bc A outer s H E G ds r hr hl hR=>?_,(T.g T.fu.a),T.fu.F.kp,T.fu.b⟩;obtain⟨wd,L,rfl,⟨h0,h8⟩,hw,hL,rfl⟩:=hR;have UU:k9 (tx wd)=true:=kQ fun x hx=>by have:=hL x (hw x hx);unfold small at this;omega
 have hlen:=ik wd;have e1:(decide ((1:Int)<=((tx wd).length:Nat)) && decide (((tx wd).length:Nat)<=(8:Int)))=true:=by
   rw[hlen,decide_eq_true (by omega),decide_eq_true (by omega)];rfl
 have e2:(((wd.filter fun _=>true).map fun x=>Dt.bl (decide (sg x∈L.map sg))))=((aal wd.length true).map Dt.bl):=by
   rw[aaG.mpr (fun _ _=>rfl)];refine List.ext_getElem (by simp) fun i h1 h2=>?_
   simp only[aa8,List.getElem_replicate];have hi:i < wd.length:=by simpa using h1
   rw[decide_eq_true (Nd.mpr (hw _ (aaN hi)))]
 have e3:(aal wd.length true).all id=true:=by simp
 have es:wd.map (fun x=>Dt.str (sg x))=Sg.signs (tx wd):=by rw[yK,aar];rfl
 refine⟨_,.rt _,ao (aN (Fe (u:=true) (v:=true) (bI (L7 aj (A9 T.mK (aa 0 rfl) (t7 (by omega))) (iz (w:=.int 8) T.yC ⟨_,rfl⟩ fun _=>.int 8)) (congrArg Dt.bl e1)) fun _=>(A6 (bI (US (bs:=aal wd.length true) T.MY rfl (bI (kL (jW wd (fun x=>Dt.str (sg x)) (fun x=>.bl (decide (sg x∈L.map sg))) (fun x=>[.val (.str (sg x))]) (fun _=>true) rfl (dQ HU) (lb (aa 0 rfl)) (d9 (dQ HU) rfl) (gi (fQ UU) es) (fun a _=>fC) (.nil fun _ _=>rfl)
   (fun a ha _ C fp s' H' G'=>UR (aa 0 rfl) (aa 1 rfl)) (t7 (by omega)))) (congrArg Dt.lst e2))) (congrArg Dt.bl e3)))))⟩
theorem Gj {k:Nat}{ds:List Dt}{K:W.Frag}{H:Hp}{vs:List V}(r:bK K H vs ds)(hk:k<=ds.length):bK K H (IJ vs none (some (k:Int))) (ds.take k):=by
 unfold IJ;rw[HT.K2,HT.Pb,List.drop_zero,r.length,Nat.min_eq_left hk,Nat.sub_zero];exact r.take k
theorem QJ {X:Cx}{G:Gr}{dl:List Slot}{a b:Expr}{ds:List Dt}{k:Nat}{pos p2:Pos}(ha:EE X G dl a (.lst ds))(hb:EE X G dl b (.int (k:Int)))(hk:k<=ds.length):EO X G dl (.Subscript a (.Slice none (some b) none p2) pos) (.lst (ds.take k)):=
 gX (CK Pg ha G4 (G5 hb)) fun st H Q zq=>zn zq fun Hf S kk=>fun v av H1 g1 r1=>by
   cases r1 with
   | @lst q vs _ hq rp=>
     refine⟨av,S.grow g1,fun z bD H2 g2 r2=>?_⟩;cases r2;have g:=g1.trans g2;refine⟨(k:Int),rfl,q,vs,rfl,.of (g2.big _ _ (g1.sub _ _ hq)),fun p hp=>kk p bD _ (g.trans (.fX g.sub hp)) (g.big.free hp) (g.sub.free hp) ⟨_,ak,Gj (rp.mono g2.bJ) hk⟩⟩
theorem jM {L:List Dt}{L':List Dt}(e:L=L'){X:Cx}{G:Gr}{dl:List Slot}{z:Expr}(h:EO X G dl z (.lst L)):EE X G dl z (.lst L'):=by subst e;exact kL h
theorem Ng (T:Txt K mg t):GF P w K mg base CX 2 "check_rows" 1 QF:=by
 refine⟨_,_,_,jb T.gT.F rF rfl fun bc A outer s H E G ds r hr hl hR=>?_,(T.g T.gT.a),T.gT.F.kp,T.gT.b⟩;obtain⟨rows,rfl,ok,rfl⟩:=hR;have nd:=rF.nd;have hp:=ok.pos;have hl6:=ok.le;let cs:=rows.map (·.c);let lt:List Dt:=(cs.map sg).map Dt.str;have e0:(decide ((((rows.map qo).length:Nat):Int)=0))=false:=by rw[aaa];exact decide_eq_false (by omega)
 have e1:(decide ((6:Int) < (((rows.map qo).length:Nat):Int)))=false:=by rw[aaa];exact decide_eq_false (by omega)
 have ef:((rows.filter fun _=>true).map fun r=>Dt.str (sg r.c))=lt:=by
   rw[aaG.mpr (fun _ _=>rfl)];show _=((rows.map (·.c)).map sg).map Dt.str;rw[aar,aar];rfl
 have ez:(rows.map fun r=>Dt.str (sg r.c))=lt:=by
   show _=((rows.map (·.c)).map sg).map Dt.str;rw[aar,aar];rfl
 have hsz:rows.length<=sizeLine:=t7 (by omega);let S:Nat->List Slot:=fun _=>[.val (.lst (rows.map qo)),.val (.lst lt),.val (.lst lt),.aY,.aY,.aY]
 let xs:=rows.map qo;have Ze:xs.length=rows.length:=aaa ..;refine⟨.nx (S rows.length),.nx _,ah (aL (u:=false) (br (eD (Hk T.mK (aa 0 rfl)) aj) e0) (fun h=>nomatch h) (fun h=>aS))
   (ah (aL (u:=false) (br (pB (Hk T.mK (aa 0 rfl)) (iz (w:=.int 6) T.DO ⟨_,rfl⟩ fun _=>.int 6)) e1) (fun h=>nomatch h) (fun h=>aS))
   (ah (LW 1 rows qo (fun r=>Dt.str (sg r.c)) (fun r=>[.val (qo r)]) (fun _=>true) rfl nd (dQ Ax) (mV (aa 0 rfl)) (d9 (dQ Ax) rfl) nT (fun a _=>fC) (.nil fun _ _=>rfl) (fun a ha _ C fp s' H' G'=>aZ (aa 0 rfl) aj rfl) hsz)
   ?r1))⟩
 rw[ef];refine Fp 1 (w:=.lst lt) (ah (LW 2 rows (fun r=>Dt.str (sg r.c)) (fun r=>Dt.str (sg r.c)) (fun r=>[.val (.str (sg r.c))]) (fun _=>true) rfl nd (dQ HV) (mV (aa 1 rfl)) (d9 (dQ HV) rfl) (gi nT ez) (fun a _=>fC)
   (.one fun a ha C fp s' H' G'=>jR (cS (Nf T) aD hr (ae (aa 0 rfl) ai) ⟨a.c,rfl,ok.sm a ha,rfl⟩)) (fun a ha _ C fp s' H' G'=>aa 0 rfl) hsz) ?r2)
 rw[ef];refine Fp 2 (w:=.lst lt) (ao (wH (o:=.nx (S rows.length)) (m:=rows.length) (aan xs.length) (fun(j:Nat)=>.tup [.int j,xs.getD j .cz]) (fun(j:Nat) dl=>(dl.set 3 (.val (.int j))).set 4 (.val (xs.getD j .cz))) S rfl PassesOwn.leaving
   (PZ rfl T.ni (ae (aa 0 rfl) ai)) (Jh (xs:=xs)) (AM rfl (il (dM nd rfl (.inl rfl)) (il (dM nd rfl (.inl rfl)) wq))) (fun a _=>Hw) (Le.of ⟨rfl,rfl,rfl,trivial⟩) (by rw[aa6,Ze];exact aai _) (fun j a hj ha=>?l) (by rw[aa6,Ze];exact .all rfl)))
 rw[aaP (by omega)] at ha;cases ha;have ex:xs.getD j .cz=qo rows[j]:=by
   show(rows.map qo).getD j .cz=_;rw[aae,aaf,aab hj];rfl
 have hm:=aaN hj;have hcl:cs.length=rows.length:=aaa ..;have eT:lt.take j=((cs.take j).map sg).map Dt.str:=by
   show((cs.map sg).map Dt.str).take j=_;rw[<- List.map_take,<- List.map_take]
 have dS:lt.length=rows.length:=by show((cs.map sg).map Dt.str).length=_;rw[aaa,aaa,hcl]
 have ada:sg rows[j].c ∉ (cs.take j).map sg:=by
   intro z;have z:=Nd.mp z;obtain⟨i,hi,e⟩:=abJ.mp z;rw[aaD] at hi;rw[acb] at e;have h:=abB.mp ok.nd i j (by rw[aaa];omega) (by rw[aaa];exact hj) (by omega);exact h (e.trans (aa8 (f:=Row.c) (l:=rows) (i:=j) (h:=by rw[aaa];exact hj)).symm)
 have en:(!decide (sg rows[j].c∈(cs.take j).map sg))=true:=by rw[decide_eq_false ada];rfl
 have v4:∀ {X:Cx} {G:Gr} {dl:List Slot} {e:Expr},EE X G dl e (xs.getD j .cz)->EE X G dl e (.tup [.str (sg rows[j].c),.str rows[j].d,.str (tx rows[j].w)]):=fun h=>by rw[ex] at h;exact h
 refine .nx (ah (aB 5 nd (Fe (u:=true) (v:=true) (cS (Nf T) aD hr (ae (aZ (v4 (aa 4 rfl)) aj rfl) ai) ⟨_,rfl,ok.sm _ hm,rfl⟩) fun _=>(A6 (bI (P1 (xs:=(cs.take j).map sg) (aZ (v4 (aa 4 rfl)) aj rfl) (jM eT (QJ (aa 1 rfl) (aa 3 rfl) (by rw[dS];exact abG hj)))) (congrArg Dt.bl en)))))
   (ao (aL (u:=false) (A5 (u:=true) (nB (pY (u:=true) (v:=true) (jR (aa 5 rfl)) fun _=>(pY (u:=true) (v:=true) (br (Fv (xs:=rK) (aZ (v4 (aa 4 rfl)) aj rfl) (iz (w:=.ref t.lW) T.BS rfl T.BU)) (decide_eq_true (ok.dd _ hm))) fun _=>(sP (jR (cS (QI T) aD hr (ae (aZ (v4 (aa 4 rfl)) aj rfl) (ae (aa 2 rfl) ai)) ⟨rows[j].w,cs,rfl,ok.wp _ hm,ok.wo _ hm,fun x hx=>?_,rfl⟩))))))) (fun h=>nomatch h) (fun h=>aS)))) (Le.of ⟨rfl,rfl,rfl,trivial⟩)
 obtain⟨r,QK,rfl⟩:=aaK.mp hx;exact ok.sm r QK
def Nh (t:dy):Rl:=fun ds r=>∃ six,ds=[.int (wy six)]/\r=.ret (.jf (.obj (t.pc six) []))
def QL (t:dy):Rl:=fun ds r=>∃ six rows,ds=[.int (wy six),.lst (rows.map qo)]/\dg rows/\r=.own (.obj t.aV [("drawer",.jf (.obj (t.pc six) [])),("row_by_letter",.fw (u7 rows))])
noncomputable def rr (r:Row):Str×List Dt:=(sg r.c,[.str r.d,.str (tx r.w)])
theorem HX (rows:List Row):rows.map qo=(rows.map rr).map x5:=by rw[aar];rfl
theorem VT (rows:List Row):u7 rows=rC (rows.map rr):=by unfold rC u7;rw[aar];rfl
theorem Zf {rows:List Row}(nd:(rows.map (·.c)).Nodup):((rows.map rr).map (·.1)).Nodup:=by
 have e:(rows.map rr).map (·.1)=(rows.map (·.c)).map sg:=by rw[aar,aar];rfl
 rw[e];exact List.Pairwise.map sg (fun a b h z=>h (u9 z)) nd
theorem J4 (T:Txt K mg t):GF P w K mg base CX 1 "pen_of" 1 (Nh t):=by
 refine⟨_,_,_,jb T.oi.F JF rfl fun bc A outer s H E G ds r hr hl hR=>?_,(T.g T.oi.a),T.oi.F.kp,T.oi.b⟩;obtain⟨six,rfl,rfl⟩:=hR;cases six with
 | false=>exact⟨_,.rt _,cI (aL (eD (aa 0 rfl) aj) (fun h=>ao (aN (DD T.si (T.g T.j7.a)))) (fun h=>absurd h (by decide)))⟩
 | true=>exact⟨_,.rt _,ah (aL (eD (aa 0 rfl) aj) (fun h=>absurd h (by decide)) (fun h=>aS)) (cI (aL (eD (aa 0 rfl) aj) (fun h=>ao (aN (DD T.yz (T.g T.o6.a)))) (fun h=>absurd h (by decide))))⟩
theorem Ni (T:Txt K mg t):W0 P w K mg base CX 3 "Rules" t.aV 3 (QL t):=by
 refine⟨_,_,_,fnI T.l6.F rG rfl fun bc A outer s H E G z ds r hr hl hR=>?_,T.yA,(T.g T.eO.a),T.l6.b⟩;obtain⟨six,rows,rfl,ok,rfl⟩:=hR;have nd:=rG.nd;have hu:(A.deeper (envOfC "Rules.__init__" (af lH) s.heap.objs.size t.fF bc)).units+1 < cLine:=by have:=hr.units;omega
 rw[VT,HX];refine⟨_,.nx ?fin,ah (aB 3 nd (cS (J4 T) aD hr (ae (aa 1 rfl) ai) ⟨six,rfl,rfl⟩))
   (ah (jl (cS (Ng T) aD hr (ae (aa 2 rfl) ai) ⟨rows,by rw[HX],ok,rfl⟩))
   (ah (k8 (aa 3 rfl) T.eO.cl T.iQ)
   (Mb 2 4 (C:=t.aV) (rows:=rows.map rr) (dlu:=[.aY,.val (.int (wy six)),.val (.lst ((rows.map rr).map x5)),.val (.jf (.obj (t.pc six) [])),.aY]) hu nd rfl PassesOwn.leaving T.eO.cl T.bb rfl rfl rfl rfl (by decide) (by decide) rfl (Zf ok.nd) (by rw[aaa];exact aaO ok.le (by decide))
     (fun r=>aZ (aa 4 rfl) aj (lE (j:=0) rfl)) (fun r=>P6 T.BW (aa 4 rfl)))))⟩
 rfl
open PySem.Builtin.Str in
theorem Ay (x:Str){a b:Nat}(hab:a<=b)(hb:b<=x.length){l u:Option Int}(h:strSliceIndices l u 1 x.length=strSliceIndices (some (a:Int)) (some (b:Int)) 1 x.length):Txt.slice x l u=⟨((x.cps.toList.drop a).take (b - a)).toArray⟩:=by
 unfold Txt.slice;rw[h,PySem.StrLaws.sliced_plain x hab hb]
 split
 . rename_i q
   rw[PySem.StrLaws.strSliceIndices_plain hab hb,aaa,aa6] at q;have q:b - a=x.length:=by simpa using q
   have ea:a=0:=by omega
   have eb:b=x.length:=by omega
   subst ea eb;rw[List.drop_zero,Nat.sub_zero];have:x.cps.toList.take x.length=x.cps.toList:=ab0 (by simp[Str.length]);rw[this]
 . rfl
open PySem.Builtin.Str in
theorem Nj (L:List Nat){k:Nat}(h:k<=L.length):Txt.slice (tx L) none (some (k:Int))=tx (L.take k):=by
 rw[Ay (tx L) (a:=0) (b:=k) (abh _) (by rw[ik];exact h)]
 . show(⟨(((L.toArray.toList).drop 0).take (k - 0)).toArray⟩:Str)=_
   simp[tx]
 . simp[strSliceIndices]
   have e:max (0:Int) (min 0 ((tx L).length:Int))=0:=by omega
   rw[e]
open PySem.Builtin.Str in
theorem Gk (L:List Nat){k:Nat}(h:k<=L.length):Txt.slice (tx L) (some (k:Int)) none=tx (L.drop k):=by
 rw[Ay (tx L) (a:=k) (b:=(tx L).length) (by rw[ik];exact h) (aai _)]
 . show(⟨(((L.toArray.toList).drop k).take ((tx L).length - k)).toArray⟩:Str)=_
   rw[ik,List.toList_toArray,ab0 (by rw[abU];exact aai _)];rfl
 . simp[strSliceIndices]
   have e:max (0:Int) (min (if ((tx L).length:Int) < 0 then ((tx L).length:Int)+(tx L).length else (tx L).length) ((tx L).length:Int))=(tx L).length:=by
     rw[if_neg (by omega)];omega
   rw[e]
theorem VU (a b:List Nat):tx a ++ tx b=tx (a ++ b):=by
 show(⟨a.toArray ++ b.toArray⟩:Str)=⟨(a ++ b).toArray⟩;simp
theorem Zh (L:List Nat){k:Nat}(h:k < L.length):pA (tx L).cps.toList (k:Int)=some (L.getD k 0):=by
 show pA L.toArray.toList (k:Int)=_;rw[List.toList_toArray];refine lE ?_;rw[aae,aab h];rfl
section
variable {X:Cx}{G:Gr}{dl:List Slot}{a b:Expr}{L M:List Nat}{k:Nat}{pos p p2:Pos}
theorem xa (ha:EE X G dl a (.str (tx L)))(hb:EE X G dl b (.str (tx M)))(h:L.length+M.length<=2000):EE X G dl (.BinOp a .Add b pos) (.str (tx (L ++ M))):=
 bI (Um ha hb (by rw[ik,ik];exact t7 h)) (by rw[VU])
theorem B2 (ha:EE X G dl a (.str (tx L)))(hb:EE X G dl b (.int (k:Int)))(h:k < L.length)(hl:L.length<=2000)(hs:autoParam (lF b) wl):EE X G dl (.Subscript a b pos) (.str (tx [L.getD k 0])):=
 Up ha hb (Zh L h) (by rw[ik];exact t7 hl) hs
theorem QN (ha:EE X G dl a (.str (tx L)))(hb:EE X G dl b (.int (k:Int)))(h:k<=L.length)(hl:L.length<=2000):EE X G dl (.Subscript a (.Slice none (some b) none p2) pos) (.str (tx (L.take k))):=
 bI (LZ ha LY (Hz hb) (by rw[ik];exact t7 hl)) (by rw[Nj L h])
theorem J5 (ha:EE X G dl a (.str (tx L)))(hb:EE X G dl b (.int (k:Int)))(h:k<=L.length)(hl:L.length<=2000):EE X G dl (.Subscript a (.Slice (some b) none none p2) pos) (.str (tx (L.drop k))):=
 bI (LZ ha (Hz hb) LY (by rw[ik];exact t7 hl)) (by rw[Gk L h])
theorem tR (hm:X.mg "len"=none)(ha:EE X G dl a (.str (tx L)))(hl:L.length<=2000)(hg:autoParam (Gl X "len") jp)(he:autoParam (starEach [a] X.env=[(false,eval a X.env)]) jp):EE X G dl (.Call (.Name "len" p) [a] [] pos) (.int (L.length:Nat)):=
 bI (A9 hm ha (by rw[ik];exact t7 hl) hg he) (by rw[ik])
end
theorem HY:∀ (Ls:List (List Nat)) (a:List Nat),(Ls.map tx).foldl (fun acc p=>acc ++ (("":Str).cps) ++ p.cps) a.toArray=(a ++ Ls.flatten).toArray
 | [],a=>by simp
 | l::r,a=>by
   have e:a.toArray ++ ("":Str).cps ++ (tx l).cps=(a ++ l).toArray:=by
     show a.toArray ++ (#[]:Array Nat) ++ l.toArray=_;simp
   rw[aas,List.foldl_cons,e,HY r,abE,List.append_assoc]
theorem QO (Ls:List (List Nat)):Txt.join "" (Ls.map tx)=tx Ls.flatten:=by
 cases Ls with
 | nil=>rfl
 | cons l r=>
   show(⟨(r.map tx).foldl (fun acc p=>acc ++ (("":Str).cps) ++ p.cps) l.toArray⟩:Str)=_;rw[HY,abE];rfl
theorem J6 {X:Cx}{G:Gr}{dl:List Slot}{a e:Expr}{apos bf:Pos}{Ls:List (List Nat)}(ha:EE X G dl a (.str ""))(he:EE X G dl e (.lst ((Ls.map tx).map .str)))(hw:Ls.flatten.length+Ls.length<=100000)(kI:autoParam (attributeBase a "join" X.env (eval a X.env)=eval a X.env) jp)
   (xE:autoParam (((backTo bf (starEach [e] X.env)).all (fun x=>!x.1) && (backToKw bf (keywordEach [] X.env)).all (fun x=>x.1.isSome) && decide ([e].length+([]:List Keyword).length+(if ([]:List Keyword).isEmpty then 0 else 1) < 30))=true) jp)
   (kJ:autoParam ((apos.endLine == bf.line)=true) jp) (jQ:autoParam (starEach [e] X.env=(false,eval e X.env)::starEach [] X.env) jp):EE X G dl (.Call (.Attribute a "join" apos) [e] [] bf) (.str (tx Ls.flatten)):=by
 have e1:((Ls.map tx).map (·.length)).sum=Ls.flatten.length:=by
   rw[List.length_flatten,aar]
   congr 1
 exact bI (P4 ha he (joinOk_of_weight (by rw[e1,aaa];omega) (by decide)) kI xE kJ jQ) (by rw[QO])
theorem D9:∀ rows:List Row,(rows.map fun r=>[r.c]).flatten=rows.map (·.c)
 | []=>rfl
 | a::r=>by rw[aas,abE,D9 r];rfl
noncomputable def dy.Az (t:dy)(six:Bool)(rows:List Row):List (Str×Dt):=[("drawer",.jf (.obj (t.pc six) [])),("row_by_letter",.fw (u7 rows))]
noncomputable def o9 (rows:List Row)(x:Nat):Str:=((rows.find? fun r=>decide (r.c=x)).map (·.d)).getD ""
noncomputable def wordOf (rows:List Row)(x:Nat):List Nat:=((rows.find? fun r=>decide (r.c=x)).map (·.w)).getD []
theorem kR {rows:List Row}{x:Nat}(h:x∈rows.map (·.c)):∃ r∈rows,r.c=x/\o9 rows x=r.d/\wordOf rows x=r.w:=by
 obtain⟨q,hq,e⟩:=aaK.mp h;cases f:rows.find? (fun r=>decide (r.c=x)) with
 | none=>exact absurd (decide_eq_true e) (by simpa using List.find?_eq_none.mp f q hq)
 | some r=>
   refine⟨r,List.mem_of_find?_eq_some f,of_decide_eq_true (List.find?_some (p:=fun r:Row=>decide (r.c=x)) f),?_,?_⟩
   . unfold o9;rw[f];rfl
   . unfold wordOf;rw[f];rfl
def Gm (t:dy):Rl:=fun ds r=>∃ six rows,ds=[t.Ct six rows]/\dg rows/\r=.ret (.str (tx (rows.map (·.c))))
def Nk (t:dy):Rl:=fun ds r=>∃ six rows q,ds=[t.Ct six rows,.str (sg q.c)]/\dg rows/\q∈rows/\r=.ret (qo q)
def QP (t:dy):Rl:=fun ds r=>∃ six rows x,ds=[t.Ct six rows,.str (sg x)]/\dg rows/\x∈rows.map (·.c)/\r=.ret (.str (o9 rows x))
def QQ (t:dy):Rl:=fun ds r=>∃ six rows x,ds=[t.Ct six rows,.str (sg x)]/\dg rows/\x∈rows.map (·.c)/\r=.ret (.str (tx (wordOf rows x)))
theorem AA (T:Txt K mg t):MF P w K mg base CX 1 t.aV "row_of" 2 (Nk t):=by
 refine⟨T.eO.cl,_,_,_,jb T.jK.F vZ rfl fun bc A outer s H E G ds r hr hl hR=>?_,T.gb,T.jK.b⟩;obtain⟨six,rows,q,rfl,ok,hq,rfl⟩:=hR;have hu:(A.deeper (envOfC "Rules.row_of" (af jr) s.heap.objs.size t.dF bc)).units+1 < cLine:=by have:=hr.units;omega
 have hv:=va ok.nd hq;exact⟨_,.rt _,ah (aL (u:=false) (br (HB hu (aa 1 rfl) (aI (fs:=t.Az six rows) (aa 0 rfl) T.eO.cl T.bb rfl)) (by rw[hv];rfl)) (fun h=>nomatch h) (fun h=>aS))
   (ao (aN (P5 hu (aI (fs:=t.Az six rows) (aa 0 rfl) T.eO.cl T.bb rfl) (aa 1 rfl) hv (fun _ _=>rfl))))⟩
theorem yL (T:Txt K mg t):MF P w K mg base CX 2 t.aV "word" 2 (QQ t):=by
 refine⟨T.eO.cl,_,_,_,jb T.l8.F zM rfl fun bc A outer s H E G ds r hr hl hR=>?_,T.ij,T.l8.b⟩;obtain⟨six,rows,x,rfl,ok,hx,rfl⟩:=hR;obtain⟨q,hq,rfl,e1,e2⟩:=kR hx;rw[e2];exact⟨_,.rt _,ao (aN (aZ (bB (fs:=t.Az six rows) (aa 0 rfl) (AA T) aD hr (ae (aa 1 rfl) ai) ⟨six,rows,q,rfl,ok,hq,rfl⟩) aj rfl))⟩
theorem kS (T:Txt K mg t):MF P w K mg base CX 1 t.aV "letters" 1 (Gm t):=by
 refine⟨T.eO.cl,_,_,_,jb T.iX.F uR rfl fun bc A outer s H E G ds r hr hl hR=>?_,T.fN,T.iX.b⟩;obtain⟨six,rows,rfl,ok,rfl⟩:=hR;have h6:=ok.le;have el:((u7 rows).map fun kd=>kD kd.1)=((rows.map fun r=>[r.c]).map tx).map Dt.str:=by
   unfold u7;rw[aar,aar,aar];rfl
 have ef:(rows.map fun r=>[r.c]).flatten=rows.map (·.c):=D9 rows;refine⟨_,.rt _,ao (aN (bI (J6 (Ls:=rows.map fun r=>[r.c]) cf (jM el (Md T.BV rfl (aI (fs:=t.Az six rows) (aa 0 rfl) T.eO.cl T.bb rfl))) (by rw[ef,aaa,aaa];omega)) (by rw[ef])))⟩
theorem Nl (T:Txt K mg t):MF P w K mg base CX 2 t.aV "deed" 2 (QP t):=by
 refine⟨T.eO.cl,_,_,_,jb T.l7.F zL rfl fun bc A outer s H E G ds r hr hl hR=>?_,T.ig,T.l7.b⟩;obtain⟨six,rows,x,rfl,ok,hx,rfl⟩:=hR;obtain⟨q,hq,rfl,e1,e2⟩:=kR hx;rw[e1];exact⟨_,.rt _,ao (aN (aZ (bB (fs:=t.Az six rows) (aa 0 rfl) (AA T) aD hr (ae (aa 1 rfl) ai) ⟨six,rows,q,rfl,ok,hq,rfl⟩) aj rfl))⟩
def AB (t:dy):Rl:=fun ds r=>∃ (six:Bool) (rows:List Row) (w:List Nat) (m:Nat),ds=[t.Ct six rows,.str (tx w),.int (m:Nat)]/\dg rows/\(∀ x∈w,x∈rows.map (·.c))/\(0 < w.length/\w.length<=m/\m<=1000)/\r=.ret (.str (tx w))
theorem QR (w:List Nat):w.map (fun x=>Dt.str (sg x))=Sg.signs (tx w):=by rw[yK,aar];rfl
theorem xc {rows:List Row}(ok:dg rows){w:List Nat}(h:∀ x∈w,x∈rows.map (·.c)):k9 (tx w)=true:=kQ fun x hx=>by
 obtain⟨r,hr,rfl⟩:=aaK.mp (h x hx);have:=ok.sm r hr;unfold small at this;omega
theorem Gn (T:Txt K mg t):jh P w K mg base CX 1 t.bx t.iO ["self","text","most"] (Fg K 3 (AB t)):=by
 refine fnG T.v5 og rfl fun bc A outer s H E G ds r hr hl hR=>?_
 obtain⟨six,rows,wd,m,rfl,ok,hw,⟨h0,hm,hm2⟩,rfl⟩:=hR;have nd:=og.nd;have hu:(A.deeper (envOfC "Rules.word_of" (af bw) s.heap.objs.size t.bx bc)).units+1 < cLine:=by have:=hr.units;omega
 have ne:¬ tx wd=("":Str):=fun z=>by
   have:=congrArg Str.length z;rw[ik] at this;have e:("":Str).length=0:=rfl;omega
 let xs:=Sg.signs (tx wd);have Ze:xs.length=wd.length:=by show(Sg.signs (tx wd)).length=_;rw[qA,ik]
 let S:Nat->List Slot:=fun _=>[.val (t.Ct six rows),.val (.str (tx wd)),.val (.int (m:Nat)),.aY,.aY]
 refine⟨_,.rt _,ah (aL (u:=false) (br (rS (aa 1 rfl) cf) (decide_eq_false ne)) (fun h=>nomatch h) (fun h=>aS))
   (ah (wH (o:=.nx (S wd.length)) (m:=wd.length) (aan xs.length) (fun(j:Nat)=>.tup [.int j,xs.getD j .cz]) (fun(j:Nat) dl=>(dl.set 3 (.val (.int j))).set 4 (.val (xs.getD j .cz))) S rfl PassesOwn.leaving
     (Mg rfl T.ni (ae (aa 1 rfl) ai)) (FG (xc ok hw)) (AM rfl (il (dM nd rfl (.inl rfl)) (il (dM nd rfl (.inl rfl)) wq))) (fun a _=>Hw) (Le.of ⟨rfl,rfl,rfl,trivial⟩) (by rw[aa6,Ze];exact aai _) (fun j a hj ha=>?_) (by rw[aa6,Ze];exact .all rfl))
   (ao (aN (aa 1 rfl))))⟩
 rw[aaP (by omega)] at ha;cases ha;have ex:xs.getD j .cz=.str (sg wd[j]):=by
   show(Sg.signs (tx wd)).getD j .cz=_;rw[<- QR,aae,aaf,aab hj];rfl
 have v4:∀ {X:Cx} {G:Gr} {dl:List Slot} {e:Expr},EE X G dl e (xs.getD j .cz)->EE X G dl e (.str (sg wd[j])):=fun h=>by rw[ex] at h;exact h
 obtain⟨q,hq,hc,_,_⟩:=kR (hw _ (aaN hj));have hv:=va ok.nd hq;rw[hc] at hv;exact .nx (ao (aL (u:=false) (nB (mW (u:=false) (v:=false) (br (Lr (aa 3 rfl) (aa 2 rfl)) (decide_eq_false (by omega))) fun _=>(ji (br (HB hu (v4 (aa 4 rfl)) (aI (fs:=t.Az six rows) (aa 0 rfl) T.eO.cl T.bb rfl)) (by rw[hv];rfl))))) (fun h=>nomatch h) (fun h=>aS))) (Le.of ⟨rfl,rfl,rfl,trivial⟩)
theorem adb {K:W.Frag}:∀ H,bK K H [.int 8] [.int 8]:=fun _=>.cons (.int 8) .nil
theorem Ea (T:Txt K mg t):Ho P w K mg base CX 1 t.aV "word_of" 3 [.int 8] (AB t):=⟨T.eO.cl,_,_,_,_,[.int 8],Gn T,T.fO,T.uU,.cons ⟨_,rfl⟩ .nil,adb⟩
def VV (t:dy):Rl:=fun ds r=>∃ six rows,ds=[t.Ct six rows]/\r=.ret (.jf (.obj (t.pc six) []))
theorem HZ (T:Txt K mg t):MF P w K mg base CX 1 t.aV "pen" 1 (VV t):=by
 refine⟨T.eO.cl,_,_,_,jb T.nh.F BJ rfl fun bc A outer s H E G ds r hr hl hR=>?_,T.i8,T.nh.b⟩;obtain⟨six,rows,rfl,rfl⟩:=hR;exact⟨_,.rt _,ao (aN (aI (fs:=t.Az six rows) (aa 0 rfl) T.eO.cl T.iQ rfl))⟩
noncomputable def tl (six:Bool)(p:Int×Int):Int×Int:=if six then (-p.2,p.1+p.2) else (-p.2,p.1)
noncomputable def tn (six:Bool):Nat->Int×Int->Int×Int
 | 0,p=>p
 | n+1,p=>tl six (tn six n p)
noncomputable def sp (p:Int×Int):Dt:=.tup [.int p.1,.int p.2]
theorem ja (six:Bool):0 < wy six:=by cases six <;> decide
def VW (t:dy)(six:Bool):Rl:=fun ds r=>ds=[.obj (t.pc six) []]/\r=.ret (.int (wy six))
def VX (t:dy)(six:Bool):Rl:=fun ds r=>∃ p,ds=[.obj (t.pc six) [],sp p]/\r=.ret (sp (tl six p))
def Nm (t:dy)(six:Bool):Rl:=fun ds r=>∃ z,ds=[.obj (t.pc six) [],.int z]/\r=.ret (.int (z % wy six))
def Nn (t:dy)(six:Bool):Rl:=fun ds r=>∃ p b,ds=[.obj (t.pc six) [],sp p,.int b]/\r=.ret (sp (tn six (b % wy six).toNat p))
theorem xf (T:Txt K mg t)(six:Bool):MF P w K mg base CX 1 (t.pc six) "ways" 1 (VW t six):=by
 cases six with
 | false=>
   refine⟨T.j7.cl,_,_,_,jb T.jH.F vS rfl fun bc A outer s H E G ds r hr hl hR=>?_,T.fk,T.jH.b⟩;obtain⟨rfl,rfl⟩:=hR;exact⟨_,.rt _,ao (aN aj)⟩
 | true=>
   refine⟨T.o6.cl,_,_,_,jb T.lZ.F zA rfl fun bc A outer s H E G ds r hr hl hR=>?_,T.hV,T.lZ.b⟩;obtain⟨rfl,rfl⟩:=hR;exact⟨_,.rt _,ao (aN aj)⟩
theorem QS (T:Txt K mg t)(six:Bool):MF P w K mg base CX 1 (t.pc six) "turned_left" 2 (VX t six):=by
 cases six with
 | false=>
   refine⟨T.j7.cl,_,_,_,jb T.dP.F oV rfl fun bc A outer s H E G ds r hr hl hR=>?_,T.cH,T.dP.b⟩;obtain⟨p,rfl,rfl⟩:=hR;exact⟨_,.rt _,(ao (aN (b9 (ae (jU (aZ (aa 1 rfl) aj rfl)) (ae (aZ (aa 1 rfl) aj rfl) ai)) AA3)))⟩
 | true=>
   refine⟨T.o6.cl,_,_,_,jb T.eP.F qe rfl fun bc A outer s H E G ds r hr hl hR=>?_,T.dH,T.eP.b⟩;obtain⟨p,rfl,rfl⟩:=hR;exact⟨_,.rt _,(ao (aN (b9 (ae (jU (aZ (aa 1 rfl) aj rfl)) (ae (bU (aZ (aa 1 rfl) aj rfl) (aZ (aa 1 rfl) aj rfl)) ai)) AA3)))⟩
theorem Ia {six:Bool}{m:Str}{f:Addr}(hQ:Meth K t.aX m f)(hS:Meth K t.cw m f):Meth K (t.pc six) m f:=by cases six <;> assumption
theorem Ib (T:Txt K mg t)(six:Bool):wz K (t.pc six):=by cases six;exact T.j7.cl;exact T.o6.cl
theorem om (T:Txt K mg t)(six:Bool):MF P w K mg base CX 2 (t.pc six) "way_of" 2 (Nm t six):=by
 refine⟨Ib T six,_,_,_,jb T.lX.F zy rfl fun bc A outer s H E G ds r hr hl hR=>?_,Ia T.f6 T.g8,T.lX.b⟩;obtain⟨z,rfl,rfl⟩:=hR;have h1:=xf (P:=P) (w:=w) (base:=base) T six;refine⟨_,.rt _,ao (aN (dR (aa 1 rfl) (cD (aa 0 rfl) h1 aD hr ⟨rfl,rfl⟩) (ja six)))⟩
theorem AD (T:Txt K mg t)(six:Bool):MF P w K mg base CX 3 (t.pc six) "turned" 3 (Nn t six):=by
 refine⟨Ib T six,_,_,_,jb T.lY.F nF rfl fun bc A outer s H E G ds r hr hl hR=>?_,Ia T.f7 T.g9,T.lY.b⟩;obtain⟨p,b,rfl,rfl⟩:=hR;have h1:=om (P:=P) (w:=w) (base:=base) T six;have h2:=QS (P:=P) (w:=w) (base:=base) T six;have W7:=aaC b (abW (ja six));have U3:=aaH b (ja six);have hb3:wy six<=6:=by cases six <;> decide
 refine⟨_,.rt _,ah (l9 3 (fun k=>[.val (.obj (t.pc six) []),.val (sp (tn six k p)),.val (.int b),.aY]) nF.nd rfl PassesOwn.leaving T.kF
   (ae (bB (aa 0 rfl) h1 aD hr (ae (aa 2 rfl) ai) ⟨b,rfl,rfl⟩) ai) ⟨by omega,by omega⟩ (Le.of ⟨rfl,rfl,rfl,trivial⟩) (aai _) (fun k hk=>?_) (.all rfl)) (ao (aN (aa 1 rfl)))⟩
 refine .nx (ao (aB 1 nF.nd (bB (aa 0 rfl) h2 aD hr (ae (aa 1 rfl) ai) ⟨_,rfl,rfl⟩))) (Le.of ⟨rfl,rfl,rfl,trivial⟩)
theorem Sy {m n:Nat}{a b:Int}(ha:a.natAbs < 2 ^ m)(hb:b.natAbs < 2 ^ n)(h:m+n<=134217728):IntMulOk a b:=IntMulOk.of_le (PySem.intBits_le_iff.mpr ha) (PySem.intBits_le_iff.mpr hb) h
noncomputable def lz (six:Bool)(w:Int)(p:Int×Int):Int:=
 if six then (if w=0 then 2 * p.1+p.2 else if w=1 then p.1+2 * p.2 else if w=2 then p.2 - p.1 else if w=3 then -2 * p.1 - p.2 else if w=4 then -p.1 - 2 * p.2 else p.1 - p.2)
 else (if w=0 then p.1 else if w=1 then p.2 else if w=2 then -p.1 else -p.2)
theorem Zi (six:Bool){w:Int}(h0:0<=w)(h1:w < wy six)(p:Int×Int):lz six ((w+1) % wy six) (Pf.tl six p)=lz six w p:=by
 obtain⟨x,y⟩:=p;cases six with
 | false=>
   have h1:w < 4:=h1;have h:w=0\/w=1\/w=2\/w=3:=by omega
   rcases h with rfl | rfl | rfl | rfl <;> simp[lz,Pf.tl,wy]
 | true=>
   have h1:w < 6:=h1;have h:w=0\/w=1\/w=2\/w=3\/w=4\/w=5:=by omega
   rcases h with rfl | rfl | rfl | rfl | rfl | rfl <;> simp[lz,Pf.tl,wy] <;> omega
theorem Sz (six:Bool){w:Int}(h0:0<=w)(h1:w < wy six)(p:Int×Int):∀ n:Nat,lz six ((w+n) % wy six) (tn six n p)=lz six w p
 | 0=>by
   show lz six ((w+0) % wy six) p=_;rw[Int.add_zero,acx h0 h1]
 | n+1=>by
   have hp:=ja six;have a:=aaC (w+n) (abW hp);have b:=aaH (w+n) hp;show lz six ((w+((n+1:Nat):Int)) % wy six) (Pf.tl six (tn six n p))=_;rw[<- Sz six h0 h1 p n,<- Zi six a b]
   congr 1
   rw[Int.emod_add_emod]
   congr 1
   push_cast
   omega
theorem Np (six:Bool){w:Int}(h0:0<=w)(h1:w < wy six)(b:Int)(p:Int×Int):lz six ((w+b) % wy six) (tn six (b % wy six).toNat p)=lz six w p:=by
 have a:=aaC b (abW (ja six));have e:((((b % wy six).toNat:Nat):Int))=b % wy six:=by omega
 have:=Sz six h0 h1 p (b % wy six).toNat;rw[e,Int.add_emod_emod] at this;exact this
def QT (t:dy)(six:Bool):Rl:=fun ds r=>∃ z p,ds=[.obj (t.pc six) [],.int z,sp p]/\(0<=z/\z < wy six)/\r=.ret (.int (lz six z p))
theorem ade {z:Int}(p:Int×Int)(h0:0<=z)(h1:z < 4):pA [Dt.int p.1,Dt.int p.2,Dt.int (-p.1),Dt.int (-p.2)] z=some (Dt.int (lz false z p)):=by
 have h:z=0\/z=1\/z=2\/z=3:=by omega
 rcases h with rfl | rfl | rfl | rfl <;> rfl
theorem adf {z:Int}(p:Int×Int)(h0:0<=z)(h1:z < 6):pA [Dt.int (2 * p.1+p.2),Dt.int (p.1+2 * p.2),Dt.int (p.2 - p.1),Dt.int (-2 * p.1 - p.2),Dt.int (-p.1 - 2 * p.2),Dt.int (p.1 - p.2)] z=some (Dt.int (lz true z p)):=by
 have h:z=0\/z=1\/z=2\/z=3\/z=4\/z=5:=by omega
 rcases h with rfl | rfl | rfl | rfl | rfl | rfl <;> rfl
theorem mod_lt {z m:Int}(h0:0<=z)(h1:z < m):z % m=z:=acx h0 h1
theorem Eb (T:Txt K mg t)(six:Bool):MF P w K mg base CX 3 (t.pc six) "along" 3 (QT t six):=by
 have tT:=om (P:=P) (w:=w) (base:=base) T six;cases six with
 | false=>
   refine⟨T.j7.cl,_,_,_,jb T.iS.F j6 rfl fun bc A outer s H E G ds r hr hl hR=>?_,T.eF,T.iS.b⟩;obtain⟨z,p,rfl,⟨h0,h1⟩,rfl⟩:=hR;exact⟨_,.rt _,(ah (aB 3 j6.nd (aZ (aa 2 rfl) aj rfl))
 (ah (aB 4 j6.nd (aZ (aa 2 rfl) aj rfl))
 (ao (aN (aZ (b9 (ae (aa 3 rfl) (ae (aa 4 rfl) (ae (jU (aa 3 rfl)) (ae (jU (aa 4 rfl)) ai)))) AA3) (bB (aa 0 rfl) tT aD hr (ae (aa 1 rfl) ai) ⟨z,rfl,rfl⟩) (by rw[mod_lt h0 h1];exact ade p h0 h1))))))⟩
 | true=>
   refine⟨T.o6.cl,_,_,_,jb T.kC.F mH rfl fun bc A outer s H E G ds r hr hl hR=>?_,T.gA,T.kC.b⟩;obtain⟨z,p,rfl,⟨h0,h1⟩,rfl⟩:=hR;exact⟨_,.rt _,(ah (aB 3 mH.nd (aZ (aa 2 rfl) aj rfl))
 (ah (aB 4 mH.nd (aZ (aa 2 rfl) aj rfl))
 (ao (aN (aZ (b9 (ae (bU (nA aj (aa 3 rfl) (zm.ok (aaJ ⟨by decide,by decide⟩))) (aa 4 rfl)) (ae (bU (aa 3 rfl) (nA aj (aa 4 rfl) (zm.ok (aaJ ⟨by decide,by decide⟩)))) (ae (mn (aa 4 rfl) (aa 3 rfl)) (ae (mn (nA (jU aj) (aa 3 rfl) (zm.ok (aaJ ⟨by decide,by decide⟩))) (aa 4 rfl)) (ae (mn (jU (aa 3 rfl)) (nA aj (aa 4 rfl) (zm.ok (aaJ ⟨by decide,by decide⟩)))) (ae (mn (aa 3 rfl) (aa 4 rfl)) ai)))))) AA3) (bB (aa 0 rfl) tT aD hr (ae (aa 1 rfl) ai) ⟨z,rfl,rfl⟩) (by rw[mod_lt h0 h1];exact adf p h0 h1))))))⟩
noncomputable def ad (p q:Int×Int):Int×Int:=(p.1+q.1,p.2+q.2)
def QU:Rl:=fun ds r=>∃ p q,ds=[sp p,sp q]/\r=.ret (sp (ad p q))
noncomputable def SA:List Str:=["stroke","step"]
noncomputable def tU (d:Str):Int:=if d="left" then 1 else if d="right" then -1 else 0
noncomputable def xh (six:Bool)(d:Str)(p:Int×Int)(w:Int):(Int×Int)×Int:=(if d∈SA then ad p (tn six (w % wy six).toNat (1,0)) else p,(w+tU d) % wy six)
def QV:Rl:=fun ds r=>∃ d:Str,ds=[.str d]/\r=.ret (.int (tU d))
def VY (t:dy)(six:Bool):Rl:=fun ds r=>∃ w,ds=[.obj (t.pc six) [],.int w]/\r=.ret (sp (tn six (w % wy six).toNat (1,0)))
def QW (t:dy)(six:Bool):Rl:=fun ds r=>∃ d p w,ds=[.obj (t.pc six) [],.str d,sp p,.int w]/\d∈rK/\r=.ret (.tup [sp (xh six d p w).1,.int (xh six d p w).2])
theorem Ec (T:Txt K mg t):GF P w K mg base CX 1 "added" 2 QU:=by
 refine⟨_,_,_,jb T.qN.F MS rfl fun bc A outer s H E G ds r hr hl hR=>?_,(T.g T.qN.a),T.qN.F.kp,T.qN.b⟩;obtain⟨p,q,rfl,rfl⟩:=hR;exact⟨_,.rt _,(ao (aN (b9 (ae (bU (aZ (aa 0 rfl) aj rfl) (aZ (aa 1 rfl) aj rfl)) (ae (bU (aZ (aa 0 rfl) aj rfl) (aZ (aa 1 rfl) aj rfl)) ai)) AA3)))⟩
theorem Nq (T:Txt K mg t):GF P w K mg base CX 1 "turn_of_deed" 1 QV:=by
 refine⟨_,_,_,jb T.fj.F vR rfl fun bc A outer s H E G ds r hr hl hR=>?_,(T.g T.fj.a),T.fj.F.kp,T.fj.b⟩;obtain⟨d,rfl,rfl⟩:=hR;by_cases c0:d="left"
 . rw[show tU d=1 from if_pos c0]
   exact⟨_,.rt _,cI (aL (rS (aa 0 rfl) cf) (fun h=>ao (aN aj)) (fun h=>absurd c0 (of_decide_eq_false h)))⟩
 by_cases c1:d="right"
 . rw[show tU d=-1 by unfold tU;rw[if_neg c0,if_pos c1]]
   exact⟨_,.rt _,ah (aL (rS (aa 0 rfl) cf) (fun h=>absurd (of_decide_eq_true h) c0) (fun h=>aS)) (cI (aL (rS (aa 0 rfl) cf) (fun h=>ao (aN (jU aj))) (fun h=>absurd c1 (of_decide_eq_false h))))⟩
 . rw[show tU d=0 by unfold tU;rw[if_neg c0,if_neg c1]]
   exact⟨_,.rt _,ah (aL (rS (aa 0 rfl) cf) (fun h=>absurd (of_decide_eq_true h) c0) (fun h=>aS)) (ah (aL (rS (aa 0 rfl) cf) (fun h=>absurd (of_decide_eq_true h) c1) (fun h=>aS)) (ao (aN aj)))⟩
theorem QX (T:Txt K mg t)(six:Bool):MF P w K mg base CX 4 (t.pc six) "step" 2 (VY t six):=by
 refine⟨Ib T six,_,_,_,jb T.o8.F DG rfl fun bc A outer s H E G ds r hr hl hR=>?_,Ia T.hU T.jG,T.o8.b⟩;obtain⟨z,rfl,rfl⟩:=hR;have h1:=AD (P:=P) (w:=w) (base:=base) T six;exact⟨_,.rt _,ao (aN (bB (aa 0 rfl) h1 aD hr (ae (b9 (ae aj (ae aj ai)) AA3) (ae (aa 1 rfl) ai)) ⟨(1,0),z,rfl,rfl⟩))⟩
theorem Nr (T:Txt K mg t)(six:Bool):MF P w K mg base CX 5 (t.pc six) "after" 4 (QW t six):=by
 refine⟨Ib T six,_,_,_,jb T.m9.F sZ rfl fun bc A outer s H E G ds r hr hl hR=>?_,Ia T.gz T.i4,T.m9.b⟩;obtain⟨d,p,z,rfl,hd,rfl⟩:=hR;have h1:=QX (P:=P) (w:=w) (base:=base) T six;have h4:=om (P:=P) (w:=w) (base:=base) T six;by_cases c:d∈SA
 . rw[show xh six d p z=(ad p (tn six (z % wy six).toNat (1,0)),(z+tU d) % wy six) by unfold xh;rw[if_pos c]]
   exact⟨_,.rt _,(ah (aL (Hr (xs:=rK) (aa 1 rfl) (iz (w:=.ref t.lW) T.BS rfl T.BU)) (fun h=>absurd h (by simp[hd])) (fun h=>aS))
 (ah (aL (Fv (xs:=SA) (aa 1 rfl) (iz (w:=.ref t.dA) T.rH rfl T.rJ)) (fun h=>
     (ao (aB 2 sZ.nd (cS (Ec T) aD hr (ae (aa 2 rfl) (ae (bB (aa 0 rfl) h1 aD hr (ae (aa 3 rfl) ai) ⟨_,rfl,rfl⟩) ai)) ⟨_,_,rfl,rfl⟩)))) (fun h=>absurd c (of_decide_eq_false h)))
 (ao (aN (b9 (ae (aa 2 rfl) (ae (bB (aa 0 rfl) h4 aD hr (ae (bU (aa 3 rfl) (cS (Nq T) aD hr (ae (aa 1 rfl) ai) ⟨_,rfl,rfl⟩)) ai) ⟨_,rfl,rfl⟩) ai)) AA3)))))⟩
 . rw[show xh six d p z=(p,(z+tU d) % wy six) by unfold xh;rw[if_neg c]]
   exact⟨_,.rt _,(ah (aL (Hr (xs:=rK) (aa 1 rfl) (iz (w:=.ref t.lW) T.BS rfl T.BU)) (fun h=>absurd h (by simp[hd])) (fun h=>aS))
 (ah (aL (Fv (xs:=SA) (aa 1 rfl) (iz (w:=.ref t.dA) T.rH rfl T.rJ)) (fun h=>absurd (of_decide_eq_true h) c) (fun h=>aS))
 (ao (aN (b9 (ae (aa 2 rfl) (ae (bB (aa 0 rfl) h4 aD hr (ae (bU (aa 3 rfl) (cS (Nq T) aD hr (ae (aa 1 rfl) ai) ⟨_,rfl,rfl⟩)) ai) ⟨_,rfl,rfl⟩) ai)) AA3)))))⟩
def sm (p:Int×Int):Prop:=p.1.natAbs < 2 ^ 1000/\p.2.natAbs < 2 ^ 1000
noncomputable def cr (p q:Int×Int):Int:=p.1 * q.2 - p.2 * q.1
def QY:Rl:=fun ds r=>∃ p q,ds=[sp p,sp q]/\(sm p/\sm q)/\r=.ret (.int (cr p q))
theorem Nt (T:Txt K mg t):GF P w K mg base CX 1 "cross" 2 QY:=by
 refine⟨_,_,_,jb T.qO.F MT rfl fun bc A outer s H E G ds r hr hl hR=>?_,(T.g T.qO.a),T.qO.F.kp,T.qO.b⟩;obtain⟨p,q,rfl,⟨hp,hq⟩,rfl⟩:=hR;exact⟨_,.rt _,(ao (aN (mn (nA (aZ (aa 0 rfl) aj rfl) (aZ (aa 1 rfl) aj rfl) (Sy hp.1 hq.2 (by decide))) (nA (aZ (aa 0 rfl) aj rfl) (aZ (aa 1 rfl) aj rfl) (Sy hp.2 hq.1 (by decide))))))⟩
structure Tr where
 many:Int
 turn:Int
 shift:Int×Int
 eV:Int
 reach:List Int
 cC:List Int
 pj:Int
noncomputable def dy.trK (t:dy)(six:Bool)(x:Tr):List (Str×FD):=[("drawer",.obj (t.pc six) []),("deed_count",.int x.many),("last_way",.int x.turn),("last_spot",.tup t.K [x.shift.1,x.shift.2]),("stroke_count",.int x.eV),("reaches",.lst x.reach),("touches",.lst x.cC),("crosses",.int x.pj)]
noncomputable def dy.kX (t:dy)(six:Bool)(x:Tr):List (Str×Dt):=[("drawer",.jf (.obj (t.pc six) [])),("deed_count",.int x.many),("last_way",.int x.turn),("last_spot",.jf (.tup t.K [x.shift.1,x.shift.2])),("stroke_count",.int x.eV),("reaches",.jf (.lst x.reach)),("touches",.jf (.lst x.cC)),("crosses",.int x.pj)]
noncomputable def dy.Gp (t:dy)(six:Bool)(x:Tr):Dt:=.obj t.aA (t.kX six x)
noncomputable def dy.rL (t:dy)(six:Bool)(x:Tr):Dt:=.jf (.obj t.aA (t.trK six x))
theorem qp {X:Cx}{G:Gr}{dl:List Slot}{e:Expr}{t:dy}{six:Bool}{x:Tr}(h:EE X G dl e (t.rL six x)):EE X G dl e (t.Gp six x):=Sv h
theorem Gq {X:Cx}{G:Gr}{dl:List Slot}{e:Expr}{t:dy}{six:Bool}{x:Tr}(h:EO X G dl e (.obj t.aA (t.kX six x))):EE X G dl e (t.rL six x):=MQ (fs:=t.trK six x) h
theorem mL {X:Cx}{G:Gr}{dl:List Slot}{e:Expr}{t:dy}{six:Bool}(h:EE X G dl e (.jf (.obj (t.pc six) []))):EE X G dl e (.obj (t.pc six) []):=Sv h
theorem yM {X:Cx}{G:Gr}{dl:List Slot}{e:Expr}{K':W.Frag}{p:Int×Int}(hK:K'=X.K)(h:EE X G dl e (.jf (.tup K' [p.1,p.2]))):EE X G dl e (sp p):=VB h hK
theorem Gs {X:Cx}{G:Gr}{dl:List Slot}{e:Expr}{K':W.Frag}{p:Int×Int}(hK:K'=X.K)(h:EE X G dl e (sp p)):EE X G dl e (.jf (.tup K' [p.1,p.2])):=VC (ns:=[p.1,p.2]) h hK
noncomputable def wn (six:Bool):Nat:=if six then 6 else 4
theorem yN (six:Bool):(wn six:Int)=wy six:=by cases six <;> rfl
noncomputable def rM (six:Bool)(ns:List Int)(f:Int):List Int:=(aan (wn six)).map fun(w:Nat)=>ns.getD (((w:Int) - f) % wy six).toNat 0
noncomputable def zU (six:Bool)(x y:Tr)(w:Nat):Int:=if (rM six y.reach x.turn).getD w 0+lz six w x.shift<=x.reach.getD w 0 then x.reach.getD w 0 else (rM six y.reach x.turn).getD w 0+lz six w x.shift
noncomputable def B3 (six:Bool)(x y:Tr)(w:Nat):Int:=if (rM six y.reach x.turn).getD w 0+lz six w x.shift<=x.reach.getD w 0 then x.cC.getD w 0 else (rM six y.cC x.turn).getD w 0+x.many
noncomputable def jn (six:Bool)(x y:Tr):Tr where
 many:=x.many+y.many
 turn:=(x.turn+y.turn) % wy six
 shift:=ad x.shift (tn six (x.turn % wy six).toNat y.shift)
 eV:=x.eV+y.eV
 reach:=(aan (wn six)).map (zU six x y)
 cC:=(aan (wn six)).map (B3 six x y)
 pj:=x.pj+y.pj+cr x.shift (tn six (x.turn % wy six).toNat y.shift)
noncomputable def ET (six:Bool):Tr:=⟨0,0,(0,0),0,aal (wn six) 0,aal (wn six) 0,0⟩
noncomputable def one (six:Bool)(d:Str):Tr:=⟨1,(xh six d (0,0) 0).2,(xh six d (0,0) 0).1,if d="stroke" then 1 else 0,(aan (wn six)).map fun(w:Nat)=>if lz six w (xh six d (0,0) 0).1 > 0 then lz six w (xh six d (0,0) 0).1 else 0,
 (aan (wn six)).map fun(w:Nat)=>if (if lz six w (xh six d (0,0) 0).1 > 0 then lz six w (xh six d (0,0) 0).1 else 0) < 1 then (if lz six w (xh six d (0,0) 0).1 > 0 then lz six w (xh six d (0,0) 0).1 else 0) else 1,0⟩
noncomputable def b8 (six:Bool)(ds:List Str):Tr:=ds.foldl (fun x d=>jn six x (one six d)) (ET six)
structure WF (six:Bool)(x:Tr):Prop where
 rl:x.reach.length=wn six
 tl:x.cC.length=wn six
 sm:x.shift.1.natAbs < 2 ^ 990/\x.shift.2.natAbs < 2 ^ 990
def VZ (t:dy):Rl:=fun ds r=>∃ six x,ds=[.jf (.obj (t.pc six) []),.int x.many,.int x.turn,.jf (.tup t.K [x.shift.1,x.shift.2]),.int x.eV,.jf (.lst x.reach),.jf (.lst x.cC),.int x.pj]/\r=.own (.obj t.aA (t.kX six x))
def Ic (t:dy)(f:Tr->Dt):Rl:=fun ds r=>∃ six x,ds=[t.Gp six x]/\r=.ret (f x)
def B4 (t:dy):Rl:=fun ds r=>∃ six x f,ds=[t.Gp six x,.int f]/\r=.ret (sp (tn six (f % wy six).toNat x.shift))
def Zj (t:dy):Rl:=fun ds r=>∃ six x ns f,ds=[t.Gp six x,.rq ns,.int f]/\ns.length=wn six/\r=.own (.lst ((rM six ns f).map .int))
def B5 (t:dy):Rl:=fun ds r=>∃ six x f,ds=[t.Gp six x,.int f]/\WF six x/\r=.own (.lst ((rM six x.reach f).map .int))
def B6 (t:dy):Rl:=fun ds r=>∃ six x f,ds=[t.Gp six x,.int f]/\WF six x/\r=.own (.lst ((rM six x.cC f).map .int))
def Nu (t:dy):Rl:=fun ds r=>∃ six x y,ds=[t.Gp six x,t.Gp six y]/\(WF six x/\WF six y)/\r=.ret (t.rL six (jn six x y))
def QZ (t:dy):Rl:=fun ds r=>∃ six,ds=[.jf (.obj (t.pc six) [])]/\r=.ret (t.rL six (ET six))
def J7 (t:dy):Rl:=fun ds r=>∃ six d,ds=[.jf (.obj (t.pc six) []),.str d]/\d∈rK/\r=.ret (t.rL six (one six d))
def Gu (t:dy):Rl:=fun ds r=>∃ (six:Bool) (xs:List Str),ds=[.jf (.obj (t.pc six) []),.lst (xs.map .str)]/\(∀ d∈xs,d∈rK)/\xs.length<=1000/\r=.ret (t.rL six (b8 six xs))
theorem B7 (T:Txt K mg t):W0 P w K mg base CX 1 "Track" t.aA 9 (VZ t):=by
 refine⟨_,_,_,fnI T.l1.F zC rfl fun bc A outer s H E G z ds r hr hl hR=>?_,T.yB,(T.g T.aF.a),T.l1.b⟩;obtain⟨six,x,rfl,rfl⟩:=hR;exact⟨_,.nx rfl,ah (k8 (aa 1 rfl) T.aF.cl T.d0) (ah (k8 (aa 2 rfl) T.aF.cl T.bM) (ah (k8 (aa 3 rfl) T.aF.cl T.bO) (ah (k8 (aa 4 rfl) T.aF.cl T.bu)
   (ah (k8 (aa 5 rfl) T.aF.cl T.cB) (ah (k8 (aa 6 rfl) T.aF.cl T.cG) (ah (k8 (aa 7 rfl) T.aF.cl T.fh) (ao (k8 (aa 8 rfl) T.aF.cl T.fi))))))))⟩
theorem Ie (T:Txt K mg t):MF P w K mg base CX 1 t.aA "many" 1 (Ic t fun x=>.int x.many):=by
 refine⟨T.aF.cl,_,_,_,jb T.l2.F zD rfl fun bc A outer s H E G ds r hr hl hR=>?_,T.hX,T.l2.b⟩;obtain⟨six,x,rfl,rfl⟩:=hR;exact⟨_,.rt _,ao (aN (aI (fs:=t.kX six x) (aa 0 rfl) T.aF.cl T.bM rfl))⟩
theorem B8 (T:Txt K mg t):MF P w K mg base CX 1 t.aA "turn" 1 (Ic t fun x=>.int x.turn):=by
 refine⟨T.aF.cl,_,_,_,jb T.l3.F zE rfl fun bc A outer s H E G ds r hr hl hR=>?_,T.hZ,T.l3.b⟩;obtain⟨six,x,rfl,rfl⟩:=hR;exact⟨_,.rt _,ao (aN (aI (fs:=t.kX six x) (aa 0 rfl) T.aF.cl T.bO rfl))⟩
theorem yO (T:Txt K mg t):MF P w K mg base CX 1 t.aA "strokes" 1 (Ic t fun x=>.int x.eV):=by
 refine⟨T.aF.cl,_,_,_,jb T.iT.F uN rfl fun bc A outer s H E G ds r hr hl hR=>?_,T.fJ,T.iT.b⟩;obtain⟨six,x,rfl,rfl⟩:=hR;exact⟨_,.rt _,ao (aN (aI (fs:=t.kX six x) (aa 0 rfl) T.aF.cl T.cB rfl))⟩
theorem Ig (T:Txt K mg t):MF P w K mg base CX 1 t.aA "area" 1 (Ic t fun x=>.int x.pj):=by
 refine⟨T.aF.cl,_,_,_,jb T.l4.F zI rfl fun bc A outer s H E G ds r hr hl hR=>?_,T.ia,T.l4.b⟩;obtain⟨six,x,rfl,rfl⟩:=hR;exact⟨_,.rt _,ao (aN (aI (fs:=t.kX six x) (aa 0 rfl) T.aF.cl T.fi rfl))⟩
theorem Ed (T:Txt K mg t):jh P w K mg base CX 4 t.cM t.kl ["self","first"] (Fg K 2 (B4 t)):=by
 refine fnG T.zN yn rfl fun bc A outer s H E G ds r hr hl hR=>?_
 obtain⟨six,x,f,rfl,rfl⟩:=hR;have h1:=AD (P:=P) (w:=w) (base:=base) T six;exact⟨_,.rt _,ao (aN (bB (mL (aI (fs:=t.kX six x) (aa 0 rfl) T.aF.cl T.d0 rfl)) h1 aD hr (ae (yM T.hK (aI (fs:=t.kX six x) (aa 0 rfl) T.aF.cl T.bu rfl)) (ae (aa 1 rfl) ai)) ⟨_,_,rfl,rfl⟩))⟩
theorem rep0 {K:W.Frag}:∀ H,bK K H [.int 0] [.int 0]:=fun _=>.cons (.int 0) .nil
theorem Nv (T:Txt K mg t):Ho P w K mg base CX 4 t.aA "shift" 2 [] (B4 t):=⟨T.aF.cl,_,_,_,[],[],Ed T,T.eA,T.zO,.nil,fun _=>.nil⟩
theorem AE (T:Txt K mg t):Ho P w K mg base CX 4 t.aA "shift" 2 [.int 0] (B4 t):=⟨T.aF.cl,_,_,_,_,[.int 0],Ed T,T.eA,T.yD,.cons ⟨_,rfl⟩ .nil,rep0⟩
noncomputable abbrev Gv:Scope:=Ym ((aG fR).getD 0 (.Pass ⟨0,0,0,0⟩))
theorem Gw:xX Gv (af fR) pE ["way","self","numbers","first"] [0,1,2] "way"=true:=by decide +kernel
theorem yP {ns:List Int}{k:Int}(h0:0<=k)(h1:k < ns.length):pA ns k=some (ns.getD k.toNat 0):=by
 obtain⟨n,rfl⟩:=Int.eq_ofNat_of_zero_le h0;refine lE ?_;have h:n < ns.length:=by omega
 rw[aab h,abn,aae,aab h];rfl
theorem qT {f:Nat->Int}{n k:Nat}(h:k < n):(((aan n).map f).map Dt.int).getD k .cz=.int (f k):=by
 rw[aae,aaf,aaf,aaP h];rfl
theorem yQ (T:Txt K mg t):MF P w K mg base CX 3 t.aA "by_ways" 3 (Zj t):=by
 refine⟨T.aF.cl,_,_,_,jb T.iU.F uO rfl fun bc A outer s H E G ds r hr hl hR=>?_,T.fK,T.iU.b⟩;obtain⟨six,x,ns,f,rfl,hn,rfl⟩:=hR;have h1:=om (P:=P) (w:=w) (base:=base) T six;have hw:=yN six;have hw6:wn six<=6:=by cases six <;> decide
 have sD:ns.length=wn six:=hn;refine⟨_,.ro _,ao (fB (Yk (N:=["way","self","numbers","first"]) (ix:=[0,1,2]) rfl (Fu Gw) (uf rfl T.kF (ae (A8 T.mK (aa 1 rfl)) ai)) (xS ?_) (fun k hk C fp s' H' G'=>?_) ?_ ?_))⟩
 . omega
 . rw[abn,sD] at hk
   have e:((rM six ns f).map Dt.int).getD k .cz=.int (ns.getD (((k:Int) - f) % wy six).toNat 0):=qT hk;rw[e];have OK:=aaC ((k:Int) - f) (abW (ja six));have hm1:=aaH ((k:Int) - f) (ja six);exact uv (aa 2 rfl) (bB (mL (aI (fs:=t.kX six x) (aa 1 rfl) T.aF.cl T.d0 rfl)) h1 aD hr (ae (mn (aa 0 rfl) (aa 3 rfl)) ai) ⟨_,rfl,rfl⟩) (yP OK (by omega))
 . rw[aaa,abn,sD]
   unfold rM;simp
 . rw[abn]
   exact abG (uq (by omega))
theorem Ee (T:Txt K mg t):jh P w K mg base CX 4 t.cN t.km ["self","first"] (Fg K 2 (B5 t)):=by
 refine fnG T.zP yo rfl fun bc A outer s H E G ds r hr hl hR=>?_
 obtain⟨six,x,f,rfl,hw,rfl⟩:=hR;have h1:=Ft (yQ (P:=P) (w:=w) (base:=base) T);exact⟨_,.ro _,ao (fB (De (fs:=t.kX six x) (aa 0 rfl) h1 aD hr (ae (rZ (aI (fs:=t.kX six x) (aa 0 rfl) T.aF.cl T.cG rfl)) (ae (aa 1 rfl) ai)) ⟨six,x,_,_,rfl,hw.rl,rfl⟩))⟩
theorem Ef (T:Txt K mg t):jh P w K mg base CX 4 t.cO t.ko ["self","first"] (Fg K 2 (B6 t)):=by
 refine fnG T.zR yp rfl fun bc A outer s H E G ds r hr hl hR=>?_
 obtain⟨six,x,f,rfl,hw,rfl⟩:=hR;have h1:=Ft (yQ (P:=P) (w:=w) (base:=base) T);exact⟨_,.ro _,ao (fB (De (fs:=t.kX six x) (aa 0 rfl) h1 aD hr (ae (rZ (aI (fs:=t.kX six x) (aa 0 rfl) T.aF.cl T.fh rfl)) (ae (aa 1 rfl) ai)) ⟨six,x,_,_,rfl,hw.tl,rfl⟩))⟩
theorem Nw (T:Txt K mg t):Ho P w K mg base CX 4 t.aA "reach" 2 [] (B5 t):=⟨T.aF.cl,_,_,_,[],[],Ee T,T.eB,T.zQ,.nil,fun _=>.nil⟩
theorem Nx (T:Txt K mg t):Ho P w K mg base CX 4 t.aA "touch" 2 [] (B6 t):=⟨T.aF.cl,_,_,_,[],[],Ef T,T.eC,T.zS,.nil,fun _=>.nil⟩
theorem J8 (T:Txt K mg t):Ho P w K mg base CX 4 t.aA "reach" 2 [.int 0] (B5 t):=⟨T.aF.cl,_,_,_,_,[.int 0],Ee T,T.eB,T.yE,.cons ⟨_,rfl⟩ .nil,rep0⟩
theorem J9 (T:Txt K mg t):Ho P w K mg base CX 4 t.aA "touch" 2 [.int 0] (B6 t):=⟨T.aF.cl,_,_,_,_,[.int 0],Ef T,T.eC,T.yF,.cons ⟨_,rfl⟩ .nil,rep0⟩
theorem Eg (T:Txt K mg t):GF P w K mg base CX 3 "still" 1 (QZ t):=by
 refine⟨_,_,_,jb T.qP.F MV rfl fun bc A outer s H E G ds r hr hl hR=>?_,(T.g T.qP.a),T.qP.F.kp,T.qP.b⟩;obtain⟨six,rfl,rfl⟩:=hR;have h1:=xf (P:=P) (w:=w) (base:=base) T six;have e:∀ {X:Cx} {G:Gr} {dl:List Slot} {e:Expr},EO X G dl e (.lst (aal (wy six).toNat [Dt.int 0]).flatten)->EE X G dl e (.jf (.lst (aal (wn six) (0:Int)))):=fun h=>by
   refine VD (LG h ?_);cases six <;> rfl
 have hb:-(2 ^ 63)<=wy six/\wy six < 2 ^ 63/\[Dt.int 0].length * (wy six).toNat<=sizeLine:=by cases six <;> decide
 exact⟨_,.rt _,ao (aN (Gq (wF (B7 T) aD hr (ae (aa 0 rfl) (ae aj (ae aj (ae (Gs (p:=(0,0)) T.hK (b9 (ae aj (ae aj ai)) AA3)) (ae aj
   (ae (e (LH (Lj (ae aj ai) AA3) (cD (mL (aa 0 rfl)) h1 aD hr ⟨rfl,rfl⟩) hb.1 hb.2.1 hb.2.2)) (ae (e (LH (Lj (ae aj ai) AA3) (cD (mL (aa 0 rfl)) h1 aD hr ⟨rfl,rfl⟩) hb.1 hb.2.1 hb.2.2)) (ae aj ai)))))))) ⟨six,ET six,rfl,rfl⟩)))⟩
noncomputable abbrev V0:Scope:=Ym ((aG cY).getD 2 (.Pass ⟨0,0,0,0⟩))
noncomputable abbrev V1:Scope:=Ym ((aG cY).getD 3 (.Pass ⟨0,0,0,0⟩))
theorem V2:xX V0 (af cY) lp ["way","pen","spot"] [0,3] "way"=true:=by decide +kernel
theorem V3:xX V1 (af cY) lp ["reach"] [] "reach"=true:=by decide +kernel
noncomputable def pk (six:Bool)(d:Str)(w:Nat):Int:=if lz six w (xh six d (0,0) 0).1 > 0 then lz six w (xh six d (0,0) 0).1 else 0
theorem Gx (T:Txt K mg t):GF P w K mg base CX 6 "track_of_deed" 2 (J7 t):=by
 refine⟨_,_,_,jb T.d5.F nZ rfl fun bc A outer s H E G ds r hr hl hR=>?_,(T.g T.d5.a),T.d5.F.kp,T.d5.b⟩;obtain⟨six,d,rfl,hd,rfl⟩:=hR;have h1:=xf (P:=P) (w:=w) (base:=base) T six;have h3:=Nr (P:=P) (w:=w) (base:=base) T six;have h4:=Eb (P:=P) (w:=w) (base:=base) T six;have hw:=yN six;have hw6:wn six<=6:=by cases six <;> decide
 have Zk:(wy six).toNat=wn six:=by omega
 have nd:=nZ.nd;refine⟨_,.rt _,ah (aB 2 nd (bB (mL (aa 0 rfl)) h3 aD hr (ae (aa 1 rfl) (ae (b9 (ae aj (ae aj ai)) AA3) (ae aj ai))) ⟨d,(0,0),0,rfl,hd,rfl⟩)) (ah (aB 3 nd (aZ (aa 2 rfl) aj rfl))
   (ah (RZ (ys:=((aan (wn six)).map (pk six d)).map .int) 4 (N:=["way","pen","spot"]) (ix:=[0,3]) rfl nd (Fu V2) (uf rfl T.kF (ae (cD (mL (aa 0 rfl)) h1 aD hr ⟨rfl,rfl⟩) ai)) (xS ?_) (fun k hk C fp s' H' G'=>?_) ?_ ?_)
   (wL (ns:=(aan (wn six)).map (pk six d)) 4 (ah (RZ (ys:=((aan (wn six)).map (fun k=>if pk six d k < 1 then pk six d k else 1)).map .int) 5 (N:=["reach"]) (ix:=[]) rfl nd (Fu V3) (mV (rZ (aa 4 rfl))) Qx (fun k hk C fp s' H' G'=>?_) ?_ ?_)
   (wL (ns:=(aan (wn six)).map fun k=>if pk six d k < 1 then pk six d k else 1) 5 (ao (aN (Gq (wF (B7 T) aD hr (ae (aa 0 rfl) (ae aj (ae (aZ (aa 2 rfl) aj rfl) (ae (Gs T.hK (aa 3 rfl)) (ae (bI (d:=.int (if d="stroke" then 1 else 0)) ?_ rfl) (ae (aa 4 rfl) (ae (aa 5 rfl) (ae aj ai)))))))) ⟨six,one six d,rfl,rfl⟩)))))))))⟩
 . omega
 . rw[Zk] at hk
   rw[qT hk];exact UD T.MX rfl (ae aj (ae (bB (mL (aa 1 rfl)) h4 aD hr (ae (aa 0 rfl) (ae (aa 2 rfl) ai)) ⟨_,_,rfl,⟨by omega,by omega⟩,rfl⟩) ai))
 . rw[aaa,aaa,aa6,Zk]
 . rw[Zk];exact abG (uq (by omega))
 . rw[aaa,aa6] at hk
   rw[show(((aan (wn six)).map (fun k=>if pk six d k < 1 then pk six d k else 1)).map Dt.int).getD k .cz=.int (if pk six d k < 1 then pk six d k else 1) from qT hk];have e:((List.map (pk six d) (aan (wn six))).map Dt.int).getD k .cz=.int (pk six d k):=qT hk;refine LI (i:=1) (j:=pk six d k) T.HS rfl (ae aj (ae ?_ ai));rw[<- e];exact aa 0 rfl
 . simp
 . rw[aaa,aa6];exact abG (uq (by omega))
 . exact Uo (rS (aa 1 rfl) cf) (fun h=>bI aj (by rw[if_pos (of_decide_eq_true h)])) (fun h=>bI aj (by rw[if_neg (of_decide_eq_false h)]))
theorem xi {f g:Nat->Int}{n k:Nat}(h:k < n):((aan n).map fun w=>if w < k then f w else g w).set k (f k)=(aan n).map fun w=>if w < k+1 then f w else g w:=by
 refine List.ext_getElem? fun i=>?_
 by_cases hi:i < n
 . by_cases e:k=i
   . subst e
     rw[aag (by simp;exact h),aaf,aaP h];simp
   . rw[aah e,aaf,aaf,aaP hi]
     have:(i < k+1) ↔ (i < k):=by omega
     simp[this]
 . rw[aau (by simp;omega),aau (by simp;omega)]
theorem SD {f g:Nat->Int}{n:Nat}:((aan n).map fun w=>if w < 0 then f w else g w)=(aan n).map g:=by simp
theorem SE {f g:Nat->Int}{n:Nat}:((aan n).map fun w=>if w < n then f w else g w)=(aan n).map f:=by
 refine acK fun i hi=>?_
 rw[if_pos (acs.mp hi)]
theorem tV {l:List Int}{k:Nat}{z:Int}:(l.map Dt.int).set k (.int z)=(l.set k z).map Dt.int:=by rw[List.map_set]
theorem Ih (six:Bool)(ns:List Int)(f:Int):(aan (wn six)).map (fun w=>(rM six ns f).getD w 0)=rM six ns f:=by
 refine List.ext_getElem? fun i=>?_
 by_cases hi:i < wn six
 . rw[aaf,aaP hi]
   have hl:i < (rM six ns f).length:=by unfold rM;simpa using hi
   rw[aab hl];simp[aae,hl]
 . rw[aau (by simp;omega),aau (by unfold rM;simp;omega)]
theorem Q0 {n k:Nat}(h:k < n):CN n (k:Int)=some k:=by
 unfold CN;simp[h]
theorem Zl {six:Bool}{b:Int}{p:Int×Int}(h:p.1.natAbs < 2 ^ 990/\p.2.natAbs < 2 ^ 990):sm (tn six (b % wy six).toNat p):=by
 obtain⟨x,y⟩:=p;obtain⟨h1,h2⟩:=h;simp only at h1 h2;unfold sm;cases six with
 | false=>
   have e:wy false=4:=rfl;rw[e];have h:b % 4=0\/b % 4=1\/b % 4=2\/b % 4=3:=by omega
   rcases h with h | h | h | h <;> rw[h] <;> simp[tn,Pf.tl] <;> omega
 | true=>
   have e:wy true=6:=rfl;rw[e];have h:b % 6=0\/b % 6=1\/b % 6=2\/b % 6=3\/b % 6=4\/b % 6=5:=by omega
   rcases h with h | h | h | h | h | h <;> rw[h] <;> simp[tn,Pf.tl] <;> omega
theorem AF (T:Txt K mg t):MF P w K mg base CX 5 t.aA "joined" 2 (Nu t):=by
 refine⟨T.aF.cl,_,_,_,jb T.jI.F pF rfl fun bc A outer s H E G ds r hr hl hR=>?_,T.f9,T.jI.b⟩;obtain⟨six,x,y,rfl,⟨wx,wy'⟩,rfl⟩:=hR;have V4:=xf (P:=P) (w:=w) (base:=base) T six;have Ii:=Eb (P:=P) (w:=w) (base:=base) T six;have tT:=om (P:=P) (w:=w) (base:=base) T six;have hw:=yN six;have Zk:(wy six).toNat=wn six:=by omega
 have hw6:wn six<=6:=by cases six <;> decide
 have nd:=pF.nd;let S:Nat->List Slot:=fun k=>[.val (t.Gp six x),.val (t.Gp six y),.val (.jf (.obj (t.pc six) [])),.val (sp (tn six (x.turn % wy six).toNat y.shift)),
   .own (.lst (((aan (wn six)).map fun w=>if w < k then zU six x y w else (rM six y.reach x.turn).getD w 0).map .int)),
   .own (.lst (((aan (wn six)).map fun w=>if w < k then B3 six x y w else (rM six y.cC x.turn).getD w 0).map .int)),.aY]
 have e0:S 0=[.val (t.Gp six x),.val (t.Gp six y),.val (.jf (.obj (t.pc six) [])),.val (sp (tn six (x.turn % wy six).toNat y.shift)),.own (.lst ((rM six y.reach x.turn).map .int)),.own (.lst ((rM six y.cC x.turn).map .int)),.aY]:=by
   show [_,_,_,_,Slot.own (.lst (((aan (wn six)).map fun w=>if w < 0 then _ else _).map .int)),Slot.own (.lst (((aan (wn six)).map fun w=>if w < 0 then _ else _).map .int)),_]=_;rw[SD,SD,Ih,Ih]
 have en:S (wn six)=[.val (t.Gp six x),.val (t.Gp six y),.val (.jf (.obj (t.pc six) [])),.val (sp (tn six (x.turn % wy six).toNat y.shift)),.own (.lst ((jn six x y).reach.map .int)),.own (.lst ((jn six x y).cC.map .int)),.aY]:=by
   show [_,_,_,_,Slot.own (.lst (((aan (wn six)).map fun w=>if w < wn six then _ else _).map .int)),Slot.own (.lst (((aan (wn six)).map fun w=>if w < wn six then _ else _).map .int)),_]=_;rw[SE,SE];rfl
 refine⟨_,.rt _,ah (aB 2 nd (aI (fs:=t.kX six x) (aa 0 rfl) T.aF.cl T.d0 rfl))
   (ah (aB 3 nd (LO (fs:=t.kX six y) (aa 1 rfl) (Nv T) aD hr (ae (aI (fs:=t.kX six x) (aa 0 rfl) T.aF.cl T.bO rfl) ai) ⟨six,y,_,rfl,rfl⟩))
   (ah (mY 4 nd (De (fs:=t.kX six y) (aa 1 rfl) (Nw T) aD hr (ae (aI (fs:=t.kX six x) (aa 0 rfl) T.aF.cl T.bO rfl) ai) ⟨six,y,_,rfl,wy',rfl⟩))
   (ah (mY 5 nd (De (fs:=t.kX six y) (aa 1 rfl) (Nx T) aD hr (ae (aI (fs:=t.kX six x) (aa 0 rfl) T.aF.cl T.bO rfl) ai) ⟨six,y,_,rfl,wy',rfl⟩))
   (ah (l9 (m:=wn six) 6 S nd rfl PassesOwn.leaving T.kF (ae (cD (mL (aa 2 rfl)) V4 aD hr ⟨rfl,rfl⟩) ai) ⟨by omega,by omega⟩ (by rw[e0];exact Le.of ⟨rfl,rfl,rfl,rfl,rfl,rfl,trivial⟩) (by omega) (fun k hk=>?_) (by rw[Zk];exact .all rfl))
   ?_))))⟩
 . have hk':k < ((aan (wn six)).map fun w=>if w < k then zU six x y w else (rM six y.reach x.turn).getD w 0).length:=by simpa using hk
   have ahF:k < ((aan (wn six)).map fun w=>if w < k then B3 six x y w else (rM six y.cC x.turn).getD w 0).length:=by simpa using hk
   have ga:∀ (f g:Nat->Int) (z:Int),pA ((((aan (wn six)).map fun w=>if w < k then f w else g w)).map Dt.int) (k:Int)=some (.int (g k)):=fun f g z=>by
     refine lE ?_;rw[aaf,aaf,aaP hk];simp
   have gs:∀ (l:List Int) (z:Int),l.length=wn six->pA ((l.map Dt.int).set k (.int z)) (k:Int)=some (.int z):=fun l z hl=>by
     refine lE ?_;rw[aag (by simp;omega)]
   have ix:∀ (l:List Dt),l.length=wn six->CN l.length (k:Int)=some k:=fun l hl=>Q0 (by omega)
   have xr:pA x.reach (k:Int)=some (x.reach.getD k 0):=by
     have:=yP (ns:=x.reach) (k:=k) (by omega) (by rw[wx.rl];omega);simpa using this
   have xt:pA x.cC (k:Int)=some (x.cC.getD k 0):=by
     have:=yP (ns:=x.cC) (k:=k) (by omega) (by rw[wx.tl];omega);simpa using this
   have lA:(((aan (wn six)).map fun w=>if w < k then zU six x y w else (rM six y.reach x.turn).getD w 0).map Dt.int).length=wn six:=by simp
   have lB:(((aan (wn six)).map fun w=>if w < k then B3 six x y w else (rM six y.cC x.turn).getD w 0).map Dt.int).length=wn six:=by simp
   have lA0:((aan (wn six)).map fun w=>if w < k then zU six x y w else (rM six y.reach x.turn).getD w 0).length=wn six:=by simp
   have iA:=ix _ lA;have iB:=ix _ lB;have iA':∀ z,CN (abI (List.set (((aan (wn six)).map fun w=>if w < k then zU six x y w else (rM six y.reach x.turn).getD w 0).map Dt.int) k z)) (k:Int)=some k:=fun z=>ix _ (by rw[acI];exact lA)
   have iB':∀ z,CN (abI (List.set (((aan (wn six)).map fun w=>if w < k then B3 six x y w else (rM six y.cC x.turn).getD w 0).map Dt.int) k z)) (k:Int)=some k:=fun z=>ix _ (by rw[acI];exact lB)
   by_cases c:(rM six y.reach x.turn).getD k 0+lz six k x.shift<=x.reach.getD k 0
   . have eR:zU six x y k=x.reach.getD k 0:=if_pos c
     have eT:B3 six x y k=x.cC.getD k 0:=if_pos c;refine .nx (ah (nQ (m:=k) 4 (bU (uA 4 (aa 6 rfl) (ga _ _ 0)) (bB (mL (aa 2 rfl)) Ii aD hr (ae (aa 6 rfl) (ae (yM T.hK (aI (fs:=t.kX six x) (aa 0 rfl) T.aF.cl T.bu rfl)) ai)) ⟨_,_,rfl,⟨by omega,by omega⟩,rfl⟩)) (aa 6 rfl) iA)
       (ah (nQ (m:=k) 5 (bU (uA 5 (aa 6 rfl) (ga _ _ 0)) (aI (fs:=t.kX six x) (aa 0 rfl) T.aF.cl T.bM rfl)) (aa 6 rfl) iB)
       (ao (aL (Lr (uv (rZ (aI (fs:=t.kX six x) (aa 0 rfl) T.aF.cl T.cG rfl)) (aa 6 rfl) xr) (uA 4 (aa 6 rfl) (gs _ _ lA0)))
         (fun h=>ah (nQ (m:=k) 4 (uv (rZ (aI (fs:=t.kX six x) (aa 0 rfl) T.aF.cl T.cG rfl)) (aa 6 rfl) xr) (aa 6 rfl) (iA' _))
           (ao (nQ (m:=k) 5 (uv (rZ (aI (fs:=t.kX six x) (aa 0 rfl) T.aF.cl T.fh rfl)) (aa 6 rfl) xt) (aa 6 rfl) (iB' _))))
         (fun h=>absurd c (of_decide_eq_false h)))))) (Le.of ⟨rfl,rfl,rfl,rfl,?_,?_,trivial⟩)
     . rw[List.set_set,tV,<- eR,xi hk]
     . rw[List.set_set,tV,<- eT,xi hk]
   . have eR:zU six x y k=(rM six y.reach x.turn).getD k 0+lz six k x.shift:=if_neg c
     have eT:B3 six x y k=(rM six y.cC x.turn).getD k 0+x.many:=if_neg c;refine .nx (ah (nQ (m:=k) 4 (bU (uA 4 (aa 6 rfl) (ga _ _ 0)) (bB (mL (aa 2 rfl)) Ii aD hr (ae (aa 6 rfl) (ae (yM T.hK (aI (fs:=t.kX six x) (aa 0 rfl) T.aF.cl T.bu rfl)) ai)) ⟨_,_,rfl,⟨by omega,by omega⟩,rfl⟩)) (aa 6 rfl) iA)
       (ah (nQ (m:=k) 5 (bU (uA 5 (aa 6 rfl) (ga _ _ 0)) (aI (fs:=t.kX six x) (aa 0 rfl) T.aF.cl T.bM rfl)) (aa 6 rfl) iB)
       (ao (aL (Lr (uv (rZ (aI (fs:=t.kX six x) (aa 0 rfl) T.aF.cl T.cG rfl)) (aa 6 rfl) xr) (uA 4 (aa 6 rfl) (gs _ _ lA0)))
         (fun h=>absurd (of_decide_eq_true h) c)
         (fun h=>aS))))) (Le.of ⟨rfl,rfl,rfl,rfl,?_,?_,trivial⟩)
     . rw[tV,<- eR,xi hk]
     . rw[tV,<- eT,xi hk]
 . rw[en]
   exact wL (ns:=(jn six x y).reach) 4 (wL (ns:=(jn six x y).cC) 5 (ao (aN (Gq (wF (B7 T) aD hr (ae (aa 2 rfl) (ae (bU (aI (fs:=t.kX six x) (aa 0 rfl) T.aF.cl T.bM rfl) (cD (fs:=t.kX six y) (aa 1 rfl) (Ie T) aD hr ⟨six,y,rfl,rfl⟩))
     (ae (bB (mL (aa 2 rfl)) tT aD hr (ae (bU (aI (fs:=t.kX six x) (aa 0 rfl) T.aF.cl T.bO rfl) (cD (fs:=t.kX six y) (aa 1 rfl) (B8 T) aD hr ⟨six,y,rfl,rfl⟩)) ai) ⟨_,rfl,rfl⟩)
     (ae (Gs T.hK (cS (Ec T) aD hr (ae (yM T.hK (aI (fs:=t.kX six x) (aa 0 rfl) T.aF.cl T.bu rfl)) (ae (aa 3 rfl) ai)) ⟨_,_,rfl,rfl⟩))
     (ae (bU (aI (fs:=t.kX six x) (aa 0 rfl) T.aF.cl T.cB rfl) (cD (fs:=t.kX six y) (aa 1 rfl) (yO T) aD hr ⟨six,y,rfl,rfl⟩))
     (ae (aa 4 rfl) (ae (aa 5 rfl) (ae (bU (bU (aI (fs:=t.kX six x) (aa 0 rfl) T.aF.cl T.fi rfl) (cD (fs:=t.kX six y) (aa 1 rfl) (Ig T) aD hr ⟨six,y,rfl,rfl⟩))
       (cS (Nt T) aD hr (ae (yM T.hK (aI (fs:=t.kX six x) (aa 0 rfl) T.aF.cl T.bu rfl)) (ae (aa 3 rfl) ai)) ⟨_,_,rfl,⟨⟨by have:=wx.sm;omega,by have:=wx.sm;omega⟩,Zl wy'.sm⟩,rfl⟩)) ai)))))))) ⟨six,jn six x y,rfl,rfl⟩)))))
theorem mM (six:Bool)(xs:List Str)(d:Str):b8 six (xs ++ [d])=jn six (b8 six xs) (one six d):=by
 unfold b8;rw[List.foldl_append];rfl
theorem xj (six:Bool):∀ n:Nat,tn six n (0,0)=(0,0)
 | 0=>rfl
 | n+1=>by rw[tn,xj six n];cases six <;> rfl
theorem Eh (six:Bool)(d:Str):(xh six d (0,0) 0).1=if d∈SA then (1,0) else (0,0):=by
 have e:tn six ((0:Int) % wy six).toNat (1,0)=(1,0):=by cases six <;> rfl
 unfold xh;show(if d∈SA then ad (0,0) (tn six ((0:Int) % wy six).toNat (1,0)) else (0,0))=_;rw[e];rfl
theorem Q3 (six:Bool)(b:Int):(tn six (b % wy six).toNat (1,0)).1.natAbs<=1/\(tn six (b % wy six).toNat (1,0)).2.natAbs<=1:=by
 cases six with
 | false=>
   have e:wy false=4:=rfl;rw[e];have h:b % 4=0\/b % 4=1\/b % 4=2\/b % 4=3:=by omega
   rcases h with h | h | h | h <;> rw[h] <;> decide
 | true=>
   have e:wy true=6:=rfl;rw[e];have h:b % 6=0\/b % 6=1\/b % 6=2\/b % 6=3\/b % 6=4\/b % 6=5:=by omega
   rcases h with h | h | h | h | h | h <;> rw[h] <;> decide
theorem Q4 (six:Bool)(x:Tr)(d:Str):(jn six x (one six d)).shift.1.natAbs<=x.shift.1.natAbs+1/\(jn six x (one six d)).shift.2.natAbs<=x.shift.2.natAbs+1:=by
 show(x.shift.1+(tn six (x.turn % wy six).toNat (xh six d (0,0) 0).1).1).natAbs<=_/\(x.shift.2+(tn six (x.turn % wy six).toNat (xh six d (0,0) 0).1).2).natAbs<=_;rw[Eh];by_cases c:d∈SA
 . rw[if_pos c]
   have:=Q3 six x.turn;omega
 . rw[if_neg c,xj]
   simp
theorem V6 (six:Bool)(d:Str):WF six (one six d):=⟨by unfold one;simp,by unfold one;simp,by
 show(xh six d (0,0) 0).1.1.natAbs < _/\(xh six d (0,0) 0).1.2.natAbs < _;rw[Eh];by_cases c:d∈SA
 . rw[if_pos c];decide
 . rw[if_neg c];decide⟩
theorem V7 (six:Bool):WF six (ET six):=⟨by unfold ET;simp,by unfold ET;simp,by show(0:Int).natAbs < _/\(0:Int).natAbs < _;decide⟩
theorem Ny (six:Bool):∀ (n:Nat) (xs:List Str),xs.length=n->(b8 six xs).shift.1.natAbs<=n/\(b8 six xs).shift.2.natAbs<=n/\(b8 six xs).reach.length=wn six/\(b8 six xs).cC.length=wn six:=by
 intro n
 induction n with
 | zero=>
   intro xs h;have e:xs=[]:=aa9 h;subst e;have w:=V7 six;exact⟨aai _,aai _,w.rl,w.tl⟩
 | succ n ih=>
   intro xs h;have sE:xs≠[]:=fun e=>by rw[e] at h;cases h
   have e:=abf sE;have hl:xs.dropLast.length=n:=by rw[ab2];omega
   obtain⟨h1,h2,h3,h4⟩:=ih _ hl;rw[<- e,mM];obtain⟨q1,q2⟩:=Q4 six (b8 six xs.dropLast) (xs.getLast sE);refine⟨by omega,by omega,?_,?_⟩
   . unfold jn;simp
   . unfold jn;simp
theorem xk (six:Bool){xs:List Str}(h:xs.length < 2 ^ 990):WF six (b8 six xs):=by
 obtain⟨h1,h2,h3,h4⟩:=Ny six _ xs rfl;exact⟨h3,h4,aaO h1 h,aaO h2 h⟩
theorem V8 (six:Bool){xs:List Str}(h:xs.length<=100000):WF six (b8 six xs):=xk six (aaO h (aam (show 100000 < 2 ^ 20 by decide) (acF (by decide) (by decide))))
theorem Ei (T:Txt K mg t):GF P w K mg base CX 7 "track_of" 2 (Gu t):=by
 refine⟨_,_,_,jb T.j9.F vv rfl fun bc A outer s H E G ds r hr hl hR=>?_,(T.g T.j9.a),T.j9.F.kp,T.j9.b⟩;obtain⟨six,xs,rfl,hd,hn,rfl⟩:=hR;have nd:=vv.nd;let S:Nat->List Slot:=fun k=>[.val (.jf (.obj (t.pc six) [])),.val (.lst (xs.map .str)),.val (t.rL six (b8 six (xs.take k))),.aY]
 have en:S (xs.map Dt.str).length=[.val (.jf (.obj (t.pc six) [])),.val (.lst (xs.map .str)),.val (t.rL six (b8 six xs)),.aY]:=by
   show [_,_,Slot.val (t.rL six (b8 six (xs.take (xs.map Dt.str).length))),_]=_;rw[aaa,abV]
 refine⟨_,.rt _,ah (aB 2 nd (cS (Eg T) aD hr (ae (aa 0 rfl) ai) ⟨six,rfl,rfl⟩))
   (ah (Hi (m:=(xs.map Dt.str).length) 3 S nd rfl PassesOwn.leaving (aa 1 rfl) (Le.of ⟨rfl,rfl,rfl,trivial⟩) (aai _) (fun k z hk hz=>?_) (.all rfl)) ?_)⟩
 . rw[aaa] at hk
   rw[aaf,aab hk] at hz;cases hz;have hm:xs[k]∈xs:=aaN hk;have e:b8 six (xs.take (k+1))=jn six (b8 six (xs.take k)) (one six xs[k]):=by
     rw[abL,aab hk];exact mM _ _ _
   have hl:(xs.take k).length<=100000:=by rw[aaD];omega
   refine .nx (ao (aB 2 nd (bB (fs:=t.kX six (b8 six (xs.take k))) (qp (aa 2 rfl)) (AF T) aD hr (ae (qp (cS (Gx T) aD hr (ae (aa 0 rfl) (ae (aa 3 rfl) ai)) ⟨six,xs[k],rfl,hd _ hm,rfl⟩)) ai) ⟨six,_,one six xs[k],rfl,⟨V8 six hl,V6 six _⟩,rfl⟩))) (Le.of ⟨rfl,rfl,?_,trivial⟩);show Slot.val (t.rL six (b8 six (xs.take (k+1))))=_;rw[e]
 . rw[en]
   exact ao (aN (aa 2 rfl))
theorem Nz (six:Bool):∀ (n:Nat) (xs:List Str),xs.length=n->(b8 six xs).many=n/\(b8 six xs).eV=(xs.count ("stroke":Str):Nat):=by
 intro n
 induction n with
 | zero=>
   intro xs h;have e:xs=[]:=aa9 h;subst e;exact⟨rfl,rfl⟩
 | succ n ih=>
   intro xs h;have sE:xs≠[]:=fun e=>by rw[e] at h;cases h
   have e:=abf sE;have hl:xs.dropLast.length=n:=by rw[ab2];omega
   obtain⟨h1,h2⟩:=ih _ hl;have ec:xs.count ("stroke":Str)=xs.dropLast.count ("stroke":Str)+if xs.getLast sE="stroke" then 1 else 0:=by
     conv=>lhs;rw[<- e]
     rw[List.count_append,List.count_singleton]
     congr 1
     by_cases c:xs.getLast sE="stroke" <;> simp[c]
   rw[ec]
   conv=>lhs;rw[<- e]
   rw[show(b8 six xs).eV=(b8 six (xs.dropLast ++ [xs.getLast sE])).eV by rw[e],mM];refine⟨?_,?_⟩
   . show(b8 six xs.dropLast).many+1=_
     rw[h1];omega
   . show(b8 six xs.dropLast).eV+(if xs.getLast sE="stroke" then 1 else 0)=_
     rw[h2];by_cases c:xs.getLast sE="stroke"
     . rw[if_pos c,if_pos c];omega
     . rw[if_neg c,if_neg c];omega
open PySem.Builtin.Str PySem.StrLaws in
theorem Cc (s:Str)(c limit:Nat):∀ (n i:Nat) (acc:Array Nat) (free:Nat),free<=i->acc.size+n<=limit->(forIn (acG i n) (acc,free) (occBody s ⟨#[c]⟩ s.length limit)).run.fst.size=acc.size+(acG i n).countP (fun j=>decide (s.cps.toList[j]?=some c))
 | 0,i,acc,free,_,_=>by simp
 | n+1,i,acc,free,hf,hl=>by
   rw[List.range'_succ,List.forIn_cons,List.countP_cons];have hso:=subAt_one s c i;by_cases hc:s.cps.toList[i]?=some c
   . obtain⟨h1,h2⟩:=hso.mpr hc
     have e:occBody s ⟨#[c]⟩ s.length limit i (acc,free)=pure (ForInStep.yield (acc.push i,i+(⟨#[c]⟩:Str).length)):=by
       unfold occBody;exact if_pos ⟨⟨⟨by show acc.size < limit;omega,hf⟩,h1⟩,h2⟩
     rw[e];show(forIn (acG (i+1) n) (acc.push i,i+(⟨#[c]⟩:Str).length) (occBody s ⟨#[c]⟩ s.length limit)).run.fst.size=_;rw[Cc s c limit n (i+1) (acc.push i) _ (by show i+1<=i+1;omega) (by rw[Array.size_push];omega),Array.size_push,if_pos (decide_eq_true hc)];omega
   . have e:occBody s ⟨#[c]⟩ s.length limit i (acc,free)=pure (ForInStep.yield (acc,free)):=by
       unfold occBody;exact if_neg fun h=>hc (hso.mp ⟨h.1.2,h.2⟩)
     rw[e];show(forIn (acG (i+1) n) (acc,free) (occBody s ⟨#[c]⟩ s.length limit)).run.fst.size=_;rw[Cc s c limit n (i+1) acc free (by omega) (by omega),if_neg (by simpa using hc)];omega
theorem Ka (L:List Nat)(c:Nat):(acG 0 (L.length+1)).countP (fun j=>decide (L[j]?=some c))=L.count c:=by
 rw[<- List.range_eq_range',List.range_succ,List.countP_append];have e1:(aan L.length).map (fun j=>L[j]?)=L.map some:=by
   refine List.ext_getElem? fun i=>?_
   rw[aaf,aaf];by_cases h:i < L.length
   . rw[aaP h];simp[h]
   . rw[aau (by simp;omega),aau (by omega)];rfl
 have e2:(aan L.length).countP (fun j=>decide (L[j]?=some c))=((aan L.length).map (fun j=>L[j]?)).countP (fun o=>decide (o=some c)):=by
   rw[List.countP_map];rfl
 rw[e2,e1,List.countP_map];have e3:((fun o=>decide (o=some c)) ∘ some)=fun x:Nat=>x == c:=by
   funext x
   by_cases h:x=c <;> simp[h]
 rw[e3];simp[List.count]
open PySem.Builtin.Str PySem.StrLaws in
theorem NA (w:List Nat)(x:Nat):Txt.count (tx w) (sg x)=((w.count x:Nat):Int):=by
 unfold Txt.count;have hl:=ik w;rw[occ_eq,ab4];show(((forIn (acG 0 ((tx w).length+1 - 0)) (#[],0) (occBody (tx w) ⟨#[x]⟩ (tx w).length ((tx w).length+1))).run.fst.size:Nat):Int)=_;rw[Cc (tx w) x _ _ 0 #[] 0 (aai _) (by simp)];have e:(tx w).cps.toList=w:=by show w.toArray.toList=w;simp
 rw[e,hl,Nat.sub_zero,Ka];simp
noncomputable def SG (L w:List Nat):List (Key×Int):=L.map fun x=>(.inr (sg x),((w.count x:Nat):Int))
theorem NB (L w:List Nat):(dI (SG L w)).map (·.1)=L.map fun x=>(Sum.inr (sg x):Key):=by
 unfold dI SG;rw[aar,aar];rfl
theorem me {L:List Nat}(h:L.Nodup):(L.map fun x=>(Sum.inr (sg x):Key)).Nodup:=by
 rw[List.nodup_iff_pairwise_ne,List.pairwise_map];exact(List.nodup_iff_pairwise_ne.mp h).imp fun hn e=>hn (u9 (Sum.inr.inj e))
theorem V9 (L w:List Nat):(L.map fun x=>Dt.tup [.str (sg x),.int ((w.count x:Nat):Int)])=(dI (SG L w)).map OR:=by
 unfold dI SG;rw[aar,aar];rfl
def Q5 (t:dy):Rl:=fun ds r=>∃ six rows w,ds=[t.Ct six rows,.str (tx w)]/\dg rows/\r=.own (.fw (dI (SG (rows.map (·.c)) w)))
noncomputable abbrev adi:Stmt->Scope
 | .Return (some (.Call _ (.ListComp _ _ sc _::_) _ _)) _=>sc
 | _=>af (.Pass ⟨0,0,0,0⟩)
noncomputable abbrev NC:Scope:=adi ((aG sY).getD 0 (.Pass ⟨0,0,0,0⟩))
theorem Ej:kM NC (af sY) HN ["letter","word"] ["letter"] [1]=true:=by decide +kernel
theorem iY (w:List Nat):w.map (fun x=>Dt.str (sg x))=Sg.signs (tx w):=by rw[yK,aar];rfl
theorem yT {rows:List Row}(ok:dg rows):k9 (tx (rows.map (·.c)))=true:=kQ fun x hx=>by
 obtain⟨r,hr,rfl⟩:=aaK.mp hx;have:=ok.sm r hr;unfold small at this;omega
theorem ND (T:Txt K mg t):GF P w K mg base CX 3 "tally" 2 (Q5 t):=by
 refine⟨_,_,_,jb T.qQ.F DI rfl fun bc A outer s H E G ds r hr hl hR=>?_,(T.g T.qQ.a),T.qQ.F.kp,T.qQ.b⟩;obtain⟨six,rows,wd,rfl,ok,rfl⟩:=hR;have nd:=DI.nd;have h6:=ok.le;let L:=rows.map (·.c);have e2:((L.filter fun _=>true).map fun x=>Dt.tup [.str (sg x),.int ((wd.count x:Nat):Int)])=(dI (SG L wd)).map OR:=by
   rw[aaG.mpr (fun _ _=>rfl)];exact V9 L wd
 refine⟨_,.ro _,ao (fB (nW T.qm rfl (jM e2 (jW L (fun x=>Dt.str (sg x)) (fun x=>.tup [.str (sg x),.int ((wd.count x:Nat):Int)]) (fun x=>[.val (.str (sg x))]) (fun _=>true) rfl (dQ Ej) (lb (cD (fs:=t.Az six rows) (aa 0 rfl) (kS T) aD hr ⟨six,rows,rfl,ok,rfl⟩)) (d9 (dQ Ej) rfl) (gi (fQ (yT ok)) (iY L)) (fun a _=>fC) (.nil fun _ _=>rfl)
     (fun a ha _ C fp s' H' G'=>b9 (ae (aa 0 rfl) (ae (bI (Js (aa 1 rfl) (aa 0 rfl)) (congrArg Dt.int (NA wd a))) ai)) AA3) (t7 (by show(rows.map (·.c)).length<=_;rw[aaa];omega)))) ?_ ?_))⟩
 . rw[NB];exact me ok.nd
 . show((SG (rows.map (·.c)) wd).map _).length<=_
   unfold SG;rw[aaa,aaa,aaa];exact t7 (by omega)
noncomputable def cT (rows:List Row):Nat->Nat->Nat->Int
 | 0,c,x=>(([c].count x:Nat):Int)
 | i+1,c,x=>((wordOf rows c).map fun y=>cT rows i y x).sum
noncomputable def kc (L:List Nat)(T:Nat->Int):List (Key×Int):=L.map fun x=>(.inr (sg x),T x)
noncomputable def lT (rows:List Row)(i c:Nat):Int:=((rows.map (·.c)).map fun x=>cT rows i c x).sum
noncomputable def yU (rows:List Row)(i:Nat):List (Key×FD):=(rows.map (·.c)).map fun c=>(.inr (sg c),.fw (kc (rows.map (·.c)) (cT rows i c)))
noncomputable def yV (rows:List Row)(i:Nat):List (Key×FD):=(rows.map (·.c)).map fun c=>(.inr (sg c),.int (lT rows i c))
theorem Q6 (L:List Nat)(T:Nat->Int):(kc L T).map (·.2)=L.map T:=by unfold kc;rw[aar];rfl
theorem Q7 (L:List Nat)(T:Nat->Int):(dI (kc L T)).map (·.1)=L.map fun x=>(Sum.inr (sg x):Key):=by unfold dI kc;rw[aar,aar];rfl
theorem Wa (L:List Nat)(T:Nat->Int):(dI (kc L T)).length=L.length:=by unfold dI kc;rw[aaa,aaa]
noncomputable def kd (L:List Nat)(D:Nat->Dt):List (Key×Dt):=L.map fun x=>(.inr (sg x),D x)
theorem kG {D:Nat->Dt}:∀ {L:List Nat} {x:Nat},x∈L->mR (kd L D) (.inr (sg x))=some (D x)
 | [],_,h=>by cases h
 | y::L,x,h=>by
   by_cases e:y=x
   . subst e
     exact sU (p:=((.inr (sg y):Key),D y)) rfl
   . have ne:¬ (Sum.inr (sg y):Key)=.inr (sg x):=fun z=>e (u9 (Sum.inr.inj z))
     have hx:x∈L:=by
       rcases aaz.mp h with z | z
       . exact absurd z.symm e
       . exact z
     exact(p8 (p:=((.inr (sg y):Key),D y)) ne).trans (kG hx)
theorem SH (L:List Nat)(T:Nat->Int):dI (kc L T)=kd L fun x=>.int (T x):=by unfold dI kc kd;rw[aar];rfl
theorem Kw (rows:List Row)(i:Nat):pN (yU rows i)=kd (rows.map (·.c)) fun c=>.d7 (dI (kc (rows.map (·.c)) (cT rows i c))):=by unfold pN yU kd;rw[aar];rfl
theorem OW (rows:List Row)(i:Nat):pN (yV rows i)=kd (rows.map (·.c)) fun c=>.int (lT rows i c):=by unfold pN yV kd;rw[aar];rfl
theorem tY (L:List Nat)(D:Nat->Dt):(kd L D).map (·.1)=L.map fun x=>(Sum.inr (sg x):Key):=by unfold kd;rw[aar];rfl
theorem Ek (L:List Nat)(D:Nat->Dt):(L.map fun x=>Dt.tup [.str (sg x),D x])=(kd L D).map OR:=by unfold kd;rw[aar];rfl
theorem NF {L:List Nat}(nd:L.Nodup){D:Nat->Dt}{j:Nat}(hj:j < L.length):x4 (kd (L.take j) D) (.inr (sg L[j])) (D L[j])=kd (L.take (j+1)) D:=by
 have hn:mR (kd (L.take j) D) (.inr (sg L[j]))=none:=by
   refine qB fun kv W3=>?_
   have:kv.1∈(kd (L.take j) D).map (·.1):=aaK.mpr ⟨kv,W3,rfl⟩;rw[tY] at this;obtain⟨y,hy,e⟩:=aaK.mp this;intro z;rw[<- e] at z;have z:y=L[j]:=u9 (Sum.inr.inj z);obtain⟨i,hi,e⟩:=abJ.mp hy;rw[aaD] at hi;rw[acb] at e;exact abB.mp nd i j (by omega) hj (by omega) (e.trans z)
 unfold x4;rw[hn,if_neg (by simp)];unfold kd;rw[abL,aab hj,abO];rfl
noncomputable def NG (L:List Nat)(T:Nat->Int):Dt:=.d7 (dI (kc L T))
def NH:Rl:=fun ds r=>∃ (L:List Nat) (ts:List (Nat->Int)),ds=[.lst (ts.map (NG L)),.str (tx L)]/\L.Nodup/\L.length<=6/\(∀ x∈L,x < 128)/\ts.length<=1000/\r=.own (.fw (dI (kc L fun x=>(ts.map fun T=>T x).sum)))
noncomputable abbrev Wb:Stmt->Scope
 | .Return (some (.Call _ (.ListComp _ _ sc _::_) _ _)) _=>sc
 | _=>af (.Pass ⟨0,0,0,0⟩)
noncomputable abbrev Zn:Stmt->Scope
 | .Return (some (.Call _ (.ListComp (.Tuple [_,.Call _ (.ListComp _ _ sc _::_) _ _] _ _) _ _ _::_) _ _)) _=>sc
 | _=>af (.Pass ⟨0,0,0,0⟩)
noncomputable abbrev SI:Scope:=Wb ((aG kO).getD 0 (.Pass ⟨0,0,0,0⟩))
noncomputable abbrev Wc:Scope:=Zn ((aG kO).getD 0 (.Pass ⟨0,0,0,0⟩))
noncomputable def adj (sc:Scope):Env:={ scope:=sc,locals:=0,globals:=0,cells:=[],qual:="",func:=none,code:=.none,frame:=none,builtins:=0}
noncomputable abbrev Zo:Scope:=relabel SI (adj (af kO))
theorem SJ:My SI (af kO) DJ ["letter","tallies"] "letter" [0]=true:=by decide +kernel
theorem NI:kM Wc Zo ["letter","tallies"] ["counts","letter"] ["counts"] [0]=true:=by decide +kernel
theorem Kb (T:Txt K mg t):GF P w K mg base CX 2 "summed" 2 NH:=by
 refine⟨_,_,_,jb T.oj.F Av rfl fun bc A outer s H E G ds r hr hl hR=>?_,(T.g T.oj.a),T.oj.F.kp,T.oj.b⟩;obtain⟨L,ts,rfl,hnd,hL,h7,hts,rfl⟩:=hR;have nd:=Av.nd;have hu:(A.deeper (envOfC "summed" (af kO) s.heap.objs.size t.ql bc)).units+1 < cLine:=by have:=hr.units;omega
 let D:Nat->Dt:=fun x=>.int (ts.map fun T=>T x).sum
 have e2:((L.filter fun _=>true).map fun x=>Dt.tup [.str (sg x),D x])=(dI (kc L fun x=>(ts.map fun T=>T x).sum)).map OR:=by
   rw[aaG.mpr (fun _ _=>rfl),SH];exact Ek L D
 refine⟨_,.ro _,ao (fB (nW T.qm rfl (jM e2 (Vb L (fun x=>Dt.str (sg x)) (fun x=>.tup [.str (sg x),D x]) (fun x=>[.val (.str (sg x))]) (fun _=>true) rfl (Se SJ) (lb (aa 1 rfl)) (Mx (Se SJ)) (gi (fQ (kQ h7)) (iY L)) (fun a _=>fC) (.nil fun _ _=>rfl)
     (fun a ha _ c C fp s' H' G'=>?_) (t7 (by omega)))) (by rw[Q7];exact me hnd) (by rw[Wa];exact t7 (by omega))))⟩
 have e3:((ts.filter fun _=>true).map fun T=>Dt.int (T a))=(ts.map fun T=>T a).map Dt.int:=by
   rw[aaG.mpr (fun _ _=>rfl),aar];rfl
 refine b9 (ae (aa 0 rfl) (ae (L9 T.DQ rfl (jM e3 (jW ts (NG L) (fun T=>Dt.int (T a)) (fun T=>[.val (NG L T)]) (fun _=>true) rfl (dQ NI) (mV (aa 1 rfl)) (d9 (dQ NI) rfl) nT (fun a _=>fC) (.nil fun _ _=>rfl)
   (fun T' hT' _ C2 fp2 s2 H2 G2=>?_) (t7 (by omega))))) ai)) AA3
 exact kN hu (aa 0 rfl) (aa 1 rfl) (by rw[SH];exact kG ha) (fun _ _=>rfl)
noncomputable def dy.Cd (t:dy)(six:Bool)(rows:List Row)(w:List Nat):List (Str×Dt):=[("rules",t.Ct six rows),("seed",.str (tx w))]
noncomputable def pQ (rows:List Row):List (Nat->List (Key×FD)):=[yU rows,yV rows]
noncomputable abbrev dy.fS (t:dy)(six:Bool)(rows:List Row)(w:List Nat)(l:Addr)(ls:kU)(n:Nat):List (Str×Dt):=vk (t.Cd six rows w) ["tallies","lengths"] l ls n
noncomputable abbrev dy.Kc (t:dy)(six:Bool)(rows:List Row)(w:List Nat)(l:Addr)(ls:kU)(n:Nat):List (Str×Dt):=qZ (t.Cd six rows w) ["tallies","lengths"] l ls n
noncomputable abbrev dy.adk (t:dy)(six:Bool)(rows:List Row)(w:List Nat)(n:Nat):Dt:=.xH t.au (t.Cd six rows w) (pQ rows) ["tallies","lengths"] n
structure oo (rows:List Row)(w:List Nat):Prop where
 ok:dg rows
 w0:0 < w.length
 w8:w.length<=8
 wm:∀ x∈w,x∈rows.map (·.c)
theorem El {a:Addr}:∀ rows:List Row,Br a (u7 rows)=true
 | []=>rfl
 | r::rows=>by
   show(uI a (qo r) && Br a (u7 rows))=true;rw[El rows];rfl
theorem GA {a:Addr}(t:dy)(six:Bool)(rows:List Row):uI a (t.Ct six rows)=true:=by
 show lG a [("drawer",.jf (.obj (t.pc six) [])),("row_by_letter",.fw (u7 rows))]=true;show(true && (Br a (u7 rows) && true))=true;rw[El];rfl
theorem Em {a:Addr}(t:dy)(six:Bool)(rows:List Row)(w:List Nat):lG a (t.Cd six rows w)=true:=by
 show(uI a (t.Ct six rows) && (true && true))=true;rw[GA];rfl
def Q8 (t:dy):Rl:=fun ds r=>∃ six rows w,ds=[t.Ct six rows,.str (tx w)]/\oo rows w/\r=.own (.uu t.au (t.Cd six rows w) (pQ rows) ["tallies","lengths"] 1)
noncomputable abbrev GB:Stmt->Scope
 | .Assign _ (.List [.Call _ (.ListComp _ _ sc _::_) _ _] _) _=>sc
 | _=>af (.Pass ⟨0,0,0,0⟩)
noncomputable abbrev Wd:Scope:=GB ((aG eE).getD 2 (.Pass ⟨0,0,0,0⟩))
noncomputable abbrev We:Scope:=GB ((aG eE).getD 3 (.Pass ⟨0,0,0,0⟩))
theorem NJ:kM Wd (af eE) nG ["letter","rules"] ["letter"] [1]=true:=by decide +kernel
theorem NK:kM We (af eE) nG ["letter"] ["letter"] []=true:=by decide +kernel
theorem Ij:∀ {L:List Nat} {c:Nat},L.Nodup->c∈L->(L.map fun x=>(([c].count x:Nat):Int)).sum=1
 | [],_,_,h=>by cases h
 | y::L,c,nd,h=>by
   rw[aca] at nd;rw[aas,ab3];by_cases e:c=y
   . subst e
     have z:(L.map fun x=>(([c].count x:Nat):Int)).sum=0:=by
       have:∀ x∈L,(([c].count x:Nat):Int)=0:=fun x hx=>by
         have:¬ c=x:=fun z=>nd.1 (z ▸ hx)
         simp[List.count_cons,this]
       rw[acK this];clear this nd h
       induction L with
       | nil=>rfl
       | cons a r ih=>rw[aas,ab3,ih];rfl
     rw[z];simp
   . have hc:c∈L:=by
       rcases aaz.mp h with z | z
       . exact absurd z e
       . exact z
     rw[Ij nd.2 hc];simp[List.count_cons,e]
theorem Zp {rows:List Row}(ok:dg rows){c:Nat}(h:c∈rows.map (·.c)):lT rows 0 c=1:=Ij ok.nd h
theorem NL (T:Txt K mg t):W0 P w K mg base CX 4 "Growth" t.au 3 (Q8 t):=by
 refine⟨_,_,_,fnI T.kE.F qh rfl fun bc A outer s H E G z ds r hr hl hR=>?_,T.uT,(T.g T.aO.a),T.kE.b⟩;obtain⟨six,rows,wd,rfl,ok,rfl⟩:=hR;have h6:=ok.ok.le;let L:=rows.map (·.c);have hL:L.length<=6:=by show(rows.map (·.c)).length<=6;rw[aaa];exact h6
 have nd:=qh.nd;have e1:((L.filter fun _=>true).map fun x=>Dt.tup [.str (sg x),NG L (cT rows 0 x)])=(pN (yU rows 0)).map OR:=by
   rw[aaG.mpr (fun _ _=>rfl),Kw];exact Ek L _
 have e2:((L.filter fun _=>true).map fun x=>Dt.tup [.str (sg x),.int 1])=(pN (yV rows 0)).map OR:=by
   rw[aaG.mpr (fun _ _=>rfl),OW,<- Ek];exact acK fun x hx=>by rw[Zp ok.ok hx]
 refine⟨_,.nxG (fs:=t.Cd six rows wd) (gs:=pQ rows) (nm:=["tallies","lengths"]) (n:=1) rfl,ah (k8 (aa 1 rfl) T.aO.cl T.de) (ah (k8 (LO (fs:=t.Az six rows) (aa 1 rfl) (Ea T) aD hr (ae (aa 2 rfl) ai) ⟨six,rows,wd,8,rfl,ok.ok,ok.wm,⟨ok.w0,ok.w8,by decide⟩,rfl⟩) T.aO.cl T.gy)
   (Bv (f:=yU rows) (g:=yV rows) rfl T.aO.cl T.cV T.bN ?_ ?_))⟩
 . refine nW T.qm rfl (jM e1 (jW L (fun x=>Dt.str (sg x)) (fun x=>.tup [.str (sg x),NG L (cT rows 0 x)]) (fun x=>[.val (.str (sg x))]) (fun _=>true) rfl (dQ NJ) (lb (cD (fs:=t.Az six rows) (aa 1 rfl) (kS T) aD hr ⟨six,rows,rfl,ok.ok,rfl⟩)) (d9 (dQ NJ) rfl) (gi (fQ (yT ok.ok)) (iY L)) (fun a _=>fC) (.nil fun _ _=>rfl)
     (fun a ha _ C fp s' H' G'=>b9 (ae (aa 0 rfl) (ae (Sh (xW (ND T) aD hr (ae (aa 1 rfl) (ae (aa 0 rfl) ai)) ⟨six,rows,[a],rfl,ok.ok,rfl⟩)) ai)) AA3) (t7 (by omega)))) (by rw[Kw,tY];exact me ok.ok.nd) (by rw[Kw];show(List.map _ _).length<=_;rw[aaa,aaa];exact t7 (by omega))
 . refine nW T.qm rfl (jM e2 (jW L (fun x=>Dt.str (sg x)) (fun x=>.tup [.str (sg x),.int 1]) (fun x=>[.val (.str (sg x))]) (fun _=>true) rfl (dQ NK) (lb (cD (fs:=t.Az six rows) (aa 1 rfl) (kS T) aD hr ⟨six,rows,rfl,ok.ok,rfl⟩)) (d9 (dQ NK) rfl) (gi (fQ (yT ok.ok)) (iY L)) (fun a _=>fC) (.nil fun _ _=>rfl)
     (fun a ha _ C fp s' H' G'=>b9 (ae (aa 0 rfl) (ae aj ai)) AA3) (t7 (by omega)))) (by rw[OW,tY];exact me ok.ok.nd) (by rw[OW];show(List.map _ _).length<=_;rw[aaa,aaa];exact t7 (by omega))
def NM (t:dy):Rl:=fun ds r=>∃ six rows w l ls n age,ds=[.obj t.au (t.fS six rows w l ls n),.int ((age:Nat):Int)]/\oo rows w/\ls.map (·.2)=pQ rows/\age<=1000/\r=.ret (.wC l ls (age+1))
noncomputable abbrev Zq:Stmt->List Stmt
 | .While _ b _ _=>b
 | _=>[]
noncomputable abbrev En:Stmt->Scope
 | .For _ _ [.Assign _ (.Call _ (.ListComp _ _ sc _::_) _ _) _] _ _=>sc
 | _=>af (.Pass ⟨0,0,0,0⟩)
noncomputable abbrev Ra:Stmt->Scope
 | .Expr (.Call _ [.Call _ (.ListComp _ _ sc _::_) _ _] _ _) _=>sc
 | _=>af (.Pass ⟨0,0,0,0⟩)
noncomputable abbrev wB:List Stmt:=Zq ((aG bX).getD 1 (.Pass ⟨0,0,0,0⟩))
noncomputable abbrev Zr:Scope:=En (wB.getD 2 (.Pass ⟨0,0,0,0⟩))
noncomputable abbrev Zs:Scope:=Ra (wB.getD 4 (.Pass ⟨0,0,0,0⟩))
theorem SK:kM Zr (af bX) i3 ["younger","last"] ["younger"] [3]=true:=by decide +kernel
theorem SM:kM Zs (af bX) i3 ["letter","grown"] ["letter"] [4]=true:=by decide +kernel
theorem Ke (T:Txt K mg t):MF P w K mg base CX 4 t.au "deepen_to" 2 (NM t):=by
 refine⟨T.aO.cl,_,_,_,jb T.fM.F ly rfl fun bc A outer s H E G ds r hr hl hR=>?_,T.dJ,T.fM.b⟩;obtain⟨six,rows,wd,l,ls,n,age,rfl,ok,mZ,gF,rfl⟩:=hR;have nd:=ly.nd;have h6:=ok.ok.le;let L:=rows.map (·.c);have hL:L.length<=6:=by show(rows.map (·.c)).length<=6;rw[aaa];exact h6
 have h7:∀ x∈L,x < 128:=fun x hx=>by
   obtain⟨r,hr,rfl⟩:=aaK.mp hx;have:=ok.ok.sm r hr;unfold small at this;omega
 have hu:(A.deeper (envOfC "Growth.deepen_to" (af bX) s.heap.objs.size t.bY bc)).units+1 < cLine:=by have:=hr.units;omega
 have e2:ls.length=2:=by have:=congrArg abI mZ;simpa [pQ] using this
 let tl:List Slot:=[.val (.int ((age:Nat):Int)),.val (.str (tx L)),.aY,.aY,.aY]
 refine⟨_,qI (by rw[e2];exact aai 2),ah (dl1:=Cr t.au (t.Cd six rows wd) ["tallies","lengths"] l ls n tl) (aB 2 nd (cD (fs:=t.Az six rows) (aI (fs:=t.fS six rows wd l ls n) (aa 0 rfl) T.aO.cl T.de rfl) (kS T) aD hr ⟨six,rows,rfl,ok.ok,rfl⟩))
   (ao (Aq (age:=age) PassesOwn.leaving (Em t six rows wd) rfl (by decide) (by omega) (fun N G hx=>?_) (fun N hN hNa G0 hA hB=>?_)))⟩
 . exact br (vn (HJ (N:=N) T.mK hx (aI (fs:=t.Kc six rows wd l ls n) (aa 0 rfl) T.aO.cl T.cV rfl) (by rw[e2];rfl)) (aa 1 rfl)) (decide_eq_decide.mpr (by omega))
 . let Dk:Nat->Dt:=fun c=>NG L (cT rows N c)
   let S:Nat->List Slot:=fun k=>[.val (.obj t.au (t.Kc six rows wd l ls n)),.val (.int ((age:Nat):Int)),.val (.str (tx L)),.val (.d7 (pN (yU rows (N - 1)))),.own (.fw (kd (L.take k) Dk)),.aY]
   have eS:S L.length=[.val (.obj t.au (t.Kc six rows wd l ls n)),.val (.int ((age:Nat):Int)),.val (.str (tx L)),.val (.d7 (pN (yU rows (N - 1)))),.own (.fw (pN (yU rows N))),.aY]:=by
     show [_,_,_,_,Slot.own (.fw (kd (L.take L.length) Dk)),_]=_;rw[abV,Kw rows N];rfl
   refine ah (aB 3 nd (Dy (f:=yU rows) (N:=N) ak (aI (fs:=t.Kc six rows wd l ls n) (aa 0 rfl) T.aO.cl T.cV rfl) (jU aj) (by rw[mZ];rfl) (by rw[e2];rfl) hN)) (ah (mY 4 nd HC)
     (ah (dl1:=S L.length) (wH (o:=.nx (S L.length)) (m:=L.length) L (fun x=>Dt.str (sg x)) (fun x dl=>dl.set 5 (.val (.str (sg x)))) S rfl PassesOwn.leaving (lb (aa 2 rfl)) (gi (fQ (kQ h7)) (iY L)) (dM nd rfl (.inl rfl)) (fun a _=>Hv) (Le.of ⟨rfl,rfl,rfl,rfl,rfl,trivial⟩) (aai _) (fun k a hk ha=>?_) (.all rfl)) ?_))
   . rw[aab hk] at ha
     cases ha;have hm:L[k]∈L:=aaN hk;obtain⟨q,hq,hc,_,ew⟩:=kR hm;have hwp:=ok.ok.wp q hq;have Zt:∀ y∈wordOf rows L[k],y∈L:=fun y hy=>ok.ok.wo q hq y (by rw[ew] at hy;exact hy)
     have Ug:(wordOf rows L[k]).length<=8:=by rw[ew];exact hwp.2
     have Yv:(kd (L.take k) Dk).length < sizeLine:=by
       unfold kd;rw[aaa,aaD];exact aam (show min k L.length < 2000 by omega) (by decide)
     have e3:(((wordOf rows L[k]).filter fun _=>true).map fun y=>NG L (cT rows (N - 1) y))=((wordOf rows L[k]).map fun y=>cT rows (N - 1) y).map (NG L):=by
       rw[aaG.mpr (fun _ _=>rfl),aar];rfl
     have eN:N=(N - 1)+1:=by omega
     have ed:Dk L[k]=.d7 (dI (kc L fun x=>(((wordOf rows L[k]).map fun y=>cT rows (N - 1) y).map fun T=>T x).sum)):=by
       have e7:(cT rows N L[k])=fun x=>(((wordOf rows L[k]).map fun y=>cT rows (N - 1) y).map fun T=>T x).sum:=by
         funext x
         rw[aar];obtain⟨M,rfl⟩:∃ M,N=M+1:=⟨N - 1,eN⟩
         rfl
       show NG L (cT rows N L[k])=_;rw[e7];rfl
     refine .nx (ao (HD (kds:=kd (L.take k) Dk) (d:=Dk L[k]) 4 hu (by rw[ed];exact Sh (xW (Kb T) aD hr (ae (jM e3 (jW (wordOf rows L[k]) (fun x=>Dt.str (sg x)) (fun y=>NG L (cT rows (N - 1) y)) (fun x=>[.val (.str (sg x))]) (fun _=>true) rfl (dQ SK) (lb (bB (fs:=t.Az six rows) (aI (fs:=t.Kc six rows wd l ls n) (aa 0 rfl) T.aO.cl T.de rfl) (yL T) aD hr (ae (aa 5 rfl) ai) ⟨six,rows,L[k],rfl,ok.ok,hm,rfl⟩)) (d9 (dQ SK) rfl) (gi (fQ (xc ok.ok Zt)) (iY _)) (fun a _=>fC) (.nil fun _ _=>rfl)
       (fun y hy _ C fp s' H' G'=>kN hu (aa 1 rfl) (aa 0 rfl) (by rw[Kw];exact kG (Zt y hy)) (fun _ _=>rfl)) (t7 (by omega)))) (ae (aa 2 rfl) ai)) ⟨L,_,rfl,ok.ok.nd,hL,h7,by rw[aaa];omega,rfl⟩)) (aa 5 rfl) Yv)) (Le.of ⟨rfl,rfl,rfl,rfl,?_,trivial⟩)
     show Slot.own (.fw (kd (L.take (k+1)) Dk))=Slot.own (.fw (x4 (kd (L.take k) Dk) (.inr (sg L[k])) (Dk L[k])));rw[NF ok.ok.nd hk]
   . rw[eS]
     refine Hh (dl1:=.val (.obj t.au (t.Kc six rows wd l ls n))::tl.set 3 (.own (.fw (pN (yU rows N))))) (DC (f:=yU rows) (g:=yV rows) (tl:=tl) 3 (Em t six rows wd) rfl rfl mZ (by omega) T.aO.cl T.cV T.bN hA hB (fun G2=>?_)) (Le.of ⟨rfl,rfl,rfl,rfl,trivial⟩);have e4:((L.filter fun _=>true).map fun x=>Dt.tup [.str (sg x),.int (lT rows N x)])=(pN (yV rows N)).map OR:=by
       rw[aaG.mpr (fun _ _=>rfl),OW];exact Ek L _
     exact nW T.qm rfl (jM e4 (jW L (fun x=>Dt.str (sg x)) (fun x=>.tup [.str (sg x),.int (lT rows N x)]) (fun x=>[.val (.str (sg x))]) (fun _=>true) rfl (dQ SM) (lb (aa 2 rfl)) (d9 (dQ SM) rfl) (gi (fQ (kQ h7)) (iY L)) (fun a _=>fC) (.nil fun _ _=>rfl)
       (fun a ha _ C fp s' H' G'=>b9 (ae (aa 0 rfl) (ae (bI (Qp (kds:=kc L (cT rows N a)) T.DQ rfl (kN (d:=NG L (cT rows N a)) hu (aa 1 rfl) (aa 0 rfl) (by rw[Kw];exact kG ha) (fun _ _=>rfl)) (.inl rfl)) (by rw[Q6];rfl)) ai)) AA3) (t7 (by omega)))) (by rw[OW,tY];exact me ok.ok.nd) (by rw[OW];show(List.map _ _).length<=_;rw[aaa,aaa];exact t7 (by omega))
def adm:Rl:=fun ds r=>∃ z f l:Int,ds=[.int z,.int f,.int l]/\f<=z/\z<=l/\r=.ret .cz
def Rb (t:dy):Rl:=fun ds r=>∃ six rows w l ls n age,ds=[.obj t.au (t.fS six rows w l ls n),.int ((age:Nat):Int)]/\oo rows w/\ls.map (·.2)=pQ rows/\age<=200/\r=.ret (.wC l ls (age+1))
noncomputable def lnT (rows:List Row)(w:List Nat)(age:Nat):Int:=(w.map (lT rows age)).sum
def Wf (t:dy):Rl:=fun ds r=>∃ six rows w l ls n age,ds=[.obj t.au (t.fS six rows w l ls n),.int ((age:Nat):Int)]/\oo rows w/\ls.map (·.2)=pQ rows/\age<=200/\r=.ret (.int (lnT rows w age))
def Wg (t:dy):Rl:=fun ds r=>∃ six rows w l ls n,ds=[.obj t.au (t.fS six rows w l ls n)]/\r=.ret (t.Ct six rows)
noncomputable abbrev NO:Stmt->Scope
 | .Return (some (.Call _ (.ListComp _ _ sc _::_) _ _)) _=>sc
 | _=>af (.Pass ⟨0,0,0,0⟩)
noncomputable abbrev Zu:Scope:=NO ((aG dU).getD 1 (.Pass ⟨0,0,0,0⟩))
theorem SN:kM Zu (af dU) pI ["letter","self","age"] ["letter"] [0,1]=true:=by decide +kernel
theorem oo.asc {rows:List Row}{w:List Nat}(ok:oo rows w):k9 (tx w)=true:=xc ok.ok ok.wm
theorem NP (T:Txt K mg t):GF P w K mg base CX 1 "check_round" 3 adm:=by
 refine⟨_,_,_,jb T.cb.F qf rfl fun bc A outer s H E G ds r hr hl hR=>?_,(T.g T.cb.a),T.cb.F.kp,T.cb.b⟩;obtain⟨z,f,l,rfl,h1,h2,rfl⟩:=hR;exact⟨_,.nx _,ao (aL (u:=false) (nB (mW (u:=false) (v:=false) (br (mq (aa 0 rfl) (aa 1 rfl)) (decide_eq_false (by omega))) fun _=>(ji (br (pB (aa 0 rfl) (aa 2 rfl)) (decide_eq_false (by omega)))))) (fun h=>nomatch h) (fun h=>aS))⟩
theorem yX (T:Txt K mg t):MF P w K mg base CX 5 t.au "enter" 2 (Rb t):=by
 refine⟨T.aO.cl,_,_,_,jb T.fm.F pH rfl fun bc A outer s H E G ds r hr hl hR=>?_,T.dv,T.fm.b⟩;obtain⟨six,rows,wd,l,ls,n,age,rfl,ok,mZ,gF,rfl⟩:=hR;have e2:ls.length=2:=by have:=congrArg abI mZ;simpa [pQ] using this
 exact⟨_,qI (nm:=["tallies","lengths"]) (by rw[e2];exact aai 2),ah (jl (cS (NP T) aD hr (ae (aa 1 rfl) (ae aj (ae (iz (w:=.int 200) T.jE ⟨_,rfl⟩ fun _=>.int 200) ai))) ⟨_,_,_,rfl,by omega,by omega,rfl⟩))
   (ao (mz (m:=age+1) (tl:=[.val (.int ((age:Nat):Int))]) (bB (fs:=t.fS six rows wd l ls n) (aa 0 rfl) (Ke T) aD hr (ae (aa 1 rfl) ai) ⟨six,rows,wd,l,ls,n,age,rfl,ok,mZ,by omega,rfl⟩)))⟩
theorem Ce (T:Txt K mg t):MF P w K mg base CX 6 t.au "length" 2 (Wf t):=by
 refine⟨T.aO.cl,_,_,_,jb T.iV.F uQ rfl fun bc A outer s H E G ds r hr hl hR=>?_,T.fo,T.iV.b⟩;obtain⟨six,rows,wd,l,ls,n,age,rfl,ok,mZ,gF,rfl⟩:=hR;have hu:(A.deeper (envOfC "Growth.length" (af dU) s.heap.objs.size t.da bc)).units+1 < cLine:=by have:=hr.units;omega
 have w8:=ok.w8;have e3:((wd.filter fun _=>true).map fun x=>Dt.int (lT rows age x))=(wd.map (lT rows age)).map Dt.int:=by
   rw[aaG.mpr (fun _ _=>rfl),aar];rfl
 exact⟨_,.rt _,ah (mz (m:=age+1) (tl:=[.val (.int ((age:Nat):Int))]) (bB (fs:=t.fS six rows wd l ls n) (aa 0 rfl) (yX T) aD hr (ae (aa 1 rfl) ai) ⟨six,rows,wd,l,ls,n,age,rfl,ok,mZ,by omega,rfl⟩))
   (ao (aN (L9 T.DQ rfl (jM e3 (jW wd (fun x=>Dt.str (sg x)) (fun x=>Dt.int (lT rows age x)) (fun x=>[.val (.str (sg x))]) (fun _=>true) rfl (dQ SN) (lb (aI (fs:=t.fS six rows wd l ls (age+1)) (aa 0 rfl) T.aO.cl T.gy rfl)) (d9 (dQ SN) rfl) (gi (fQ ok.asc) (iY wd)) (fun a _=>fC) (.nil fun _ _=>rfl)
     (fun a ha _ C fp s' H' G'=>kN hu (uK (n:=age+1) (j:=1) (f:=yV rows) (aI (fs:=t.fS six rows wd l ls (age+1)) (aa 1 rfl) T.aO.cl T.bN rfl) (aa 2 rfl) (by rw[mZ];rfl) (by omega) (by omega)) (aa 0 rfl) (by rw[OW];exact kG (ok.wm a ha)) (fun _ _=>rfl)) (t7 (by omega)))))))⟩
theorem Cf (T:Txt K mg t):MF P w K mg base CX 1 t.au "rules_told" 1 (Wg t):=by
 refine⟨T.aO.cl,_,_,_,jb T.eU.F qi rfl fun bc A outer s H E G ds r hr hl hR=>?_,T.du,T.eU.b⟩;obtain⟨six,rows,wd,l,ls,n,rfl,rfl⟩:=hR;exact⟨_,.rt _,ao (aN (aI (fs:=t.fS six rows wd l ls n) (aa 0 rfl) T.aO.cl T.de rfl))⟩
noncomputable def MM:Int:=2305843009213693951
noncomputable def pv (ns:List Int)(k:Nat):Int:=ns.getD (k % ns.length) 0
noncomputable def b7 (ns:List Int)(k:Nat):Int:=pv ns k % 10 ^ 60 / MM * MM+(pv ns k+7919 * ((k:Int)+1)) * 6364136223846793005 % MM
theorem Eo (ns:List Int)(k:Nat):0<=b7 ns k:=by
 have h1:=aaC (pv ns k) (show(10:Int) ^ 60≠0 by decide);have h2:=aaC ((pv ns k+7919 * ((k:Int)+1)) * 6364136223846793005) (show MM≠0 by decide);have h3:0<=pv ns k % 10 ^ 60 / MM:=Int.ediv_nonneg h1 (by decide);unfold b7;have h4:0<=pv ns k % 10 ^ 60 / MM * MM:=Int.mul_nonneg h3 (by decide);omega
def Zv:Rl:=fun ds r=>∃ ns:List Int,ns.length<=63/\ds=[.rq ns]/\r=.ret (.bl true)
def NQ (K:W.Frag):Sp:=Fg K 1 Zv
theorem Wh {K:W.Frag}{H:Hp}{a:Addr}{ns:List Int}(hl:ns.length<=63)(hS:pL K H a (ns.map V.int)):NQ K [.ref a] H (fun v _=>v=.bl true) fun _ _ _=>False:=
 ⟨H,[.rq ns],.ret (.bl true),aH.refl H,.cons (.rq hS) .nil,rfl,⟨ns,hl,rfl,rfl⟩,fun v aK H' g r=>by cases r;rfl⟩
def Il:Rl:=fun ds r=>∃ (ns:List Int) (k:Nat),ds=[.rq ns,.int k]/\k<=100/\r=.ret (.int (b7 ns k))
theorem NR (ns:List Int)(k:Nat)(h:k < ns.length):pA ns (k:Int)=some (ns.getD k 0):=by
 refine lE ?_;rw[aae,aab h];rfl
theorem Ep (T:Txt K mg t):GF P w K mg base CX 1 "_law_cell" 2 Il:=by
 refine⟨_,_,_,jb T.uV.F wN rfl fun bc A outer s H E G ds r hr hl hR=>?_,(T.g T.uV.a),T.uV.F.kp,T.uV.b⟩;obtain⟨ns,k,rfl,hk,rfl⟩:=hR;refine⟨_,.rt _,ah (aB 2 wN.nd aj) (ah (dl1:=[.val (.rq ns),.val (.int k),.val (.int (pv ns k)),.aY]) (aL (pB (A8 T.mK (aa 0 rfl)) aj) (fun h=>?_) (fun h=>?_))
   (ah (aB 3 wN.nd (dR (nA (bU (aa 2 rfl) (nA aj (bU (aa 1 rfl) aj) (zm.ok (aaJ ⟨by decide,by decide⟩)))) aj (zm.ok (aaA ⟨by decide,by decide⟩))) aj (by decide)))
 (ao (aN (bU (nA (gB (dR (aa 2 rfl) (Li aj aj ⟨by decide,by decide,by decide⟩) (by decide)) aj ⟨by decide,by decide +kernel⟩) aj (zm.ok (aaA ⟨by decide,by decide⟩))) (aa 3 rfl))))))⟩
 . have h:=of_decide_eq_true h
   have hl:0 < ns.length:=by omega
   have e:((k:Nat):Int) % ((ns.length:Nat):Int)=((k % ns.length:Nat):Int):=by omega
   exact ao (aB 2 wN.nd (uv (aa 0 rfl) (bI (dR (aa 1 rfl) (A8 T.mK (aa 0 rfl)) (by omega)) (congrArg Dt.int e)) (NR ns _ (Nat.mod_lt _ hl))))
 . have h:=of_decide_eq_false h
   have e:pv ns k=0:=by unfold pv;rw[aae,aau (by omega)];rfl
   rw[e];exact aS
noncomputable def abc:List Nat:=(aan 26).map (97 + ·)
structure LS where
 left:List Nat
 rest:Int
 out:List Nat
noncomputable def ls (c:Int):Nat->LS
 | 0=>⟨abc,c,[]⟩
 | k+1=>let s:=ls c k;let at_:=(s.rest % (s.left.length:Nat)).toNat;⟨s.left.take at_ ++ s.left.drop (at_+1),s.rest / (s.left.length:Nat),s.out ++ [s.left.getD at_ 0]⟩
noncomputable def qU (s:LS):Nat:=(s.rest % (s.left.length:Nat)).toNat
structure LOk (k:Nat)(s:LS):Prop where
 len:s.left.length+k=26
 ol:s.out.length=k
 sm:∀ x∈s.left,small x
 so:∀ x∈s.out,small x
 nl:s.left.Nodup
 no:s.out.Nodup
 ap:∀ x∈s.out,x ∉ s.left
theorem NS {s:LS}(h:0 < s.left.length):qU s < s.left.length:=by
 have h0:=aaC s.rest (show((s.left.length:Nat):Int)≠0 by omega);have h1:=aaH s.rest (show(0:Int) < (s.left.length:Nat) by omega);unfold qU;omega
theorem NT (c:Int):∀ k,k<=6->LOk k (ls c k)
 | 0,_=>⟨show abc.length+0=26 by decide,rfl,fun x hx=>by
     obtain⟨i,hi,rfl⟩:=aaK.mp (show x∈(aan 26).map (97 + ·) from hx);have:=acs.mp hi;unfold small;omega,fun x h=>absurd h (List.not_mem_nil),show abc.Nodup by decide,List.nodup_nil,fun x h=>absurd h (List.not_mem_nil)⟩
 | k+1,hk=>by
   have ih:=NT c k (by omega);have hl:=ih.len;have dS:qU (ls c k) < (ls c k).left.length:=NS (by omega);generalize hs:ls c k=s at ih hl dS;have e:ls c (k+1)=⟨s.left.take (qU s) ++ s.left.drop (qU s+1),s.rest / (s.left.length:Nat),s.out ++ [s.left.getD (qU s) 0]⟩:=by rw[<- hs];rfl
   rw[e];have eg:s.left.getD (qU s) 0=s.left[qU s]:=by rw[aae,aab dS];rfl
   have sub:s.left.take (qU s) ++ s.left.drop (qU s+1)=s.left.eraseIdx (qU s):=(List.eraseIdx_eq_take_drop_succ _ _).symm;have mem:∀ x∈s.left.take (qU s) ++ s.left.drop (qU s+1),x∈s.left:=fun x hx=>by
     rcases abN.mp hx with h | h
     . exact List.mem_of_mem_take h
     . exact List.mem_of_mem_drop h
   have U8:s.left[qU s]∈s.left:=aaN dS;have nin:s.left[qU s] ∉ s.left.take (qU s) ++ s.left.drop (qU s+1):=by
     have pw:=abB.mp ih.nl;intro h;rcases abN.mp h with h | h
     . obtain⟨i,hi,e⟩:=abJ.mp h
       rw[aaD] at hi;rw[acb] at e;exact pw i (qU s) (by omega) dS (by omega) e
     . obtain⟨i,hi,e⟩:=abJ.mp h
       rw[abU] at hi;rw[List.getElem_drop] at e;exact pw (qU s) (qU s+1+i) dS (by omega) (by omega) e.symm
   refine⟨?_,?_,fun x hx=>ih.sm x (mem x hx),fun x hx=>?_,?_,?_,fun x hx=>?_⟩
   . show(s.left.take (qU s) ++ s.left.drop (qU s+1)).length+(k+1)=26
     rw[aaw,aaD,abU];omega
   . show(s.out ++ [s.left.getD (qU s) 0]).length=k+1
     rw[aaw,ih.ol];rfl
   . rcases abN.mp hx with h | h
     . exact ih.so x h
     . have:x=s.left[qU s]:=by rw[<- eg];simpa using h
       rw[this];exact ih.sm _ U8
   . show(s.left.take (qU s) ++ s.left.drop (qU s+1)).Nodup
     rw[sub];exact List.Nodup.sublist (List.eraseIdx_sublist _ _) ih.nl
   . show(s.out ++ [s.left.getD (qU s) 0]).Nodup
     rw[eg];refine List.nodup_append.mpr ⟨ih.no,by simp,fun a ha b hb z=>?_⟩;have:b=s.left[qU s]:=by simpa using hb
     subst z this;exact ih.ap _ ha U8
   . rcases abN.mp hx with h | h
     . exact fun z=>ih.ap x h (mem x z)
     . have:x=s.left[qU s]:=by rw[<- eg];simpa using h
       rw[this];exact nin
noncomputable def ws (L:List Nat)(c m:Int):Nat->Int×List Nat
 | 0=>(c / m,[])
 | k+1=>let s:=ws L c m k;(s.1 / (L.length:Nat),s.2 ++ [L.getD (s.1 % (L.length:Nat)).toNat 0])
noncomputable def yZ (L:List Nat)(c m:Int):List Nat:=(ws L c m (1+c % m).toNat).2
theorem GD (L:List Nat)(c m:Int):∀ k,(ws L c m k).2.length=k
 | 0=>rfl
 | k+1=>by show((ws L c m k).2 ++ [_]).length=_;rw[aaw,GD L c m k];rfl
theorem NU (L:List Nat)(hL:0 < L.length)(c m:Int):∀ k,∀ x∈(ws L c m k).2,x∈L
 | 0,x,h=>by cases h
 | k+1,x,h=>by
   rcases abN.mp h with h | h
   . exact NU L hL c m k x h
   . have h0:=aaC (ws L c m k).1 (show((L.length:Nat):Int)≠0 by omega)
     have h1:=aaH (ws L c m k).1 (show(0:Int) < (L.length:Nat) by omega);have dS:((ws L c m k).1 % (L.length:Nat)).toNat < L.length:=by omega
     have:x=L.getD ((ws L c m k).1 % (L.length:Nat)).toNat 0:=by simpa using h
     rw[this,aae,aab dS];exact aaN dS
theorem at_getD {L:List Str}{i:Int}{n:Nat}(hn:L.length=n)(h0:0<=i)(h1:i < n):pA (L.map Dt.str) i=some (.str (L.getD i.toNat "")):=by
 have e:i=((i.toNat:Nat):Int):=by omega
 rw[e];have hk:i.toNat < L.length:=by omega
 refine(lE (j:=i.toNat) ?_).trans rfl;rw[aaf,aab hk,aae];show some (Dt.str L[i.toNat])=some (Dt.str ((L[(i.toNat:Int).toNat]?).getD ""));rw[abn,aab hk];rfl
theorem Cg {L:List Nat}(hL:0 < L.length)(c m:Int)(hm:0 < m):0 < (yZ L c m).length/\(yZ L c m).length<=m.toNat/\∀ x∈yZ L c m,x∈L:=by
 have h0:=aaC c (show m≠0 by omega);have h1:=aaH c hm;have hl:=GD L c m (1+c % m).toNat;refine⟨?_,?_,NU L hL c m _⟩
 . show 0 < (ws L c m (1+c % m).toNat).2.length;omega
 . show(ws L c m (1+c % m).toNat).2.length<=_;omega
noncomputable def zb (c:Int)(n:Nat):List Nat:=(ls c n).out
theorem Er (c:Int){n:Nat}(h:n<=6):(zb c n).length=n/\(zb c n).Nodup/\∀ x∈zb c n,small x:=let ok:=NT c n h;⟨ok.ol,ok.no,ok.so⟩
def Rc:Rl:=fun ds r=>∃ (c:Int) (n:Nat),ds=[.int c,.int n]/\n<=6/\r=.ret (.str (tx (zb c n)))
def Wi:Rl:=fun ds r=>∃ (L:List Nat) (c m:Int),ds=[.int c,.str (tx L),.int m]/\(0 < L.length/\L.length<=100)/\(0<=c/\0 < m/\m<=500)/\r=.ret (.str (tx (yZ L c m)))
theorem NV (T:Txt K mg t):GF P w K mg base CX 1 "_law_alphabet" 2 Rc:=by
 refine⟨_,_,_,jb T.ka.F vw rfl fun bc A outer s H E G ds r hr hl hR=>?_,(T.g T.ka.a),T.ka.F.kp,T.ka.b⟩;obtain⟨c,n,rfl,hn,rfl⟩:=hR;have nd:=vw.nd;let S:Nat->List Slot:=fun k=>[.val (.int (ls c k).rest),.val (.int n),.val (.str (tx (ls c k).left)),.val (.str (tx (ls c k).out)),.aY,.aY]
 refine⟨_,.rt _,ah (aB 2 nd cf) (ah (aB 3 nd cf)
   (ah (l9 (o:=.nx (S n)) (m:=n) 4 S nd rfl PassesOwn.leaving T.kF (ae (aa 1 rfl) ai) ⟨by omega,by omega⟩ (Le.of ⟨rfl,rfl,rfl,rfl,trivial⟩) (by omega) (fun k hk=>?_) (by rw[abn];exact .all rfl)) (ao (aN (aa 3 rfl)))))⟩
 have ok:=NT c k (by omega);have hl:=ok.len;have hol:=ok.ol;have dS:qU (ls c k) < (ls c k).left.length:=NS (by omega);have ea:(ls c k).rest % (((ls c k).left.length:Nat):Int)=((qU (ls c k):Nat):Int):=by
   have h0:=aaC (ls c k).rest (show(((ls c k).left.length:Nat):Int)≠0 by omega);unfold qU;omega
 have ea1:((qU (ls c k):Nat):Int)+1=((qU (ls c k)+1:Nat):Int):=by omega
 have hb:0 < (((ls c k).left.length:Nat):Int)/\(((ls c k).left.length:Nat):Int).natAbs.log2 < 9000:=⟨by omega,by
   have:(((ls c k).left.length:Nat):Int).natAbs<=26:=by omega
   exact aaO (Nat.log2_le_self _) (by omega)⟩
 exact .nx (ah (aB 5 nd (bI (dR (aa 0 rfl) (tR T.mK (aa 2 rfl) (by omega)) (by omega)) (congrArg Dt.int ea)))
   (ah (aB 0 nd (gB (aa 0 rfl) (tR T.mK (aa 2 rfl) (by omega)) hb))
   (ah (aB 3 nd (xa (aa 3 rfl) (B2 (aa 2 rfl) (aa 5 rfl) dS (by omega)) (by rw[hol];show k+1<=2000;omega)))
   (ao (aB 2 nd (xa (QN (aa 2 rfl) (aa 5 rfl) (abG dS) (by omega)) (J5 (aa 2 rfl) (bI (bU (aa 5 rfl) aj) (congrArg Dt.int ea1)) dS (by omega)) (by rw[aaD,abU];omega))))))) (Le.of ⟨rfl,rfl,rfl,rfl,trivial⟩)
theorem Rf (T:Txt K mg t):GF P w K mg base CX 1 "_law_text" 3 Wi:=by
 refine⟨_,_,_,jb T.uW.F HP rfl fun bc A outer s H E G ds r hr hl hR=>?_,(T.g T.uW.a),T.uW.F.kp,T.uW.b⟩;obtain⟨L,c,m,rfl,⟨hL0,hL⟩,⟨hc,OK,hm⟩,rfl⟩:=hR;have nd:=HP.nd;have h0:=aaC c (show m≠0 by omega);have h1:=aaH c OK;have hmb:0 < m/\m.natAbs.log2 < 9000:=⟨OK,aaO (Nat.log2_le_self _) (by omega)⟩
 have hLb:0 < ((L.length:Nat):Int)/\((L.length:Nat):Int).natAbs.log2 < 9000:=⟨by omega,aaO (Nat.log2_le_self _) (by omega)⟩
 let S:Nat->List Slot:=fun k=>[.val (.int (ws L c m k).1),.val (.str (tx L)),.val (.int m),.val (.str (tx (ws L c m k).2)),.val (.int (1+c % m)),.aY]
 refine⟨_,.rt _,ah (aB 3 nd cf) (ah (aB 4 nd (bU aj (dR (aa 0 rfl) (aa 2 rfl) OK))) (ah (aB 0 nd (gB (aa 0 rfl) (aa 2 rfl) hmb))
   (ah (l9 (m:=(1+c % m).toNat) 5 S nd rfl PassesOwn.leaving T.kF (ae (aa 4 rfl) ai) ⟨by omega,by omega⟩ (Le.of ⟨rfl,rfl,rfl,rfl,rfl,trivial⟩) (aai _) (fun k hk=>?_) (.all rfl)) (ao (aN (aa 3 rfl))))))⟩
 have Ug:=GD L c m k;have h2:=aaC (ws L c m k).1 (show((L.length:Nat):Int)≠0 by omega);have h3:=aaH (ws L c m k).1 (show(0:Int) < (L.length:Nat) by omega);have ea:(ws L c m k).1 % ((L.length:Nat):Int)=((((ws L c m k).1 % (L.length:Nat)).toNat:Nat):Int):=by omega
 exact .nx (ah (aB 3 nd (xa (aa 3 rfl) (B2 (aa 1 rfl) (bI (dR (aa 0 rfl) (tR T.mK (aa 1 rfl) (by omega)) (by omega)) (congrArg Dt.int ea)) (by omega) (by omega)) (by rw[Ug];show k+1<=2000;omega)))
   (ao (aB 0 nd (gB (aa 0 rfl) (tR T.mK (aa 1 rfl) (by omega)) hLb)))) (Le.of ⟨rfl,rfl,rfl,rfl,rfl,trivial⟩)
noncomputable def Im:List Str:=["stroke","left","right","step","rest"]
noncomputable def dG (c:Int):Str:=Im.getD (c % 5).toNat ""
theorem Kf:∀ x∈Im,x∈rK:=by decide
theorem Wj (c:Int):dG c∈rK:=by
 have h0:=aaC c (show(5:Int)≠0 by decide);have h1:=aaH c (show(0:Int) < 5 by decide);have hk:(c % 5).toNat < Im.length:=by show _ < 5;omega
 refine Kf _ ?_;unfold dG;rw[aae,aab hk];exact aaN hk
noncomputable def zV (L:List Nat)(ns:List Int)(m:Int)(k:Nat):Row:=⟨L.getD k 0,dG (b7 ns (3+k)),yZ L (b7 ns (3+k) / 5) m⟩
noncomputable def zc (L:List Nat)(ns:List Int)(m:Int):List Row:=(aan L.length).map (zV L ns m)
theorem GG (L:List Nat)(ns:List Int)(m:Int):(zc L ns m).map (·.c)=L:=by
 unfold zc;rw[aar];refine List.ext_getElem (by simp) fun i h1 h2=>?_
 simp only[aa8,List.getElem_range,Function.comp];show L.getD i 0=L[i];rw[aae,aab h2];rfl
theorem NW {L:List Nat}(ns:List Int){m:Int}(hm:0 < m/\m<=8)(h0:0 < L.length)(h6:L.length<=6)(nd:L.Nodup)(sm:∀ x∈L,small x):dg (zc L ns m):=by
 have hl:(zc L ns m).length=L.length:=by unfold zc;rw[aaa,aa6]
 have get:∀ r∈zc L ns m,∃ k,k < L.length/\r=zV L ns m k:=fun r hr=>by
   obtain⟨k,hk,e⟩:=aaK.mp hr;exact⟨k,acs.mp hk,e.symm⟩
 refine⟨by omega,by omega,by rw[GG];exact nd,fun r hr=>?_,fun r hr=>?_,fun r hr=>?_,fun r hr x hx=>?_⟩
 . obtain⟨k,hk,rfl⟩:=get r hr
   refine sm _ ?_;show L.getD k 0∈L;rw[aae,aab hk];exact aaN hk
 . obtain⟨k,hk,rfl⟩:=get r hr
   exact Wj _
 . obtain⟨k,hk,rfl⟩:=get r hr
   have:=Cg h0 (b7 ns (3+k) / 5) m hm.1;exact⟨this.1,by have:=this.2.1;show(yZ _ _ _).length<=8;omega⟩
 . obtain⟨k,hk,rfl⟩:=get r hr
   rw[GG];exact(Cg h0 (b7 ns (3+k) / 5) m hm.1).2.2 x hx
noncomputable def vc (ns:List Int)(far:Int):Int:=if b7 ns 1 % 8=6 then b7 ns 1 / 8 % (far+1) else b7 ns 1 / 8 % 13
noncomputable def qr (ns:List Int)(far:Int):Int:=if b7 ns 1 % 8=7 then 200 - b7 ns 1 / 8 % 100 else vc ns far
noncomputable def jN (ns:List Int):Int:=if b7 ns 1 % 8=7 then 1+b7 ns 0 / 2 % 2 else 1+b7 ns 0 / 2 % 6
noncomputable def vd (ns:List Int):Int:=if b7 ns 1 % 8=7 then 2 else 8
noncomputable def Io (ns:List Int):List Nat:=zb (b7 ns 0 / 12) (jN ns).toNat
noncomputable def zd (ns:List Int):List Row:=zc (Io ns) ns (vd ns)
noncomputable def xm (ns:List Int):List Nat:=yZ (Io ns) (b7 ns 2) 8
noncomputable def Ip (ns:List Int):Bool:=decide (b7 ns 0 % 2=1)
theorem Zw (ns:List Int):4+2 * (b7 ns 0 % 2)=wy (Ip ns):=by
 have:b7 ns 0 % 2=0\/b7 ns 0 % 2=1:=by omega
 unfold Ip;rcases this with h | h <;> rw[h] <;> rfl
theorem ze (ns:List Int):1<=jN ns/\jN ns<=6:=by
 unfold jN
 split <;> omega
theorem Es (ns:List Int):0 < vd ns/\vd ns<=8:=by
 unfold vd
 split <;> omega
theorem Rg (ns:List Int){far:Int}(h0:0<=far)(h:far<=200):0<=qr ns far/\qr ns far<=200:=by
 have h1:=aaC (b7 ns 1 / 8) (show far+1≠0 by omega);have h2:=aaH (b7 ns 1 / 8) (show(0:Int) < far+1 by omega);unfold qr vc
 split
 . omega
 . split <;> omega
theorem GH (ns:List Int):0 < (Io ns).length/\(Io ns).length<=6/\(Io ns).Nodup/\∀ x∈Io ns,small x:=by
 have hb:=ze ns;have ok:=Er (b7 ns 0 / 12) (n:=(jN ns).toNat) (by omega);unfold Io;exact⟨by omega,by omega,ok.2.1,ok.2.2⟩
theorem Wk (ns:List Int):(Io ns).length=(jN ns).toNat:=by
 have hb:=ze ns;exact(Er (b7 ns 0 / 12) (n:=(jN ns).toNat) (by omega)).1
theorem Zx (ns:List Int):dg (zd ns):=let h:=GH ns;NW ns (Es ns) h.1 h.2.1 h.2.2.1 h.2.2.2
theorem Zy (ns:List Int):oo (zd ns) (xm ns):=by
 have h:=GH ns;have w:=Cg h.1 (b7 ns 2) 8 (by decide);exact⟨Zx ns,w.1,w.2.1,fun x hx=>by unfold zd;rw[GG];exact w.2.2 x hx⟩
def Rh:Rl:=fun ds r=>∃ (ns:List Int) (far:Int),ds=[.rq ns,.int far]/\(0<=far/\far<=200)/\r=.ret (.tup [.int (wy (Ip ns)),.lst ((zd ns).map qo),.str (tx (xm ns)),.int (qr ns far)])
theorem NX (T:Txt K mg t):GF P w K mg base CX 2 "_law_shape" 2 Rh:=by
 refine⟨_,_,_,jb T.qR.F DL rfl fun bc A outer s H E G ds r hr hl hR=>?_,(T.g T.qR.a),T.qR.F.kp,T.qR.b⟩;obtain⟨ns,far,rfl,⟨hf0,hf⟩,rfl⟩:=hR;have nd:=DL.nd;have hM:=ze ns;have hm:=Es ns;have hL:=GH ns;have hlen:=Wk ns;have eM:jN ns=(((jN ns).toNat:Nat):Int):=by omega
 let c0:=b7 ns 0;let c1:=b7 ns 1;let L:=Io ns;let m:=vd ns;let D:Int->Int->Int->List Slot:=fun a b c=>[.val (.rq ns),.val (.int far),.val (.int c0),.val (.int (c1 % 8)),.val (.int a),.val (.int b),.val (.int c),.aY,.aY,.aY,.aY,.aY,.aY]
 let S:Nat->List Slot:=fun k=>[.val (.rq ns),.val (.int far),.val (.int c0),.val (.int (c1 % 8)),.val (.int (qr ns far)),.val (.int (jN ns)),.val (.int m),.val (.str (tx L)),.own (.lst (((aan k).map (zV L ns m)).map qo)),.aY,.aY,.aY,.aY]
 have cl:∀ (j:Nat),j<=100->Il [.rq ns,.int j] (.ret (.int (b7 ns j))):=fun j hj=>⟨ns,j,rfl,hj,rfl⟩
 refine⟨_,.rt _,ah (aB 2 nd (cS (Ep T) aD hr (ae (aa 0 rfl) (ae aj ai)) (cl 0 (by decide))))
   (ah (aB 3 nd (dR (cS (Ep T) aD hr (ae (aa 0 rfl) (ae aj ai)) (cl 1 (by decide))) aj (by decide)))
   (ah (aB 4 nd (dR (gB (cS (Ep T) aD hr (ae (aa 0 rfl) (ae aj ai)) (cl 1 (by decide))) aj ⟨by decide,by decide +kernel⟩) aj (by decide)))
   (ah (aB 5 nd (bU aj (dR (gB (aa 2 rfl) aj ⟨by decide,by decide +kernel⟩) aj (by decide))))
   (ah (aB 6 nd aj)
   (ah (dl1:=D (vc ns far) (1+c0 / 2 % 6) 8) (aL (eD (aa 3 rfl) aj) (fun h=>?_) (fun h=>?_))
   (ah (dl1:=D (qr ns far) (jN ns) m) (aL (eD (aa 3 rfl) aj) (fun h=>?_) (fun h=>?_))
   (ah (aB 7 nd (d:=.str (tx L)) (cS (NV T) aD hr (ae (gB (aa 2 rfl) aj ⟨by decide,by decide +kernel⟩) (ae (bI (aa 5 rfl) (congrArg Dt.int eM)) ai)) ⟨c0 / 12,(jN ns).toNat,rfl,by omega,rfl⟩))
   (ah (mY 8 nd (fY ai AA3))
   (ah (dl1:=S L.length) (l9 (o:=.nx (S L.length)) (m:=L.length) 9 S nd rfl PassesOwn.leaving T.kF (ae (bI (aa 5 rfl) (congrArg Dt.int eM)) ai) ⟨by omega,by omega⟩ (Le.of ⟨rfl,rfl,rfl,rfl,rfl,rfl,rfl,rfl,rfl,trivial⟩) (by show(Io ns).length<=_;omega) (fun k hk=>?_) (by rw[abn,<- hlen];exact .all rfl))
   (ah (aB 12 nd (d:=.str (tx (xm ns))) (cS (Rf T) aD hr (ae (cS (Ep T) aD hr (ae (aa 0 rfl) (ae aj ai)) (cl 2 (by decide))) (ae (aa 7 rfl) (ae aj ai))) ⟨L,b7 ns 2,8,rfl,⟨hL.1,by show(Io ns).length<=100;omega⟩,⟨Eo _ _,by decide,by decide⟩,rfl⟩))
   (Fp (w:=.lst (((aan L.length).map (zV L ns m)).map qo)) 8 (ao (aN (b9 (ae (bI (bU aj (nA aj (dR (aa 2 rfl) aj (by decide)) (zm.ok (aaJ ⟨by decide,by decide⟩)))) (congrArg Dt.int (Zw ns))) (ae (aa 8 rfl) (ae (aa 12 rfl) (ae (aa 4 rfl) ai)))) AA3))))))))))))))⟩
 . have h:=of_decide_eq_true h
   have e:vc ns far=c1 / 8 % (far+1):=if_pos h;rw[e];exact ao (aB 4 nd (dR (gB (cS (Ep T) aD hr (ae (aa 0 rfl) (ae aj ai)) (cl 1 (by decide))) aj ⟨by decide,by decide +kernel⟩) (bU (aa 1 rfl) aj) (by omega)))
 . have h:=of_decide_eq_false h
   have e:vc ns far=c1 / 8 % 13:=if_neg h;rw[e];exact aS
 . have h:=of_decide_eq_true h
   have e1:qr ns far=200 - c1 / 8 % 100:=if_pos h;have e2:jN ns=1+c0 / 2 % 2:=if_pos h;have e3:m=2:=if_pos h;rw[e1,e2,e3];exact ah (aB 4 nd (mn aj (dR (gB (cS (Ep T) aD hr (ae (aa 0 rfl) (ae aj ai)) (cl 1 (by decide))) aj ⟨by decide,by decide +kernel⟩) aj (by decide))))
     (ah (aB 5 nd (bU aj (dR (gB (aa 2 rfl) aj ⟨by decide,by decide +kernel⟩) aj (by decide)))) (ao (aB 6 nd aj)))
 . have h:=of_decide_eq_false h
   have e1:qr ns far=vc ns far:=if_neg h;have e2:jN ns=1+c0 / 2 % 6:=if_neg h;have e3:m=8:=if_neg h;rw[e1,e2,e3];exact aS
 . have hk:k < (Io ns).length:=hk
   have h0:=aaC (b7 ns (3+k)) (show(5:Int)≠0 by decide);have h1:=aaH (b7 ns (3+k)) (show(0:Int) < 5 by decide);have hnn:=Eo ns (3+k);have e:((aan (k+1)).map (zV L ns m)).map qo=((aan k).map (zV L ns m)).map qo ++ [qo (zV L ns m k)]:=by
     rw[List.range_succ,abO,abO];rfl
   refine .nx (ah (aB 10 nd (cS (Ep T) aD hr (ae (aa 0 rfl) (ae (bI (bU aj (aa 9 rfl)) (congrArg Dt.int (show(3:Int)+(k:Int)=((3+k:Nat):Int) by omega))) ai)) (cl (3+k) (by omega))))
     (ah (aB 11 nd (d:=.str (dG (b7 ns (3+k)))) (aZ (b9 (ae cf (ae cf (ae cf (ae cf (ae cf ai))))) AA3) (dR (aa 10 rfl) aj (by decide)) (at_getD (L:=Im) (n:=5) rfl h0 h1)))
     (ao (nS (ds:=((aan k).map (zV L ns m)).map qo) 8 (d:=qo (zV L ns m k)) (b9 (ae (B2 (aa 7 rfl) (aa 9 rfl) hk (by show(Io ns).length<=2000;omega)) (ae (aa 11 rfl) (ae (cS (Rf T) aD hr (ae (gB (aa 10 rfl) aj ⟨by decide,by decide +kernel⟩) (ae (aa 7 rfl) (ae (aa 6 rfl) ai))) ⟨L,b7 ns (3+k) / 5,m,rfl,⟨hL.1,by show(Io ns).length<=100;omega⟩,⟨Int.ediv_nonneg hnn (by decide),hm.1,by have:=hm.2;show vd ns<=500;omega⟩,rfl⟩) ai))) AA3) (by rw[aaa,aaa,aa6];exact aam (show k < 2000 by omega) (by decide)))))) (Le.of ⟨rfl,rfl,rfl,rfl,rfl,rfl,rfl,rfl,?_,trivial⟩)
   show Slot.own (.lst (((aan (k+1)).map (zV L ns m)).map qo))=_;rw[e]
theorem NZ (B:List Nat)(f g:Nat->Int):(B.map fun b=>f b+g b).sum=(B.map f).sum+(B.map g).sum:=by
 induction B with
 | nil=>rfl
 | cons b B ih=>rw[aas,ab3,ih,aas,ab3,aas,ab3];omega
theorem N1 (B:List Nat):(B.map fun _=>(0:Int)).sum=0:=by
 induction B with
 | nil=>rfl
 | cons b B ih=>rw[aas,ab3,ih];rfl
theorem Kg (A B:List Nat)(f:Nat->Nat->Int):(A.map fun a=>(B.map fun b=>f a b).sum).sum=(B.map fun b=>(A.map fun a=>f a b).sum).sum:=by
 induction A with
 | nil=>exact(N1 B).symm
 | cons a A ih=>
   rw[aas,ab3,ih,<- NZ];rfl
noncomputable def gP (rows:List Row):Nat->Nat->List Nat
 | 0,c=>[c]
 | r+1,c=>(wordOf rows c).flatMap (gP rows r)
theorem adp (rows:List Row)(r c:Nat):lT rows (r+1) c=((wordOf rows c).map (lT rows r)).sum:=by
 unfold lT;exact(Kg (wordOf rows c) (rows.map (·.c)) fun y x=>cT rows r y x).symm
theorem ow {rows:List Row}(ok:dg rows){c:Nat}(hc:c∈rows.map (·.c)):(∀ y∈wordOf rows c,y∈rows.map (·.c))/\0 < (wordOf rows c).length/\(wordOf rows c).length<=8:=by
 obtain⟨q,hq,_,_,ew⟩:=kR hc;rw[ew];exact⟨ok.wo q hq,ok.wp q hq⟩
theorem zf {f:Nat->List Nat}{g:Nat->Int}:∀ {w:List Nat},(∀ y∈w,(((f y).length:Nat):Int)=g y)->(((w.flatMap f).length:Nat):Int)=(w.map g).sum
 | [],_=>rfl
 | y::w,h=>by
   rw[acd,aaw,aas,ab3,<- h y (by simp),<- zf (f:=f) (g:=g) fun z hz=>h z (by simp[hz])];omega
theorem GI {rows:List Row}(ok:dg rows):∀ (r:Nat) {c:Nat},c∈rows.map (·.c)->(((gP rows r c).length:Nat):Int)=lT rows r c
 | 0,c,hc=>by rw[Zp ok hc];rfl
 | r+1,c,hc=>by
   rw[adp];exact zf fun y hy=>GI ok r ((ow ok hc).1 y hy)
theorem N2 {rows:List Row}(ok:dg rows):∀ (r:Nat) {c:Nat},c∈rows.map (·.c)->0 < (gP rows r c).length
 | 0,c,hc=>by show 0 < [c].length;simp
 | r+1,c,hc=>by
   obtain⟨h1,h2,_⟩:=ow ok hc;show 0 < ((wordOf rows c).flatMap (gP rows r)).length;cases hw:wordOf rows c with
   | nil=>rw[hw] at h2;simp at h2
   | cons y w=>
     have:=N2 ok r (h1 y (by rw[hw];simp));rw[acd,aaw];omega
noncomputable abbrev Pc:=Nat×Nat
noncomputable def wg (p:Pc):Dt:=.tup [.int ((p.1:Nat):Int),.str (sg p.2)]
noncomputable def flat (rows:List Row)(st:List Pc):List Nat:=st.flatMap fun p=>gP rows p.1 p.2
noncomputable def wp (r:Nat)(w:List Nat):List Pc:=w.map fun c=>(r,c)
theorem Et (rows:List Row)(a b:List Pc):flat rows (a ++ b)=flat rows a ++ flat rows b:=List.flatMap_append
theorem Ci (rows:List Row)(r:Nat)(w:List Nat):flat rows (wp r w)=w.flatMap (gP rows r):=by unfold flat wp;rw[List.flatMap_map]
theorem Zz (rows:List Row)(p:Pc):flat rows [p]=gP rows p.1 p.2:=by unfold flat;simp
theorem AH (rows:List Row)(p:Pc)(st:List Pc):flat rows (p::st)=gP rows p.1 p.2 ++ flat rows st:=by unfold flat;rw[acd]
structure PS where
 place:Nat
 st:List Pc
 bt:List Pc
noncomputable def qt (rows:List Row)(b e:Nat)(s:PS):PS:=match s.st with
 | []=>s
 | p::st=>
   if s.place+(gP rows p.1 p.2).length<=b then ⟨s.place+(gP rows p.1 p.2).length,st,s.bt⟩
   else if b<=s.place/\s.place+(gP rows p.1 p.2).length<=e then ⟨s.place+(gP rows p.1 p.2).length,st,s.bt ++ [p]⟩
   else ⟨s.place,wp (p.1 - 1) (wordOf rows p.2) ++ st,s.bt⟩
noncomputable def run (rows:List Row)(b e:Nat)(s:PS):Nat->PS
 | 0=>s
 | k+1=>qt rows b e (run rows b e s k)
theorem N3 (rows:List Row)(b e:Nat)(s:PS):∀ k,run rows b e s (k+1)=run rows b e (qt rows b e s) k
 | 0=>rfl
 | k+1=>by
   show qt rows b e (run rows b e s (k+1))=qt rows b e (run rows b e (qt rows b e s) k);rw[N3 rows b e s k]
structure Xc (rows:List Row)(age b e:Nat)(W:List Nat)(s:PS):Prop where
 be:b<=e
 ew:e<=W.length
 pe:s.place<=e
 fl:flat rows s.st=W.drop s.place
 fb:flat rows s.bt=(W.take s.place).drop b
 mb:∀ p∈s.st,p.2∈rows.map (·.c)/\p.1<=age
 mt:∀ p∈s.bt,p.2∈rows.map (·.c)/\p.1<=age
noncomputable def ins (b p q:Nat):Nat:=if p < b/\b < q then 1 else 0
theorem N4 (b p q:Nat):ins b p q<=1:=by unfold ins;split <;> omega
theorem Iq (b:Nat){p q r:Nat}(h1:p<=q)(h2:q<=r):ins b p q+ins b q r<=ins b p r:=by
 unfold ins
 split <;> split <;> split <;> omega
noncomputable def mu (rows:List Row)(b e:Nat):Nat->List Pc->Nat
 | _,[]=>0
 | p,x::st=>1+8 * x.1 * (ins b p (p+(gP rows x.1 x.2).length)+ins e p (p+(gP rows x.1 x.2).length))+mu rows b e (p+(gP rows x.1 x.2).length) st
theorem N5 (rows:List Row)(b e:Nat):∀ (p:Nat) (st:List Pc),st.length<=mu rows b e p st
 | _,[]=>aai 0
 | p,x::st=>by
   have:=N5 rows b e (p+(gP rows x.1 x.2).length) st;rw[mu,aaL];omega
theorem N6 (rows:List Row)(b e r:Nat)(st:List Pc):∀ (p:Nat) (w:List Nat),mu rows b e p (wp r w ++ st)<=w.length+8 * r * (ins b p (p+(flat rows (wp r w)).length)+ins e p (p+(flat rows (wp r w)).length))+mu rows b e (p+(flat rows (wp r w)).length) st
 | p,[]=>by
   show mu rows b e p st<=_;have:p+(flat rows (wp r [])).length=p:=rfl;rw[this];omega
 | p,c::w=>by
   have ih:=N6 rows b e r st (p+(gP rows r c).length) w;have el:p+(flat rows (wp r (c::w))).length=p+(gP rows r c).length+(flat rows (wp r w)).length:=by
     show p+(flat rows ((r,c)::wp r w)).length=_;rw[AH,aaw];exact(Nat.add_assoc _ _ _).symm
   rw[el];have c1:=Iq b (aci p (gP rows r c).length) (aci (p+(gP rows r c).length) (flat rows (wp r w)).length);have c2:=Iq e (aci p (gP rows r c).length) (aci (p+(gP rows r c).length) (flat rows (wp r w)).length);have m:=Nat.mul_le_mul_left (8 * r) (Nat.add_le_add c1 c2);have m2:8 * r * (ins b p (p+(gP rows r c).length)+ins e p (p+(gP rows r c).length))+8 * r * (ins b (p+(gP rows r c).length) (p+(gP rows r c).length+(flat rows (wp r w)).length)+ins e (p+(gP rows r c).length) (p+(gP rows r c).length+(flat rows (wp r w)).length))<=8 * r * (ins b p (p+(gP rows r c).length+(flat rows (wp r w)).length)+ins e p (p+(gP rows r c).length+(flat rows (wp r w)).length)):=by
     rw[<- Nat.mul_add];refine aax (Nat.mul_le_mul_left _ ?_) m;omega
   show mu rows b e p ((r,c)::(wp r w ++ st))<=_;rw[mu,aaL];show 1+8 * r * (ins b p (p+(gP rows r c).length)+ins e p (p+(gP rows r c).length))+mu rows b e (p+(gP rows r c).length) (wp r w ++ st)<=_;omega
theorem GJ {rows:List Row}(ok:dg rows){age b e:Nat}{W:List Nat}{s:PS}(I:Xc rows age b e W s)(hp:s.place < e):Xc rows age b e W (qt rows b e s)/\mu rows b e (qt rows b e s).place (qt rows b e s).st < mu rows b e s.place s.st/\(qt rows b e s).bt.length+mu rows b e (qt rows b e s).place (qt rows b e s).st<=s.bt.length+mu rows b e s.place s.st/\∃ p st,s.st=p::st/\(¬ s.place+(gP rows p.1 p.2).length<=b->¬ (b<=s.place/\s.place+(gP rows p.1 p.2).length<=e)->0 < p.1):=by
 obtain⟨be,ew,pe,fl,fb,mb,mt⟩:=I;obtain⟨place,st,bt⟩:=s;simp only at pe fl fb mb mt hp ⊢;cases st with
 | nil=>
   have:=congrArg abI fl;rw[abU] at this;have z:(flat rows []).length=0:=rfl;omega
 | cons p st=>
   rw[AH] at fl;have vK:=N2 ok p.1 (mb p (by simp)).1;have jQ:∀ x∈st,x.2∈rows.map (·.c)/\x.1<=age:=fun x hx=>mb x (by simp[hx])
   have hlen:=congrArg abI fl;rw[abU,aaw] at hlen;have HF:flat rows st=W.drop (place+(gP rows p.1 p.2).length):=by
     rw[<- List.drop_drop,<- fl,List.drop_left]
   have ft:W.take (place+(gP rows p.1 p.2).length)=W.take place ++ gP rows p.1 p.2:=by
     rw[List.take_add,<- fl,List.take_left]
   have Du:(¬ place+(gP rows p.1 p.2).length<=b->¬ (b<=place/\place+(gP rows p.1 p.2).length<=e)->0 < p.1):=fun h1 h2=>by
     rcases Nat.eq_zero_or_pos p.1 with z | z
     . rw[z] at h1 h2
       have e1:(gP rows 0 p.2).length=1:=rfl;rw[e1] at h1 h2;omega
     . exact z
   refine⟨?_,?_,?_,p,st,rfl,Du⟩
   . unfold qt
     simp only
     split
     . rename_i h
       refine⟨be,ew,by show place+_<=e;omega,HF,?_,jQ,mt⟩;have n1:(W.take place).drop b=[]:=List.drop_eq_nil_of_le (by rw[aaD];omega);have n2:(W.take (place+(gP rows p.1 p.2).length)).drop b=[]:=List.drop_eq_nil_of_le (by rw[aaD];omega);show flat rows bt=(W.take (place+(gP rows p.1 p.2).length)).drop b;rw[fb,n1,n2]
     . split
       . rename_i h1 h2
         refine⟨be,ew,h2.2,HF,?_,jQ,fun x hx=>?_⟩
         . show flat rows (bt ++ [p])=(W.take (place+(gP rows p.1 p.2).length)).drop b
           rw[Et,Zz,fb,ft,List.drop_append_of_le_length (by rw[aaD];omega)]
         . rcases abN.mp hx with hx | hx
           . exact mt x hx
           . have:x=p:=by simpa using hx
             rw[this];exact mb p (by simp)
       . rename_i h1 h2
         have hz:=Du h1 h2;refine⟨be,ew,pe,?_,fb,fun x hx=>?_,mt⟩
         . show flat rows (wp (p.1 - 1) (wordOf rows p.2) ++ st)=_
           rw[Et,Ci,<- fl]
           congr 1
           obtain⟨r,hr⟩:∃ r,p.1=r+1:=⟨p.1 - 1,by omega⟩
           rw[hr];rfl
         . rcases abN.mp hx with hx | hx
           . obtain⟨y,hy,rfl⟩:=aaK.mp hx
             exact⟨(ow ok (mb p (by simp)).1).1 y hy,by have:=(mb p (by simp)).2;show p.1 - 1<=age;omega⟩
           . exact jQ x hx
   all_goals
     unfold qt;simp only;rw[mu]
     split
     . show _;simp only;omega
     . split
       . simp only[aaw,List.length_singleton];omega
       . rename_i h1 h2
         have hz:=Du h1 h2;have hw8:=(ow ok (mb p (by simp)).1).2.2;have key:=N6 rows b e (p.1 - 1) st place (wordOf rows p.2);have ef:(flat rows (wp (p.1 - 1) (wordOf rows p.2))).length=(gP rows p.1 p.2).length:=by
           rw[Ci];obtain⟨r,hr⟩:∃ r,p.1=r+1:=⟨p.1 - 1,by omega⟩
           rw[hr];rfl
         rw[ef] at key;have hI:1<=ins b place (place+(gP rows p.1 p.2).length)+ins e place (place+(gP rows p.1 p.2).length):=by
           unfold ins
           split <;> split <;> omega
         generalize ins b place (place+(gP rows p.1 p.2).length)+ins e place (place+(gP rows p.1 p.2).length)=J at key hI ⊢;have m:8+8 * (p.1 - 1) * J<=8 * p.1 * J:=by
           obtain⟨r,hr⟩:∃ r,p.1=r+1:=⟨p.1 - 1,by omega⟩
           rw[hr,Nat.add_sub_cancel,Nat.mul_add,Nat.add_mul];omega
         simp only;omega
theorem GK {rows:List Row}(ok:dg rows){age b e:Nat}{W:List Nat}{s:PS}(I:Xc rows age b e W s){n:Nat}(h:∀ k,k < n->(run rows b e s k).place < e):∀ k,k<=n->Xc rows age b e W (run rows b e s k)/\(run rows b e s k).bt.length+mu rows b e (run rows b e s k).place (run rows b e s k).st<=s.bt.length+mu rows b e s.place s.st
 | 0,_=>⟨I,aai _⟩
 | k+1,hk=>by
   obtain⟨i1,i2⟩:=GK ok I h k (by omega);obtain⟨j1,_,j3,_⟩:=GJ ok i1 (h k (by omega));exact⟨j1,aax j3 i2⟩
theorem Eu {rows:List Row}(ok:dg rows){age b e:Nat}{W:List Nat}:∀ (m:Nat) {s:PS},Xc rows age b e W s->mu rows b e s.place s.st<=m->∃ n,e<=(run rows b e s n).place/\∀ k,k < n->(run rows b e s k).place < e
 | m,s,I,hm=>by
   by_cases hp:s.place < e
   . obtain⟨j1,j2,_⟩:=GJ ok I hp
     cases m with
     | zero=>omega
     | succ m=>
       obtain⟨n,h1,h2⟩:=Eu ok m j1 (by omega);refine⟨n+1,by rw[N3];exact h1,fun k hk=>?_⟩;cases k with
       | zero=>exact hp
       | succ k=>rw[N3];exact h2 k (by omega)
   . exact⟨0,by show e<=s.place;omega,fun k hk=>by omega⟩
noncomputable def zg (rows:List Row)(w:List Nat)(age:Nat):List Nat:=w.flatMap (gP rows age)
noncomputable def zW (w:List Nat)(age:Nat):PS:=⟨0,wp age w,[]⟩
theorem GL {rows:List Row}{w:List Nat}(ok:oo rows w){age b e:Nat}(be:b<=e)(ew:e<=(zg rows w age).length):Xc rows age b e (zg rows w age) (zW w age):=
 ⟨be,ew,abh _,Ci rows age w,by show []=(List.take 0 _).drop b;simp,fun p hp=>by
   obtain⟨y,hy,rfl⟩:=aaK.mp hp;exact⟨ok.wm y hy,aai _⟩,fun p hp=>by cases hp⟩
theorem N7 {rows:List Row}{w:List Nat}(ok:oo rows w){age b e:Nat}(ha:age<=200):mu rows b e (zW w age).place (zW w age).st<=4000:=by
 have key:=N6 rows b e age [] 0 w;rw[aaT] at key;have w8:=ok.w8;have i1:=N4 b 0 (0+(flat rows (wp age w)).length);have i2:=N4 e 0 (0+(flat rows (wp age w)).length);have m:8 * age * (ins b 0 (0+(flat rows (wp age w)).length)+ins e 0 (0+(flat rows (wp age w)).length))<=8 * 200 * 2:=Nat.mul_le_mul (by omega) (by omega);have z:mu rows b e (0+(flat rows (wp age w)).length) []=0:=rfl;show mu rows b e 0 (wp age w)<=4000;omega
theorem Cj {rows:List Row}{w:List Nat}(ok:oo rows w)(age:Nat):(((zg rows w age).length:Nat):Int)=lnT rows w age:=zf fun y hy=>GI ok.ok age (ok.wm y hy)
def Wl:Rl:=fun ds r=>∃ (w:List Nat) (n:Nat),ds=[.str (tx w),.int ((n:Nat):Int)]/\w.length<=1000/\r=.own (.lst ((wp n w).reverse.map wg))
noncomputable abbrev Wm:Stmt->Scope
 | .Return (some (.ListComp _ _ sc _)) _=>sc
 | _=>af (.Pass ⟨0,0,0,0⟩)
noncomputable abbrev ZA:Scope:=Wm ((aG eX).getD 0 (.Pass ⟨0,0,0,0⟩))
theorem SO:kM ZA (af eX) n8 ["letter","rounds"] ["letter"] [1]=true:=by decide +kernel
def N8 (t:dy):Rl:=fun ds r=>∃ six rows w l ls N age b e n,ds=[.obj t.au (t.fS six rows w l ls N),.int ((age:Nat):Int),.int ((b:Nat):Int),.int ((e:Nat):Int)]/\(oo rows w/\ls.map (·.2)=pQ rows/\age < N/\N<=1000/\age<=200)/\(b<=e/\e<=(zg rows w age).length)/\(e<=(run rows b e (zW w age) n).place/\∀ k,k < n->(run rows b e (zW w age) k).place < e) /\
 r=.own (.lst ((run rows b e (zW w age) n).bt.map wg))
theorem Rj (T:Txt K mg t):GF P w K mg base CX 1 "waiting_pieces" 2 Wl:=by
 refine⟨_,_,_,jb T.dD.F tf rfl fun bc A outer s H E G ds r hr hl hR=>?_,(T.g T.dD.a),T.dD.F.kp,T.dD.b⟩;obtain⟨wd,n,rfl,hw,rfl⟩:=hR;have e1:(wd.reverse.map fun x=>Dt.str (sg x))=(Sg.signs (tx wd)).reverse:=by rw[<- iY,List.map_reverse]
 have e2:((wd.reverse.filter fun _=>true).map fun x=>Dt.tup [.int ((n:Nat):Int),.str (sg x)])=(wp n wd).reverse.map wg:=by
   rw[aaG.mpr (fun _ _=>rfl)];unfold wp;rw[<- List.map_reverse,aar];rfl
 exact⟨_,.ro _,ao (fB (LG (jW wd.reverse (fun x=>Dt.str (sg x)) (fun x=>Dt.tup [.int ((n:Nat):Int),.str (sg x)]) (fun x=>[.val (.str (sg x))]) (fun _=>true) rfl (dQ SO) (Qw T.sk (ae (aa 0 rfl) ai)) (d9 (dQ SO) rfl) (gi (JA (by rw[ik];omega)) e1) (fun a _=>fC) (.nil fun _ _=>rfl)
   (fun a ha _ C fp s' H' G'=>b9 (ae (aa 1 rfl) (ae (aa 0 rfl) ai)) AA3) (t7 (by rw[acj];omega))) (congrArg Own.lst e2)))⟩
theorem Kh (T:Txt K mg t):MF P w K mg base CX 4 t.au "pieces" 4 (N8 t):=by
 refine⟨T.aO.cl,_,_,_,jb T.iW.F n9 rfl fun bc A outer s H E G ds r hr hl hR=>?_,T.fq,T.iW.b⟩;obtain⟨six,rows,wd,l,ls,N,age,b,e,n,rfl,⟨ok,mZ,hN,hN1,gF⟩,⟨sF,N9⟩,⟨hen,dS⟩,rfl⟩:=hR;have nd:=n9.nd;have hu:(A.deeper (envOfC "Growth.pieces" (af iD) s.heap.objs.size t.dc bc)).units+1 < cLine:=by have:=hr.units;omega
 have w8:=ok.w8;let R:Nat->PS:=run rows b e (zW wd age);have U8:=GK ok.ok (GL ok sF N9) dS;have h0:(zW wd age).bt.length+mu rows b e (zW wd age).place (zW wd age).st<=4000:=by
   have:=N7 ok (b:=b) (e:=e) gF;show 0+_<=_;omega
 have hsz:∀ k,k<=n->(R k).bt.length<=4000/\(R k).st.length<=4000:=fun k hk=>by
   have h1:=(U8 k hk).2;have h2:=N5 rows b e (run rows b e (zW wd age) k).place (run rows b e (zW wd age) k).st;exact⟨by show(run rows b e (zW wd age) k).bt.length<=4000;omega,by show(run rows b e (zW wd age) k).st.length<=4000;omega⟩
 have szq:∀ {m:Nat},m<=8000->m < sizeLine:=fun h=>aaO h (by decide)
 let sf:Dt:=.obj t.au (t.fS six rows wd l ls N);let S:Nat->List Slot:=fun k=>[.val sf,.val (.int ((age:Nat):Int)),.val (.int ((b:Nat):Int)),.val (.int ((e:Nat):Int)),.own (.lst ((R k).bt.map wg)),.own (.lst ((R k).st.reverse.map wg)),.val (.int (((R k).place:Nat):Int)),.aY,.aY,.aY]
 refine⟨_,.ro _,ah (mY 4 nd (fY ai AA3)) (ah (mY 5 nd (xW (Rj T) aD hr (ae (aI (fs:=t.fS six rows wd l ls N) (aa 0 rfl) T.aO.cl T.gy rfl) (ae (aa 1 rfl) ai)) ⟨wd,age,rfl,by omega,rfl⟩))
   (ah (aB 6 nd aj) (ah (dl1:=S n) (LP S n PassesOwn.leaving (Le.of ⟨rfl,rfl,rfl,rfl,rfl,rfl,rfl,trivial⟩) (fun k hk=>br (mq (aa 6 rfl) (aa 3 rfl)) (decide_eq_true ?c1)) (br (mq (aa 6 rfl) (aa 3 rfl)) (decide_eq_false ?c2)) (fun k hk=>?body)) (ao (wD 4)))))⟩
 case c1=>have:=dS k hk;show(((run rows b e (zW wd age) k).place:Nat):Int) < _;omega
 case c2=>show ¬ (((run rows b e (zW wd age) n).place:Nat):Int) < _;omega
 case body=>
   have hk':=dS k hk;obtain⟨Ik,_⟩:=U8 k (abG hk);obtain⟨_,_,_,p,st,es,Du⟩:=GJ ok.ok Ik hk';have eR:R (k+1)=qt rows b e (R k):=rfl;obtain⟨Ko,AR⟩:=hsz k (abG hk);have O1:(R k).st=p::st:=es;have Kt:=Ik.mb p (by rw[es];simp);have vK:p.1 < N:=by omega
   have hg:=GI ok.ok p.1 Kt.1;have adq:(R k).st.reverse.map wg=st.reverse.map wg ++ [wg p]:=by rw[O1,List.reverse_cons,abO];rfl
   have ahQ:st.length<=4000:=by have:=congrArg abI O1;rw[aaL] at this;omega
   let q:Nat:=(R k).place+(gP rows p.1 p.2).length;have eq:(((R k).place:Nat):Int)+lT rows p.1 p.2=((q:Nat):Int):=by rw[<- hg];show _=(((R k).place+(gP rows p.1 p.2).length:Nat):Int);omega
   let U:List Slot:=[.val sf,.val (.int ((age:Nat):Int)),.val (.int ((b:Nat):Int)),.val (.int ((e:Nat):Int)),.own (.lst ((R k).bt.map wg)),.own (.lst (st.reverse.map wg)),.val (.int (((R k).place:Nat):Int)),.val (wg p),.val (.int ((p.1:Nat):Int)),.val (.int ((q:Nat):Int))]
   have hS:S k=[.val sf,.val (.int ((age:Nat):Int)),.val (.int ((b:Nat):Int)),.val (.int ((e:Nat):Int)),.own (.lst ((R k).bt.map wg)),.own (.lst (st.reverse.map wg ++ [wg p])),.val (.int (((R k).place:Nat):Int)),.aY,.aY,.aY]:=by
     show [_,_,_,_,_,Slot.own (.lst ((R k).st.reverse.map wg)),_,_,_,_]=_;rw[adq]
   rw[hS];refine .nx (dl':=[.val sf,.val (.int ((age:Nat):Int)),.val (.int ((b:Nat):Int)),.val (.int ((e:Nat):Int)),.own (.lst ((R (k+1)).bt.map wg)),.own (.lst ((R (k+1)).st.reverse.map wg)),.val (.int (((R (k+1)).place:Nat):Int)),.val (wg p),.val (.int ((p.1:Nat):Int)),.val (.int ((q:Nat):Int))]) (ah (VA (ds:=st.reverse.map wg) (d:=wg p) 7 5 nd rfl) (ah (aB 8 nd (aZ (aa 7 rfl) aj rfl)) (ah (dl1:=U) (aB 9 nd (bI (bU (aa 6 rfl) (kN hu (uK (n:=N) (j:=1) (f:=yV rows) (aI (fs:=t.fS six rows wd l ls N) (aa 0 rfl) T.aO.cl T.bN rfl) (aa 8 rfl) (by rw[mZ];rfl) vK hN1) (aZ (aa 7 rfl) aj rfl) (by rw[OW];exact kG Kt.1) (fun _ _=>rfl))) (congrArg Dt.int eq)))
     (ao (aL (u:=decide (q<=b)) (br (vn (aa 9 rfl) (aa 2 rfl)) (decide_eq_decide.mpr (Int.ofNat_le (m:=q) (n:=b)))) (fun h=>?b1) (fun h=>ao (aL (u:=decide (b<=(R k).place/\q<=e)) ?cc (fun h'=>?b2) (fun h'=>?b3)))))))) (Le.of ⟨rfl,rfl,rfl,rfl,rfl,rfl,rfl,trivial⟩)
   case b1=>
     have h:q<=b:=of_decide_eq_true h;have e1:R (k+1)=⟨q,st,(R k).bt⟩:=by rw[eR];unfold qt;rw[O1];exact if_pos h
     rw[e1];exact ao (aB 6 nd (aa 9 rfl))
   case cc=>
     by_cases h1:b<=(R k).place
     . by_cases h2:q<=e
       . rw[decide_eq_true (⟨h1,h2⟩:b<=(R k).place/\q<=e)]
         exact nB (pY (u:=true) (v:=true) (br (vn (aa 2 rfl) (aa 6 rfl)) (decide_eq_true (by omega))) fun _=>sP (br (vn (aa 9 rfl) (aa 3 rfl)) (decide_eq_true (by omega))))
       . rw[decide_eq_false (fun z:b<=(R k).place/\q<=e=>h2 z.2)]
         exact nB (pY (u:=true) (v:=false) (br (vn (aa 2 rfl) (aa 6 rfl)) (decide_eq_true (by omega))) fun _=>sP (br (vn (aa 9 rfl) (aa 3 rfl)) (decide_eq_false (by omega))))
     . rw[decide_eq_false (fun z:b<=(R k).place/\q<=e=>h1 z.1)]
       exact nB (pY (u:=false) (v:=false) (br (vn (aa 2 rfl) (aa 6 rfl)) (decide_eq_false (by omega))) fun z=>nomatch z)
   case b2=>
     have h:¬ q<=b:=of_decide_eq_false h;have h':=of_decide_eq_true h';have e1:R (k+1)=⟨q,st,(R k).bt ++ [p]⟩:=by rw[eR];unfold qt;rw[O1];exact(if_neg h).trans (if_pos h')
     rw[e1];show mP _ _ _ _ _ (.nx [_,_,_,_,.own (.lst (((R k).bt ++ [p]).map wg)),_,_,_,_,_]);rw[abO];exact ah (nS (ds:=(R k).bt.map wg) 4 (aa 7 rfl) (by rw[aaa];exact szq (by omega))) (ao (aB 6 nd (aa 9 rfl)))
   case b3=>
     have h:¬ q<=b:=of_decide_eq_false h;have h':=of_decide_eq_false h';have hz:=Du h h';have e1:R (k+1)=⟨(R k).place,wp (p.1 - 1) (wordOf rows p.2) ++ st,(R k).bt⟩:=by rw[eR];unfold qt;rw[O1];exact(if_neg h).trans (if_neg h')
     rw[e1];have hw:=ow ok.ok Kt.1;show mP _ _ _ _ _ (.nx [_,_,_,_,_,.own (.lst ((wp (p.1 - 1) (wordOf rows p.2) ++ st).reverse.map wg)),_,_,_,_]);rw[List.reverse_append,abO];exact ao (Jp (ds:=st.reverse.map wg) 5 (kL (xW (Rj T) aD hr (ae (bB (fs:=t.Az six rows) (aI (fs:=t.fS six rows wd l ls N) (aa 0 rfl) T.aO.cl T.de rfl) (yL T) aD hr (ae (aZ (aa 7 rfl) aj rfl) ai) ⟨six,rows,p.2,rfl,ok.ok,Kt.1,rfl⟩) (ae (bI (mn (aa 8 rfl) aj) (congrArg Dt.int (show((p.1:Nat):Int) - 1=((p.1 - 1:Nat):Int) by omega))) ai)) ⟨wordOf rows p.2,p.1 - 1,rfl,by omega,rfl⟩)) (by
       rw[aaa,aaa,acj,acj];show st.length+((wordOf rows p.2).map fun c=>(p.1 - 1,c)).length<=_;rw[aaa];exact abG (szq (by omega))))
noncomputable def grow (rows:List Row)(w:List Nat):List Nat:=(w.map (wordOf rows)).flatten
noncomputable abbrev wj (t:dy)(six:Bool)(rows:List Row)(w:List Nat)(l:Addr)(ls:kU)(n:Nat):Dt:=.obj t.au (t.fS six rows w l ls n)
def ads (t:dy):Rl:=fun ds r=>∃ six rows w l ls n age z,ds=[wj t six rows w l ls n,.int ((age:Nat):Int),.int z]/\oo rows w/\ls.map (·.2)=pQ rows/\age<=200/\(0<=z/\z<=((zg rows w age).length:Nat))/\r=.ret .cz
def adt (t:dy):Rl:=fun ds r=>∃ six rows w l ls n age,∃ b e:Nat,ds=[wj t six rows w l ls n,.int ((age:Nat):Int),.int (b:Int),.int (e:Int)]/\oo rows w/\ls.map (·.2)=pQ rows/\age<=200/\(b<=e/\e<=(zg rows w age).length)/\r=.ret (.wC l ls (age+1))
noncomputable def cut (W:List Nat)(b e:Nat):List Nat:=(W.take e).drop b
theorem SQ (T:Txt K mg t):MF P w K mg base CX 7 t.au "check_place" 3 (ads t):=by
 refine⟨T.aO.cl,_,_,_,jb T.b6.F jT rfl fun bc A outer s H E G ds r hr hl hR=>?_,T.bV,T.b6.b⟩;obtain⟨six,rows,wd,l,ls,n,age,z,rfl,ok,mZ,gF,hz,rfl⟩:=hR;have e:=Cj ok age;exact⟨_,.nx _,ao (aL (u:=false) (nB (mW (u:=false) (v:=false) (br (mq (aa 2 rfl) aj) (decide_eq_false (by omega))) fun _=>(ji (br (pB (aa 2 rfl) (bB (fs:=t.fS six rows wd l ls n) (aa 0 rfl) (Ce T) aD hr (ae (aa 1 rfl) ai) ⟨six,rows,wd,l,ls,n,age,rfl,ok,mZ,gF,rfl⟩)) (decide_eq_false (by omega)))))) (fun h=>nomatch h) (fun h=>aS))⟩
theorem ZC (T:Txt K mg t):MF P w K mg base CX 8 t.au "check_stretch" 4 (adt t):=by
 refine⟨T.aO.cl,_,_,_,jb T.bH.F jc rfl fun bc A outer s H E G ds r hr hl hR=>?_,T.bG,T.bH.b⟩;obtain⟨six,rows,wd,l,ls,n,age,b,e,rfl,ok,mZ,gF,⟨sF,N9⟩,rfl⟩:=hR;have e2:ls.length=2:=by have:=congrArg abI mZ;simpa [pQ] using this
 exact⟨_,qI (nm:=["tallies","lengths"]) (tl:=[.val (.int ((age:Nat):Int)),.val (.int (b:Int)),.val (.int (e:Int))]) (by rw[e2];exact aai 2),ah (mz (m:=age+1) (tl:=[.val (.int ((age:Nat):Int)),.val (.int (b:Int)),.val (.int (e:Int))]) (bB (fs:=t.fS six rows wd l ls n) (aa 0 rfl) (yX T) aD hr (ae (aa 1 rfl) ai) ⟨six,rows,wd,l,ls,n,age,rfl,ok,mZ,by omega,rfl⟩))
   (ah (jl (bB (fs:=t.fS six rows wd l ls (age+1)) (aa 0 rfl) (SQ T) aD hr (ae (aa 1 rfl) (ae (aa 2 rfl) ai)) ⟨six,rows,wd,l,ls,_,age,b,rfl,ok,mZ,gF,⟨by omega,by omega⟩,rfl⟩))
   (ah (aL (u:=false) (br (mq (aa 3 rfl) (aa 2 rfl)) (decide_eq_false (by omega))) (fun h=>nomatch h) (fun h=>aS))
   (ao (jl (bB (fs:=t.fS six rows wd l ls (age+1)) (aa 0 rfl) (SQ T) aD hr (ae (aa 1 rfl) (ae (aa 3 rfl) ai)) ⟨six,rows,wd,l,ls,_,age,e,rfl,ok,mZ,gF,⟨by omega,by omega⟩,rfl⟩)))))⟩
theorem GN (six:Bool)(w:Int)(p q:Int×Int):lz six w (ad p q)=lz six w p+lz six w q:=by
 unfold lz ad;cases six
 . simp only[abA,if_false]
   split
   . rfl
   . split
     . rfl
     . split <;> omega
 . simp only[if_true]
   split
   . omega
   . split
     . omega
     . split
       . omega
       . split
         . omega
         . split <;> omega
theorem Ex (six:Bool){w:Nat}(h:w < wn six)(b:Int)(p:Int×Int):lz six (((w:Int) - b) % wy six) p=lz six w (tn six (b % wy six).toNat p):=by
 have hw:=yN six;have h0:=aaC ((w:Int) - b) (abW (ja six));have h1:=aaH ((w:Int) - b) (ja six);have k:=Np six h0 h1 b p;rw[<- k]
 congr 1
 cases six with
 | false=>show(((w:Int) - b) % 4+b) % 4=w;have:w < 4:=h;omega
 | true=>show(((w:Int) - b) % 6+b) % 6=w;have:w < 6:=h;omega
theorem Ck (six:Bool)(ns:List Int)(f:Int){w:Nat}(h:w < wn six):(rM six ns f).getD w 0=ns.getD (((w:Int) - f) % wy six).toNat 0:=by
 unfold rM;rw[aae,aaf,aaP h];rfl
theorem Cm (six:Bool)(w:Nat)(b:Int):(((w:Int) - b) % wy six).toNat < wn six/\((((w:Int) - b) % wy six).toNat:Int)=((w:Int) - b) % wy six:=by
 have hw:=yN six;have h0:=aaC ((w:Int) - b) (abW (ja six));have h1:=aaH ((w:Int) - b) (ja six);omega
theorem pz {f:Nat->Int}{n k:Nat}(h:k < n):((aan n).map f).getD k 0=f k:=by
 rw[aae,aaf,aaP h];rfl
noncomputable def Wn (p q:Int):Int:=if q<=p then p else q
theorem kT (six:Bool)(x y:Tr){w:Nat}(h:w < wn six):(jn six x y).reach.getD w 0=Wn (x.reach.getD w 0) (y.reach.getD (((w:Int) - x.turn) % wy six).toNat 0+lz six w x.shift):=by
 show((aan (wn six)).map (zU six x y)).getD w 0=_;rw[pz h];unfold zU Wn;rw[Ck six _ _ h]
theorem oy (six:Bool)(x y:Tr){w:Nat}(h:w < wn six):(jn six x y).cC.getD w 0=if y.reach.getD (((w:Int) - x.turn) % wy six).toNat 0+lz six w x.shift<=x.reach.getD w 0 then x.cC.getD w 0 else y.cC.getD (((w:Int) - x.turn) % wy six).toNat 0+x.many:=by
 show((aan (wn six)).map (B3 six x y)).getD w 0=_;rw[pz h];unfold B3;rw[Ck six _ _ h,Ck six _ _ h]
theorem Ob (six:Bool):∀ (n:Nat) (p q:Int×Int),tn six n (ad p q)=ad (tn six n p) (tn six n q)
 | 0,p,q=>rfl
 | n+1,p,q=>by
   rw[tn,tn,tn,Ob six n];generalize tn six n p=a;generalize tn six n q=b;cases six
   . simp only[Pf.tl,ad,abA,if_false];refine Prod.ext ?_ ?_ <;> simp only <;> omega
   . simp only[Pf.tl,ad,if_true];refine Prod.ext ?_ ?_ <;> simp only <;> omega
theorem GO (six:Bool)(p:Int×Int)(b:Nat):∀ a:Nat,tn six (a+b) p=tn six a (tn six b p)
 | 0=>by rw[Nat.zero_add];rfl
 | a+1=>by
   rw[Nat.succ_add];show Pf.tl six (tn six (a+b) p)=Pf.tl six (tn six a (tn six b p));rw[GO six p b a]
theorem Wo (six:Bool)(p:Int×Int):tn six (wn six) p=p:=by
 obtain⟨x,y⟩:=p;cases six with
 | false=>show Pf.tl false (Pf.tl false (Pf.tl false (Pf.tl false (x,y))))=_;simp[Pf.tl]
 | true=>show Pf.tl true (Pf.tl true (Pf.tl true (Pf.tl true (Pf.tl true (Pf.tl true (x,y))))))=_;simp[Pf.tl];omega
theorem Oc (six:Bool)(p:Int×Int)(r:Nat):∀ q:Nat,tn six (r+wn six * q) p=tn six r p
 | 0=>rfl
 | q+1=>by rw[Nat.mul_succ,<- Nat.add_assoc,GO,Wo,Oc six p r q]
theorem Od (six:Bool)(a b:Int)(p:Int×Int):tn six (a % wy six).toNat (tn six (b % wy six).toNat p)=tn six (((a+b) % wy six) % wy six).toNat p:=by
 rw[<- GO,<- Nat.mod_add_div ((a % wy six).toNat+(b % wy six).toNat) (wn six),Oc]
 congr 1
 have hw:=yN six;have hp:=ja six;have h1:=aaC a (abW hp);have h2:=aaC b (abW hp);have e:((((a % wy six).toNat+(b % wy six).toNat) % wn six:Nat):Int)=((a+b) % wy six) % wy six:=by
   rw[Int.natCast_emod,hw,Int.natCast_add,Int.toNat_of_nonneg h1,Int.toNat_of_nonneg h2,Int.emod_emod,<- Int.add_emod]
 omega
theorem ZE (six:Bool)(p q:Int×Int):cr (Pf.tl six p) (Pf.tl six q)=cr p q:=by
 unfold cr Pf.tl;cases six
 . simp only[abA,if_false]
   have h1:-p.2 * q.1=-(p.2 * q.1):=Int.neg_mul _ _;have h2:p.1 * -q.2=-(p.1 * q.2):=Int.mul_neg _ _;omega
 . simp only[if_true]
   have h1:-p.2 * (q.1+q.2)=-(p.2 * q.1) - p.2 * q.2:=by rw[Int.neg_mul,Int.mul_add];omega
   have h2:(p.1+p.2) * -q.2=-(p.1 * q.2) - p.2 * q.2:=by rw[Int.mul_neg,Int.add_mul];omega
   omega
theorem SR (six:Bool):∀ (n:Nat) (p q:Int×Int),cr (tn six n p) (tn six n q)=cr p q
 | 0,_,_=>rfl
 | n+1,p,q=>by rw[tn,tn,ZE,SR six n]
theorem Rm (p q r:Int×Int):cr p (ad q r)=cr p q+cr p r:=by
 unfold cr ad;simp only[Int.mul_add];omega
theorem Rn (p q r:Int×Int):cr (ad p q) r=cr p r+cr q r:=by
 unfold cr ad;simp only[Int.add_mul];omega
theorem Oe (p q r:Int×Int):ad p (ad q r)=ad (ad p q) r:=by
 unfold ad;refine Prod.ext ?_ ?_ <;> simp only <;> omega
theorem list_eq {six:Bool}{a b:List Int}(ha:a.length=wn six)(hb:b.length=wn six)(h:∀ w,w < wn six->a.getD w 0=b.getD w 0):a=b:=by
 refine List.ext_getElem (by omega) fun i h1 h2=>?_
 have:=h i (by omega);rw[aae,aae,aab h1,aab h2] at this;exact this
theorem vf (six:Bool)(x y:Tr):(jn six x y).reach.length=wn six/\(jn six x y).cC.length=wn six:=by unfold jn;simp
theorem Of (six:Bool)(x y z:Tr):jn six x (jn six y z)=jn six (jn six x y) z:=by
 have key:∀ w,w < wn six->∃ v u:Nat,v < wn six/\u < wn six/\(((w:Int) - x.turn) % wy six).toNat=v/\(((v:Int) - y.turn) % wy six).toNat=u/\(((w:Int) - (x.turn+y.turn) % wy six) % wy six).toNat=u/\lz six w (tn six (x.turn % wy six).toNat y.shift)=lz six v y.shift:=by
   intro w hw;obtain⟨h1,h2⟩:=Cm six w x.turn;obtain⟨h3,h4⟩:=Cm six (((w:Int) - x.turn) % wy six).toNat y.turn;refine⟨_,_,h1,h3,rfl,rfl,?_,?_⟩
   . rw[h2]
     cases six with
     | false=>show(((w:Int) - (x.turn+y.turn) % 4) % 4).toNat=(((w - x.turn) % 4 - y.turn) % 4).toNat;congr 1;omega
     | true=>show(((w:Int) - (x.turn+y.turn) % 6) % 6).toNat=(((w - x.turn) % 6 - y.turn) % 6).toNat;congr 1;omega
   . rw[h2,Ex six hw]
 have hr:(jn six x (jn six y z)).reach=(jn six (jn six x y) z).reach:=by
   refine list_eq (vf _ _ _).1 (vf _ _ _).1 fun w hw=>?_
   obtain⟨v,u,hv,hu,e1,e2,e3,e4⟩:=key w hw;rw[kT six _ _ hw,kT six _ _ hw,kT six _ _ hw,e1,kT six _ _ hv,e2];show _=Wn _ (z.reach.getD (((w:Int) - (x.turn+y.turn) % wy six) % wy six).toNat 0+lz six w (ad x.shift (tn six (x.turn % wy six).toNat y.shift)));rw[e3,GN,e4];unfold Wn
   split <;> split <;> split <;> (try split) <;> omega
 have ht:(jn six x (jn six y z)).cC=(jn six (jn six x y) z).cC:=by
   refine list_eq (vf _ _ _).2 (vf _ _ _).2 fun w hw=>?_
   obtain⟨v,u,hv,hu,e1,e2,e3,e4⟩:=key w hw;rw[oy six _ _ hw,oy six (jn six x y) _ hw,oy six x y hw,kT six x y hw,e1,kT six _ _ hv,oy six _ _ hv,e2];show _=if z.reach.getD (((w:Int) - (x.turn+y.turn) % wy six) % wy six).toNat 0+lz six w (ad x.shift (tn six (x.turn % wy six).toNat y.shift))<=_ then _ else z.cC.getD (((w:Int) - (x.turn+y.turn) % wy six) % wy six).toNat 0+(x.many+y.many)
   rw[e3,GN,e4];unfold Wn
   split <;> split <;> split <;> (try split) <;> (try split) <;> omega
 have e1:(jn six x (jn six y z)).turn=(jn six (jn six x y) z).turn:=by
   show(x.turn+(y.turn+z.turn) % wy six) % wy six=((x.turn+y.turn) % wy six+z.turn) % wy six;rw[Int.add_emod_emod,Int.emod_add_emod,Int.add_assoc]
 have e2:(jn six x (jn six y z)).shift=(jn six (jn six x y) z).shift:=by
   show ad x.shift (tn six (x.turn % wy six).toNat (ad y.shift (tn six (y.turn % wy six).toNat z.shift)))=ad (ad x.shift (tn six (x.turn % wy six).toNat y.shift)) (tn six (((x.turn+y.turn) % wy six) % wy six).toNat z.shift);rw[Ob,Od,Oe]
 have e3:(jn six x (jn six y z)).pj=(jn six (jn six x y) z).pj:=by
   show x.pj+(y.pj+z.pj+cr y.shift (tn six (y.turn % wy six).toNat z.shift))+cr x.shift (tn six (x.turn % wy six).toNat (ad y.shift (tn six (y.turn % wy six).toNat z.shift)))
     = x.pj+y.pj+cr x.shift (tn six (x.turn % wy six).toNat y.shift)+z.pj+cr (ad x.shift (tn six (x.turn % wy six).toNat y.shift)) (tn six (((x.turn+y.turn) % wy six) % wy six).toNat z.shift)
   have q:=SR six (x.turn % wy six).toNat y.shift (tn six (y.turn % wy six).toNat z.shift);rw[Od] at q;rw[Ob,Od,Rm,Rn,<- q];omega
 have e4:(jn six x (jn six y z)).many=(jn six (jn six x y) z).many:=(Int.add_assoc _ _ _).symm;have e5:(jn six x (jn six y z)).eV=(jn six (jn six x y) z).eV:=(Int.add_assoc _ _ _).symm;generalize jn six x (jn six y z)=a at hr ht e1 e2 e3 e4 e5;generalize jn six (jn six x y) z=b at hr ht e1 e2 e3 e4 e5;cases a;cases b;simp only at hr ht e1 e2 e3 e4 e5;subst hr ht e1 e2 e3 e4 e5;rfl
noncomputable def Ey (six:Bool)(xs:List Str)(k:Nat):Int×Int:=(b8 six (xs.take k)).shift
theorem Og (six:Bool)(xs:List Str):0<=(b8 six xs).turn/\(b8 six xs).turn < wy six:=by
 by_cases h:xs=[]
 . subst h;exact⟨Int.le_refl _,ja six⟩
 . rw[<- abf h,mM]
   exact⟨aaC _ (abW (ja six)),aaH _ (ja six)⟩
noncomputable def rec (six:Bool)(xs:List Str)(w:Int):Nat->Int×Int
 | 0=>(0,0)
 | j+1=>if (rec six xs w j).1 < lz six w (Ey six xs j) then (lz six w (Ey six xs j),j) else rec six xs w j
theorem Ez (six:Bool)(xs:List Str)(d:Str)(w:Int):∀ j,j<=xs.length+1->rec six (xs ++ [d]) w j=rec six xs w j
 | 0,_=>rfl
 | j+1,h=>by
   rw[rec,rec,Ez six xs d w j (by omega)];have e:Ey six (xs ++ [d]) j=Ey six xs j:=by
     unfold Ey;rw[List.take_append_of_le_length (by omega)]
   rw[e]
theorem EC (six:Bool)(w:Int):lz six w (0,0)=0:=by
 unfold lz;cases six <;> simp
theorem Ir (six:Bool){w:Nat}(hw:w < wn six):∀ (n:Nat) (xs:List Str),xs.length=n->rec six xs w (n+1)=((b8 six xs).reach.getD w 0,(b8 six xs).cC.getD w 0)/\lz six w (b8 six xs).shift<=(b8 six xs).reach.getD w 0:=by
 intro n
 induction n with
 | zero=>
   intro xs h;have e:xs=[]:=aa9 h;subst e;have e1:(b8 six []).reach.getD w 0=0:=by
     show(aal (wn six) (0:Int)).getD w 0=0;rw[aae,aaU];split <;> rfl
   have e2:(b8 six []).cC.getD w 0=0:=e1;have e3:lz six w (Ey six [] 0)=0:=EC six w;have e4:lz six w (b8 six []).shift=0:=EC six w;rw[e1,e2,e4,rec,rec,e3];simp
 | succ n ih=>
   intro xs h;have sE:xs≠[]:=fun e=>by rw[e] at h;cases h
   have e:=abf sE;have hl:xs.dropLast.length=n:=by rw[ab2];omega
   generalize xs.getLast sE=d at e;generalize xs.dropLast=ys at e hl;subst e;obtain⟨h1,h2⟩:=ih ys hl;rw[rec,Ez six ys d w (n+1) (by omega),h1];have es:Ey six (ys ++ [d]) (n+1)=(b8 six (ys ++ [d])).shift:=by
     unfold Ey;rw[ab0 (by rw[aaw];simp;omega)]
   rw[es,mM,kT six _ _ hw,oy six _ _ hw];obtain⟨b1,b2⟩:=Cm six w (b8 six ys).turn;have r1:(one six d).reach.getD (((w:Int) - (b8 six ys).turn) % wy six).toNat 0=pk six d (((w:Int) - (b8 six ys).turn) % wy six).toNat:=pz b1;have t1:(one six d).cC.getD (((w:Int) - (b8 six ys).turn) % wy six).toNat 0=if pk six d (((w:Int) - (b8 six ys).turn) % wy six).toNat < 1 then pk six d (((w:Int) - (b8 six ys).turn) % wy six).toNat else 1:=pz (f:=fun k=>if pk six d k < 1 then pk six d k else 1) b1
   rw[r1,t1];unfold pk;rw[b2,Ex six hw];have ec:lz six w (jn six (b8 six ys) (one six d)).shift=lz six w (b8 six ys).shift+lz six w (tn six ((b8 six ys).turn % wy six).toNat (xh six d (0,0) 0).1):=GN six w _ _;rw[ec];have hm:=(Nz six n ys hl).1;rw[hm];generalize lz six w (tn six ((b8 six ys).turn % wy six).toNat (xh six d (0,0) 0).1)=D;generalize lz six w (b8 six ys).shift=B at h2 ⊢;generalize (b8 six ys).reach.getD w 0=A at h2 ⊢;generalize (b8 six ys).cC.getD w 0=U;unfold Wn;refine⟨?_,?_⟩
   . by_cases c1:D > 0
     . simp only[if_pos c1]
       by_cases c2:D+B<=A
       . simp only[if_pos c2]
         rw[if_neg (by omega)]
       . simp only[if_neg c2]
         rw[if_pos (by omega),if_neg (by omega)];refine Prod.ext ?_ ?_
         . show B+D=D+B;omega
         . show((n+1:Nat):Int)=1+n;omega
     . simp only[if_neg c1]
       rw[if_neg (by omega)];have c2:0+B<=A:=by omega
       simp only[if_pos c2]
   . by_cases c1:D > 0
     . simp only[if_pos c1];split <;> omega
     . simp only[if_neg c1];split <;> omega
theorem Wq (six:Bool)(xs:List Str):jn six (b8 six xs) (ET six)=b8 six xs:=by
 have w:=Ny six _ xs rfl;have tt:=Og six xs;have z:∀ k,(ET six).reach.getD k 0=0:=fun k=>by
   show(aal (wn six) (0:Int)).getD k 0=0;rw[aae,aaU];split <;> rfl
 have hr:(jn six (b8 six xs) (ET six)).reach=(b8 six xs).reach:=list_eq (vf _ _ _).1 w.2.2.1 fun v hv=>by
   have:=(Ir six hv _ xs rfl).2;rw[kT six _ _ hv,z];unfold Wn;rw[if_pos (by omega)]
 have ht:(jn six (b8 six xs) (ET six)).cC=(b8 six xs).cC:=list_eq (vf _ _ _).2 w.2.2.2 fun v hv=>by
   have:=(Ir six hv _ xs rfl).2;rw[oy six _ _ hv,z,if_pos (by omega)]
 have e1:(jn six (b8 six xs) (ET six)).turn=(b8 six xs).turn:=by
   show((b8 six xs).turn+0) % wy six=_;rw[Int.add_zero,acx tt.1 tt.2]
 have e2:(jn six (b8 six xs) (ET six)).shift=(b8 six xs).shift:=by
   show ad (b8 six xs).shift (tn six _ (0,0))=_;rw[xj];unfold ad;simp
 have e3:(jn six (b8 six xs) (ET six)).pj=(b8 six xs).pj:=by
   show(b8 six xs).pj+0+cr (b8 six xs).shift (tn six _ (0,0))=_;rw[xj];unfold cr;simp
 have e4:(jn six (b8 six xs) (ET six)).many=(b8 six xs).many:=Int.add_zero _;have e5:(jn six (b8 six xs) (ET six)).eV=(b8 six xs).eV:=Int.add_zero _;generalize jn six (b8 six xs) (ET six)=a at hr ht e1 e2 e3 e4 e5 ⊢;generalize b8 six xs=b at hr ht e1 e2 e3 e4 e5 ⊢;cases a;cases b;simp only at hr ht e1 e2 e3 e4 e5;subst hr ht e1 e2 e3 e4 e5;rfl
theorem Ro (six:Bool)(xs:List Str):∀ (n:Nat) (ys:List Str),ys.length=n->jn six (b8 six xs) (b8 six ys)=b8 six (xs ++ ys):=by
 intro n
 induction n with
 | zero=>
   intro ys h;have e:ys=[]:=aa9 h;subst e;rw[aaT];exact Wq six xs
 | succ n ih=>
   intro ys h;have sE:ys≠[]:=fun e=>by rw[e] at h;cases h
   have e:=abf sE;have hl:ys.dropLast.length=n:=by rw[ab2];omega
   rw[<- e,mM,Of,ih _ hl,<- List.append_assoc,mM]
noncomputable def GP (rows:List Row)(w:List Nat):List Str:=w.map (o9 rows)
theorem Oh {rows:List Row}(ok:dg rows):∀ (r:Nat) {c:Nat},c∈rows.map (·.c)->(gP rows r c).length<=8 ^ r
 | 0,_,_=>aai _
 | r+1,c,h=>by
   obtain⟨q,hq,_,_,ew⟩:=kR h;have hw:∀ y∈wordOf rows c,y∈rows.map (·.c):=fun y hy=>ok.wo q hq y (by rw[ew] at hy;exact hy)
   have hl:(wordOf rows c).length<=8:=by rw[ew];exact(ok.wp q hq).2
   have:∀ (w:List Nat),(∀ y∈w,y∈rows.map (·.c))->(w.flatMap (gP rows r)).length<=w.length * 8 ^ r:=by
     intro w
     induction w with
     | nil=>intro _;simp
     | cons a w ih=>
       intro h;rw[acd,aaw,aaL,Nat.add_mul,Nat.one_mul];have h1:=Oh ok r (h a (by simp));have h2:=ih fun y hy=>h y (by simp[hy])
       omega
   have h3:=this _ hw;have h4:(wordOf rows c).length * 8 ^ r<=8 * 8 ^ r:=Nat.mul_le_mul_right _ hl;show((wordOf rows c).flatMap (gP rows r)).length<=8 ^ (r+1);rw[Nat.pow_succ];omega
theorem SS {rows:List Row}{w:List Nat}(ok:oo rows w){age:Nat}(h:age<=200):(zg rows w age).length < 2 ^ 990:=by
 have:∀ (v:List Nat),(∀ y∈v,y∈rows.map (·.c))->(v.flatMap (gP rows age)).length<=v.length * 8 ^ age:=by
   intro v
   induction v with
   | nil=>intro _;simp
   | cons a v ih=>
     intro h;rw[acd,aaw,aaL,Nat.add_mul,Nat.one_mul];have h1:=Oh ok.ok age (h a (by simp));have h2:=ih fun y hy=>h y (by simp[hy])
     omega
 have h1:=this w ok.wm;have h2:w.length * 8 ^ age<=8 * 8 ^ 200:=Nat.mul_le_mul ok.w8 (acF (by decide) h);have h3:8 * 8 ^ 200 < 2 ^ 990:=by decide +kernel
 exact aaO (aax h1 h2) h3
theorem adu {rows:List Row}(ok:dg rows){r c:Nat}(h:c∈rows.map (·.c))(hr:r<=200):(gP rows r c).length < 2 ^ 990:=by
 have h1:=Oh ok r h;have h2:8 ^ r<=8 ^ 200:=acF (by decide) hr;exact aaO (aax h1 h2) (by decide +kernel)
noncomputable def OX (six:Bool)(rows:List Row)(i c:Nat):Tr:=b8 six (GP rows (gP rows i c))
noncomputable def dy.rj (t:dy)(six:Bool)(rows:List Row)(i:Nat):List (Key×FD):=(rows.map (·.c)).map fun c=>(.inr (sg c),.obj t.aA (t.trK six (OX six rows i c)))
theorem Wr (t:dy)(six:Bool)(rows:List Row)(i:Nat):pN (t.rj six rows i)=kd (rows.map (·.c)) fun c=>t.rL six (OX six rows i c):=by unfold pN dy.rj kd;rw[aar];rfl
noncomputable abbrev dy.zX (t:dy)(six:Bool)(rows:List Row)(w:List Nat)(l':Addr)(ls':kU)(n':Nat):List (Str×Dt):=Xa "growth" t.au (t.Cd six rows w) ["tallies","lengths"] l' ls' n'
noncomputable abbrev dy.sA (t:dy)(six:Bool)(rows:List Row)(w:List Nat)(l':Addr)(ls':kU)(n':Nat)(l:Addr)(ls:kU)(n:Nat):List (Str×Dt):=vk (t.zX six rows w l' ls' n') ["tracks"] l ls n
noncomputable abbrev dy.ZF (t:dy)(six:Bool)(rows:List Row)(w:List Nat)(l':Addr)(ls':kU)(n':Nat)(l:Addr)(ls:kU)(n:Nat):List (Str×Dt):=qZ (t.zX six rows w l' ls' n') ["tracks"] l ls n
theorem Ws {l l':Addr}{ls':kU}{n':Nat}(h:l'≠l)(t:dy)(six:Bool)(rows:List Row)(w:List Nat):lG l (t.zX six rows w l' ls' n')=true:=by
 have e:uI l (.memo l' ls' 0 n')=true/\uI l (.memo l' ls' 1 n')=true:=by
   unfold uI;simp[h]
 show((uI l (t.Ct six rows) && (uI l (.str (tx w)) && (uI l (.memo l' ls' 0 n') && (uI l (.memo l' ls' 1 n') && true)))) && true)=true;rw[GA,e.1,e.2];rfl
theorem Oi (six:Bool)(xs:List (List Str)){k:Nat}(h:k < xs.length):jn six (b8 six (xs.take k).flatten) (b8 six xs[k])=b8 six (xs.take (k+1)).flatten:=by
 rw[Ro six _ _ _ rfl,abL,aab h,acL];simp
theorem Wt {rows:List Row}{w:List Nat}(ok:oo rows w){age b e:Nat}(gF:age<=200)(sF:b<=e)(N9:e<=(zg rows w age).length):∃ k bt,(e<=(run rows b e (zW w age) k).place/\∀ j,j < k->(run rows b e (zW w age) j).place < e)/\(run rows b e (zW w age) k).bt=bt/\flat rows bt=cut (zg rows w age) b e/\bt.length<=4000/\∀ p∈bt,p.2∈rows.map (·.c)/\p.1<=age:=by
 obtain⟨k,hk1,ZG⟩:=Eu ok.ok _ (GL ok sF N9) (aai _);obtain⟨Ik,Jk⟩:=GK ok.ok (GL ok sF N9) ZG k (aai _);have hmu:=N7 ok (b:=b) (e:=e) gF;have hp:(run rows b e (zW w age) k).place=e:=by have:=Ik.pe;omega
 refine⟨k,_,⟨hk1,ZG⟩,rfl,by rw[Ik.fb,hp];rfl,?_,Ik.mt⟩;have:(zW w age).bt.length=0:=rfl;omega
def Ki (t:dy):Rl:=fun ds r=>∃ six rows w l ls n rest,∃ xs:List (List Str),ds=[.obj t.aw (("growth",wj t six rows w l ls n)::rest),.lst (xs.map fun x=>t.rL six (b8 six x))]/\xs.flatten.length < 2 ^ 990/\r=.ret (t.rL six (b8 six xs.flatten))
def Rp (t:dy):Rl:=fun ds r=>∃ six rows w l ls n,ds=[wj t six rows w l ls n]/\oo rows w/\r=.own (.uu t.aw (t.zX six rows w l ls n) [t.rj six rows] ["tracks"] 1)
structure Cn (t:dy)(six:Bool)(rows:List Row)(w:List Nat)(ls' ls:kU):Prop where
 ok:oo rows w
 gs:ls'.map (·.2)=pQ rows
 ts:ls.map (·.2)=[t.rj six rows]
def Rq (t:dy):Rl:=fun ds r=>∃ six rows w l' ls' n' l ls n age,ds=[.obj t.aw (t.sA six rows w l' ls' n' l ls n),.int ((age:Nat):Int)]/\Cn t six rows w ls' ls/\age<=200/\r=.ret (.wC l ls (age+1))
def AI (t:dy):Rl:=fun ds r=>∃ six rows w l' ls' n' l ls n age,∃ b e:Nat,ds=[.obj t.aw (t.sA six rows w l' ls' n' l ls n),.int ((age:Nat):Int),.int (b:Int),.int (e:Int)]/\Cn t six rows w ls' ls/\age<=200/\(b<=e/\e<=(zg rows w age).length)/\r=.ret (t.rL six (b8 six (GP rows (cut (zg rows w age) b e))))
noncomputable abbrev ZH:Scope:=GB ((aG gu).getD 2 (.Pass ⟨0,0,0,0⟩))
theorem SU:kM ZH (af gu) qg ["letter","rules"] ["letter"] [2]=true:=by decide +kernel
noncomputable abbrev wBd:List Stmt:=Zq ((aG ck).getD 1 (.Pass ⟨0,0,0,0⟩))
noncomputable abbrev ZI:Scope:=En (wBd.getD 2 (.Pass ⟨0,0,0,0⟩))
theorem SV:kM ZI (af ck) lx ["younger","last"] ["younger"] [3]=true:=by decide +kernel
noncomputable abbrev ZJ:Scope:=NO ((aG cU).getD 2 (.Pass ⟨0,0,0,0⟩))
theorem SW:kM ZJ (af cU) m5 ["rounds","letter","self"] ["rounds","letter"] [0]=true:=by decide +kernel
theorem Oj {rows:List Row}(ok:dg rows){x:Nat}(h:x∈rows.map (·.c)):o9 rows x∈rK:=by
 obtain⟨q,hq,_,e,_⟩:=kR h;rw[e];exact ok.dd q hq
theorem zh (T:Txt K mg t):MF P w K mg base CX 6 t.aw "join_all" 2 (Ki t):=by
 refine⟨T.aP.cl,_,_,_,jb T.fL.F lu rfl fun bc A outer s H E G ds r hr hl hR=>?_,T.dt,T.fL.b⟩;obtain⟨six,rows,wd,l,ls,n,rest,xs,rfl,hx,rfl⟩:=hR;have nd:=lu.nd;let D:Dt:=.obj t.aw (("growth",wj t six rows wd l ls n)::rest);let tr:List Str->Dt:=fun x=>t.rL six (b8 six x)
 let S:Nat->List Slot:=fun k=>[.val D,.val (.lst (xs.map tr)),.val (t.rL six (b8 six (xs.take k).flatten)),.aY]
 have en:S (xs.map tr).length=[.val D,.val (.lst (xs.map tr)),.val (t.rL six (b8 six xs.flatten)),.aY]:=by
   show [_,_,Slot.val (t.rL six (b8 six (xs.take (xs.map tr).length).flatten)),_]=_;rw[aaa,abV]
 have hle:∀ k,(xs.take k).flatten.length < 2 ^ 990:=fun k=>by
   have e:=List.take_append_drop k xs;rw[<- e,acL,aaw] at hx;omega
 refine⟨_,.rt _,ah (aB 2 nd (cS (Eg T) aD hr (ae (cD (fs:=t.Az six rows) (cD (fs:=t.fS six rows wd l ls n) (aI (fs:=("growth",wj t six rows wd l ls n)::rest) (aa 0 rfl) T.aP.cl T.aW rfl) (Cf T) aD hr ⟨six,rows,wd,l,ls,n,rfl,rfl⟩) (HZ T) aD hr ⟨six,rows,rfl,rfl⟩) ai) ⟨six,rfl,rfl⟩))
   (ah (Hi (m:=(xs.map tr).length) 3 S nd rfl PassesOwn.leaving (aa 1 rfl) (Le.of ⟨rfl,rfl,rfl,trivial⟩) (aai _) (fun k z hk hz=>?_) (.all rfl)) ?_)⟩
 . rw[aaa] at hk
   rw[aaf,aab hk] at hz;cases hz;have h1:xs[k].length < 2 ^ 990:=by
     have:=hle (k+1);rw[abL,aab hk,acL,aaw] at this;simp at this;omega
   refine .nx (ao (aB 2 nd (bB (fs:=t.kX six (b8 six (xs.take k).flatten)) (qp (aa 2 rfl)) (AF T) aD hr (ae (qp (x:=b8 six xs[k]) (aa 3 rfl)) ai) ⟨six,_,b8 six xs[k],rfl,⟨xk six (hle k),xk six h1⟩,rfl⟩))) (Le.of ⟨rfl,rfl,?_,trivial⟩);show Slot.val (t.rL six (b8 six (xs.take (k+1)).flatten))=_;rw[Oi six xs hk]
 . rw[en]
   exact ao (aN (aa 2 rfl))
theorem Om (T:Txt K mg t):W0 P w K mg base CX 8 "Drawing" t.aw 2 (Rp t):=by
 refine⟨_,_,_,fnI T.jJ.F pG rfl fun bc A outer s H E G z ds r hr hl hR=>?_,T.sj,(T.g T.aP.a),T.jJ.b⟩;obtain⟨six,rows,wd,l,ls,n,rfl,ok,rfl⟩:=hR;have h6:=ok.ok.le;let L:=rows.map (·.c);have hL:L.length<=6:=by show(rows.map (·.c)).length<=6;rw[aaa];exact h6
 have nd:=pG.nd;have e1:((L.filter fun _=>true).map fun x=>Dt.tup [.str (sg x),t.rL six (OX six rows 0 x)])=(pN (t.rj six rows 0)).map OR:=by
   rw[aaG.mpr (fun _ _=>rfl),Wr];exact Ek L _
 have h7:∀ x∈L,x < 128:=fun x hx=>by
   obtain⟨r,hr,rfl⟩:=aaK.mp hx;have:=ok.ok.sm r hr;unfold small at this;omega
 refine⟨_,.nxG (fs:=t.zX six rows wd l ls n) (gs:=[t.rj six rows]) (nm:=["tracks"]) (n:=1) rfl,ah (k8 (aa 1 rfl) T.aP.cl T.aW) (ah (aB 2 nd (cD (fs:=t.fS six rows wd l ls n) (aa 1 rfl) (Cf T) aD hr ⟨six,rows,wd,l,ls,n,rfl,rfl⟩))
   (zx (f:=t.rj six rows) rfl T.aP.cl T.bP ?_))⟩
 refine nW T.qm rfl (jM e1 (jW L (fun x=>Dt.str (sg x)) (fun x=>.tup [.str (sg x),t.rL six (OX six rows 0 x)]) (fun x=>[.val (.str (sg x))]) (fun _=>true) rfl (dQ SU) (lb (cD (fs:=t.Az six rows) (aa 2 rfl) (kS T) aD hr ⟨six,rows,rfl,ok.ok,rfl⟩)) (d9 (dQ SU) rfl) (gi (fQ (kQ h7)) (iY L)) (fun a _=>fC) (.nil fun _ _=>rfl)
     (fun a ha _ C fp s' H' G'=>b9 (ae (aa 0 rfl) (ae (cS (Ei T) aD hr (ae (cD (fs:=t.Az six rows) (aa 1 rfl) (HZ T) aD hr ⟨six,rows,rfl,rfl⟩) (ae (kL (fY (ae (bB (fs:=t.Az six rows) (aa 1 rfl) (Nl T) aD hr (ae (aa 0 rfl) ai) ⟨six,rows,a,rfl,ok.ok,ha,rfl⟩) ai) AA3)) ai)) ⟨six,[o9 rows a],rfl,fun d hd=>by
       have:d=o9 rows a:=by simpa using hd
       rw[this];exact Oj ok.ok ha,by simp,rfl⟩) ai)) AA3) (t7 (by omega)))) (by rw[Wr,tY];exact me ok.ok.nd) (by rw[Wr];show(List.map _ _).length<=_;rw[aaa,aaa];exact t7 (by omega))
theorem EF (T:Txt K mg t):MF P w K mg base CX 7 t.aw "deepen_to" 2 (Rq t):=by
 refine⟨T.aP.cl,_,_,_,jb T.eQ.F kP rfl fun bc A outer s H E G ds r hr hl hR=>?_,T.df,T.eQ.b⟩;obtain⟨six,rows,wd,l',ls',n',l,ls,n,age,rfl,ok,gF,rfl⟩:=hR;have mZ:=ok.ts;have Rr:=ok.ok.ok;have nd:=kP.nd;have h6:=Rr.le;let L:=rows.map (·.c);have hL:L.length<=6:=by show(rows.map (·.c)).length<=6;rw[aaa];exact h6
 have h7:∀ x∈L,x < 128:=fun x hx=>by
   obtain⟨r,hr,rfl⟩:=aaK.mp hx;have:=Rr.sm r hr;unfold small at this;omega
 have hu:(A.deeper (envOfC "Drawing.deepen_to" (af ck) s.heap.objs.size t.bL bc)).units+1 < cLine:=by have:=hr.units;omega
 have e1:ls.length=1:=by have:=congrArg abI mZ;simpa using this
 have e2:ls'.length=2:=by have:=congrArg abI ok.gs;simpa [pQ] using this
 let tl:List Slot:=[.val (.int ((age:Nat):Int)),.val (t.Ct six rows),.aY,.aY,.aY]
 refine⟨_,qI (C:=t.aw) (fs:=t.zX six rows wd l' ls' n') (nm:=["tracks"]) (tl:=tl) (by rw[e1];exact aai 1),JB (nm:=["tracks"]) (nm':=["tallies","lengths"]) (C:=t.aw) (C':=t.au) (l:=l) (l':=l') (ls:=ls) (ls':=ls') (n:=n) (n':=n') (fs':=t.Cd six rows wd) (g:="growth") 0 (by decide) (by decide) (by omega) (fun sE=>?_) rfl⟩;have hs:=Ws (ls':=ls') (n':=n') sE t six rows wd;have ht:sW l tl=true:=by
   have:sW l [.val (t.Ct six rows),.aY,.aY,.aY]=true:=by
     unfold sW;rw[GA];rfl
   exact this
 refine ah (dl1:=Cr t.aw (t.zX six rows wd l' ls' n') ["tracks"] l ls n tl) (aB 2 nd (cD (fs:=t.fS six rows wd l' ls' n') (aI (fs:=t.sA six rows wd l' ls' n' l ls n) (aa 0 rfl) T.aP.cl T.aW rfl) (Cf T) aD hr ⟨six,rows,wd,l',ls',n',rfl,rfl⟩))
   (ao (Aq (age:=age) PassesOwn.leaving hs ht (by decide) (by omega) (fun N G hx=>?_) (fun N hN hNa G0 hA hB=>?_)))
 . exact br (vn (HJ (N:=N) T.mK hx (aI (fs:=t.ZF six rows wd l' ls' n' l ls n) (aa 0 rfl) T.aP.cl T.bP rfl) (by rw[e1];rfl)) (aa 1 rfl)) (decide_eq_decide.mpr (by omega))
 . let Dk:Nat->Dt:=fun c=>t.rL six (OX six rows N c)
   let O:Dt:=.obj t.aw (t.ZF six rows wd l' ls' n' l ls n);let S:Nat->List Slot:=fun k=>[.val O,.val (.int ((age:Nat):Int)),.val (t.Ct six rows),.val (.d7 (pN (t.rj six rows (N - 1)))),.own (.fw (kd (L.take k) Dk)),.aY]
   have eS:S L.length=[.val O,.val (.int ((age:Nat):Int)),.val (t.Ct six rows),.val (.d7 (pN (t.rj six rows (N - 1)))),.own (.fw (pN (t.rj six rows N))),.aY]:=by
     show [_,_,_,_,Slot.own (.fw (kd (L.take L.length) Dk)),_]=_;rw[abV,Wr t six rows N]
   refine ah (aB 3 nd (Dy (f:=t.rj six rows) (N:=N) ak (aI (fs:=t.ZF six rows wd l' ls' n' l ls n) (aa 0 rfl) T.aP.cl T.bP rfl) (jU aj) (by rw[mZ];rfl) (by rw[e1];rfl) hN)) (ah (mY 4 nd HC)
     (ah (dl1:=S L.length) (wH (o:=.nx (S L.length)) (m:=L.length) L (fun x=>Dt.str (sg x)) (fun x dl=>dl.set 5 (.val (.str (sg x)))) S rfl PassesOwn.leaving (lb (cD (fs:=t.Az six rows) (aa 2 rfl) (kS T) aD hr ⟨six,rows,rfl,Rr,rfl⟩)) (gi (fQ (kQ h7)) (iY L)) (dM nd rfl (.inl rfl)) (fun a _=>Hv) (Le.of ⟨rfl,rfl,rfl,rfl,rfl,trivial⟩) (aai _) (fun k a hk ha=>?_) (.all rfl)) ?_))
   . rw[aab hk] at ha
     cases ha;have hm:L[k]∈L:=aaN hk;obtain⟨q,hq,hc,_,ew⟩:=kR hm;have hwp:=Rr.wp q hq;have Zt:∀ y∈wordOf rows L[k],y∈L:=fun y hy=>Rr.wo q hq y (by rw[ew] at hy;exact hy)
     have Ug:(wordOf rows L[k]).length<=8:=by rw[ew];exact hwp.2
     have Yv:(kd (L.take k) Dk).length < sizeLine:=by
       unfold kd;rw[aaa,aaD];exact aam (show min k L.length < 2000 by omega) (by decide)
     let xs:List (List Str):=(wordOf rows L[k]).map fun y=>GP rows (gP rows (N - 1) y)
     have e3:(((wordOf rows L[k]).filter fun _=>true).map fun y=>t.rL six (OX six rows (N - 1) y))=xs.map fun x=>t.rL six (b8 six x):=by
       rw[aaG.mpr (fun _ _=>rfl),aar];rfl
     have ZK:xs.flatten=GP rows (gP rows N L[k]):=by
       obtain⟨M,rfl⟩:∃ M,N=M+1:=⟨N - 1,by omega⟩
       show((wordOf rows L[k]).map fun y=>GP rows (gP rows M y)).flatten=((wordOf rows L[k]).flatMap (gP rows M)).map (o9 rows);rw[List.map_flatMap,List.flatMap_def];rfl
     have ed:Dk L[k]=t.rL six (b8 six xs.flatten):=by rw[ZK];rfl
     have hb:xs.flatten.length < 2 ^ 990:=by
       rw[ZK];unfold GP;rw[aaa];exact adu Rr hm (by omega)
     refine .nx (ao (HD (kds:=kd (L.take k) Dk) (d:=Dk L[k]) 4 hu (by rw[ed];exact bB (fs:=t.ZF six rows wd l' ls' n' l ls n) (aa 0 rfl) (zh T) aD hr (ae (jM e3 (jW (wordOf rows L[k]) (fun x=>Dt.str (sg x)) (fun y=>t.rL six (OX six rows (N - 1) y)) (fun x=>[.val (.str (sg x))]) (fun _=>true) rfl (dQ SV) (lb (bB (fs:=t.Az six rows) (aa 2 rfl) (yL T) aD hr (ae (aa 5 rfl) ai) ⟨six,rows,L[k],rfl,Rr,hm,rfl⟩)) (d9 (dQ SV) rfl) (gi (fQ (xc Rr Zt)) (iY _)) (fun a _=>fC) (.nil fun _ _=>rfl)
       (fun y hy _ C fp s' H' G'=>kN hu (aa 1 rfl) (aa 0 rfl) (by rw[Wr];exact kG (Zt y hy)) (fun _ _=>rfl)) (t7 (by omega)))) ai) ⟨six,rows,wd,l',ls',n',_,xs,rfl,hb,rfl⟩) (aa 5 rfl) Yv)) (Le.of ⟨rfl,rfl,rfl,rfl,?_,trivial⟩)
     show Slot.own (.fw (kd (L.take (k+1)) Dk))=Slot.own (.fw (x4 (kd (L.take k) Dk) (.inr (sg L[k])) (Dk L[k])));rw[NF Rr.nd hk]
   . rw[eS]
     exact Hh (dl1:=.val (.obj t.aw (t.ZF six rows wd l' ls' n' l ls n))::tl.set 3 (.own (.fw (pN (t.rj six rows N))))) (DE (f:=t.rj six rows) (tl:=tl) 3 hs ht rfl mZ (by omega) T.aP.cl T.bP hA hB) (Le.of ⟨rfl,rfl,rfl,rfl,trivial⟩)
theorem sC (T:Txt K mg t):MF P w K mg base CX 9 t.aw "stretch" 4 (AI t):=by
 refine⟨T.aP.cl,_,_,_,jb T.cW.F mI rfl fun bc A outer s H E G ds r hr hl hR=>?_,T.cj,T.cW.b⟩;obtain⟨six,rows,wd,l',ls',n',l,ls,n,age,b,e,rfl,ok,gF,⟨sF,N9⟩,rfl⟩:=hR;have hu:(A.deeper (envOfC "Drawing.stretch" (af cU) s.heap.objs.size t.cg bc)).units+1 < cLine:=by have:=hr.units;omega
 obtain⟨k,bt,⟨hk1,ZG⟩,hbt,hfl,hb4,hmt⟩:=Wt ok.ok gF sF N9;let xs:List (List Str):=bt.map fun p=>GP rows (gP rows p.1 p.2)
 have e3:((bt.filter fun _=>true).map fun p=>t.rL six (OX six rows p.1 p.2))=xs.map fun x=>t.rL six (b8 six x):=by
   rw[aaG.mpr (fun _ _=>rfl),aar];rfl
 have ZK:xs.flatten=GP rows (cut (zg rows wd age) b e):=by
   rw[<- hfl];show(bt.map fun p=>GP rows (gP rows p.1 p.2)).flatten=(bt.flatMap fun p=>gP rows p.1 p.2).map (o9 rows);rw[List.map_flatMap,List.flatMap_def];rfl
 have hb:xs.flatten.length < 2 ^ 990:=by
   rw[ZK];unfold GP cut;rw[aaa,abU,aaD];have:=SS ok.ok gF;omega
 rw[<- ZK];refine⟨_,.rt _,ah (JC (m:=age+1) (tl:=[.val (.int ((age:Nat):Int)),.val (.int (b:Int)),.val (.int (e:Int))]) (bB (fs:=t.fS six rows wd l' ls' n') (aI (fs:=t.sA six rows wd l' ls' n' l ls n) (aa 0 rfl) T.aP.cl T.aW rfl) (ZC T) aD hr (ae (aa 1 rfl) (ae (aa 2 rfl) (ae (aa 3 rfl) ai))) ⟨six,rows,wd,l',ls',n',age,b,e,rfl,ok.ok,ok.gs,gF,⟨sF,N9⟩,rfl⟩))
   (ah (mz (m:=age+1) (fs:=t.zX six rows wd l' ls' (age+1)) (nm:=["tracks"]) (tl:=[.val (.int ((age:Nat):Int)),.val (.int (b:Int)),.val (.int (e:Int))]) (bB (fs:=t.sA six rows wd l' ls' (age+1) l ls n) (aa 0 rfl) (EF T) aD hr (ae (aa 1 rfl) ai) ⟨six,rows,wd,l',ls',_,l,ls,n,age,rfl,ok,gF,rfl⟩))
   (ao (aN (bB (fs:=t.sA six rows wd l' ls' (age+1) l ls (age+1)) (aa 0 rfl) (zh T) aD hr (ae (jM e3 (jW bt wg (fun p=>t.rL six (OX six rows p.1 p.2)) (fun p=>[.val (.int ((p.1:Nat):Int)),.val (.str (sg p.2))]) (fun _=>true) rfl (dQ SW) (mV (kL (LG (De (fs:=t.fS six rows wd l' ls' (age+1)) (aI (fs:=t.sA six rows wd l' ls' (age+1) l ls (age+1)) (aa 0 rfl) T.aP.cl T.aW rfl) (Ft (Kh T)) aD hr (ae (aa 1 rfl) (ae (aa 2 rfl) (ae (aa 3 rfl) ai))) ⟨six,rows,wd,l',ls',age+1,age,b,e,k,rfl,⟨ok.ok,ok.gs,by omega,by omega,gF⟩,⟨sF,N9⟩,⟨hk1,ZG⟩,rfl⟩) (by rw[hbt])))) (LX rfl (dQ SW) rfl) nT (fun a _=>PU) (.nil fun _ _=>rfl)
     (fun p hp _ C fp s' H' G'=>?_) (aax hb4 (by decide)))) ai) ⟨six,rows,wd,l',ls',age+1,_,xs,rfl,hb,rfl⟩))))⟩
 obtain⟨m1,m2⟩:=hmt p hp;exact kN hu (uK (n:=age+1) (j:=0) (f:=t.rj six rows) (aI (fs:=t.sA six rows wd l' ls' (age+1) l ls (age+1)) (aa 2 rfl) T.aP.cl T.bP rfl) (aa 0 rfl) (by rw[ok.ts];rfl) (by omega) (by omega)) (aa 1 rfl) (by rw[Wr];exact kG m1) (fun _ _=>rfl)
section
variable {X:Cx}{G:Gr}{dl:List Slot}{i o:Expr}{kds:List (Key×Dt)}{k:Str}{pos:Pos}
theorem Iu (hu:X.A.units+1 < cLine)(hi:EE X G dl i (.str k))(ho:EE X G dl o (.d7 kds))(hm:autoParam (behindInMarks .NotIn o=false) jp):EB X G dl (.Compare i [.NotIn] [o] pos) (!(mR kds (.inr k)).isSome):=
 Uk (EU (Ah hu hi ho) hm) fun st H Q zq=>zn zq fun Hf S kk=>fun v av H1 g1 r1=>⟨av,S.grow g1,fun w bD H2 g2 r2=>by
     cases r1;cases r2 with
     | @d7 q tg ob kvs _ hq rp=>exact⟨q,_,rfl,.inl ⟨kvs,.inr k,.inr (.inr (.inl ⟨tg,ob,kvs,g2.sub _ _ hq,rfl⟩)),rfl,rfl⟩,by rw[rp.Ao];exact⟨_,rfl,kk bD H2 (g1.trans g2)⟩⟩⟩
end
theorem tZ:∀ xs:List Int,C4 (xs.map Dt.int)=xs.map PyData.int
 | []=>by simp[C4]
 | x::xs=>by rw[aas,C4,tZ xs];simp[pd]
theorem EG (xs:List Int):EM (.lst (xs.map .int)):=by
 have h1:jV (xs.map Dt.int)=true:=by
   induction xs with
   | nil=>simp[jV]
   | cons x xs ih=>rw[aas,jV,ih];simp[Sg.plain]
 have h2:∀ ys:List Int,PyData.canLayAll0 (ys.map PyData.int)=true/\PyData.depthAll (ys.map PyData.int)=0:=by
   intro ys
   induction ys with
   | nil=>simp[PyData.canLayAll0,PyData.depthAll]
   | cons y ys ih=>rw[aas];simp[PyData.canLayAll0,PyData.depthAll,PyData.canLay0,PyData.depth,ih]
 refine⟨by rw[Sg.plain];exact h1,?_⟩;unfold SeqAt.shaped;rw[pd,tZ];simp[PyData.canLay0,PyData.depth,h2 xs]
theorem vz (ys:List Int):PyData.depthAll (ys.map PyData.int)=0:=by
 induction ys with
 | nil=>simp[PyData.depthAll]
 | cons y ys ih=>rw[aas];simp[PyData.depthAll,PyData.depth,ih]
noncomputable def mO (x:Tr):Dt:=.tup [.int x.many,.int x.turn,sp x.shift,.int x.eV,.lst (x.reach.map .int),.lst (x.cC.map .int),.int x.pj]
theorem zi (x:Tr):EM (mO x):=by
 have h1:=EG x.reach;have h2:=EG x.cC;have c1:=SeqAt.canLay_of_shaped h1.2;have c2:=SeqAt.canLay_of_shaped h2.2;have d1:(pd (.lst (x.reach.map Dt.int))).depth<=1:=by rw[pd,tZ];simp[PyData.depth,vz]
 have d2:(pd (.lst (x.cC.map Dt.int))).depth<=1:=by rw[pd,tZ];simp[PyData.depth,vz]
 have p1:=h1.1;have p2:=h2.1;unfold mO sp;refine⟨by simp[Sg.plain,jV] at p1 p2 ⊢;exact⟨p1,p2⟩,?_⟩;unfold SeqAt.shaped;rw[pd];simp[C4,pd] at c1 c2 d1 d2 ⊢;simp[C4,pd,PyData.canLay0,PyData.canLayAll0,PyData.depth,PyData.depthAll] at c1 c2 d1 d2 ⊢;refine⟨⟨c1,c2⟩,?_⟩;omega
def Wv (t:dy):Rl:=fun ds r=>∃ six x,ds=[t.Gp six x]/\WF six x/\(x.reach.length=wn six)/\r=.ret (mO x)
theorem EH (six:Bool){ns:List Int}(h:ns.length=wn six):rM six ns 0=ns:=by
 refine list_eq (six:=six) (by unfold rM;simp) h fun v hv=>?_
 rw[Ck six _ _ hv]
 congr 1
 have hw:=yN six;rw[Int.sub_zero,acx (by omega) (by omega),abn]
def ady (t:dy):Rl:=fun ds r=>∃ six rows w l ls n x,ds=[wj t six rows w l ls n,.str (sg x)]/\ls.map (·.2)=pQ rows/\0 < n/\n<=1000/\x∈rows.map (·.c)/\r=.ret .cz
def Oq (t:dy):Rl:=fun ds r=>∃ six rows w l' ls' n' l ls n age x,ds=[.obj t.aw (t.sA six rows w l' ls' n' l ls n),.int ((age:Nat):Int),.str (sg x)]/\Cn t six rows w ls' ls/\(0 < n'/\n'<=1000)/\age<=200/\x∈rows.map (·.c)/\r=.ret (t.rL six (OX six rows age x))
theorem ZL (T:Txt K mg t):MF P w K mg base CX 1 t.au "check_letter" 2 (ady t):=by
 refine⟨T.aO.cl,_,_,_,jb T.bS.F jt rfl fun bc A outer s H E G ds r hr hl hR=>?_,T.bQ,T.bS.b⟩;obtain⟨six,rows,wd,l,ls,n,x,rfl,mZ,hn,Qb,hx,rfl⟩:=hR;have hu:(A.deeper (envOfC "Growth.check_letter" (af cA) s.heap.objs.size t.aT bc)).units+1 < cLine:=by have:=hr.units;omega
 exact⟨_,.nx _,ao (aL (u:=false) (br (Iu hu (aa 1 rfl) (uK (n:=n) (j:=1) (f:=yV rows) (k:=0) (aI (fs:=t.fS six rows wd l ls n) (aa 0 rfl) T.aO.cl T.bN rfl) aj (by rw[mZ];rfl) hn Qb)) (by rw[OW,kG hx];rfl)) (fun h=>nomatch h) (fun h=>aS))⟩
theorem Rt (T:Txt K mg t):MF P w K mg base CX 5 t.aA "told" 1 (Wv t):=by
 refine⟨T.aF.cl,_,_,_,jb T.l5.F zJ rfl fun bc A outer s H E G ds r hr hl hR=>?_,T.ib,T.l5.b⟩;obtain⟨six,x,rfl,hw,_,rfl⟩:=hR;have e0:tn six ((0:Int) % wy six).toNat x.shift=x.shift:=by cases six <;> rfl
 refine⟨_,.rt _,ao (aN (bI (b9 (ae (cD (fs:=t.kX six x) (aa 0 rfl) (Ie T) aD hr ⟨six,x,rfl,rfl⟩) (ae (cD (fs:=t.kX six x) (aa 0 rfl) (B8 T) aD hr ⟨six,x,rfl,rfl⟩) (ae (Hq (fs:=t.kX six x) (aa 0 rfl) (AE T) aD hr ⟨six,x,0,rfl,rfl⟩)
   (ae (cD (fs:=t.kX six x) (aa 0 rfl) (yO T) aD hr ⟨six,x,rfl,rfl⟩) (ae (kL (LN (fs:=t.kX six x) (aa 0 rfl) (J8 T) aD hr ⟨six,x,0,rfl,hw,rfl⟩)) (ae (kL (LN (fs:=t.kX six x) (aa 0 rfl) (J9 T) aD hr ⟨six,x,0,rfl,hw,rfl⟩))
   (ae (cD (fs:=t.kX six x) (aa 0 rfl) (Ig T) aD hr ⟨six,x,rfl,rfl⟩) ai))))))) AA3) ?_))⟩
 rw[e0,EH six hw.rl,EH six hw.tl];rfl
theorem Kj (T:Txt K mg t):MF P w K mg base CX 8 t.aw "whole" 3 (Oq t):=by
 refine⟨T.aP.cl,_,_,_,jb T.d6.F n6 rfl fun bc A outer s H E G ds r hr hl hR=>?_,T.cP,T.d6.b⟩;obtain⟨six,rows,wd,l',ls',n',l,ls,n,age,x,rfl,ok,⟨oF,Qb⟩,gF,hx,rfl⟩:=hR;have hu:(A.deeper (envOfC "Drawing.whole" (af iC) s.heap.objs.size t.cZ bc)).units+1 < cLine:=by have:=hr.units;omega
 exact⟨_,.rt _,ah (jl (cS (NP T) aD hr (ae (aa 1 rfl) (ae aj (ae (iz (w:=.int 200) T.jE ⟨_,rfl⟩ fun _=>.int 200) ai))) ⟨_,0,200,rfl,by omega,by omega,rfl⟩))
   (ah (jl (bB (fs:=t.fS six rows wd l' ls' n') (aI (fs:=t.sA six rows wd l' ls' n' l ls n) (aa 0 rfl) T.aP.cl T.aW rfl) (ZL T) aD hr (ae (aa 2 rfl) ai) ⟨six,rows,wd,l',ls',n',x,rfl,ok.gs,oF,Qb,hx,rfl⟩))
   (ah (mz (m:=age+1) (fs:=t.zX six rows wd l' ls' n') (nm:=["tracks"]) (tl:=[.val (.int ((age:Nat):Int)),.val (.str (sg x))]) (bB (fs:=t.sA six rows wd l' ls' n' l ls n) (aa 0 rfl) (EF T) aD hr (ae (aa 1 rfl) ai) ⟨six,rows,wd,l',ls',_,l,ls,n,age,rfl,ok,gF,rfl⟩))
   (ao (aN (kN hu (uK (n:=age+1) (j:=0) (f:=t.rj six rows) (aI (fs:=t.sA six rows wd l' ls' n' l ls (age+1)) (aa 0 rfl) T.aP.cl T.bP rfl) (aa 1 rfl) (by rw[ok.ts];rfl) (by omega) (by omega)) (aa 2 rfl) (by rw[Wr];exact kG hx) (fun _ _=>rfl))))))⟩
noncomputable def adA (x:Tr):Dt:=.tup [sp x.shift,.int x.turn]
def Ru (t:dy):Rl:=fun ds r=>∃ six rows w l' ls' n' l ls n age,∃ e:Nat,ds=[.obj t.aw (t.sA six rows w l' ls' n' l ls n),.int ((age:Nat):Int),.int (e:Int)]/\Cn t six rows w ls' ls/\age<=200/\e<=(zg rows w age).length/\r=.ret (adA (b8 six (GP rows (cut (zg rows w age) 0 e))))
theorem Ot (T:Txt K mg t):MF P w K mg base CX 10 t.aw "pen_at" 3 (Ru t):=by
 refine⟨T.aP.cl,_,_,_,jb T.dC.F gc rfl fun bc A outer s H E G ds r hr hl hR=>?_,T.cy,T.dC.b⟩;obtain⟨six,rows,wd,l',ls',n',l,ls,n,age,e,rfl,ok,gF,N9,rfl⟩:=hR;have nd:=gc.nd;obtain⟨x,hx⟩:∃ x,x=b8 six (GP rows (cut (zg rows wd age) 0 e)):=⟨_,rfl⟩
 rw[<- hx];have e0:tn six ((0:Int) % wy six).toNat x.shift=x.shift:=by cases six <;> rfl
 refine⟨_,.rt _,ah (aB 3 nd (d:=t.rL six x) (bB (fs:=t.sA six rows wd l' ls' n' l ls n) (aa 0 rfl) (sC T) aD hr (ae (aa 1 rfl) (ae aj (ae (aa 2 rfl) ai))) ⟨six,rows,wd,l',ls',n',l,ls,n,age,0,e,rfl,ok,gF,⟨abh _,N9⟩,by rw[hx]⟩))
   (ao (aN (bI (b9 (ae (Hq (fs:=t.kX six x) (qp (aa 3 rfl)) (AE T) aD hr ⟨six,x,0,rfl,rfl⟩) (ae (cD (fs:=t.kX six x) (qp (aa 3 rfl)) (B8 T) aD hr ⟨six,x,rfl,rfl⟩) ai)) AA3) (by rw[e0];rfl))))⟩
section
variable {X:Cx}{G:Gr}{dl:List Slot}{a:Expr}{d:Dt}{pos:Pos}{k:Nat}{u:Bool}
def Ou (d:Dt)(u:Bool):Prop:=∀ K H v,Rep K H v d->decide (v=V.cz)=u
theorem Ov:Ou .cz true:=fun K H v r=>by cases r;rfl
theorem Rv {C:Addr}:Ou (.xo C) false:=fun K H v r=>by cases r;rfl
theorem Ow {jk:Nat}{pq:Pos}(hd:Ou d u)(ha:EE X G dl a d):EB X G dl (.Compare a [.Is] [.Constant .none jk pq] pos) u:=
 Uk (EU (To ha)) fun st H Q zq=>zn zq fun Hf S k=>fun v av H1 g1 r1=>⟨u,congrArg V.bl (hd _ _ _ r1),k av H1 g1⟩
end
theorem t5 {C:Addr}{fs:List (Str×Dt)}:Ou (.sO C fs) false:=fun K H v r=>by cases r;rfl
def okW (d:Dt):Prop:=∃ w:List Nat,d=.str (tx w)/\(∀ x∈w,x < 128)/\w.length<=100
def okI (d:Dt):Prop:=∃ z:Int,d=.int z
theorem Iv {w:List Nat}(hw:∀ x∈w,x < 128)(hl:w.length<=100):(reprText (tx w)).length<=1100:=by
 have:=PySem.StrLaws.reprText_len (tx w) (fun c hc=>aam (hw c (by simpa [tx] using hc)) (by decide));rw[ik] at this;omega
theorem len_rep {y:Str}{w:List Nat}(hw:∀ x∈w,x < 128)(hl:w.length<=100)(hy:y.length<=100):(Str.empty ++ y ++ reprText (tx w)).length<=sizeLine:=by
 rw[PySem.Str.length_append,PySem.Str.length_append];have:=Iv hw hl;have e:Str.empty.length=0:=rfl;exact aax (show Str.empty.length+y.length+_<=2000 by omega) (by decide)
structure vA (rows:List Row)(w:List Nat):Prop where
 no:∀ x∈rows.map (·.c),w≠[x]
 as:∀ x∈w,x < 128
 le:w.length<=100
theorem Ox {a b:List Nat}(h:tx a=tx b):a=b:=by
 have:=congrArg (fun s:Str=>s.cps.toList) h;simpa [tx] using this
theorem Oy {α:Type}{rows:List Row}{w:List Nat}(h:vA rows w)(f:Nat->Dt):mR (kd (rows.map (·.c)) f) (.inr (tx w))=none:=qB fun kv W3 e=>by
 unfold kd at W3;obtain⟨c,hc,rfl⟩:=aaK.mp W3;exact h.no c hc (Ox (show tx w=tx [c] from(Sum.inr.inj e).symm))
def ZM (t:dy):Rl:=fun ds r=>∃ z f l:Int,ds=[.int z,.int f,.int l]/\(z < f\/l < z)/\r=.exc (.ref t.aC) []
def Ww (t:dy):Rl:=fun ds r=>∃ six rows w l ls n z,ds=[wj t six rows w l ls n,.int z]/\(z < 0\/200 < z)/\r=.exc (.ref t.aC) []
def ZN (t:dy):Rl:=fun ds r=>∃ six rows w l ls n age z,ds=[wj t six rows w l ls n,.int ((age:Nat):Int),.int z]/\oo rows w/\ls.map (·.2)=pQ rows/\age<=200/\(z < 0\/((zg rows w age).length:Nat) < z)/\r=.exc (.ref t.ay) [("place",.int z)]
inductive AJ (t:dy)(rows:List Row)(w:List Nat)(a b e:Int):Addr->List (Str×Dt)->Prop
 | rd (h:a < 0\/200 < a):AJ t rows w a b e t.aC []
 | p1 (age:Nat) (ha:a=((age:Nat):Int)) (h2:age<=200) (h:b < 0\/((zg rows w age).length:Nat) < b):AJ t rows w a b e t.ay [("place",.int b)]
 | p2 (age:Nat) (ha:a=((age:Nat):Int)) (h2:age<=200) (h:0<=b/\b<=((zg rows w age).length:Nat)) (h3:e < b\/((zg rows w age).length:Nat) < e):AJ t rows w a b e t.ay [("place",.int e)]
def ZO (t:dy):Rl:=fun ds r=>∃ six rows w l ls n a b e c fe,ds=[wj t six rows w l ls n,.int a,.int b,.int e]/\oo rows w/\ls.map (·.2)=pQ rows/\AJ t rows w a b e c fe/\r=.exc (.ref c) fe
def Oz (t:dy):Rl:=fun ds r=>∃ six rows w l' ls' n' l ls n a b e c fe,ds=[.obj t.aw (t.sA six rows w l' ls' n' l ls n),.int a,.int b,.int e]/\Cn t six rows w ls' ls/\AJ t rows w a b e c fe/\r=.exc (.ref c) fe
def SY (t:dy):Rl:=fun ds r=>∃ six rows w l' ls' n' l ls n a e c fe,ds=[.obj t.aw (t.sA six rows w l' ls' n' l ls n),.int a,.int e]/\Cn t six rows w ls' ls/\AJ t rows w a 0 e c fe/\r=.exc (.ref c) fe
def ZP (t:dy):Rl:=fun ds r=>∃ six rows w l ls n x,ds=[wj t six rows w l ls n,.str (tx x)]/\ls.map (·.2)=pQ rows/\0 < n/\n<=1000/\vA rows x/\r=.exc (.ref t.ar) [("letter",.str (tx x))]
inductive OA (t:dy)(rows:List Row)(a:Int)(x:List Nat):Addr->List (Str×Dt)->Prop
 | rd (h:a < 0\/200 < a):OA t rows a x t.aC []
 | lt (h:0<=a/\a<=200) (hx:vA rows x):OA t rows a x t.ar [("letter",.str (tx x))]
def S6 (t:dy):Rl:=fun ds r=>∃ six rows w l' ls' n' l ls n a x c fe,ds=[.obj t.aw (t.sA six rows w l' ls' n' l ls n),.int a,.str (tx x)]/\Cn t six rows w ls' ls/\(0 < n'/\n'<=1000)/\OA t rows a x c fe/\r=.exc (.ref c) fe
theorem EI {p q:Prop}[Decidable p][Decidable q](h:p\/q):(decide p || decide q)=true:=by
 rcases h with h | h
 . rw[decide_eq_true h];rfl
 . rw[decide_eq_true h,Bool.or_true]
theorem vB (T:Txt K mg t):XF P w K mg base CX 1 "NoPlace" t.ay "place" okI:=
 ⟨_,_,_,Dv T.jF.F vQ rfl rfl (fun bc A outer s H E d hr hd=>by
   obtain⟨n,rfl⟩:=hd;exact Sa T.yx T.tH T.yy T.m8 (fun G=>cf)),T.yx,T.qM,T.jF.b⟩
theorem Cp (T:Txt K mg t):XF P w K mg base CX 1 "NoLetter" t.ar "letter" okW:=
 ⟨_,_,_,Dv T.iR.F uM rfl rfl (fun bc A outer s H E d hr hd=>by
   obtain⟨w,rfl,hw,hl⟩:=hd;exact Sa T.vx T.tH T.vy T.m8 (fun G=>P0 (aa 1 rfl) (t7 (aax (Iv hw hl) (by decide))) (by decide) (len_rep hw hl (by decide)))),T.vx,T.o7,T.iR.b⟩
theorem OB (T:Txt K mg t):GF P w K mg base (t6 P w) 1 "check_round" 3 (ZM t):=by
 refine⟨_,_,_,jb T.cb.F qf rfl fun bc A outer s H E G ds r hr hl hR=>?_,(T.g T.cb.a),T.cb.F.kp,T.cb.b⟩;obtain⟨z,f,l,rfl,h,rfl⟩:=hR;exact⟨_,.ex _ _,cI (aL (u:=true) (br (nB (mW (mq (aa 0 rfl) (aa 1 rfl)) fun _=>(ji (pB (aa 0 rfl) (aa 2 rfl))))) (EI h)) (fun _=>ao (Ly Pz T.FX T.qL rfl (ae cf ai) AA3)) (fun h=>nomatch h))⟩
theorem Rw (T:Txt K mg t):MF P w K mg base (t6 P w) 2 t.au "enter" 2 (Ww t):=by
 refine⟨T.aO.cl,_,_,_,jb T.fm.F pH rfl fun bc A outer s H E G ds r hr hl hR=>?_,T.dv,T.fm.b⟩;obtain⟨six,rows,wd,l,ls,n,z,rfl,hz,rfl⟩:=hR;exact⟨_,.ex _ _,cI (jX (Mp (OB T) mX hr (ae (aa 1 rfl) (ae aj (ae (iz (w:=.int 200) T.jE ⟨_,rfl⟩ fun _=>.int 200) ai))) ⟨_,_,_,rfl,hz,rfl⟩))⟩
theorem Wx (T:Txt K mg t):MF P w K mg base (t6 P w) 7 t.au "check_place" 3 (ZN t):=by
 refine⟨T.aO.cl,_,_,_,U7 (Mo T.b6.F) jT rfl fun bc A outer s H E G ds r hr hl hR hG=>?_,T.bV,T.b6.b⟩;obtain⟨six,rows,wd,l,ls,n,age,z,rfl,ok,mZ,gF,hz,rfl⟩:=hR;have e:=Cj ok age;rw[e] at hz;exact⟨_,.ex _ _,cI (aL (u:=true) (br (nB (mW (mq (aa 2 rfl) aj) fun _=>(ji (pB (aa 2 rfl) (bB (fs:=t.fS six rows wd l ls n) (aa 0 rfl) (Ce T) aD hr (ae (aa 1 rfl) ai) ⟨six,rows,wd,l,ls,n,age,rfl,ok,mZ,gF,rfl⟩))))) (EI hz)) (fun _=>ao (uG (Bl hG) (vB T) aD hr rfl (aa 2 rfl) ⟨z,rfl⟩)) (fun h=>nomatch h))⟩
theorem Wz (T:Txt K mg t):MF P w K mg base (t6 P w) 8 t.au "check_stretch" 4 (ZO t):=by
 refine⟨T.aO.cl,_,_,_,U7 (Mo T.bH.F) jc rfl fun bc A outer s H E G ds r hr hl hR hG=>?_,T.bG,T.bH.b⟩;obtain⟨six,rows,wd,l,ls,n,a,b,e,c,fe,rfl,ok,mZ,GR,rfl⟩:=hR;cases GR with
 | rd h=>exact⟨_,.ex _ _,cI (jX (uH (fs:=t.fS six rows wd l ls n) (aa 0 rfl) (Rw T) mX hr (ae (aa 1 rfl) ai) ⟨six,rows,wd,l,ls,n,a,rfl,h,rfl⟩))⟩
 | p1 age ha h2 h=>
   subst ha;exact⟨_,.ex _ _,ah (mz (m:=age+1) (tl:=[.val (.int ((age:Nat):Int)),.val (.int b),.val (.int e)]) (bB (fs:=t.fS six rows wd l ls n) (aa 0 rfl) (yX T) aD hr (ae (aa 1 rfl) ai) ⟨six,rows,wd,l,ls,n,age,rfl,ok,mZ,h2,rfl⟩))
     (cI (jX (uH (fs:=t.fS six rows wd l ls (age+1)) (aa 0 rfl) (Wx T) mX hr (ae (aa 1 rfl) (ae (aa 2 rfl) ai)) ⟨six,rows,wd,l,ls,_,age,b,rfl,ok,mZ,h2,h,rfl⟩)))⟩
 | p2 age ha h2 h h3=>
   subst ha;refine⟨_,.ex _ _,ah (mz (m:=age+1) (tl:=[.val (.int ((age:Nat):Int)),.val (.int b),.val (.int e)]) (bB (fs:=t.fS six rows wd l ls n) (aa 0 rfl) (yX T) aD hr (ae (aa 1 rfl) ai) ⟨six,rows,wd,l,ls,n,age,rfl,ok,mZ,h2,rfl⟩))
     (ah (jl (bB (fs:=t.fS six rows wd l ls (age+1)) (aa 0 rfl) (SQ T) aD hr (ae (aa 1 rfl) (ae (aa 2 rfl) ai)) ⟨six,rows,wd,l,ls,_,age,b,rfl,ok,mZ,h2,h,rfl⟩)) ?_)⟩
   by_cases hb:e < b
   . exact cI (aL (u:=true) (br (mq (aa 3 rfl) (aa 2 rfl)) (decide_eq_true hb)) (fun _=>ao (uG (Bl hG) (vB T) aD hr rfl (aa 3 rfl) ⟨e,rfl⟩)) (fun h=>nomatch h))
   . exact ah (aL (u:=false) (br (mq (aa 3 rfl) (aa 2 rfl)) (decide_eq_false hb)) (fun h=>nomatch h) (fun h=>aS))
       (ao (jX (uH (fs:=t.fS six rows wd l ls (age+1)) (aa 0 rfl) (Wx T) mX hr (ae (aa 1 rfl) (ae (aa 3 rfl) ai)) ⟨six,rows,wd,l,ls,_,age,e,rfl,ok,mZ,h2,by omega,rfl⟩)))
theorem Iw (T:Txt K mg t):MF P w K mg base (t6 P w) 9 t.aw "stretch" 4 (Oz t):=by
 refine⟨T.aP.cl,_,_,_,jb T.cW.F mI rfl fun bc A outer s H E G ds r hr hl hR=>?_,T.cj,T.cW.b⟩;obtain⟨six,rows,wd,l',ls',n',l,ls,n,a,b,e,c,fe,rfl,ok,GR,rfl⟩:=hR;exact⟨_,.ex _ _,cI (jX (uH (fs:=t.fS six rows wd l' ls' n') (aI (fs:=t.sA six rows wd l' ls' n' l ls n) (aa 0 rfl) T.aP.cl T.aW rfl) (Wz T) mX hr (ae (aa 1 rfl) (ae (aa 2 rfl) (ae (aa 3 rfl) ai))) ⟨six,rows,wd,l',ls',n',a,b,e,c,fe,rfl,ok.ok,ok.gs,GR,rfl⟩))⟩
theorem WB (T:Txt K mg t):MF P w K mg base (t6 P w) 10 t.aw "pen_at" 3 (SY t):=by
 refine⟨T.aP.cl,_,_,_,jb T.dC.F gc rfl fun bc A outer s H E G ds r hr hl hR=>?_,T.cy,T.dC.b⟩;obtain⟨six,rows,wd,l',ls',n',l,ls,n,a,e,c,fe,rfl,ok,GR,rfl⟩:=hR;have nd:=gc.nd;exact⟨_,.ex _ _,cI (Mq 3 nd (uH (fs:=t.sA six rows wd l' ls' n' l ls n) (aa 0 rfl) (Iw T) mX hr (ae (aa 1 rfl) (ae aj (ae (aa 2 rfl) ai))) ⟨six,rows,wd,l',ls',n',l,ls,n,a,0,e,c,fe,rfl,ok,GR,rfl⟩))⟩
theorem WC (T:Txt K mg t):MF P w K mg base (t6 P w) 3 t.au "check_letter" 2 (ZP t):=by
 refine⟨T.aO.cl,_,_,_,U7 (Mo T.bS.F) jt rfl fun bc A outer s H E G ds r hr hl hR hG=>?_,T.bQ,T.bS.b⟩;obtain⟨six,rows,wd,l,ls,n,x,rfl,mZ,hn,Qb,hx,rfl⟩:=hR;have hu:(A.deeper (envOfC "Growth.check_letter" (af cA) s.heap.objs.size t.aT bc)).units+1 < cLine:=by have:=hr.units;omega
 exact⟨_,.ex _ _,cI (aL (u:=true) (br (Iu hu (aa 1 rfl) (uK (n:=n) (j:=1) (f:=yV rows) (k:=0) (aI (fs:=t.fS six rows wd l ls n) (aa 0 rfl) T.aO.cl T.bN rfl) aj (by rw[mZ];rfl) hn Qb)) (by rw[OW,Oy (α:=Nat) hx];rfl)) (fun _=>ao (uG (Bl hG) (Cp T) aD hr rfl (aa 1 rfl) ⟨x,rfl,hx.as,hx.le⟩)) (fun h=>nomatch h))⟩
theorem WD (T:Txt K mg t):MF P w K mg base (t6 P w) 5 t.aw "whole" 3 (S6 t):=by
 refine⟨T.aP.cl,_,_,_,jb T.d6.F n6 rfl fun bc A outer s H E G ds r hr hl hR=>?_,T.cP,T.d6.b⟩;obtain⟨six,rows,wd,l',ls',n',l,ls,n,a,x,c,fe,rfl,ok,⟨oF,Qb⟩,GR,rfl⟩:=hR;cases GR with
 | rd h=>exact⟨_,.ex _ _,cI (jX (Mp (OB T) mX hr (ae (aa 1 rfl) (ae aj (ae (iz (w:=.int 200) T.jE ⟨_,rfl⟩ fun _=>.int 200) ai))) ⟨_,_,_,rfl,h,rfl⟩))⟩
 | lt h hx=>exact⟨_,.ex _ _,ah (jl (cS (NP T) aD hr (ae (aa 1 rfl) (ae aj (ae (iz (w:=.int 200) T.jE ⟨_,rfl⟩ fun _=>.int 200) ai))) ⟨_,0,200,rfl,h.1,h.2,rfl⟩))
     (cI (jX (uH (fs:=t.fS six rows wd l' ls' n') (aI (fs:=t.sA six rows wd l' ls' n' l ls n) (aa 0 rfl) T.aP.cl T.aW rfl) (WC T) mX hr (ae (aa 2 rfl) ai) ⟨six,rows,wd,l',ls',n',x,rfl,ok.gs,oF,Qb,hx,rfl⟩)))⟩
noncomputable def Xd (z:Int):Dt:=.tup [.str "place",.int z]
noncomputable def ZU (x:List Nat):Dt:=.tup [.str "letter",.str (tx x)]
noncomputable def ZV:Dt:=.tup [.str "round",.int 0]
inductive OD (t:dy):Dt->List Dt->Prop
 | lt (x:List Nat) (hx:∀ c∈x,c < 128):OD t (.sO t.ar [("letter",.str (tx x))]) [ZU x]
 | pl (z:Int):OD t (.sO t.ay [("place",.int z)]) [Xd z]
 | rd:OD t (.xo t.aC) [ZV]
def Rx (t:dy):Rl:=fun ds r=>∃ d L,ds=[d]/\OD t d L/\r=.own (.lst L)
noncomputable def WE (rows:List Row)(sz:Nat)(k a:Int)(x:List Nat)(o p:Int):List Dt:=
 if a < 0\/200 < a then [ZV] else if k=0 then (if tx x∈(rows.map (·.c)).map sg then [] else [ZU x])
 else if o < 0\/((sz:Nat):Int) < o then [Xd o] else if k=2/\(p < o\/((sz:Nat):Int) < p) then [Xd p] else []
theorem zj (s:Str)(z:Int)(hs:PyData.strOk s=true):EM (.lst [.tup [.str s,.int z]]):=by
 refine⟨by simp[Sg.plain,jV,hs],?_⟩;unfold SeqAt.shaped;simp[pd,C4,PyData.canLay0,PyData.canLayAll0,PyData.depth,PyData.depthAll,hs]
theorem OE (s x:Str)(hs:PyData.strOk s=true)(hx:PyData.strOk x=true):EM (.lst [.tup [.str s,.str x]]):=by
 refine⟨by simp[Sg.plain,jV,hs,hx],?_⟩;unfold SeqAt.shaped;simp[pd,C4,PyData.canLay0,PyData.canLayAll0,PyData.depth,PyData.depthAll,hs,hx]
theorem EJ {x:List Nat}(h:∀ c∈x,c < 128):PyData.strOk (tx x)=true:=by
 unfold PyData.strOk;simp[tx];intro c hc;have:=h c hc;omega
theorem WG (rows:List Row)(sz:Nat)(k a:Int){x:List Nat}(hx:∀ c∈x,c < 128)(o p:Int):EM (.lst (WE rows sz k a x o p)):=by
 unfold WE
 split
 . exact zj _ _ (by decide +kernel)
 . split
   . split
     . exact⟨rfl,rfl⟩
     . exact OE _ _ (by decide +kernel) (EJ hx)
   . split
     . exact zj _ _ (by decide +kernel)
     . split
       . exact zj _ _ (by decide +kernel)
       . exact⟨rfl,rfl⟩
def WH (rows:List Row)(x:List Nat):Prop:=(∃ c∈rows.map (·.c),x=[c])\/vA rows x
theorem ZW {rows:List Row}{x:List Nat}(h:WH rows x):(tx x∈(rows.map (·.c)).map sg/\∃ c∈rows.map (·.c),x=[c])\/(tx x ∉ (rows.map (·.c)).map sg/\vA rows x):=by
 rcases h with⟨c,hc,rfl⟩ | h
 . exact .inl ⟨aaK.mpr ⟨c,hc,rfl⟩,c,hc,rfl⟩
 . refine .inr ⟨fun hm=>?_,h⟩
   obtain⟨c,hc,e⟩:=aaK.mp hm;exact h.no c hc (Ox (show tx x=tx [c] from e.symm))
def ZX (t:dy):Rl:=fun ds r=>∃ six rows w l' ls' n' l ls n,∃ (age:Nat) (k a o p:Int) (x:List Nat),ds=[.obj t.aw (t.sA six rows w l' ls' n' l ls n),.int k,.int a,.str (tx x),.int o,.int p]/\Cn t six rows w ls' ls/\(0 < n'/\n'<=1000)/\(0<=k/\k<=2)/\WH rows x/\age<=200/\(a < 0\/200 < a\/a=((age:Nat):Int))/\r=.own (.lst (WE rows (zg rows w age).length k a x o p))
def WI:Rl:=fun ds r=>∃ (rows:List Row) (sz:Nat) (k a o p:Int) (x:List Nat),ds=[.int ((sz:Nat):Int),.lst (((rows.map (·.c)).map sg).map .str),.int k,.int a,.str (tx x),.int o,.int p]/\r=.own (.lst (WE rows sz k a x o p))
theorem OF (T:Txt K mg t):GF P w K mg base CX 1 "_law_kinds" 1 (Rx t):=by
 refine⟨_,_,_,jb T.qS.F DM rfl fun bc A outer s H E G ds r hr hl hR=>?_,(T.g T.qS.a),T.qS.F.kp,T.qS.b⟩;obtain⟨d,L,rfl,hd,rfl⟩:=hR;have nd:=DM.nd;have e0:EA (pM CX P w K mg base BM "_law_kinds" (af wM) t.tu bc A outer s H E) G (slots BM [d]) [] []:=ai;refine⟨_,.ro _,ah (mY 1 nd (fY ai)) ?_⟩;cases hd with
 | lt x hx=>
   exact ah (aL (u:=true) (jR (iZ T.aQ (aa 0 rfl) (kZ T.o7) rfl T.je T.tJ)) (fun _=>ao (nS (ds:=[]) 1 (d:=ZU x) (b9 (ae cf (ae (HG (d:=.str (tx x)) (aa 0 rfl) T.je T.vy rfl) ai)) AA3) (by decide))) (fun h=>nomatch h))
     (ah (aL (u:=false) (jR (iZ T.aQ (aa 0 rfl) (kZ T.qM) rfl T.je T.uY)) (fun h=>nomatch h) (fun _=>aS))
     (ah (aL (u:=false) (jR (iZ T.aQ (aa 0 rfl) (kZ T.qL) rfl T.je T.uZ)) (fun h=>nomatch h) (fun _=>aS))
     (ah (aL (u:=false) (jR (iZ T.aQ (aa 0 rfl) (kZ T.uS) rfl T.je T.u0)) (fun h=>nomatch h) (fun _=>aS))
     (ah (aL (u:=false) (Bi (w:=.lst [ZU x]) 1 (nB (mW (u:=false) (v:=false) (Lq (d1:=.lst [ZU x]) (d2:=.lst []) hr.units (aa 1 rfl) (kL (fY ai)) (OE _ _ (by decide +kernel) (EJ hx)) ⟨rfl,rfl⟩ rfl) fun _=>ji (A5 (u:=true) (jR (iZ T.aQ (aa 0 rfl) (Lm T.jL Sg.k6) rfl T.je T.JH)))))) (fun h=>nomatch h) (fun _=>aS))
     (ao (wD 1))))))
 | pl z=>
   exact ah (aL (u:=false) (jR (iZ T.aQ (aa 0 rfl) (kZ T.o7) rfl T.j8 T.u5)) (fun h=>nomatch h) (fun _=>aS))
     (ah (aL (u:=true) (jR (iZ T.aQ (aa 0 rfl) (kZ T.qM) rfl T.j8 T.v7)) (fun _=>ao (nS (ds:=[]) 1 (d:=Xd z) (b9 (ae cf (ae (HG (d:=.int z) (aa 0 rfl) T.j8 T.yy rfl) ai)) AA3) (by decide))) (fun h=>nomatch h))
     (ah (aL (u:=false) (jR (iZ T.aQ (aa 0 rfl) (kZ T.qL) rfl T.j8 T.v8)) (fun h=>nomatch h) (fun _=>aS))
     (ah (aL (u:=false) (jR (iZ T.aQ (aa 0 rfl) (kZ T.uS) rfl T.j8 T.v9)) (fun h=>nomatch h) (fun _=>aS))
     (ah (aL (u:=false) (Bi (w:=.lst [Xd z]) 1 (nB (mW (u:=false) (v:=false) (Lq (d1:=.lst [Xd z]) (d2:=.lst []) hr.units (aa 1 rfl) (kL (fY ai)) (zj _ _ (by decide +kernel)) ⟨rfl,rfl⟩ rfl) fun _=>ji (A5 (u:=true) (jR (iZ T.aQ (aa 0 rfl) (Lm T.jL Sg.k6) rfl T.j8 T.MZ)))))) (fun h=>nomatch h) (fun _=>aS))
     (ao (wD 1))))))
 | rd=>
   exact ah (aL (u:=false) (jR (iZ T.aQ (aa 0 rfl) (kZ T.o7) rfl T.mJ T.u6)) (fun h=>nomatch h) (fun _=>aS))
     (ah (aL (u:=false) (jR (iZ T.aQ (aa 0 rfl) (kZ T.qM) rfl T.mJ T.wa)) (fun h=>nomatch h) (fun _=>aS))
     (ah (aL (u:=true) (jR (iZ T.aQ (aa 0 rfl) (kZ T.qL) rfl T.mJ T.wb)) (fun _=>ao (nS (ds:=[]) 1 (d:=ZV) (b9 (ae cf (ae aj ai)) AA3) (by decide))) (fun h=>nomatch h))
     (ah (aL (u:=false) (jR (iZ T.aQ (aa 0 rfl) (kZ T.uS) rfl T.mJ T.wc)) (fun h=>nomatch h) (fun _=>aS))
     (ah (aL (u:=false) (Bi (w:=.lst [ZV]) 1 (nB (mW (u:=false) (v:=false) (Lq (d1:=.lst [ZV]) (d2:=.lst []) hr.units (aa 1 rfl) (kL (fY ai)) (zj _ _ (by decide +kernel)) ⟨rfl,rfl⟩ rfl) fun _=>ji (A5 (u:=true) (jR (iZ T.aQ (aa 0 rfl) (Lm T.jL Sg.k6) rfl T.mJ T.M0)))))) (fun h=>nomatch h) (fun _=>aS))
     (ao (wD 1))))))
theorem Ry (T:Txt K mg t):GF P w K mg base CX 1 "_law_due" 7 WI:=by
 refine⟨_,_,_,jb T.Aw.F VM rfl fun bc A outer s H E G ds r hr hl hR=>?_,(T.g T.Aw.a),T.Aw.F.kp,T.Aw.b⟩;obtain⟨rows,sz,k,a,o,p,x,rfl,rfl⟩:=hR;have nt:∀ {p q:Prop} [Decidable p] [Decidable q],¬ (p\/q)->(decide p || decide q)=false:=fun {p q} _ _ h=>by
   rw[decide_eq_false fun z=>h (.inl z),decide_eq_false fun z=>h (.inr z)];rfl
 refine⟨_,.ro _,?_⟩;unfold WE;by_cases h1:a < 0\/200 < a
 . rw[if_pos h1]
   exact cI (aL (u:=true) (br (nB (mW (mq (aa 3 rfl) aj) fun _=>ji (pB (aa 3 rfl) aj))) (EI h1)) (fun _=>ao (fB (fY (ae (b9 (ae cf (ae aj ai)) AA3) ai) AA3))) (fun h=>nomatch h))
 rw[if_neg h1];refine ah (aL (u:=false) (br (nB (mW (mq (aa 3 rfl) aj) fun _=>ji (pB (aa 3 rfl) aj))) (nt h1)) (fun h=>nomatch h) (fun _=>aS)) ?_;by_cases h2:k=0
 . rw[if_pos h2]
   refine cI (aL (u:=true) (br (eD (aa 2 rfl) aj) (decide_eq_true h2)) (fun _=>?_) (fun h=>nomatch h));by_cases h3:tx x∈(rows.map (·.c)).map sg
   . rw[if_pos h3]
     exact cI (aL (u:=true) (br (L8 (xs:=(rows.map (·.c)).map sg) (aa 4 rfl) (aa 1 rfl)) (decide_eq_true h3)) (fun _=>ao (fB (fY ai))) (fun h=>nomatch h))
   . rw[if_neg h3]
     exact ah (aL (u:=false) (br (L8 (xs:=(rows.map (·.c)).map sg) (aa 4 rfl) (aa 1 rfl)) (decide_eq_false h3)) (fun h=>nomatch h) (fun _=>aS)) (ao (fB (fY (ae (b9 (ae cf (ae (aa 4 rfl) ai)) AA3) ai) AA3)))
 rw[if_neg h2];refine ah (aL (u:=false) (br (eD (aa 2 rfl) aj) (decide_eq_false h2)) (fun h=>nomatch h) (fun _=>aS)) ?_;by_cases h3:o < 0\/((sz:Nat):Int) < o
 . rw[if_pos h3]
   exact cI (aL (u:=true) (br (nB (mW (mq (aa 5 rfl) aj) fun _=>ji (pB (aa 5 rfl) (aa 0 rfl)))) (EI h3)) (fun _=>ao (fB (fY (ae (b9 (ae cf (ae (aa 5 rfl) ai)) AA3) ai) AA3))) (fun h=>nomatch h))
 rw[if_neg h3];refine ah (aL (u:=false) (br (nB (mW (mq (aa 5 rfl) aj) fun _=>ji (pB (aa 5 rfl) (aa 0 rfl)))) (nt h3)) (fun h=>nomatch h) (fun _=>aS)) ?_;by_cases h4:k=2
 . by_cases h5:p < o\/((sz:Nat):Int) < p
   . rw[if_pos ⟨h4,h5⟩]
     exact cI (aL (u:=true) (br (nB (pY (eD (aa 2 rfl) aj) fun _=>sP (nB (mW (mq (aa 6 rfl) (aa 5 rfl)) fun _=>ji (pB (aa 6 rfl) (aa 0 rfl)))))) (by rw[EI h5,decide_eq_true h4];rfl)) (fun _=>ao (fB (fY (ae (b9 (ae cf (ae (aa 6 rfl) ai)) AA3) ai) AA3))) (fun h=>nomatch h))
   . rw[if_neg fun z=>h5 z.2]
     exact ah (aL (u:=false) (br (nB (pY (eD (aa 2 rfl) aj) fun _=>sP (nB (mW (mq (aa 6 rfl) (aa 5 rfl)) fun _=>ji (pB (aa 6 rfl) (aa 0 rfl)))))) (by rw[nt h5,Bool.and_false])) (fun h=>nomatch h) (fun _=>aS)) (ao (fB (fY ai)))
 . rw[if_neg fun z=>h4 z.1]
   exact ah (aL (u:=false) (nB (pY (u:=false) (v:=false) (br (eD (aa 2 rfl) aj) (decide_eq_false h4)) fun h=>nomatch h)) (fun h=>nomatch h) (fun _=>aS)) (ao (fB (fY ai)))
noncomputable def ZY:Stmt->Stmt
 | .Try (s::_) _ _ _ _=>s
 | _=>.Pass ⟨0,0,0,0⟩
theorem WJ (T:Txt K mg t):GF P w K mg base CX 11 "_law_refused" 6 (ZX t):=by
 refine⟨_,_,_,jb T.md.F yu rfl fun bc A outer s H E G ds r hr hl hR=>?_,(T.g T.md.a),T.md.F.kp,T.md.b⟩;obtain⟨six,rows,wd,l',ls',n',l,ls,n,age,k,a,o,p,x,rfl,ok,sD,⟨hk0,ZG⟩,hx,gF,ha,rfl⟩:=hR;have nd:=yu.nd;obtain⟨sz,hsz⟩:∃ sz:Nat,sz=(zg rows wd age).length:=⟨_,rfl⟩
 rw[<- hsz];let dE:Dt:=.obj t.aw (t.sA six rows wd l' ls' n' l ls n);let D:Slot->Slot->List Slot:=fun a6 a7=>[.val dE,.val (.int k),.val (.int a),.val (.str (tx x)),.val (.int o),.val (.int p),a6,a7]
 let X:=pM CX P w K mg base qJ "_law_refused" (af j5) t.oh bc A outer s H E;let tS:Stmt:=(aG j5).getD 1 (.Pass ⟨0,0,0,0⟩);have bad:∀ dd L,OD t dd L->Ou dd false->ES X G E (D (.val .cz) .aY) tS (.nx (D (.val dd) .aY))->∃ o',Comes o' (.own (.lst L))/\mP X G E (slots qJ [dE,.int k,.int a,.str (tx x),.int o,.int p]) (aG j5) o':=fun dd L hd hn h=>
   ⟨_,.ro _,ah (aB 6 nd Lg) (ah h (ah (aL (u:=false) (Ow hn (aa 6 rfl)) (fun h=>nomatch h) (fun _=>aS)) (ao (fB (xW (OF T) aD hr (ae (aa 6 rfl) ai) ⟨_,_,rfl,hd,rfl⟩)))))⟩
 have good:ES X G E (D (.val .cz) .aY) tS (.nx (D (.val .cz) .aY))->∃ o',Comes o' (.own (.lst []))/\mP X G E (slots qJ [dE,.int k,.int a,.str (tx x),.int o,.int p]) (aG j5) o':=fun h=>
   ⟨_,.ro _,ah (aB 6 nd Lg) (ah h (cI (aL (u:=true) (Ow Ov (aa 6 rfl)) (fun _=>ao (fB (fY ai))) (fun h=>nomatch h))))⟩
 have rs:∀ C fe,((k=0/\S6 t [dE,.int a,.str (tx x)] (.exc (.ref C) fe))\/(k=1/\SY t [dE,.int a,.int o] (.exc (.ref C) fe))\/(k=2/\Oz t [dE,.int a,.int o,.int p] (.exc (.ref C) fe)))->Sd X (D (.val .cz) .aY) (ZY tS) C fe:=fun C fe h=>by
   rcases h with⟨h,QK⟩ | ⟨h,QK⟩ | ⟨h,QK⟩
   . exact yc (u:=true) (fun pn xl G1=>br (eD (aa 1 rfl) aj) (decide_eq_true h)) (fun _=>yb (Bm (fs:=t.sA six rows wd l' ls' n' l ls n) (fun pn xl G1=>aa 0 rfl) (Ft (WD T)) hr (fun pn xl G1=>ae (aa 2 rfl) (ae (aa 3 rfl) ai)) QK)) (fun h=>nomatch h)
   . exact yc (u:=false) (fun pn xl G1=>br (eD (aa 1 rfl) aj) (decide_eq_false (by omega))) (fun h=>nomatch h) (fun _=>yc (u:=true) (fun pn xl G1=>br (eD (aa 1 rfl) aj) (decide_eq_true h)) (fun _=>yb (Bm (fs:=t.sA six rows wd l' ls' n' l ls n) (fun pn xl G1=>aa 0 rfl) (Ft (WB T)) hr (fun pn xl G1=>ae (aa 2 rfl) (ae (aa 4 rfl) ai)) QK)) (fun h=>nomatch h))
   . exact yc (u:=false) (fun pn xl G1=>br (eD (aa 1 rfl) aj) (decide_eq_false (by omega))) (fun h=>nomatch h) (fun _=>yc (u:=false) (fun pn xl G1=>br (eD (aa 1 rfl) aj) (decide_eq_false (by omega))) (fun h=>nomatch h) (fun _=>yb (Bm (fs:=t.sA six rows wd l' ls' n' l ls n) (fun pn xl G1=>aa 0 rfl) (Ft (Iw T)) hr (fun pn xl G1=>ae (aa 2 rfl) (ae (aa 4 rfl) (ae (aa 5 rfl) ai))) QK)))
 have tX:∀ C fe,fe≠[]->W.mroIn K C (.ref t.aE)=some true->Sd X (D (.val .cz) .aY) (ZY tS) C fe->ES X G E (D (.val .cz) .aY) tS (.nx (D (.val (.sO C fe)) .aY)):=fun C fe sE hsu hb=>
   Qi (C:=C) (fe:=fe) (dlb:=D (.val .cz) .aY) (dl1:=D (.val (.sO C fe)) (.val (.sO C fe))) 7 rfl rfl nd T.tG T.m8 T.be hsu rfl (Le.refl _) sE hb (fun ea xe G1=>ao (aB 6 nd (aa 7 rfl)))
 have pK:k=0\/k=1\/k=2:=by omega
 unfold WE;by_cases h1:a < 0\/200 < a
 . rw[if_pos h1]
   refine bad _ _ .rd Rv (Ms (C:=t.aC) (fe:=[]) (dlb:=D (.val .cz) .aY) (dl1:=D (.val (.xo t.aC)) (.val (.xo t.aC))) 7 rfl rfl nd T.tG T.m8 T.be T.JG rfl (Le.refl _) (rs t.aC [] ?_) (fun ea xe G1=>ao (aB 6 nd (aa 7 rfl))));rcases pK with h | h | h
   . exact .inl ⟨h,six,rows,wd,l',ls',n',l,ls,n,a,x,_,_,rfl,ok,sD,.rd h1,rfl⟩
   . exact .inr (.inl ⟨h,six,rows,wd,l',ls',n',l,ls,n,a,o,_,_,rfl,ok,.rd h1,rfl⟩)
   . exact .inr (.inr ⟨h,six,rows,wd,l',ls',n',l,ls,n,a,o,p,_,_,rfl,ok,.rd h1,rfl⟩)
 rw[if_neg h1];have ea:a=((age:Nat):Int):=by omega
 rcases pK with h | h | h
 . rw[if_pos h]
   rcases ZW hx with⟨h3,c,hc,rfl⟩ | ⟨h3,oC⟩
   . rw[if_pos h3]
     refine good (x6 fun pn xe=>ao (aL (u:=true) (br (eD (aa 1 rfl) aj) (decide_eq_true h)) (fun _=>ao (jl (bB (fs:=t.sA six rows wd l' ls' n' l ls n) (aa 0 rfl) (Kj T) aD hr (ae (bI (aa 2 rfl) (congrArg Dt.int ea)) (ae (aa 3 rfl) ai)) ⟨six,rows,wd,l',ls',n',l,ls,n,age,c,rfl,ok,sD,gF,hc,rfl⟩))) (fun h=>nomatch h)))
   . rw[if_neg h3]
     exact bad _ _ (.lt x oC.as) t5 (tX _ _ (by simp) T.FY (rs _ _ (.inl ⟨h,six,rows,wd,l',ls',n',l,ls,n,a,x,_,_,rfl,ok,sD,.lt (by omega) oC,rfl⟩)))
 . rw[if_neg (by omega)]
   by_cases h3:o < 0\/((sz:Nat):Int) < o
   . rw[if_pos h3]
     exact bad _ _ (.pl o) t5 (tX _ _ (by simp) T.uX (rs _ _ (.inr (.inl ⟨h,six,rows,wd,l',ls',n',l,ls,n,a,o,_,_,rfl,ok,.p2 age ea gF ⟨by omega,by omega⟩ (by rw[<- hsz];exact h3),rfl⟩))))
   . rw[if_neg h3,if_neg (by omega)]
     obtain⟨o',ho⟩:∃ o':Nat,o=((o':Nat):Int):=⟨o.toNat,by omega⟩
     refine good (x6 fun pn xe=>ao (aL (u:=false) (br (eD (aa 1 rfl) aj) (decide_eq_false (by omega))) (fun h=>nomatch h) (fun _=>ao (aL (u:=true) (br (eD (aa 1 rfl) aj) (decide_eq_true h)) (fun _=>ao (jl (bB (fs:=t.sA six rows wd l' ls' n' l ls n) (aa 0 rfl) (Ot T) aD hr (ae (bI (aa 2 rfl) (congrArg Dt.int ea)) (ae (bI (aa 4 rfl) (congrArg Dt.int ho)) ai)) ⟨six,rows,wd,l',ls',n',l,ls,n,age,o',rfl,ok,gF,by omega,rfl⟩))) (fun h=>nomatch h)))))
 . rw[if_neg (by omega)]
   by_cases h3:o < 0\/((sz:Nat):Int) < o
   . rw[if_pos h3]
     exact bad _ _ (.pl o) t5 (tX _ _ (by simp) T.uX (rs _ _ (.inr (.inr ⟨h,six,rows,wd,l',ls',n',l,ls,n,a,o,p,_,_,rfl,ok,.p1 age ea gF (by rw[<- hsz];exact h3),rfl⟩))))
   . rw[if_neg h3]
     by_cases h4:p < o\/((sz:Nat):Int) < p
     . rw[if_pos ⟨h,h4⟩]
       exact bad _ _ (.pl p) t5 (tX _ _ (by simp) T.uX (rs _ _ (.inr (.inr ⟨h,six,rows,wd,l',ls',n',l,ls,n,a,o,p,_,_,rfl,ok,.p2 age ea gF ⟨by omega,by omega⟩ (by rw[<- hsz];exact h4),rfl⟩))))
     . rw[if_neg fun z=>h4 z.2]
       obtain⟨o',ho⟩:∃ o':Nat,o=((o':Nat):Int):=⟨o.toNat,by omega⟩
       obtain⟨p',hp⟩:∃ p':Nat,p=((p':Nat):Int):=⟨p.toNat,by omega⟩
       refine good (x6 fun pn xe=>ao (aL (u:=false) (br (eD (aa 1 rfl) aj) (decide_eq_false (by omega))) (fun h=>nomatch h) (fun _=>ao (aL (u:=false) (br (eD (aa 1 rfl) aj) (decide_eq_false (by omega))) (fun h=>nomatch h) (fun _=>ao (jl (bB (fs:=t.sA six rows wd l' ls' n' l ls n) (aa 0 rfl) (sC T) aD hr (ae (bI (aa 2 rfl) (congrArg Dt.int ea)) (ae (bI (aa 4 rfl) (congrArg Dt.int ho)) (ae (bI (aa 5 rfl) (congrArg Dt.int hp)) ai))) ⟨six,rows,wd,l',ls',n',l,ls,n,age,o',p',rfl,ok,gF,⟨by omega,by omega⟩,rfl⟩)))))))
noncomputable def adE:Stmt->Scope
 | .Assign _ (.Call _ (_::.ListComp _ _ sc _::_) _ _) _=>sc
 | _=>default
noncomputable abbrev Z1:Scope:=adE ((aG DF).getD 13 (.Pass ⟨0,0,0,0⟩))
theorem Ta:kM Z1 (af DF) Sx ["_law_row"] ["_law_row"] []=true:=by decide +kernel
theorem adF:("A":Str)=tx [65]:=by decide +kernel
theorem WK:("":Str)=tx []:=by decide +kernel
theorem vg {i:Int}{k:Int}(h:0 < k):∃ n:Nat,i % k=((n:Nat):Int)/\((n:Nat):Int) < k:=by
 have a:=aaC i (abW h);have b:=aaH i h;generalize i % k=y at a b ⊢;exact⟨y.toNat,by omega,by omega⟩
theorem zk (zs:List Int){i:Nat}(h:i < zs.length):∃ z,pA (zs.map Dt.int) ((i:Nat):Int)=some (.int z)/\z∈zs:=by
 refine⟨zs[i],lE ?_,aaN h⟩;rw[aaf,aab h];rfl
theorem RA {rows:List Row}(ok:dg rows){c:Nat}(hc:c∈rows.map (·.c)):vA rows [65]/\vA rows []/\vA rows ([c] ++ [c]):=by
 have sm:∀ x∈rows.map (·.c),97<=x/\x < 123:=fun x hx=>by
   obtain⟨r,hr,rfl⟩:=aaK.mp hx;have:=ok.sm r hr;unfold small at this;omega
 have:=sm c hc;refine⟨⟨fun x hx e=>?_,fun x hx=>?_,by decide⟩,⟨fun x hx e=>by simp at e,fun x hx=>(by simp at hx),aaF rfl⟩,⟨fun x hx e=>?_,fun x hx=>?_,aaF rfl⟩⟩
 . have h:=sm x hx
   have:65=x:=(List.cons.inj e).1;omega
 . have:=ab9.mp hx;omega
 . have:=congrArg abI e;simp at this
 . have:x=c:=by simpa using hx
   omega
theorem WL (T:Txt K mg t):jh P w K mg base CX 12 t.tw t.yv ["_law_script"] (NQ K):=by
 refine jb T.DP.F MW rfl fun bc A outer s H E G ds r hr hl hR=>?_
 obtain⟨ns,hlen,rfl,rfl⟩:=hR;have nd:=MW.nd;let six:=Ip ns;let rows:=zd ns;let wd:=xm ns;have WN:oo rows wd:=Zy ns;have ok:dg rows:=WN.ok;have hb:=Rg ns (far:=12) (by decide) (by decide);obtain⟨age,gF,P8⟩:∃ age:Nat,(if (12:Int) < qr ns 12 then (12:Int) else qr ns 12)=((age:Nat):Int)/\age<=200:=by
   split
   . exact⟨12,rfl,by decide⟩
   . exact⟨(qr ns 12).toNat,by omega,by omega⟩
 obtain⟨W,hW⟩:∃ W:List Nat,W=zg rows wd age:=⟨_,rfl⟩
 obtain⟨sz,hsz⟩:∃ sz:Nat,sz=W.length:=⟨_,rfl⟩
 have esz:((sz:Nat):Int)=lnT rows wd age:=by rw[hsz,hW];exact Cj WN age
 obtain⟨x0,hx0⟩:∃ x0,x0=b8 six (GP rows (cut W 0 sz)):=⟨_,rfl⟩
 have wf:WF six x0:=by
   rw[hx0];refine xk six ?_;have h1:=SS WN P8;have h2:(GP rows (cut W 0 sz)).length<=(zg rows wd age).length:=by unfold GP cut;rw[<- hW];simp;omega
   omega
 obtain⟨q0,hq0,OK⟩:∃ q0:Row,pA (rows.map qo) 0=some (qo q0)/\q0∈rows:=by
   refine⟨rows[0]'ok.pos,lE (show(rows.map qo)[0]?=_ from ?_),aaN _⟩;rw[aaf,aab ok.pos];rfl
 obtain⟨q1,Ku,hm1⟩:∃ q1:Row,pA (rows.map qo) (-1)=some (qo q1)/\q1∈rows:=by
   have sE:rows≠[]:=List.length_pos_iff.mp ok.pos;refine⟨rows.getLast sE,?_,List.getLast_mem sE⟩
   conv=>lhs;rw[<- abf sE]
   rw[abO];exact K3 _ _
 have mc:∀ {q:Row},q∈rows->q.c∈rows.map (·.c):=fun {q} h=>aaK.mpr ⟨q,h,rfl⟩
 obtain⟨nl1,nl2,nl3⟩:=RA ok (mc OK);obtain⟨fr,Qa,ah2⟩:∃ fr:Int,b7 ns 10 % 10 ^ 40=fr/\0<=fr:=⟨_,rfl,aaC _ (by decide)⟩
 obtain⟨i9,e9,h9⟩:=vg (i:=b7 ns 9) (k:=7) (by decide);obtain⟨wh,hwh,hwm⟩:=zk [(age:Int),(age:Int),(age:Int),-1 - fr,201+fr,-1,201] (i:=i9) (by simp;omega);have hwc:wh < 0\/200 < wh\/wh=((age:Nat):Int):=by
   simp at hwm;omega
 obtain⟨i5,e5,h5⟩:=vg (i:=b7 ns 9 / 7) (k:=5) (by decide);obtain⟨x,hx,hxo⟩:∃ x:List Nat,pA [Dt.str (tx [q0.c]),Dt.str (tx [q1.c]),Dt.str (tx [65]),Dt.str (tx []),Dt.str (tx ([q0.c] ++ [q0.c]))] ((i5:Nat):Int)=some (.str (tx x))/\WH rows x:=by
   have h:i5=0\/i5=1\/i5=2\/i5=3\/i5=4:=by omega
   rcases h with rfl | rfl | rfl | rfl | rfl
   . exact⟨_,rfl,.inl ⟨_,mc OK,rfl⟩⟩
   . exact⟨_,rfl,.inl ⟨_,mc hm1,rfl⟩⟩
   . exact⟨_,rfl,.inr nl1⟩
   . exact⟨_,rfl,.inr nl2⟩
   . exact⟨_,rfl,.inr nl3⟩
 have hxa:∀ c∈x,c < 128:=by
   rcases hxo with⟨c,hc,rfl⟩ | h
   . obtain⟨r,QK,rfl⟩:=aaK.mp hc
     have:=ok.sm r QK;unfold small at this;exact fun y hy=>by have:=ab9.mp hy;omega
   . exact h.as
 obtain⟨f1,ef1,_⟩:=vg (i:=fr) (k:=((sz:Nat):Int)+1) (by omega);let PL:List Int:=[(f1:Int),-1 - fr,(sz:Int),(sz:Int)+1,(sz:Int)+1+fr,0]
 obtain⟨i6,e6,h6⟩:=vg (i:=b7 ns 11) (k:=6) (by decide);obtain⟨o,ho,_⟩:=zk PL (i:=i6) (show i6 < 6 by omega);obtain⟨i7,e7,h7⟩:=vg (i:=b7 ns 11 / 6) (k:=7) (by decide);obtain⟨p,hp,_⟩:=zk (PL ++ [o - 1]) (i:=i7) (show i7 < 7 by omega);obtain⟨kk,ekk,rB⟩:=vg (i:=b7 ns 12) (k:=3) (by decide);obtain⟨L,hL⟩:∃ L,L=WE rows sz (kk:Int) wh x o p:=⟨_,rfl⟩
 have okL:EM (.lst L):=by rw[hL];exact WG _ _ _ _ hxa _ _
 have eqL:PyData.eqv (pd (.lst L)) (pd (.lst L))=true:=eqv_refl _ okL.1;let nD:Nat->Dt:=fun a=>.int ((a:Nat):Int)
 refine⟨_,.rt _,?_⟩;refine ah (Qv 1 2 3 4 nd rfl (cS (NX T) aD hr (ae (aa 0 rfl) (ae aj ai)) ⟨ns,12,rfl,⟨by decide,by decide⟩,rfl⟩)) ?_;refine ah (aB 4 nd (d:=nD age) (bI (LI T.HS rfl (ae (aa 4 rfl) (ae aj ai))) (congrArg Dt.int gF))) ?_;refine ah (aB 5 nd (d:=t.adk six rows wd 1) (PF (Dd (NL T) aD hr (ae (Yf (wF (Ni T) aD hr (ae (aa 1 rfl) (ae (kL (PH T.BV (aa 2 rfl))) ai)) ⟨six,rows,rfl,ok,rfl⟩)) (ae (aa 3 rfl) ai)) ⟨six,rows,wd,rfl,WN,rfl⟩))) ?_;refine DA 5 fun l' ls' mZ=>?_
 refine ah (aB 6 nd (d:=.xH t.aw (t.zX six rows wd l' ls' 1) [t.rj six rows] ["tracks"] 1) (PF (Dd (Om T) aD hr (ae (aa 5 rfl) ai) ⟨six,rows,wd,l',ls',1,rfl,WN,rfl⟩))) ?_;refine DA 6 fun l ls hts=>?_
 have dok:Cn t six rows wd ls' ls:=⟨WN,mZ,hts⟩
 let gE:Dt:=wj t six rows wd l' ls' 1;let dE:Dt:=.obj t.aw (t.sA six rows wd l' ls' 1 l ls 1);let D:Slot->Slot->Slot->Slot->Slot->Slot->Slot->Slot->Slot->Slot->Slot->List Slot:=fun a7 a8 a9 a10 a11 a12 a13 a14 a15 a16 a17=>[.val (.rq ns),.val (.int (wy six)),.val (.lst (rows.map qo)),.val (.str (tx wd)),.val (nD age),.val gE,.val dE,a7,a8,a9,a10,a11,a12,a13,a14,a15,a16,a17]
 have stR:AI t [dE,nD age,.int 0,nD sz] (.ret (t.rL six x0)):=by
   rw[hx0,hW];exact⟨six,rows,wd,l',ls',1,l,ls,1,age,0,sz,rfl,dok,P8,⟨abh _,by rw[hsz,hW];exact aai _⟩,rfl⟩
 show mP _ _ _ (D .aY .aY .aY .aY .aY .aY .aY .aY .aY .aY .aY) _ _;refine ah (dl1:=D (.val (nD sz)) .aY .aY .aY .aY .aY .aY .aY .aY .aY .aY) (aB 7 nd (bB (fs:=t.fS six rows wd l' ls' 1) (aa 5 rfl) (Ce T) aD hr (ae (aa 4 rfl) ai) ⟨six,rows,wd,l',ls',1,age,rfl,WN,mZ,P8,by show Res.ret (.int ((sz:Nat):Int))=_;rw[esz]⟩)) ?_;refine ah (dl1:=D (.val (nD sz)) (.val (mO x0)) .aY .aY .aY .aY .aY .aY .aY .aY .aY) (aB 8 nd (cD (fs:=t.kX six x0) (qp (bB (fs:=t.sA six rows wd l' ls' 1 l ls 1) (aa 6 rfl) (sC T) aD hr (ae (aa 4 rfl) (ae aj (ae (aa 7 rfl) ai))) stR)) (Rt T) aD hr ⟨six,x0,rfl,wf,wf.rl,rfl⟩)) ?_;refine ah (dl1:=D (.val (nD sz)) (.val (mO x0)) (.val (.int fr)) .aY .aY .aY .aY .aY .aY .aY .aY) (aB 9 nd (bI (dR (cS (Ep T) aD hr (ae (aa 0 rfl) (ae aj ai)) ⟨ns,10,rfl,by decide,rfl⟩) (Li aj aj ⟨by decide,by decide,by decide⟩) (by decide)) (congrArg Dt.int Qa))) ?_;refine ah (dl1:=D (.val (nD sz)) (.val (mO x0)) (.val (.int fr)) (.val (.int wh)) .aY .aY .aY .aY .aY .aY .aY) (aB 10 nd (rR (kL (fY (ae (aa 4 rfl) (ae (aa 4 rfl) (ae (aa 4 rfl) (ae (mn (jU aj) (aa 9 rfl)) (ae (bU aj (aa 9 rfl)) (ae (jU aj) (ae aj ai))))))) AA3)) (bI (dR (cS (Ep T) aD hr (ae (aa 0 rfl) (ae aj ai)) ⟨ns,9,rfl,by decide,rfl⟩) aj (by decide)) (congrArg Dt.int e9)) hwh)) ?_;refine ah (dl1:=D (.val (nD sz)) (.val (mO x0)) (.val (.int fr)) (.val (.int wh)) (.val (.str (tx x))) .aY .aY .aY .aY .aY .aY) (aB 11 nd (aZ (b9 (ae (aZ (d:=.str (tx [q0.c])) (ds:=[.str (sg q0.c),.str q0.d,.str (tx q0.w)]) (rR (aa 2 rfl) aj hq0) aj rfl) (ae (aZ (d:=.str (tx [q1.c])) (ds:=[.str (sg q1.c),.str q1.d,.str (tx q1.w)]) (rR (aa 2 rfl) (jU aj) Ku) aj rfl) (ae (bI cf (congrArg Dt.str adF)) (ae (bI cf (congrArg Dt.str WK)) (ae (xa (aZ (d:=.str (tx [q0.c])) (ds:=[.str (sg q0.c),.str q0.d,.str (tx q0.w)]) (rR (aa 2 rfl) aj hq0) aj rfl) (aZ (d:=.str (tx [q0.c])) (ds:=[.str (sg q0.c),.str q0.d,.str (tx q0.w)]) (rR (aa 2 rfl) aj hq0) aj rfl) AA3) ai))))) AA3) (bI (dR (gB (cS (Ep T) aD hr (ae (aa 0 rfl) (ae aj ai)) ⟨ns,9,rfl,by decide,rfl⟩) aj ⟨by decide,by decide +kernel⟩) aj (by decide)) (congrArg Dt.int e5)) hx)) ?_;refine ah (dl1:=D (.val (nD sz)) (.val (mO x0)) (.val (.int fr)) (.val (.int wh)) (.val (.str (tx x))) (.val (.lst (PL.map .int))) .aY .aY .aY .aY .aY) (aB 12 nd (kL (fY (ae (bI (dR (aa 9 rfl) (bU (aa 7 rfl) aj) (by omega)) (congrArg Dt.int ef1)) (ae (mn (jU aj) (aa 9 rfl)) (ae (aa 7 rfl) (ae (bU (aa 7 rfl) aj) (ae (bU (bU (aa 7 rfl) aj) (aa 9 rfl)) (ae aj ai)))))) AA3))) ?_;refine ah (dl1:=D (.val (nD sz)) (.val (mO x0)) (.val (.int fr)) (.val (.int wh)) (.val (.str (tx x))) (.val (.lst (PL.map .int))) (.val (.int o)) .aY .aY .aY .aY) (aB 13 nd (rR (aa 12 rfl) (bI (dR (cS (Ep T) aD hr (ae (aa 0 rfl) (ae aj ai)) ⟨ns,11,rfl,by decide,rfl⟩) aj (by decide)) (congrArg Dt.int e6)) ho)) ?_;refine ah (dl1:=D (.val (nD sz)) (.val (mO x0)) (.val (.int fr)) (.val (.int wh)) (.val (.str (tx x))) (.val (.lst (PL.map .int))) (.val (.int o)) (.val (.int p)) .aY .aY .aY) (aB 14 nd (rR (ds:=(PL ++ [o - 1]).map .int) (kL (UC (ds:=PL.map .int) (ds':=[.int (o - 1)]) (aa 12 rfl) (kL (fY (ae (mn (aa 13 rfl) aj) ai) AA3)) AA3)) (bI (dR (gB (cS (Ep T) aD hr (ae (aa 0 rfl) (ae aj ai)) ⟨ns,11,rfl,by decide,rfl⟩) aj ⟨by decide,by decide +kernel⟩) aj (by decide)) (congrArg Dt.int e7)) hp)) ?_;refine ah (dl1:=D (.val (nD sz)) (.val (mO x0)) (.val (.int fr)) (.val (.int wh)) (.val (.str (tx x))) (.val (.lst (PL.map .int))) (.val (.int o)) (.val (.int p)) (.val (nD kk)) .aY .aY) (aB 15 nd (bI (dR (cS (Ep T) aD hr (ae (aa 0 rfl) (ae aj ai)) ⟨ns,12,rfl,by decide,rfl⟩) aj (by decide)) (congrArg Dt.int ekk))) ?_;have e2:((rows.filter fun _=>true).map fun r=>Dt.str (sg r.c))=((rows.map (·.c)).map sg).map Dt.str:=by
   rw[aaG.mpr (fun _ _=>rfl),aar,aar];rfl
 have h6r:=ok.le;let S:Nat->List Slot:=fun _=>D (.val (nD sz)) (.val (mO x0)) .aY (.val (.int wh)) (.val (.str (tx x))) .aY (.val (.int o)) (.val (.int p)) (.val (nD kk)) (.val (.lst L)) .aY
 refine ah (dl1:=D (.val (nD sz)) (.val (mO x0)) (.val (.int fr)) (.val (.int wh)) (.val (.str (tx x))) (.val (.lst (PL.map .int))) (.val (.int o)) (.val (.int p)) (.val (nD kk)) (.val (.lst L)) .aY) (aB 16 nd (kL (xW (Ry T) aD hr (ae (aa 7 rfl) (ae (jM e2 (jW rows qo (fun r=>Dt.str (sg r.c)) (fun r=>[.val (qo r)]) (fun _=>true) rfl (dQ Ta) (mV (aa 2 rfl)) (d9 (dQ Ta) rfl) nT (fun a _=>fC) (.nil fun _ _=>rfl) (fun a ha _ C fp s' H' G'=>aZ (ds:=[.str (sg a.c),.str a.d,.str (tx a.w)]) (aa 0 rfl) aj rfl) (t7 (by omega)))) (ae (aa 15 rfl) (ae (aa 10 rfl) (ae (aa 11 rfl) (ae (aa 13 rfl) (ae (aa 14 rfl) ai))))))) ⟨rows,sz,(kk:Int),wh,o,p,x,rfl,by rw[hL]⟩))) ?_;refine ah (dl1:=S 2) (l9 (o:=.nx (S 2)) (m:=2) 17 S nd rfl PassesOwn.leaving T.kF (ae aj ai) ⟨by decide,by decide⟩ (Le.of ⟨rfl,rfl,rfl,rfl,rfl,rfl,rfl,rfl,rfl,rfl,rfl,rfl,rfl,rfl,rfl,trivial⟩) (by decide) (fun k hk=>?_) (.all rfl)) (ao (aN (X4 (d1:=mO x0) (d2:=mO x0) hr.units (cD (fs:=t.kX six x0) (qp (bB (fs:=t.sA six rows wd l' ls' 1 l ls 1) (aa 6 rfl) (sC T) aD hr (ae (aa 4 rfl) (ae aj (ae (aa 7 rfl) ai))) stR)) (Rt T) aD hr ⟨six,x0,rfl,wf,wf.rl,rfl⟩) (aa 8 rfl) (zi _) (zi _) (eqv_refl _ (zi _).1))));exact .nx (ao (aL (u:=false) (X5 (d1:=.lst L) (d2:=.lst L) hr.units (kL (xW (WJ T) aD hr (ae (aa 6 rfl) (ae (aa 15 rfl) (ae (aa 10 rfl) (ae (aa 11 rfl) (ae (aa 13 rfl) (ae (aa 14 rfl) ai)))))) ⟨six,rows,wd,l',ls',1,l,ls,1,age,(kk:Int),wh,o,p,x,rfl,dok,⟨by decide,by decide⟩,⟨by omega,by omega⟩,hxo,P8,hwc,by rw[hL,hsz,hW]⟩)) (aa 16 rfl) okL okL (by rw[eqL];rfl)) (fun h=>nomatch h) (fun h=>aS))) (Le.of ⟨rfl,rfl,rfl,rfl,rfl,rfl,rfl,rfl,rfl,rfl,rfl,rfl,rfl,rfl,rfl,trivial⟩)
end Pf
end
theorem ww {p:List PySem.Value->Prop}(h:p []):∀ us:List PySem.Value,us.length=0->p us
 | [],_=>h
theorem Zg {p:List PySem.Value->Prop}{n:Nat}(h:∀ a us,us.length=n->p (a::us)):∀ us:List PySem.Value,us.length=n+1->p us
 | a::us,e=>h a us (Nat.succ.inj e)
namespace PySem.W.Fast
theorem tw8306212618242369801:True:=⟨⟩
theorem tw13170502370953008469:True:=⟨⟩
theorem tw7931463646993419248:True:=⟨⟩
theorem tw13016369739586111873:True:=⟨⟩
theorem tw3451240296261169662:True:=⟨⟩
theorem tw2798994765988718038:True:=⟨⟩
theorem tw861757290866966698:True:=⟨⟩
theorem tw6441781484465127067:True:=⟨⟩
theorem tw5301506742398908945:True:=⟨⟩
theorem tw10699347215465208713:True:=⟨⟩
theorem tw592119825314102008:True:=⟨⟩
theorem tw2826753080969023860:True:=⟨⟩
theorem tw13139779320281719097:True:=⟨⟩
theorem tw7050340676816729626:True:=⟨⟩
theorem tw14064405236957224618:True:=⟨⟩
theorem tw12867468910484588115:True:=⟨⟩
theorem tw13596259732284285353:True:=⟨⟩
theorem tw17411557604548255293:True:=⟨⟩
theorem tw12494395660722598318:True:=⟨⟩
theorem tw17507628929340934898:True:=⟨⟩
theorem tw2440411198824318367:True:=⟨⟩
theorem tw10987472094171963081:True:=⟨⟩
theorem tw15680477275036484336:True:=⟨⟩
theorem tw7278222539813903331:True:=⟨⟩
theorem tw6306327460335305746:True:=⟨⟩
theorem tw18307537899496144385:True:=⟨⟩
theorem tw11503587529126476785:True:=⟨⟩
theorem tw9279846540309185274:True:=⟨⟩
theorem tw7720559284917477520:True:=⟨⟩
theorem tw9859220441327841902:True:=⟨⟩
theorem tw2190663162133648636:True:=⟨⟩
theorem tw7095412178216399697:True:=⟨⟩
theorem tw9714618051531004300:True:=⟨⟩
theorem tw1166198173167665138:True:=⟨⟩
theorem tw16161786101400370381:True:=⟨⟩
theorem tw4982635006843691850:True:=⟨⟩
theorem tw8287778436037593362:True:=⟨⟩
theorem tw16977965175622393955:True:=⟨⟩
theorem tw11355615153806178135:True:=⟨⟩
theorem tw17645812212471382873:True:=⟨⟩
theorem tw8247549000208949072:True:=⟨⟩
theorem tw1679657758346295485:True:=⟨⟩
theorem tw7804159439404598152:True:=⟨⟩
theorem tw14964723304659632131:True:=⟨⟩
theorem tw18406685255552141926:True:=⟨⟩
theorem tw7490866546699841245:True:=⟨⟩
theorem tw7574417590701430297:True:=⟨⟩
theorem tw1346083614474444500:True:=⟨⟩
theorem tw7143116008880226587:True:=⟨⟩
theorem tw6518833159190269056:True:=⟨⟩
theorem tw16103946245493004460:True:=⟨⟩
theorem tw10447961995591745862:True:=⟨⟩
theorem tw10345229046414963332:True:=⟨⟩
theorem tw12640279661423051255:True:=⟨⟩
theorem tw9923225260168545984:True:=⟨⟩
theorem tw13434567539213612426:True:=⟨⟩
theorem tw7059429147344147012:True:=⟨⟩
theorem tw3042402439356658691:True:=⟨⟩
theorem tw7115910928266522276:True:=⟨⟩
theorem tw17717203000769838537:True:=⟨⟩
theorem tw2636261223831985824:True:=⟨⟩
theorem tw13711816146613010597:True:=⟨⟩
theorem tw9617672422450735054:True:=⟨⟩
theorem tw6126073903746747458:True:=⟨⟩
theorem tw14107580468095612084:True:=⟨⟩
theorem tw6154488941915867657:True:=⟨⟩
theorem tw1295536663744361134:True:=⟨⟩
theorem tw16783072415532099090:True:=⟨⟩
theorem tw10199283710458532320:True:=⟨⟩
theorem tw2632526502681063317:True:=⟨⟩
theorem tw6812242038791619284:True:=⟨⟩
theorem tw792185194968372685:True:=⟨⟩
theorem tw10206570132917669374:True:=⟨⟩
theorem tw9836023265496190347:True:=⟨⟩
theorem tw15176702760823675536:True:=⟨⟩
theorem tw14921563449076609975:True:=⟨⟩
theorem tw3528420541723939586:True:=⟨⟩
theorem tw1461408711966189366:True:=⟨⟩
theorem tw4607728130596625826:True:=⟨⟩
theorem tw15790868906011617062:True:=⟨⟩
theorem tw9654519774857953461:True:=⟨⟩
theorem tw5282196662618706966:True:=⟨⟩
theorem tw10985829473920528444:True:=⟨⟩
theorem tw12857461774884557337:True:=⟨⟩
theorem tw18002569932624565928:True:=⟨⟩
theorem tw12164497775933529097:True:=⟨⟩
theorem tw17486286228718155206:True:=⟨⟩
theorem tw8584576397836059156:True:=⟨⟩
theorem tw3182523391347866174:True:=⟨⟩
theorem tw6579669676814500507:True:=⟨⟩
theorem tw6529607459078933593:True:=⟨⟩
theorem tw12273554474886856416:True:=⟨⟩
theorem tw2174771595157563087:True:=⟨⟩
theorem tw10231541641626061920:True:=⟨⟩
theorem tw8394315760321877597:True:=⟨⟩
theorem tw5532326782751648286:True:=⟨⟩
theorem tw14761205388445788353:True:=⟨⟩
theorem tw3130841796308710800:True:=⟨⟩
theorem tw3674478255952782677:True:=⟨⟩
theorem tw13556088950490841350:True:=⟨⟩
theorem tw14455877974683602513:True:=⟨⟩
theorem tw15877776141363692456:True:=⟨⟩
theorem tw14070065209791870533:True:=⟨⟩
theorem tw11153209264403373441:True:=⟨⟩
theorem tw9265712273495083574:True:=⟨⟩
theorem tw13757317729954947436:True:=⟨⟩
theorem tw4005944047352760372:True:=⟨⟩
theorem tw8494451256328398412:True:=⟨⟩
theorem tw16914973274001407462:True:=⟨⟩
theorem tw13986908150067411407:True:=⟨⟩
theorem tw5122440179301935626:True:=⟨⟩
theorem tw12682606308354215848:True:=⟨⟩
theorem tw5027418602571674506:True:=⟨⟩
theorem tw14302049822306877619:True:=⟨⟩
theorem tw6223467115272753446:True:=⟨⟩
theorem tw8749255968887309037:True:=⟨⟩
theorem tw7627164722042370601:True:=⟨⟩
theorem tw14785267197862647496:True:=⟨⟩
theorem tw3613007850324569705:True:=⟨⟩
theorem tw11072325534507011243:True:=⟨⟩
theorem tw9454213728489216504:True:=⟨⟩
theorem tw7690681092275827181:True:=⟨⟩
theorem tw11244147486366678143:True:=⟨⟩
theorem tw10439880523799068734:True:=⟨⟩
theorem tw14799221118059456006:True:=⟨⟩
theorem tw8020696088744856668:True:=⟨⟩
theorem tw4107367919580287273:True:=⟨⟩
theorem tw1329280120093774467:True:=⟨⟩
theorem tw6547591927034924755:True:=⟨⟩
theorem tw4825602874557733093:True:=⟨⟩
theorem tw10935324195424219318:True:=⟨⟩
theorem tw9797404909425555912:True:=⟨⟩
theorem tw5336349286315545193:True:=⟨⟩
theorem tw2428195712179529187:True:=⟨⟩
theorem tw9276268100444853730:True:=⟨⟩
theorem tw17488258570149895834:True:=⟨⟩
theorem tw10845594397976939058:True:=⟨⟩
theorem tw16453922683922389384:True:=⟨⟩
theorem tw15351125517036045358:True:=⟨⟩
theorem tw4622445188654615208:True:=⟨⟩
theorem tw2145978332234278909:True:=⟨⟩
theorem tw7370149025023202445:True:=⟨⟩
theorem tw8477649521651877023:True:=⟨⟩
theorem tw12212858143980328928:True:=⟨⟩
theorem tw5269143805649854257:True:=⟨⟩
theorem tw1335564371441815278:True:=⟨⟩
theorem tw2381569460105829323:True:=⟨⟩
theorem tw17529016322177765008:True:=⟨⟩
theorem tw6034562999049065341:True:=⟨⟩
theorem tw672938960978768283:True:=⟨⟩
theorem tw17175356026669502568:True:=⟨⟩
theorem tw2882437233940435412:True:=⟨⟩
theorem tw9340060383419158239:True:=⟨⟩
theorem tw3270669940453833020:True:=⟨⟩
theorem tw10011202811088393350:True:=⟨⟩
theorem tw6419365762458514070:True:=⟨⟩
theorem tw6606881119411067274:True:=⟨⟩
theorem tw1552067993948707159:True:=⟨⟩
theorem tw9654607526740399624:True:=⟨⟩
theorem tw1927045023451818574:True:=⟨⟩
theorem tw7185657500315716920:True:=⟨⟩
theorem tw13201676080164043087:True:=⟨⟩
theorem tw11481226429922464160:True:=⟨⟩
theorem tw16631498891951723772:True:=⟨⟩
theorem tw10961980370602760113:True:=⟨⟩
theorem tw5823024832476876423:True:=⟨⟩
theorem tw10632268697880918950:True:=⟨⟩
theorem tw11268388217403183238:True:=⟨⟩
theorem tw1800465099571811777:True:=⟨⟩
theorem tw335755875127653007:True:=⟨⟩
theorem tw7068389552345126849:True:=⟨⟩
theorem tw10695610618443857695:True:=⟨⟩
theorem tw1528466237171210128:True:=⟨⟩
theorem tw2159698717694831005:True:=⟨⟩
theorem tw3517729477162467158:True:=⟨⟩
theorem tw2467400004165545658:True:=⟨⟩
theorem tw4574337976633355993:True:=⟨⟩
theorem tw4511865818728931234:True:=⟨⟩
theorem tw5577829862221964159:True:=⟨⟩
theorem tw11016205477888841073:True:=⟨⟩
theorem tw11136103314297367560:True:=⟨⟩
theorem tw16005630699651285431:True:=⟨⟩
theorem tw15319411542819821078:True:=⟨⟩
theorem tw14069159773700993411:True:=⟨⟩
theorem tw10260141764818224793:True:=⟨⟩
theorem tw2118415715653011154:True:=⟨⟩
theorem tw5558068029839666940:True:=⟨⟩
theorem tw17034009347540564124:True:=⟨⟩
theorem tw1096651876432648269:True:=⟨⟩
theorem tw16070969602066186081:True:=⟨⟩
theorem tw13119509775859728862:True:=⟨⟩
theorem tw13888913569524946557:True:=⟨⟩
theorem tw10582893325713909094:True:=⟨⟩
theorem tw11427929071626727796:True:=⟨⟩
theorem tw4434695224012714212:True:=⟨⟩
theorem tw1554760748279268866:True:=⟨⟩
theorem tw6182162484587100220:True:=⟨⟩
theorem tw12431105915151786601:True:=⟨⟩
theorem tw8307499025955883927:True:=⟨⟩
theorem tw6735420927195913705:True:=⟨⟩
theorem tw11124107090998034659:True:=⟨⟩
theorem tw11831093278898836163:True:=⟨⟩
theorem tw9587039831905730773:True:=⟨⟩
theorem tw9298180173386149349:True:=⟨⟩
theorem tw18068180935805378585:True:=⟨⟩
theorem tw10625425395652840139:True:=⟨⟩
theorem tw1596464127698309577:True:=⟨⟩
theorem tw5847210016317342980:True:=⟨⟩
theorem tw13978724778583788863:True:=⟨⟩
theorem tw18016204563649832315:True:=⟨⟩
theorem tw6897479450947769659:True:=⟨⟩
theorem tw12178451709180040044:True:=⟨⟩
theorem tw105514308660786583:True:=⟨⟩
theorem tw3419596337240629696:True:=⟨⟩
theorem tw17617340606074190359:True:=⟨⟩
theorem tw1253344186614283837:True:=⟨⟩
theorem tw14433866841961274187:True:=⟨⟩
theorem tw5030110881793240210:True:=⟨⟩
theorem tw11321690614673665647:True:=⟨⟩
theorem tw17778032242719267465:True:=⟨⟩
theorem tw323156626495309308:True:=⟨⟩
theorem tw67599297423836173:True:=⟨⟩
theorem tw3547716704473167922:True:=⟨⟩
theorem tw3837137242103343720:True:=⟨⟩
theorem tw15299940463383761499:True:=⟨⟩
theorem tw14929814705524323625:True:=⟨⟩
theorem tw16847827449089776804:True:=⟨⟩
theorem tw17093287344812971172:True:=⟨⟩
end PySem.W.Fast
open PySem PySem.W PyProof.Rows
set_option maxRecDepth 100000 in
set_option maxHeartbeats 0 in
theorem PySem.Challenge.cw_strokegrow_k58_stretches_refused_holds : PySem.Challenge.rw_strokegrow_k58_stretches_refused.Holds := by
 w_on;o_law;k_head;(case hw=>w_witness2)
 k_fill
 refine L2.Lb (l:=PySem.Challenge.rw_strokegrow_k58_stretches_refused) (n:=63) (k:=12) (x:="_law_script") (CX:=Pf.CX) (sp:=fun K=>Pf.NQ K) rfl (by decide) rfl ⟨rfl,by decide,by decide⟩ (fun w h Y=>PySem.W.kIn_of Y) ?F ?S ?C
 case F=>
   intro w mg fa h KX G XS;have T:∃ t,Pf.Txt (L2.KOf KX) mg t∧t.tw=fa:=by
     dsimp only [L2.KOf];obtain⟨t,T,e⟩:∃ t,Pf.Txt _ mg t∧t.tw=_:=by
       refine' Pf.VN KX G ?_ ?_ ?_ ?_ ?_ ?_ ?_ ?_ ?_ ?_ ?_ ?_ ?_ ?_ ?_ ?_ ?_ ?_ ?_ ?_ ?_ ?_ ?_ ?_ ?_ ?_ ?_ ?_ ?_ ?_ ?_ ?_ ?_ ?_ ?_ ?_ ?_ ?_ ?_ ?_ ?_ ?_ ?_ ?_ ?_ ?_ ?_ ?_ ?_ ?_ ?_ ?_ ?_ ?_ ?_ ?_ ?_ ?_ ?_ ?_ ?_ ?_ ?_ ?_ ?_ ?_ ?_ ?_ ?_ ?_ ?_ ?_ ?_ ?_ ?_ ?_ ?_ ?_ ?_ ?_ ?_ ?_ ?_ ?_ ?_ ?_ ?_ ?_ ?_ ?_ ?_ ?_ ?_ ?_ ?_ ?_ ?_ ?_ ?_ ?_ ?_ ?_ ?_ ?_ ?_ ?_ ?_ ?_ ?_ ?_ ?_ ?_ ?_ ?_ ?_ ?_ ?_ ?_ ?_ ?_ ?_ ?_ ?_ ?_ ?_ ?_ ?_ ?_ ?_ ?_ ?_ ?_ ?_ ?_ ?_ ?_ ?_ ?_ ?_ ?_ ?_ ?_ ?_ ?_ ?_ ?_ ?_ ?_ ?_ ?_ ?_ ?_ ?_ ?_ ?_ ?_ ?_ ?_ ?_ ?_ ?_ ?_ ?_ ?_ ?_ ?_ ?_ ?_ ?_ ?_ ?_ ?_ ?_ ?_ ?_ ?_ ?_ ?_ ?_ ?_ ?_ ?_ ?_ ?_ ?_ ?_ ?_ ?_ ?_ ?_ ?_ ?_ ?_ ?_ ?_ ?_ ?_ ?_ ?_ ?_ ?_ ?_ ?_ ?_ ?_ ?_ ?_ ?_ ?_ ?_ ?_ ?_ ?_ ?_ ?_ ?_ ?_ ?_ ?_ ?_ ?_ ?_ ?_ ?_ ?_ ?_ ?_ ?_ ?_ ?_ ?_ ?_ ?_ ?_ ?_ ?_ ?_ ?_ ?_ ?_ ?_ ?_ ?_ ?_ ?_ ?_ ?_ ?_ ?_
       any_goals first
        | exact Pf.VH (by k_is) (by k_is) (by k_is) (by k_is) (by refine fun _ _ _ _ _ _=>?_;(repeat refine Zg fun _=>?_);exact ww rfl)
        | exact Pf.VF (by k_is) (by k_is) (by k_is) (by refine fun _ _ _ _ _ _=>?_;(repeat refine Zg fun _=>?_);exact ww rfl)
        | exact Pf.VG (by k_is) (by k_is) (by k_is) (by refine fun _ _ _ _ _ _=>?_;(repeat refine Zg fun _=>?_);exact ww rfl)
        | exact Pf.VI (by k_is) (by k_is) (by k_is) (by k_is) (by k_is) (by k_is)
        | exact L2.Meth.mk (by k_is) (by k_is) (by k_is)
        | exact L2.Mk.mk (by k_is) (by k_is) (by k_is) (by k_is)
        | exact Sg.Uq.mk (by k_is) (by k_is) (by k_is)
        | k_is
        | kernel_rfl
     refine⟨t,T,?_⟩;have e0:=XS.symm.trans (T.g T.DP.a);cases e0;rfl
   obtain⟨t,T,e⟩:=T;subst e;refine' ⟨t.yv,?b,fun base kb nb=>Pf.WL T⟩;exact Pf.VP T
 case S=>exact fun K H a ns hl hO hS=>Pf.Wh hl hS
 case C=>exact fun H s e s' h=>h
