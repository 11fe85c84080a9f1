import PyProof.Rows.All
import Wide.All
import OpenK.AllK
import Wide.FinOn
import Lean
import PyProof.EqAt
import PyProof.EqKinds
import PyProof.TupleCall
import PyProof.WalksEnum
import PyProof.EnumMake
import PyProof.ZipIter
import PyProof.ReprStr
import PyProof.StrBlockG
import PyProof.StrWalks
import PyProof.FString5
import PyProof.ConsumeWalk
import PyProof.SumAny
import PyProof.StrCalls2
import KE.KDictList
import PyProof.Draws
import PyProof.StrBlock2
import PyProof.DictIter
import PyProof.ExcInit
import PyProof.ExcClass3
import PyProof.FString
import PyProof.FitsInt
import PyProof.StrLawsRepr
import PyProof.Rows.Range3
import PyProof.StrCalls
import PyProof.ListRange
import PyProof.AttrMissHeap
import KE.KDictOf
import PyProof.StrCalls3
import PyProof.FactsAll.dict_2
import PyProof.MeetsIn
import PyProof.Cells
import KE.KDictSum
import PyProof.DictWalks
import KE.KRevIter
import PyProof.FactsAll.subtypes_3
import PyProof.Rows.SortWalk
import KE.KSortedM
import PyProof.Rows.SortStr
import PyProof.MinMaxWalk
import PyProof.WalkInts
import PyProof.SeqI3
import PyProof.Rows.CallKwBuiltin
import KE.KUnpack
import PyProof.Rows.SeqMore2
import PySem.Challenge.RW_strokegrow_k53_whole_part_drawn
theorem AA3 {a b:Nat}(h:Nat.ble a b=true:=by rfl):a<=b:=Nat.le_of_ble_eq_true h
set_option Elab.async false
set_option linter.all false
set_option maxRecDepth 100000
section
open List renaming getElem?_eq_getElem→k3, length_map→k5, getD_eq_getElem?_getD→WW, getElem?_map→YL, getElem?_eq_some_iff→aag, getElem?_set_self→aah, getElem?_set_ne→aai, range→aaj, replicate→aak, map_map→aam, size_toArray→aan, map_cons→aaq, filter_eq_self→aas, length_append→aau, mem_append_right→aaw, length_take→aax, getElem?_append_left→aaA, getElem?_append_right→aaB, getElem?_eq_none→aaC, mem_cons→aaE, mem_cons_of_mem→aaF, length_range→aaH, length_cons→aaI, getElem?_range→aaL, mem_map→aaM, getElem_mem→aaN, getElem_map→aaO, lookup_cons→aaQ, getElem?_replicate→aaR, mem_iff_getElem→aaT, flatten_cons→aaU, eq_nil_of_length_eq_zero→aaV, pairwise_iff_getElem→aaW, mem_cons_self→aaX, append_nil→aaZ, length_drop→aa0, getElem?_cons_succ→aa2, map_append→aa4, take_add_one→aa6, dropLast_concat_getLast→aa7, take_length→aa8, replicate_succ→aba, mem_append→abb, length→abd, mem_of_getElem?→abg, flatMap_cons→abh, find?_cons→abi, take_of_length_le→abj, length_dropLast→abk, any_cons→abl, sum_cons→abm, mem_range→abo, nodup_cons→abr, getElem_take→abt, length_reverse→abx, flatten_append→aby, lookup→abA, filter_cons_of_neg→abB, filter_cons_of_pos→abC, range_succ_eq_map→abG, all_eq_true→abK, all_cons→abL, range'→abN, mem_of_mem_take→abO, mem_of_mem_drop→abP, length_set→abR, filterMap_cons→abS, toList_toArray→abT, map_congr_left→abU
open Exists renaming elim→Bn
open Nat renaming le_refl→aae, lt_of_lt_of_le→aao, ne_of_lt→aat, le_trans→aav, le_of_ble_eq_true→aaJ, lt_of_le_of_lt→aaK, zero_le→aa1, lt_irrefl→aa3, le_of_lt→aa5, le_succ→abc, lt_succ_self→abe, succ_ne_self→abv, le_add_right→abw, ne_of_gt→abD, lt_succ_of_lt→abF, le_of_not_lt→abJ, pow_le_pow_right→abM
open PySem.Heap renaming get?_push_of_some→aaf, lt_size→aal, get?_push_size→aar, size_push→aa9, SameBut→abp, get?_update_other→abE, get?_update_self→abH
open Bool renaming false_ne_true→aap, and_eq_true→aaP, false_eq_true→aaY, eq_iff_iff→abQ
open Int renaming emod_nonneg→aay, emod_lt_of_pos→aaz, toNat_natCast→aaS, ne_of_gt→abf, add_zero→abq, emod_eq_of_lt→abu
open Or renaming inr→aaD, inl→aaG
open Array renaming length_toList→abn, getElem?_toList→abI
open Option renaming isSome_iff_exists→abz
namespace L2
open PySem PySem.Spec PyProof.Rows
noncomputable abbrev Key:=Sum Int Str
noncomputable def ya:Key->Value->Bool
 | .inl k,v=>Value.isInt k v
 | .inr x,v=>Value.isStrOf x v
noncomputable def Xw (w:World):Key->Int
 | .inl k=>hashInt k
 | .inr x=>hashStr w x
theorem cV:∀ {k:Key} {v:Value},ya k v=true->(∃ i t,k=Sum.inl i/\v=Value.int i t)\/(∃ x t,k=Sum.inr x/\v=Value.str x t)
 | .inl i,v,h=>by
   obtain⟨t,e⟩:=Value.isInt_shape (k:=i) (v:=v) h
   exact .inl ⟨i,t,rfl,e⟩
 | .inr x,v,h=>by
   obtain⟨t,e⟩:=Value.isStrOf_shape (x:=x) (v:=v) h
   exact .inr ⟨x,t,rfl,e⟩
theorem FX (i:Int)(t:Tok):ya (.inl i) (.int i t)=true:=by simp[ya,Value.isInt]
theorem FY (x:Str)(t:Tok):ya (.inr x) (.str x t)=true:=by simp[ya,Value.isStrOf]
theorem PD (a b:Int):decide ((Sum.inl a:Key)=Sum.inl b)=(a == b):=by
 by_cases e:a=b
 . subst e;simp
 . have h:¬ (Sum.inl a:Key)=Sum.inl b:=fun q=>e (Sum.inl.inj q)
   rw[decide_eq_false h]
   exact(beq_eq_false_iff_ne.mpr e).symm
theorem PF (a b:Str):decide ((Sum.inr a:Key)=Sum.inr b)=decide (a=b):=by
 by_cases e:a=b
 . subst e;simp
 . have h:¬ (Sum.inr a:Key)=Sum.inr b:=fun q=>e (Sum.inr.inj q)
   rw[decide_eq_false h,decide_eq_false e]
theorem PH (a:Int)(b:Str):decide ((Sum.inl a:Key)=Sum.inr b)=false:=decide_eq_false (fun q=>nomatch q)
theorem PJ (a:Str)(b:Int):decide ((Sum.inr a:Key)=Sum.inl b)=false:=decide_eq_false (fun q=>nomatch q)
noncomputable def cL (prog:Program)(w:World):PySem.KeyKind prog w Key where
 is:=ya
 hash:=Xw w
 inj:=fun v a b ha hb=>by
   rcases cV ha with⟨i,t,rfl,rfl⟩ | ⟨x,t,rfl,rfl⟩
   . rcases cV hb with⟨j,u,rfl,e⟩ | ⟨y,u,rfl,e⟩
     . injection e with e1 _;rw[e1]
     . exact nomatch e
   . rcases cV hb with⟨j,u,rfl,e⟩ | ⟨y,u,rfl,e⟩
     . exact nomatch e
     . injection e with e1 _;rw[e1]
 byValue:=fun k v h=>by
   rcases cV h with⟨i,t,rfl,rfl⟩ | ⟨x,t,rfl,rfl⟩ <;> rfl
 pyHash:=fun hv h=>by
   rcases cV hv with⟨i,t,rfl,rfl⟩ | ⟨x,t,rfl,rfl⟩
   . exact wpAny_pyHash_int h
   . exact wpAny_pyHash_str h
 eqBool:=fun hu hv h=>by
   rcases cV hu with⟨i,t,rfl,rfl⟩ | ⟨x,t,rfl,rfl⟩
   . rcases cV hv with⟨j,u,rfl,rfl⟩ | ⟨y,u,rfl,rfl⟩
     . rw[PD] at h;exact wpAny_eqBool_int h
     . rw[PH] at h;exact SeqAt.EqAt.int_str i t y u _ _ _ _ h
   . rcases cV hv with⟨j,u,rfl,rfl⟩ | ⟨y,u,rfl,rfl⟩
     . rw[PJ] at h;exact SeqAt.EqAt.str_int x t j u _ _ _ _ h
     . rw[PF] at h;exact wpAny_eqBool_str h
 «strs»:=fun k x t v h=>by
   rcases cV h with⟨i,u,rfl,e⟩ | ⟨y,u,rfl,e⟩
   . exact nomatch e
   . injection e with e1 _
     subst e1
     cases v <;> rfl
theorem Ay (prog:Program)(w:World)(i:Int)(t:Tok):(cL prog w).is (.inl i) (.int i t)=true:=FX i t
theorem Az (prog:Program)(w:World)(x:Str)(t:Tok):(cL prog w).is (.inr x) (.str x t)=true:=FY x t
inductive V where
 | cW | bl (b:Bool) | int (i:Int) | str (x:Str) | Hn (b:Array UInt8) | PK (b:UInt64) | ref (a:Addr) | ty (n:String)
 deriving DecidableEq
def RelV:V->Value->Prop
 | .cW,u=>u=Value.none
 | .bl b,u=>u=Value.bool b
 | .int i,u=>∃ t,u=Value.int i t
 | .str x,u=>∃ t,u=Value.str x t
 | .Hn b,u=>∃ t,u=Value.bytes b t
 | .PK b,u=>∃ t,u=Value.float b t
 | .ref a,u=>u=Value.ref a
 | .ty n,u=>u=Value.type n
abbrev Vals:List V->List Value->Prop:=Paired RelV
theorem Vals.length {xs:List V}{us:List Value}(r:Vals xs us):xs.length=us.length:=Paired.length r
theorem Vals.get:∀ {xs:List V} {us:List Value} {i:Nat} {x:V},Vals xs us->xs[i]?=some x->∃ u,us[i]?=some u/\RelV x u
 | _,_,_,_,.nil,e=>by simp at e
 | _,_,0,_,.cons r _,e=>by simp at e;subst e;exact⟨_,rfl,r⟩
 | _,_,i+1,x,.cons _ t,e=>by
   obtain⟨u,h1,h2⟩:=Vals.get (i:=i) (x:=x) t (by simpa using e)
   exact⟨u,by simpa using h1,h2⟩
theorem Vals.set {x:V}{u:Value}(r:RelV x u):∀ {xs:List V} {us:List Value} (i:Nat),Vals xs us->Vals (xs.set i x) (us.set i u)
 | _,_,_,.nil=>.nil
 | _,_,0,.cons _ t=>.cons r t
 | _,_,i+1,.cons q t=>.cons q (Vals.set r i t)
theorem Vals.append:∀ {xs ys:List V} {us ws:List Value},Vals xs us->Vals ys ws->Vals (xs ++ ys) (us ++ ws)
 | _,_,_,_,.nil,s=>s
 | _,_,_,_,.cons r t,s=>.cons r (Vals.append t s)
theorem Vals.take:∀ {xs:List V} {us:List Value} (n:Nat),Vals xs us->Vals (xs.take n) (us.take n)
 | _,_,0,_=>.nil
 | _,_,_+1,.nil=>.nil
 | _,_,n+1,.cons r t=>.cons r (Vals.take n t)
theorem Vals.drop:∀ {xs:List V} {us:List Value} (n:Nat),Vals xs us->Vals (xs.drop n) (us.drop n)
 | _,_,0,r=>r
 | _,_,_+1,.nil=>.nil
 | _,_,n+1,.cons _ t=>Vals.drop n t
def pP:Option V->Option Value->Prop
 | some v,some u=>RelV v u
 | none,none=>True
 | _,_=>False
def KV {κ:Type}:List (κ×V)->List (κ×Value)->Prop:=Paired fun(p:κ×V) (q:κ×Value)=>p.1=q.1/\RelV p.2 q.2
noncomputable def kV:Key->V
 | .inl i=>.int i
 | .inr x=>.str x
inductive FD where
 | int (i:Int)
 | eP (kds:List (Key×Int))
 | lst (ns:List Int)
 | tup (K:W.Frag) (ns:List Int)
 | obj (C:Addr) (fs:List (Str×FD))
noncomputable abbrev kg:=List (Addr×(Nat->List (Key×FD)))
inductive HO where
   | lst (xs:List V)
   | tup (xs:List V)
   | dK (kvs:List (Key×V)) | dT (kvs:List (List Key×V))
   | set (S:Int->Bool) (n:Nat)
   | ins (C dx:Addr) (fs:List (Str×V))
   | own (x:Addr)
   | xd (fs:List (Str×V))
   | met (f x:Addr)
   | Xx (lo hi:Int)
   | bF (o:Obj) (u:HO)
   | PL (ps:Array Value)
   | ext (φ:Heap->Prop)
   | memo (ls:kg)
 | bD (ls:kg) (ns:List Nat)
   | part (p:Addr)
   | kd (tg:Option (Addr×Nat)) (o:Obj) (kvs:List (Key×V))
   | kx (o:Obj) (u:HO)
noncomputable abbrev Hp:=Addr->Option HO
noncomputable def upd (H:Hp)(a:Addr)(o:HO):Hp:=fun b=>if b=a then some o else H b
theorem ak {H:Hp}{a:Addr}{o:HO}:upd H a o a=some o:=by unfold upd;rw[if_pos rfl]
theorem ah {H:Hp}{a b:Addr}{o:HO}(h:b≠a):upd H a o b=H b:=by unfold upd;rw[if_neg h]
theorem uA {H:Hp}{a:Addr}{o u:HO}:upd (upd H a o) a u=upd H a u:=by
 funext b;unfold upd;split <;> rfl
theorem TQ {H:Hp}{a b:Addr}{o u:HO}(h:H a=some o)(h':H b=some u)(d:o≠u):a≠b:=by
 intro e;subst e;rw[h] at h';exact d (Option.some.inj h')
theorem aw {H:Hp}{a b:Addr}{o:HO}(h:H a=some o)(h':H b=none):a≠b:=by
 intro e;subst e;rw[h] at h';cases h'
def l6:Option HO->Prop
 | some (.memo _)=>True
 | some (.bD _ _)=>True
 | some (.part _)=>True
 | _=>False
def Kept:HO->Prop
 | .kd _ _ _=>True
 | .kx _ _=>True
 | .tup _=>True
 | _=>False
def TupAt (K:W.Frag)(H:Hp)(a:Addr)(xs:List V):Prop:=
 H a=some (.tup xs) \/
   ∃ (o:Obj) (aE:Array Value) (n:Nat),K.lookup a=some o/\o.cls=.type "tuple"/\o.data=.seq aE n/\aE.size<=sizeLine/\Vals xs aE.toList
mutual
inductive Fz (H:Hp):V->FD->Prop
 | int (i:Int):Fz H (.int i) (.int i)
 | eP {a:Addr} {tg:Option (Addr×Nat)} {o:Obj} {kds:List (Key×Int)}:H a=some (.kd tg o (kds.map fun kd=>(kd.1,V.int kd.2)))->Fz H (.ref a) (.eP kds)
 | lst {a:Addr} {o:Obj} {ns:List Int}:H a=some (.kx o (.lst (ns.map V.int)))->Fz H (.ref a) (.lst ns)
 | tup {a:Addr} {K:W.Frag} {ns:List Int}:TupAt K H a (ns.map V.int)->Fz H (.ref a) (.tup K ns)
 | obj {a C dx:Addr} {o:Obj} {fv:List (Str×V)} {fs:List (Str×FD)}:H a=some (.kx o (.ins C dx fv))->HA H fv fs->Fz H (.ref a) (.obj C fs)
inductive HA (H:Hp):List (Str×V)->List (Str×FD)->Prop
 | nil:HA H [] []
 | cons {k:Str} {v:V} {d:FD} {vs:List (Str×V)} {ds:List (Str×FD)}:Fz H v d->HA H vs ds->HA H ((k,v)::vs) ((k,d)::ds)
end
inductive rT (H:Hp):List (Key×V)->List (Key×FD)->Prop
 | nil:rT H [] []
 | cons {k:Key} {v:V} {d:FD} {kvs:List (Key×V)} {kds:List (Key×FD)}:Fz H v d->rT H kvs kds->rT H ((k,v)::kvs) ((k,d)::kds)
def PM (H:Hp)(p:Addr)(i:Nat)(aE:List Value)(fd:List (Key×FD)):Prop:=∃ q o kvs,aE[i]?=some (.ref q)/\H q=some (.kd (some (p,i)) o kvs)/\rT H kvs fd
def D1 (H:Hp)(h:Heap)(p:Addr)(f:Nat->List (Key×FD))(n:Nat):Prop:=∃ aE c,h.get? p=some { cls:=.type "list",data:=.seq (aE:List Value).toArray c}/\aE.length=n/\∀ i,i < n->PM H p i aE (f i)
def vm (H:Hp)(h:Heap)(a:Addr)(ls:kg)(ns:List Nat):Prop:=(∃ f,ls[0]?=some (a,f))/\ls.length=ns.length/\(∀ (j:Nat) (p:Addr) (f:Nat->List (Key×FD)),ls[j]?=some (p,f)->(p=a\/H p=some (.part a)))/\(ls.map (·.1)).Nodup/\(∀ n∈ns,n<=10000)/\∀ (j:Nat) (p:Addr) (f:Nat->List (Key×FD)) (n:Nat),ls[j]?=some (p,f)->ns[j]?=some n->D1 H h p f n
section
variable (P:Program)(w:World)
def aL (H:Hp)(h:Heap)(a:Addr):HO->Prop
 | .lst xs=>xs.length<=sizeLine/\∃ (aE:List Value) (n:Nat),Vals xs aE/\h.get? a=some { cls:=.type "list",data:=.seq aE.toArray n}
 | .tup xs=>xs.length<=sizeLine/\∃ aE:List Value,Vals xs aE/\IsTup h a aE.toArray
 | .dK kvs=>kvs.length<=sizeLine/\(a == sysModules)=false/\∃ vs,KV kvs vs/\h.DictOf (cL P w) a vs
 | .dT kvs=>kvs.length<=sizeLine/\(a == sysModules)=false/\∃ xs:List (List Key×Addr×Value),
     Paired (fun(p:List Key×V) (q:List Key×Addr×Value)=>p.1=q.1/\H q.2.1=some (.tup (p.1.map kV))/\RelV p.2 q.2.2) kvs xs /\
     ∃ o es ep,h.get? a=some o/\o.ExactDict/\o.data=.dict es ep/\es.toList=xs.map (entryOfKey (tupleKind (cL P w)))/\(xs.map (·.1)).Nodup
 | .set S n=>h.SetOf (intKind P w) a S n
 | .ins C dx fs=>H dx=some (.own a)/\fs.length<=1000/\dx≠a/\h.get? a=some (W.instObj C dx) /\
     ∃ mA,h.Ns1 dx mA/\(∀ f,pP (fs.lookup f) (mA f))/\PySem.Within mA (fs.map (·.1))
 | .own _=>∃ o,h.get? a=some o
 | .xd fs=>∃ mA,h.Ns1 a mA/\∀ f,pP (fs.lookup f) (mA f)
 | .Xx lo hi=>∃ t u v,h.get? a=some { cls:=.type "range",data:=.fields #[.int lo t,.int hi u,.int 1 v]}
 | .bF o u=>h.get? a=some o/\aL H h a u
 | .PL ps=>h.get? a=some { cls:=.none,data:=.fields ps}
 | .met f x=>h.get? a=some (W.methodObj (.ref f) (.ref x))
 | .ext φ=>φ h/\(∃ o,h.get? a=some o)/\∀ h1 h2:Heap,φ h1->(∀ o,h1.get? a=some o->h2.get? a=some o)->φ h2
 | .memo ls=>(∃ o,h.get? a=some o)/\∃ n,0 < n/\vm H h a ls (aak ls.length n)
 | .bD ls ns=>(∃ o,h.get? a=some o)/\vm H h a ls ns
 | .part _=>∃ o,h.get? a=some o
 | .kd tg o kvs=>h.get? a=some o/\(kvs.length<=sizeLine/\(a == sysModules)=false/\∃ vs,KV kvs vs/\h.DictOf (cL P w) a vs) /\
     ∀ p i,tg=some (p,i)->l6 (H p)/\∃ aE c,h.get? p=some { cls:=.type "list",data:=.seq (aE:List Value).toArray c}/\aE[i]?=some (.ref a)
 | .kx o u=>h.get? a=some o/\aL H h a u
def qH (H:Hp)(h:Heap):Prop:=∀ a o,H a=some o->aL P w H h a o
end
section
variable {P:Program}{w:World}{H H':Hp}{h h':Heap}{a:Addr}{o:HO}
theorem aL.lt (x:aL P w H h a o):a < h.objs.size:=by
 cases o with
 | lst xs=>obtain⟨_,_,_,_,e⟩:=x;exact aal e
 | tup xs=>obtain⟨_,_,_,p⟩:=x;exact p.lt
 | dK kvs=>obtain⟨_,_,_,_,o,_,_,e,_⟩:=x;exact aal e
 | dT kvs=>obtain⟨_,_,_,_,o,_,_,e,_⟩:=x;exact aal e
 | set S n=>obtain⟨o,_,_,_,e,_⟩:=x;exact aal e
 | ins C dx fs=>obtain⟨_,_,_,e,_⟩:=x;exact aal e
 | own y=>obtain⟨_,e⟩:=x;exact aal e
 | xd fs=>obtain⟨_,⟨_,_,_,e,_⟩,_⟩:=x;exact aal e
 | Xx lo hi=>obtain⟨_,_,_,e⟩:=x;exact aal e
 | bF ob u=>obtain⟨e,_⟩:=x;exact aal e
 | PL ps=>exact aal (show h.get? a=some _ from x)
 | met f y=>exact aal (show h.get? a=some _ from x)
 | ext φ=>obtain⟨_,⟨_,e⟩,_⟩:=x;exact aal e
 | memo ls=>obtain⟨⟨_,e⟩,_⟩:=x;exact aal e
 | bD ls ns=>obtain⟨⟨_,e⟩,_⟩:=x;exact aal e
 | part y=>obtain⟨_,e⟩:=x;exact aal e
 | kd tg ob kvs=>exact aal x.1
 | kx ob u=>exact aal x.1
theorem Paired.PN {α β:Type}{F G:α->β->Prop}:∀ {l₁:List α} {l₂:List β},Paired F l₁ l₂->(∀ a b,F a b->G a b)->Paired G l₁ l₂
 | _,_,.nil,_=>.nil
 | _,_,.cons r t,f=>.cons (f _ _ r) (Paired.PN t f)
structure Kp (H H':Hp):Prop where
 st:∀ b u,H b=some u->Kept u->H' b=some u
 mem:∀ b,l6 (H b)->l6 (H' b)
 part:∀ b x,H b=some (.part x)->H' b=some (.part x)
theorem Kp.kd (kp:Kp H H')(b:Addr)(tg:Option (Addr×Nat))(o:Obj)(kvs:List (Key×V))(e:H b=some (.kd tg o kvs)):H' b=some (.kd tg o kvs):=kp.st b _ e trivial
theorem Kp.refl:Kp H H:=⟨fun _ _ e _=>e,fun _ e=>e,fun _ _ e=>e⟩
theorem Kp.of (s:∀ b u,H b=some u->H' b=some u):Kp H H':=⟨fun _ _ e _=>s _ _ e,fun b e=>by
 cases q:H b with
 | none=>rw[q] at e;exact e.elim
 | some u=>rw[s b u q,<- q];exact e,fun _ _ e=>s _ _ e⟩
theorem TupAt.kp {K:W.Frag}{xs:List V}(k:∀ b u,H b=some u->Kept u->H' b=some u)(h:TupAt K H a xs):TupAt K H' a xs:=h.imp (fun e=>k _ _ e trivial) id
mutual
theorem Fz.st (k:∀ b u,H b=some u->Kept u->H' b=some u):∀ {v:V} {d:FD},Fz H v d->Fz H' v d
 | _,_,.int i=>.int i
 | _,_,.eP e=>.eP (k _ _ e trivial)
 | _,_,.lst e=>.lst (k _ _ e trivial)
 | _,_,.tup e=>.tup (e.kp k)
 | _,_,.obj e f=>.obj (k _ _ e trivial) (HA.st k f)
theorem HA.st (k:∀ b u,H b=some u->Kept u->H' b=some u):∀ {v:List (Str×V)} {d:List (Str×FD)},HA H v d->HA H' v d
 | _,_,.nil=>.nil
 | _,_,.cons h t=>.cons (Fz.st k h) (HA.st k t)
end
theorem Fz.kp (kp:Kp H H'){v:V}{d:FD}(h:Fz H v d):Fz H' v d:=h.st kp.st
theorem rT.kp (kp:Kp H H'):∀ {kvs:List (Key×V)} {kds:List (Key×FD)},rT H kvs kds->rT H' kvs kds
 | _,_,.nil=>.nil
 | _,_,.cons h t=>.cons (h.kp kp) (rT.kp kp t)
theorem D1.kp {p:Addr}{f:Nat->List (Key×FD)}{n:Nat}(kp:Kp H H')(x:D1 H h p f n)(k:∀ u,h.get? p=some u->h'.get? p=some u):D1 H' h' p f n:=by
 obtain⟨aE,c,e,hl,hi⟩:=x
 exact⟨aE,c,k _ e,hl,fun i hn=>let ⟨q,o,kvs,h1,h2,h3⟩:=hi i hn;⟨q,o,kvs,h1,kp.kd _ _ _ _ h2,h3.kp kp⟩⟩
theorem vm.kp {ls:kg}{ns:List Nat}(kp:Kp H H')(x:vm H h a ls ns)(k:∀ b u,b=a\/H b=some (.part a)->h.get? b=some u->h'.get? b=some u):vm H' h' a ls ns:=by
 obtain⟨h1,h2,h3,h4,h5,h6⟩:=x
 exact⟨h1,h2,fun j p f e=>(h3 j p f e).imp id fun z=>kp.part _ _ z,h4,h5,fun j p f n e1 e2=>(h6 j p f n e1 e2).kp kp fun u e=>k p u (h3 j p f e1) e⟩
def TR (h:Heap)(p:Addr)(i:Nat)(c:Addr):Prop:=∃ aE n,h.get? p=some { cls:=.type "list",data:=.seq (aE:List Value).toArray n}/\aE[i]?=some (.ref c)
theorem aL.Oq (x:aL P w H h a o)(k:∀ b u,(b=a\/H b=some (.own a)\/H b=some (.part a))->h.get? b=some u->h'.get? b=some u)(ho:∀ b,H b=some (.own a)->H' b=some (.own a))(ht:∀ b xs,H b=some (.tup xs)->H' b=some (.tup xs))(kp:Kp H H')(hl:∀ p i c,l6 (H p)->TR h p i c->TR h' p i c):aL P w H' h' a o:=by
 induction o with
 | lst xs=>obtain⟨z,aE,n,r,e⟩:=x;exact⟨z,aE,n,r,k _ _ (.inl rfl) e⟩
 | tup xs=>obtain⟨z,aE,r,ob,e,c⟩:=x;exact⟨z,aE,r,ob,k _ _ (.inl rfl) e,c⟩
 | dK kvs=>obtain⟨z,y,vs,r,ob,es,ep,e,c⟩:=x;exact⟨z,y,vs,r,ob,es,ep,k _ _ (.inl rfl) e,c⟩
 | dT kvs=>
   obtain⟨z,y,xs,r,ob,es,ep,e,c⟩:=x
   exact⟨z,y,xs,Paired.PN r fun p q z=>⟨z.1,ht _ _ z.2.1,z.2.2⟩,ob,es,ep,k _ _ (.inl rfl) e,c⟩
 | set S n=>obtain⟨ob,es,ep,t,e,c⟩:=x;exact⟨ob,es,ep,t,k _ _ (.inl rfl) e,c⟩
 | ins C dx fs=>
   obtain⟨d,z,ne,e,mA,⟨od,es,ep,e2,c⟩,r⟩:=x
   exact⟨ho _ d,z,ne,k _ _ (.inl rfl) e,mA,⟨od,es,ep,k _ _ (.inr (.inl d)) e2,c⟩,r⟩
 | own y=>obtain⟨ob,e⟩:=x;exact⟨ob,k _ _ (.inl rfl) e⟩
 | xd fs=>obtain⟨mA,⟨od,es,ep,e,c⟩,r⟩:=x;exact⟨mA,⟨od,es,ep,k _ _ (.inl rfl) e,c⟩,r⟩
 | Xx lo hi=>obtain⟨t,u,v,e⟩:=x;exact⟨t,u,v,k _ _ (.inl rfl) e⟩
 | bF ob u ih=>obtain⟨e,q⟩:=x;exact⟨k _ _ (.inl rfl) e,ih q⟩
 | PL ps=>
   have e:h.get? a=some { cls:=.none,data:=.fields ps}:=x
   show h'.get? a=some { cls:=.none,data:=.fields ps}
   exact k a _ (.inl rfl) e
 | met f y=>
   have e:h.get? a=some (W.methodObj (.ref f) (.ref y)):=x
   show h'.get? a=some (W.methodObj (.ref f) (.ref y))
   exact k a _ (.inl rfl) e
 | ext φ=>obtain⟨p,⟨o,e⟩,st⟩:=x;exact⟨st _ _ p fun o q=>k _ _ (.inl rfl) q,⟨o,k _ _ (.inl rfl) e⟩,st⟩
 | memo ls=>
   obtain⟨⟨o,e⟩,n,hn,q⟩:=x
   refine⟨⟨o,k _ _ (.inl rfl) e⟩,n,hn,q.kp kp fun b u hb=>k b u ?_⟩
   rcases hb with z | z
   . exact .inl z
   . exact .inr (.inr z)
 | bD ls ns=>
   obtain⟨⟨o,e⟩,q⟩:=x
   refine⟨⟨o,k _ _ (.inl rfl) e⟩,q.kp kp fun b u hb=>k b u ?_⟩
   rcases hb with z | z
   . exact .inl z
   . exact .inr (.inr z)
 | part y=>obtain⟨o,e⟩:=x;exact⟨o,k _ _ (.inl rfl) e⟩
 | kd tg ob kvs=>
   obtain⟨e,⟨z,y,vs,r,ob',es,ep,e',c⟩,q⟩:=x
   refine⟨k _ _ (.inl rfl) e,⟨z,y,vs,r,ob',es,ep,k _ _ (.inl rfl) e',c⟩,fun p i ht=>?_⟩
   obtain⟨q1,q2⟩:=q p i ht
   exact⟨kp.mem _ q1,hl p i _ q1 q2⟩
 | kx ob u ih=>obtain⟨e,q⟩:=x;exact⟨k _ _ (.inl rfl) e,ih q⟩
theorem aL.yK (x:aL P w H h a o)(k:∀ b u,(b=a\/H b=some (.own a)\/l6 (H b))->h.get? b=some u->h'.get? b=some u)(ho:∀ b,H b=some (.own a)->H' b=some (.own a))(ht:∀ b xs,H b=some (.tup xs)->H' b=some (.tup xs))(kp:Kp H H'):aL P w H' h' a o:=
 x.Oq (fun b u hb=>k b u (by
   rcases hb with z | z | z
   . exact .inl z
   . exact .inr (.inl z)
   . exact .inr (.inr (by rw[z];trivial)))) ho ht kp fun p i c hm ⟨aE,n,e,q⟩=>⟨aE,n,k p _ (.inr (.inr hm)) e,q⟩
theorem qH.lt (x:qH P w H h)(e:H a=some o):a < h.objs.size:=(x a o e).lt
theorem qH.fresh (x:qH P w H h)(e:h.objs.size<=a):H a=none:=by
 cases q:H a with
 | none=>rfl
 | some u=>exact absurd (aao (x.lt q) e) (aa3 _)
theorem qH.kept (x:qH P w H h)(k:∀ b u,h.get? b=some u->h'.get? b=some u):qH P w H h':=fun a o e=>
 (x a o e).yK (fun b u _ q=>k b u q) (fun _ q=>q) (fun _ _ q=>q) .refl
theorem qH.laid (x:qH P w H h)(k:∀ b u,h.get? b=some u->h'.get? b=some u)(hp:h.objs.size<=a)(new:aL P w (upd H a o) h' a o):qH P w (upd H a o) h':=fun b u e=>by
 have hn:=x.fresh hp
 by_cases hb:b=a
 . subst hb;rw[ak] at e;cases e;exact new
 . rw[ah hb] at e
   exact(x b u e).yK (fun c v _ q=>k c v q) (fun c q=>by rw[ah (aw q hn)];exact q) (fun c xs q=>by rw[ah (aw q hn)];exact q) (.of fun c u q=>by rw[ah (aw q hn)];exact q)
end
def Rd (H:Hp)(a:Addr)(u:HO):Prop:=H a=some u\/(∃ o,H a=some (.bF o u))\/(∃ tg o kvs,H a=some (.kd tg o kvs)/\u=.dK kvs)\/∃ o,H a=some (.kx o u)
theorem Rd.of {H:Hp}{a:Addr}{u:HO}(h:H a=some u):Rd H a u:=.inl h
theorem Rd.ok {P:Program}{w:World}{H:Hp}{h:Heap}{a:Addr}{u:HO}(r:Rd H a u)(x:qH P w H h):aL P w H h a u:=by
 rcases r with r | ⟨o,r⟩ | ⟨tg,o,kvs,r,rfl⟩ | ⟨o,r⟩
 . exact x a u r
 . obtain⟨_,q⟩:=x a _ r
   exact q
 . obtain⟨_,q,_⟩:=x a _ r
   exact q
 . obtain⟨_,q⟩:=x a _ r
   exact q
def Ti:Option HO->Prop
 | some (.lst _)=>True
 | some (.dK _)=>True
 | some (.dT _)=>True
 | some (.set _ _)=>True
 | some (.ins _ _ _)=>True
 | some (.ext _)=>True
 | _=>False
section
variable {P:Program}{w:World}{H:Hp}{h h':Heap}{x e:Addr}{o':HO}
theorem qH.write (ok:qH P w H h)(mu:Ti (H x))(he:e=x\/H e=some (.own x))(k:∀ b u,b≠e->h.get? b=some u->h'.get? b=some u)(Tj:∃ u,h'.get? e=some u)(new:aL P w (upd H x o') h' x o'):qH P w (upd H x o') h':=fun b u q=>by
 have yL:∀ c y,H c=some (.own y)->c≠x:=fun c y r z=>by subst z;rw[r] at mu;exact mu
 have Xy:∀ c xs,H c=some (.tup xs)->c≠x:=fun c xs r z=>by subst z;rw[r] at mu;exact mu
 by_cases hb:b=x
 . subst hb;rw[ak] at q;cases q;exact new
 . rw[ah hb] at q
   by_cases rS:b=e
   . have q':H b=some (.own x):=by
       rcases he with z | z
       . exact absurd (rS.trans z) hb
       . rw[rS];exact z
     rw[q] at q';cases q'
     obtain⟨v,hv⟩:=Tj
     exact⟨v,by rw[rS];exact hv⟩
   . have nkd:∀ c u,H c=some u->¬ Ti (some u)->c≠x:=fun c u r nm z=>by subst z;rw[r] at mu;exact nm mu
     have nmm:∀ c,l6 (H c)->c≠x:=fun c r z=>by
       subst z
       cases qq:H c with
       | none=>rw[qq] at r;exact r
       | some u=>rw[qq] at r mu;cases u <;> first | exact mu | exact r
     refine(ok b u q).yK (fun c v hc r=>k c v ?_ r) (fun c r=>by rw[ah (yL c b r)];exact r) (fun c xs r=>by rw[ah (Xy c xs r)];exact r) ⟨fun c u r kq=>by rw[ah (nkd c _ r (by cases u <;> first | exact(show False from kq).elim | exact fun z=>z))];exact r,fun c r=>by rw[ah (nmm c r)];exact r,fun c y r=>by rw[ah (nkd c _ r fun z=>z)];exact r⟩
     rcases hc with rfl | hc | hc
     . exact rS
     . rintro rfl
       rcases he with z | z
       . exact yL c b hc z
       . rw[hc] at z;cases z;exact hb rfl
     . rintro rfl
       rcases he with z | z
       . exact nmm c hc z
       . rw[z] at hc;exact hc
end
structure Un (fs ex:List Addr)(H H':Hp)(h h':Heap):Prop where
 keep:∀ b o,h.get? b=some o->H b=none->b ∉ fs->b ∉ ex->h'.get? b=some o
 slot:∀ b o,h.get? b=some o->H b=none->b∈fs->b ∉ ex->∃ sl,h'.get? b=some { o with slots:=sl}
 free:∀ b o,h.get? b=some o->H b=none->b ∉ ex->H' b=none
 there:∀ b o,h.get? b=some o->b ∉ ex->∃ o',h'.get? b=some o'
 AA:∀ b xs,H b=some (.tup xs)->H' b=some (.tup xs)
 yM:∀ b o u,H b=some (.bF o u)->H' b=some (.bF o u)
 AB:∀ b ps,H b=some (.PL ps)->∃ more,H' b=some (.PL (ps ++ more))
section
variable {fs ex:List Addr}{H H1:Hp}{h h1 h':Heap}{a x e:Addr}{o:HO}
theorem Un.any (u:Un fs ex H H1 h h1){b:Addr}{ob:Obj}(q:h.get? b=some ob)(n:H b=none)(hx:b ∉ ex):∃ sl,h1.get? b=some { ob with slots:=sl}:=by
 by_cases hb:b∈fs
 . exact u.slot b ob q n hb hx
 . exact⟨ob.slots,u.keep b ob q n hb hx⟩
theorem Un.kept (k:∀ b u,h.get? b=some u->h'.get? b=some u):Un fs ex H H h h':=
 ⟨fun b ob q _ _ _=>k b ob q,fun b ob q _ _ _=>⟨ob.slots,k b ob q⟩,fun _ _ _ n _=>n,fun b ob q _=>⟨ob,k b ob q⟩,fun _ _ q=>q,fun _ _ _ q=>q,fun _ ps q=>⟨#[],by rw[q];simp⟩⟩
theorem Un.refl:Un fs ex H H h h:=Un.kept fun _ _ q=>q
theorem Un.laid (k:∀ b u,h.get? b=some u->h'.get? b=some u)(hp:h.objs.size<=a)(hn:H a=none):Un fs ex H (upd H a o) h h' where
 keep:=fun b u q _ _ _=>k b u q
 slot:=fun b u q _ _ _=>⟨u.slots,k b u q⟩
 free:=fun b u q n _=>by rw[ah (aat (aao (aal q) hp))];exact n
 there:=fun b u q _=>⟨u,k b u q⟩
 AA:=fun b xs q=>by rw[ah (aw q hn)];exact q
 yM:=fun b u xs q=>by rw[ah (aw q hn)];exact q
 AB:=fun b ps q=>⟨#[],by rw[ah (aw q hn),q];simp⟩
theorem Un.write (mu:Ti (H x))(he:e=x\/H e=some (.own x))(k:∀ b u,b≠e->h.get? b=some u->h'.get? b=some u)(Tj:∃ u,h'.get? e=some u):Un fs ex H (upd H x o) h h':=by
 have hx:∀ b,H b=none->b≠x:=fun b n z=>by subst z;rw[n] at mu;exact mu
 have hb:∀ b,H b=none->b≠e:=fun b n z=>by
   subst z
   rcases he with r | r
   . exact hx b n r
   . rw[n] at r;cases r
 have hm:∀ b u,H b=some u->¬ Ti (some u)->b≠x:=fun b u q nm z=>by subst z;rw[q] at mu;exact nm mu
 refine⟨fun b u q n _ _=>k b u (hb b n) q,fun b u q n _ _=>⟨u.slots,k b u (hb b n) q⟩,fun b u q n _=>by rw[ah (hx b n)];exact n,fun b u q _=>?_,
   fun b xs q=>by rw[ah (hm b _ q fun z=>z)];exact q,fun b u xs q=>by rw[ah (hm b _ q fun z=>z)];exact q,fun b ps q=>⟨#[],by rw[ah (hm b _ q fun z=>z),q];simp⟩⟩
 by_cases rS:b=e
 . subst rS;exact Tj
 . exact⟨u,k b u rS q⟩
end
noncomputable def bS (h:Heap)(H:Hp):List Addr:=(aaj h.objs.size).filter fun a=>(H a).isSome
noncomputable def yN (h:Heap)(H:Hp):Heap:=PySem.W.hideAll h (bS h H)
theorem FZ (h:Heap)(H:Hp):(yN h H).objs.size=h.objs.size:=W.hideAll_size _ _
theorem HB {h:Heap}{H:Hp}{b:Addr}{o:Obj}(e:h.get? b=some o)(n:H b=none):(yN h H).get? b=some o:=
 W.hideAll_get _ e fun hm=>by
   have q:(H b).isSome=true:=(List.mem_filter.mp hm).2
   rw[n] at q;simp at q
theorem LR {h:Heap}{H:Hp}{b:Addr}{o:Obj}(e:(yN h H).get? b=some o):h.get? b=some o/\H b=none:=by
 have e':h.get? b=some o:=W.of_hideAll (bS h H) e
 refine⟨e',?_⟩
 cases q:H b with
 | none=>rfl
 | some x=>
   have hm:b∈bS h H:=List.mem_filter.mpr ⟨abo.mpr (aal e'),by simp[q]⟩
   have z:(yN h H).get? b=none:=W.hideAll_none (bS h H) hm
   rw[z] at e;cases e
noncomputable def LU (g h:Heap)(L:Addr):List (Addr×Obj):=(aaj h.objs.size).filterMap fun a=>if a=L\/(g.get? a).isSome=true then none else (h.get? a).map fun o=>(a,o)
noncomputable def rest (g h:Heap)(L d:Addr):List (Addr×Obj):=(LU g h L).filter fun p=>decide (p.1≠d)
structure Mod (K:W.Frag)(mg:Str->Option Value)(base:Heap):Prop where
 TU:K.In base
 glob:base.Ns mainGlobals mg
 blt:∃ mb,base.Ns builtinsNs mb/\∀ x:Str,x≠"__name__"->mb x=bootBuiltins x
 nolimit:base.NoLimit
structure Cx where
 prog:Program
 w:World
 K:W.Frag
 mg:Str->Option Value
 base:Heap
 A:Around
 N:List Str
 s₀:Shared
 H₀:Hp
 env:Env
 outer:List Env
 stack:List Env
 ex:List Addr
 fn:Str->Bool
 calm:Bool
 pn:List (Addr×Obj)
 xe:Value->Shared->Prop
noncomputable def HC (l:List Env):List Addr:=l.filterMap (·.frame)
noncomputable abbrev Cx.fs (X:Cx):List Addr:=HC X.outer
def vn (sc:Scope)(x:Str):Prop:=sc.names.lookup x=some .local\/sc.names.lookup x=some .cell\/sc.names.lookup x=some .free
def Loc (sc:Scope)(x:Str):Prop:=sc.names.lookup x=some .local\/sc.names.lookup x=some .cell
def Look (env:Env)(h:Heap)(m:Str->Option Value)(x:Str)(u:Value):Prop:=
 (env.kindOf x=some .local/\m x=some u)\/((env.kindOf x=some .cell\/env.kindOf x=some .free)/\∃ c,env.cells.lookup x=some c/\h.IsCell c (some u))
structure Cx.Ok (X:Cx):Prop where
 mod:Mod X.K X.mg X.base
 kind:X.env.scope.kind=.function
 glob:X.env.globals=mainGlobals
 blt:X.env.builtins=builtinsNs
 above:X.s₀.heap.objs.size<=X.env.locals
 inj:∀ x y c,X.env.cells.lookup x=some c->X.env.cells.lookup y=some c->x=y
 has:∀ x,(X.env.kindOf x=some .cell\/X.env.kindOf x=some .free)->∃ c,X.env.cells.lookup x=some c
 Tn:∀ x c,X.fn x=true->X.env.cells.lookup x=some c->X.s₀.heap.objs.size<=c
 hd:X.calm=true->X.A.handled=none
 frames:X.A.frames=some X.stack
 TV:X.stack=X.outer\/(X.stack=X.env::X.outer/\X.env.frame=some X.env.locals)
 LV:∀ b∈X.ex,b≠X.env.locals/\∀ x c,X.env.cells.lookup x=some c->c≠b
 bs:∀ b o,X.base.get? b=some o->X.s₀.heap.get? b=some o/\X.H₀ b=none
 D2:X.base.objs.size<=X.s₀.heap.objs.size
 AD:∀ b o,X.base.get? b=some o->b ∉ X.ex
 AE:∀ b∈X.ex,b ∉ X.fs
 rV:X.s₀.heap.FunFrames X.base X.outer
 Ot:∀ b∈X.fs,X.H₀ b=none
structure Inv (X:Cx)(pins:List (Addr×Obj))(σ:List (Option V))(H:Hp)(s:Shared):Prop where
 ok:X.Ok
 os:s.os=X.s₀.os
 bare:AllBare s.gens
 base:Un X.fs X.ex X.H₀ H X.s₀.heap s.heap
 loc:∃ m,s.heap.Ns X.env.locals m/\∀ (i:Nat) (x:Str) (v:V),X.N[i]?=some x->σ[i]?=some (some v)->vn X.env.scope x->∃ u,RelV v u/\Look X.env s.heap m x u
 cell:∀ x c,X.env.cells.lookup x=some c->∃ v,s.heap.IsCell c v
 free:H X.env.locals=none
 pV:∀ x c,X.env.cells.lookup x=some c->H c=none
 pin:∀ p∈X.pn ++ pins,s.heap.get? p.1=some p.2/\H p.1=none/\p.1≠X.env.locals/\p.1 ∉ X.fs/\∀ v,p.2.data≠.cell v
 bh:qH X.prog X.w H s.heap
 len:σ.length=X.N.length
section
variable {X:Cx}{pins:List (Addr×Obj)}{σ:List (Option V)}{H H':Hp}{s:Shared}{h':Heap}
theorem Cx.Ok.PQ (ok:X.Ok){b:Addr}{o:Obj}(e:X.base.get? b=some o):b ∉ X.fs:=fun hb=>by
 have:=(ok.rV.mem hb).1
 rw[e] at this;cases this
theorem Inv.bs (I:Inv X pins σ H s):∀ b o,X.base.get? b=some o->s.heap.get? b=some o/\H b=none:=fun b o e=>
 ⟨I.base.keep b o (I.ok.bs b o e).1 (I.ok.bs b o e).2 (I.ok.PQ e) (I.ok.AD b o e),I.base.free b o (I.ok.bs b o e).1 (I.ok.bs b o e).2 (I.ok.AD b o e)⟩
theorem Inv.bk (I:Inv X pins σ H s):∀ b o,X.base.get? b=some o->s.heap.get? b=some o:=fun b o e=>(I.bs b o e).1
theorem Inv.mod (I:Inv X pins σ H s):Mod X.K X.mg X.base:=I.ok.mod
theorem Inv.mR (I:Inv X pins σ H s):X.K.In s.heap:=I.ok.mod.TU.keeps I.bk
theorem Inv.lt (I:Inv X pins σ H s):X.env.locals < s.heap.objs.size:=let ⟨_,hn,_⟩:=I.loc;hn.lt
theorem Inv.sz (I:Inv X pins σ H s):X.s₀.heap.objs.size<=s.heap.objs.size:=aav I.ok.above (aa5 I.lt)
theorem Inv.Xz (I:Inv X pins σ H s){a:Addr}(h:s.heap.objs.size<=a):a ∉ X.fs:=fun hb=>by
 obtain⟨_,o,ho,_⟩:=I.ok.rV.mem hb
 exact absurd (aao (aal ho) (aav I.sz h)) (aa3 _)
theorem Inv.Cq (I:Inv X pins σ H s):∀ x c,X.env.cells.lookup x=some c->c≠X.env.locals:=fun x c e z=>by
 obtain⟨v,o,ho,hd⟩:=I.cell x c e
 obtain⟨m,⟨o',es,ep,HD,To,_⟩,_⟩:=I.loc
 rw[z,HD] at ho;cases ho;rw[To] at hd;cases hd
theorem Inv.rV (I:Inv X pins σ H s):s.heap.FunFrames X.base X.outer:=by
 have all:∀ (l:List Env),(∀ b∈HC l,b∈X.fs)->X.s₀.heap.FunFrames X.base l->s.heap.FunFrames X.base l:=by
   intro l
   induction l with
   | nil=>intro _ _;trivial
   | cons env r ih=>
     intro hs hl
     obtain⟨hk,⟨L,o,hf,hn,ho,hd⟩,hr⟩:=hl
     have hL:L∈X.fs:=hs L (by unfold HC;rw[abS,hf];exact aaX)
     obtain⟨sl,e⟩:=I.base.slot L o ho (I.ok.Ot L hL) hL fun z=>I.ok.AE L z hL
     exact⟨hk,⟨L,_,hf,hn,e,hd⟩,ih (fun b hb=>hs b (by unfold HC;rw[abS,hf];exact aaF _ hb)) hr⟩
 exact all X.outer (fun _ hb=>hb) I.ok.rV
theorem Inv.stack (I:Inv X pins σ H s):s.heap.FunFrames X.base X.stack:=by
 rcases I.ok.TV with e | ⟨e,hf⟩
 . rw[e];exact I.rV
 . rw[e]
   obtain⟨m,hn,_⟩:=I.loc
   refine .cons (by rw[I.ok.kind];decide) hf hn ?_ I.rV
   exact Heap.get?_none_of_le (aav I.ok.D2 I.ok.above)
theorem Inv.vo (I:Inv X pins σ H s):∀ b∈HC X.stack,b∈X.env.locals::X.fs:=fun b hb=>by
 rcases I.ok.TV with e | ⟨e,hf⟩
 . rw[e] at hb;exact aaF _ hb
 . rw[e] at hb
   unfold HC at hb
   rw[abS,hf] at hb
   exact hb
theorem Inv.uB (I:Inv X pins σ H s):∀ b∈HC X.stack,H b=none:=fun b hb=>by
 rcases aaE.mp (I.vo b hb) with e | hb
 . rw[e];exact I.free
 . obtain⟨_,o,ho,_⟩:=I.ok.rV.mem hb
   exact I.base.free b o ho (I.ok.Ot b hb) fun z=>I.ok.AE b z hb
theorem Inv.step {g':Array GenState}{t':Nat}{d':Drawn}{ch:List Addr}(I:Inv X pins σ H s)(As:∀ b∈ch,(b∈X.ex\/X.s₀.heap.objs.size<=b)/\b≠X.env.locals/\(∀ x c,X.env.cells.lookup x=some c->c≠b)/\∀ p∈X.pn ++ pins,p.1≠b)(keep:∀ b o,b≠X.env.locals->b ∉ X.fs->b ∉ ch->s.heap.get? b=some o->H b=none->h'.get? b=some o)(slot:∀ b o,b≠X.env.locals->b∈X.fs->b ∉ ch->s.heap.get? b=some o->H b=none->∃ sl,h'.get? b=some { o with slots:=sl})(free:∀ b o,b ∉ ch->s.heap.get? b=some o->H b=none->H' b=none)(there:∀ b o,b ∉ ch->s.heap.get? b=some o->∃ o',h'.get? b=some o')(AA:∀ b xs,H b=some (.tup xs)->H' b=some (.tup xs))(yM:∀ b o u,H b=some (.bF o u)->H' b=some (.bF o u))(AB:∀ b ps,H b=some (.PL ps)->∃ more,H' b=some (.PL (ps ++ more)))(ns:∀ m,s.heap.Ns X.env.locals m->h'.Ns X.env.locals m)(bh:qH X.prog X.w H' h')(hg:AllBare g'):Inv X pins σ H' { s with heap:=h',gens:=g',drawn:=d',toks:=t'}:=by
 have neL:∀ b o,X.s₀.heap.get? b=some o->b≠X.env.locals:=fun b o e=>aat (aao (aal e) I.ok.above)
 have WL:∀ b o,X.s₀.heap.get? b=some o->b ∉ X.ex->b ∉ ch:=fun b o e hx hb=>by
   rcases (As b hb).1 with z | z
   . exact hx z
   . exact absurd (aao (aal e) z) (aa3 _)
 have cellK:∀ x c,X.env.cells.lookup x=some c->∀ v,s.heap.IsCell c v->h'.IsCell c v:=fun x c e v ⟨o,ho,hd⟩=>by
   have TX:c ∉ ch:=fun z=>(As c z).2.2.1 x c e rfl
   by_cases hc:c∈X.fs
   . obtain⟨sl,q⟩:=slot c o (I.Cq x c e) hc TX ho (I.pV x c e)
     exact⟨_,q,hd⟩
   . exact⟨o,keep c o (I.Cq x c e) hc TX ho (I.pV x c e),hd⟩
 refine⟨I.ok,I.os,hg,⟨fun b o e n hb hx=>?_,fun b o e n hb hx=>?_,fun b o e n hx=>?_,fun b o e hx=>?_,fun b xs e=>AA b xs (I.base.AA b xs e),fun b o xs e=>yM b o xs (I.base.yM b o xs e),fun b ps e=>?_⟩,?_,fun x c e=>?_,?_,fun x c e=>?_,fun p hp=>?_,bh,I.len⟩
 . exact keep b o (neL b o e) hb (WL b o e hx) (I.base.keep b o e n hb hx) (I.base.free b o e n hx)
 . obtain⟨sl,e1⟩:=I.base.slot b o e n hb hx
   obtain⟨sl',e2⟩:=slot b _ (neL b o e) hb (WL b o e hx) e1 (I.base.free b o e n hx)
   exact⟨sl',e2⟩
 . obtain⟨o',e1⟩:=I.base.there b o e hx
   exact free b o' (WL b o e hx) e1 (I.base.free b o e n hx)
 . obtain⟨o',e1⟩:=I.base.there b o e hx
   exact there b o' (WL b o e hx) e1
 . obtain⟨m1,e1⟩:=I.base.AB b ps e
   obtain⟨m2,e2⟩:=AB b _ e1
   exact⟨m1 ++ m2,by rw[e2,Array.append_assoc]⟩
 . obtain⟨m,hn,hl⟩:=I.loc
   refine⟨m,ns m hn,fun i x v e1 e2 e3=>?_⟩
   obtain⟨u,r,l⟩:=hl i x v e1 e2 e3
   refine⟨u,r,?_⟩
   rcases l with l | ⟨k,c,e,z⟩
   . exact .inl l
   . exact .inr ⟨k,c,e,cellK x c e _ z⟩
 . obtain⟨v,z⟩:=I.cell x c e
   exact⟨v,cellK x c e v z⟩
 . obtain⟨m,⟨o,_,_,ho,_⟩,_⟩:=I.loc
   exact free _ o (fun z=>(As _ z).2.1 rfl) ho I.free
 . obtain⟨v,o,ho,hd⟩:=I.cell x c e
   exact free c o (fun z=>(As c z).2.2.1 x c e rfl) ho (I.pV x c e)
 . obtain⟨e,n,ne,nf,d⟩:=I.pin p hp
   have TX:p.1 ∉ ch:=fun z=>(As p.1 z).2.2.2 p hp rfl
   exact⟨keep p.1 p.2 ne nf TX e n,free p.1 p.2 TX e n,ne,nf,d⟩
theorem Inv.un {t':Nat}(I:Inv X pins σ H s)(u:Un X.fs [] H H' s.heap h')(bh:qH X.prog X.w H' h'):Inv X pins σ H' { s with heap:=h',toks:=t'}:=by
 obtain⟨m,⟨o,es,ep,ho,r⟩,_⟩:=id I.loc
 obtain⟨sl,hL⟩:=u.any ho I.free (by simp)
 exact I.step (g':=s.gens) (d':=s.drawn) (ch:=[]) (fun _ z=>nomatch z) (fun b o _ hb _ e n=>u.keep b o e n hb (by simp)) (fun b o _ hb _ e n=>u.slot b o e n hb (by simp)) (fun b o _ e n=>u.free b o e n (by simp)) (fun b o _ e=>u.there b o e (by simp)) u.AA u.yM u.AB (fun m' hm=>by
   obtain⟨o',LW,XA,HD,r'⟩:=hm
   rw[ho] at HD;cases HD
   exact⟨_,LW,XA,hL,r'⟩) bh I.bare
theorem Inv.call {g':Array GenState}{t':Nat}{d':Drawn}{ch:List Addr}(I:Inv X pins σ H s)(u:Un (HC X.stack) ch H H' s.heap h')(bh:qH X.prog X.w H' h')(hg:AllBare g')(As:∀ b∈ch,(b∈X.ex\/X.s₀.heap.objs.size<=b)/\b≠X.env.locals/\(∀ x c,X.env.cells.lookup x=some c->c≠b)/\∀ p∈X.pn ++ pins,p.1≠b):Inv X pins σ H' { s with heap:=h',gens:=g',drawn:=d',toks:=t'}:=by
 obtain⟨m,⟨o,es,ep,ho,r⟩,_⟩:=id I.loc
 obtain⟨sl,hL⟩:=u.any ho I.free fun z=>(As _ z).2.1 rfl
 exact I.step (ch:=ch) As (fun b o hL hb hc e n=>u.keep b o e n (fun z=>(aaE.mp (I.vo b z)).elim hL hb) hc) (fun b o _ _ hc e n=>u.any e n hc) (fun b o hc e n=>u.free b o e n hc) (fun b o hc e=>u.there b o e hc) u.AA u.yM u.AB (fun m' hm=>by
   obtain⟨o',LW,XA,HD,r'⟩:=hm
   rw[ho] at HD;cases HD
   exact⟨_,LW,XA,hL,r'⟩) bh hg
theorem Inv.turned {t':Nat}{it:Addr}(I:Inv X pins σ H s)(k:∀ b o,b≠it->s.heap.get? b=some o->h'.get? b=some o)(hn:H it=none)(hL:it≠X.env.locals)(h1:it∈X.ex\/X.s₀.heap.objs.size<=it)(h2:∀ x c,X.env.cells.lookup x=some c->c≠it)(h3:∀ p∈X.pn ++ pins,p.1≠it):Inv X pins σ H { s with heap:=h',toks:=t'}:=by
 have TY:∀ b u,H b=some u->b≠it:=fun b u e z=>by rw[z,hn] at e;cases e
 refine I.step (g':=s.gens) (d':=s.drawn) (ch:=[it]) (fun b hb=>?_) (fun b o _ _ hc e _=>k b o (fun z=>hc (by simp[z])) e) (fun b o _ _ hc e _=>⟨o.slots,k b o (fun z=>hc (by simp[z])) e⟩) (fun _ _ _ _ n=>n)
   (fun b o hc e=>⟨o,k b o (fun z=>hc (by simp[z])) e⟩) (fun _ _ e=>e) (fun _ _ _ e=>e) (fun b ps e=>⟨#[],by rw[e];simp⟩) (fun m hm=>?_) (fun b u e=>?_) I.bare
 . have e:b=it:=by simpa using hb
   subst e
   exact⟨h1,hL,h2,h3⟩
 . obtain⟨o,es,ep,ho,r⟩:=hm
   exact⟨o,es,ep,k _ o (Ne.symm hL) ho,r⟩
 . refine(I.bh b u e).yK (fun c v hc q=>k c v ?_ q) (fun _ q=>q) (fun _ _ q=>q) .refl
   rcases hc with z | z | z
   . rw[z];exact TY b u e
   . exact TY c _ z
   . exact fun z'=>by rw[z',hn] at z;exact z
theorem Inv.tok (I:Inv X pins σ H s)(t:Nat):Inv X pins σ H { s with toks:=t}:=I.un (h':=s.heap) (t':=t) Un.refl I.bh
theorem Inv.kept {t':Nat}(I:Inv X pins σ H s)(k:∀ b u,s.heap.get? b=some u->h'.get? b=some u):Inv X pins σ H { s with heap:=h',toks:=t'}:=I.un (Un.kept k) (I.bh.kept k)
theorem Inv.laid {a:Addr}{o:HO}{t':Nat}(I:Inv X pins σ H s)(k:∀ b u,s.heap.get? b=some u->h'.get? b=some u)(hp:s.heap.objs.size<=a)(new:aL X.prog X.w (upd H a o) h' a o):Inv X pins σ (upd H a o) { s with heap:=h',toks:=t'}:=I.un (Un.laid k hp (I.bh.fresh hp)) (I.bh.laid k hp new)
theorem Inv.write {x e:Addr}{o:HO}{t':Nat}(I:Inv X pins σ H s)(mu:Ti (H x))(he:e=x\/H e=some (.own x))(k:∀ b u,b≠e->s.heap.get? b=some u->h'.get? b=some u)(Tj:∃ u,h'.get? e=some u)(new:aL X.prog X.w (upd H x o) h' x o):Inv X pins σ (upd H x o) { s with heap:=h',toks:=t'}:=I.un (Un.write mu he k Tj) (I.bh.write mu he k Tj new)
theorem Inv.D3 {HE:List (Addr×Obj)}(I:Inv X pins σ H s)(h:∀ p∈HE,s.heap.get? p.1=some p.2/\H p.1=none/\p.1≠X.env.locals/\p.1 ∉ X.fs/\∀ v,p.2.data≠.cell v):Inv X HE σ H s:=
 ⟨I.ok,I.os,I.bare,I.base,I.loc,I.cell,I.free,I.pV,fun p hp=>(abb.mp hp).elim (fun z=>I.pin p (List.mem_append_left _ z)) (h p),I.bh,I.len⟩
theorem AF {N:List Str}(hN:N.Nodup){i j:Nat}{x:Str}(a:N[i]?=some x)(b:N[j]?=some x):i=j:=by
 obtain⟨h1,e1⟩:=aag.mp a
 obtain⟨h2,e2⟩:=aag.mp b
 exact(List.getElem_inj hN).mp (e1.trans e2.symm)
theorem oR {M:Model}{A:Around}{E:Value->Shared->Prop}{i:Nat}{x:Str}{v:V}{u:Value}{Q:Unit->Shared->Prop}(I:Inv X pins σ H s)(hN:X.N.Nodup)(hi:X.N[i]?=some x)(hx:Loc X.env.scope x)(r:RelV v u)(h:∀ s',Inv X pins (σ.set i (some v)) H s'->(∃ a,abp a s.heap s'.heap/\(a=X.env.locals\/X.env.cells.lookup x=some a))->Q () s')(hf:X.fn x=true\/X.env.scope.names.lookup x=some .local:=by first | exact .inl rfl | exact .inr rfl | assumption):wpAny M A (storeName X.env x u) Q E s:=by
 obtain⟨m,hn,hl⟩:=id I.loc
 have XB:(X.env.scope.kind == .class || (X.env.scope.kind == .module && X.env.locals != X.env.globals))=false:=by rw[I.ok.kind];rfl
 have hiσ:i < σ.length:=by rw[I.len];exact(aag.mp hi).1
 have Cq:=I.Cq
 have tracked:∀ {a:Addr} {h':Heap},(∃ o,s.heap.get? a=some o/\H a=none)->abp a s.heap h'->qH X.prog X.w H h':=fun {a h'} ha hs b ob e=>by
   obtain⟨_,_,HF⟩:=ha
   refine(I.bh b ob e).yK (fun c w' hc q=>(hs.2 c ?_).trans q) (fun _ q=>q) (fun _ _ q=>q) .refl
   rintro rfl
   rcases hc with rfl | hc | hc
   . rw[HF] at e;cases e
   . rw[HF] at hc;cases hc
   . rw[HF] at hc;exact hc
 rcases hx with hk | hk
 . refine wpAny_storeName_local hk hn (fun h' Tp hs=>?_) XB
   obtain⟨oL,_,_,hoL,_⟩:=id hn
   refine h _ ⟨I.ok,I.os,I.bare,⟨fun b o e n hb hx=>?_,fun b o e n hb hx=>?_,I.base.free,fun b o e hx=>?_,I.base.AA,I.base.yM,I.base.AB⟩,⟨_,Tp,fun j y v' e1 e2 e3=>?_⟩,fun y c e=>?_,I.free,I.pV,fun p hp=>?_,tracked ⟨oL,hoL,I.free⟩ hs,by simpa using I.len⟩ ⟨_,hs,.inl rfl⟩
   . exact(hs.2 b (aat (aao (aal e) I.ok.above))).trans (I.base.keep b o e n hb hx)
   . obtain⟨sl,e1⟩:=I.base.slot b o e n hb hx
     exact⟨sl,(hs.2 b (aat (aao (aal e) I.ok.above))).trans e1⟩
   . obtain⟨o',e1⟩:=I.base.there b o e hx
     exact⟨o',(hs.2 b (aat (aao (aal e) I.ok.above))).trans e1⟩
   . by_cases hj:j=i
     . subst hj
       rw[hi] at e1;cases e1
       rw[aah hiσ] at e2
       cases e2
       exact⟨u,r,.inl ⟨hk,by simp⟩⟩
     . rw[aai (Ne.symm hj)] at e2
       obtain⟨u',r',q⟩:=hl j y v' e1 e2 e3
       refine⟨u',r',?_⟩
       rcases q with⟨k,e⟩ | ⟨k,c,e,z⟩
       . refine .inl ⟨k,?_⟩
         have:y≠x:=fun e=>hj (AF hN e1 (e ▸ hi))
         simp[this,e]
       . exact .inr ⟨k,c,e,z.sameBut hs (Cq y c e)⟩
   . obtain⟨w',z⟩:=I.cell y c e
     exact⟨w',z.sameBut hs (Cq y c e)⟩
   . obtain⟨e,n,ne,nf,d⟩:=I.pin p hp
     exact⟨(hs.2 p.1 ne).trans e,n,ne,nf,d⟩
 . have XC:X.fn x=true:=by
     rcases hf with z | z
     . exact z
     . rw[z] at hk;cases hk
   obtain⟨c,hc⟩:=I.ok.has x (.inl hk)
   obtain⟨w',z⟩:=I.cell x c hc
   refine wpAny_storeName_cell I.ok.kind hk hc z (fun h' Cr hs=>?_)
   obtain⟨oc,D4,XD⟩:=id z
   refine h { s with heap:=h'} ⟨I.ok,I.os,I.bare,⟨fun b o e n hb hx=>?_,fun b o e n hb hx=>?_,I.base.free,fun b o e hx=>?_,I.base.AA,I.base.yM,I.base.AB⟩,⟨m,hn.sameBut hs (Ne.symm (Cq x c hc)),fun j y v' e1 e2 e3=>?_⟩,fun y c' e=>?_,I.free,I.pV,fun p hp=>?_,tracked ⟨oc,D4,I.pV x c hc⟩ hs,by simpa using I.len⟩ ⟨c,hs,.inr hc⟩
   . exact(hs.2 b (aat (aao (aal e) (I.ok.Tn x c XC hc)))).trans (I.base.keep b o e n hb hx)
   . obtain⟨sl,e1⟩:=I.base.slot b o e n hb hx
     exact⟨sl,(hs.2 b (aat (aao (aal e) (I.ok.Tn x c XC hc)))).trans e1⟩
   . obtain⟨o',e1⟩:=I.base.there b o e hx
     exact⟨o',(hs.2 b (aat (aao (aal e) (I.ok.Tn x c XC hc)))).trans e1⟩
   . by_cases hj:j=i
     . subst hj
       rw[hi] at e1;cases e1
       rw[aah hiσ] at e2
       cases e2
       exact⟨u,r,.inr ⟨.inl hk,c,hc,Cr⟩⟩
     . rw[aai (Ne.symm hj)] at e2
       obtain⟨u',r',q⟩:=hl j y v' e1 e2 e3
       refine⟨u',r',?_⟩
       rcases q with q | ⟨k,c',e,z'⟩
       . exact .inl q
       . refine .inr ⟨k,c',e,z'.sameBut hs ?_⟩
         rintro rfl
         exact hj (AF hN e1 (I.ok.inj _ _ _ e hc ▸ hi))
   . by_cases TZ:c'=c
     . subst TZ;exact⟨_,Cr⟩
     . obtain⟨w2,z2⟩:=I.cell y c' e
       exact⟨w2,z2.sameBut hs TZ⟩
   . obtain⟨e,n,ne,nf,d⟩:=I.pin p hp
     refine⟨(hs.2 p.1 ?_).trans e,n,ne,nf,d⟩
     intro q
     rw[q,D4] at e
     have q':oc=p.2:=Option.some.inj e
     exact d w' (by rw[<- q'];exact XD)
theorem qI {M:Model}{A:Around}{E:Value->Shared->Prop}{i:Nat}{x:Str}{v:V}{u:Value}{Q:Unit->Shared->Prop}(I:Inv X pins σ H s)(hN:X.N.Nodup)(hi:X.N[i]?=some x)(hx:Loc X.env.scope x)(r:RelV v u)(h:∀ s',Inv X pins (σ.set i (some v)) H s'->Q () s')(hf:X.fn x=true\/X.env.scope.names.lookup x=some .local:=by first | exact .inl rfl | exact .inr rfl | assumption):wpAny M A (storeName X.env x u) Q E s:=
 oR I hN hi hx r (fun s' I' _=>h s' I') hf
theorem Inv.HG {s':Shared}{ch:List Addr}(I:Inv X pins σ H s)(ho:s'.os=s.os)(u:Un (HC X.stack) ch H H' s.heap s'.heap)(bh:qH X.prog X.w H' s'.heap)(hg:AllBare s'.gens)(As:∀ b∈ch,(b∈X.ex\/X.s₀.heap.objs.size<=b)/\b≠X.env.locals/\(∀ x c,X.env.cells.lookup x=some c->c≠b)/\∀ p∈X.pn ++ pins,p.1≠b):Inv X pins σ H' s':=by
 obtain⟨h',g',d',t',o'⟩:=s'
 have e:o'=s.os:=ho
 subst e
 exact I.call (g':=g') (t':=t') (d':=d') u bh hg As
end
abbrev XK:=Value->Option Addr->Hp->Prop
noncomputable abbrev St:=List (Option V)
abbrev VK:=V->Hp->Prop
abbrev TE:=St->Hp->VK->Prop
abbrev TT:=St->Hp->(Bool->Hp->Prop)->Prop
abbrev TA:=St->Hp->(List V->Hp->Prop)->Prop
structure Ends where
 nx:St->Hp->Prop
 rt:VK
 bk:St->Hp->Prop:=fun _ _=>False
 ct:St->Hp->Prop:=fun _ _=>False
abbrev TS:=Ends->St->Hp->Prop
def EP (X:Cx)(pins:List (Addr×Obj))(σ:St)(Q:VK)(u:Value)(s':Shared):Prop:=∃ v H',Inv X pins σ H' s'/\RelV v u/\Q v H'
def TP (X:Cx)(pins:List (Addr×Obj))(σ:St)(Q:Bool->Hp->Prop)(b:Bool)(s':Shared):Prop:=∃ H',Inv X pins σ H' s'/\Q b H'
def AP (X:Cx)(pins:List (Addr×Obj))(σ:St)(Q:List V->Hp->Prop)(us:List Value)(s':Shared):Prop:=∃ vs H',Inv X pins σ H' s'/\Vals vs us/\Q vs H'
def SP (X:Cx)(pins:List (Addr×Obj))(D:Ends)(f:Flow)(s':Shared):Prop:=
 match f with
 | .next=>∃ σ' H',Inv X pins σ' H' s'/\D.nx σ' H'
 | .brk=>∃ σ' H',Inv X pins σ' H' s'/\D.bk σ' H'
 | .cont=>∃ σ' H',Inv X pins σ' H' s'/\D.ct σ' H'
 | .ret u=>∃ v σ' H',Inv X pins σ' H' s'/\RelV v u/\D.rt v H'
def PE (X:Cx)(e:Expr)(t:TE):Prop:=
 ∀ (pins:List (Addr×Obj)) (s:Shared) (σ:St) (H:Hp) (Q:VK),Inv X pins σ H s->t σ H Q->wpAny (model X.prog X.w) X.A (eval e X.env) (EP X pins σ Q) X.xe s
def PT (X:Cx)(e:Expr)(t:TT):Prop:=
 ∀ (pins:List (Addr×Obj)) (s:Shared) (σ:St) (H:Hp) (Q:Bool->Hp->Prop),Inv X pins σ H s->t σ H Q->wpAny (model X.prog X.w) X.A (isTrue e X.env (eval e X.env)) (TP X pins σ Q) X.xe s
def PW (X:Cx)(e:Expr)(t:TT):Prop:=
 ∀ (whole:Sem Value) (pins:List (Addr×Obj)) (s:Shared) (σ:St) (H:Hp) (Q:Bool->Hp->Prop),Inv X pins σ H s->t σ H Q->wpAny (model X.prog X.w) X.A (isTrue e X.env whole) (TP X pins σ Q) X.xe s
theorem PW.pt {X:Cx}{e:Expr}{t:TT}(h:PW X e t):PT X e t:=h _
def PA (X:Cx)(es:List Expr)(t:TA):Prop:=
 ∀ (pos:Pos) (pins:List (Addr×Obj)) (s:Shared) (σ:St) (H:Hp) (Q:List V->Hp->Prop),Inv X pins σ H s->t σ H Q->wpAny (model X.prog X.w) X.A (spliced (backTo pos (starEach es X.env))) (AP X pins σ Q) X.xe s
def PS (X:Cx)(st:Stmt)(t:TS):Prop:=
 ∀ (pins:List (Addr×Obj)) (s:Shared) (σ:St) (H:Hp) (D:Ends),Inv X pins σ H s->t D σ H->wpAny (model X.prog X.w) X.A (exec st X.env) (SP X pins D) X.xe s
def Cy (X:Cx)(st:List Stmt)(t:TS):Prop:=
 ∀ (pins:List (Addr×Obj)) (s:Shared) (σ:St) (H:Hp) (D:Ends),Inv X pins σ H s->t D σ H->wpAny (model X.prog X.w) X.A (execs st X.env) (SP X pins D) X.xe s
theorem b7 {α:Type}{t:Sem α}{Q Q':α->Shared->Prop}{M:Model}{A:Around}{E:Value->Shared->Prop}{s:Shared}(h:wpAny M A t Q E s)(hQ:∀ a s,Q a s->Q' a s):wpAny M A t Q' E s:=wpAny_mono h hQ fun _ _ x=>x
section
variable {X:Cx}
def XE (i:Nat):TE:=fun σ H Q=>∃ v,σ[i]?=some (some v)/\Q v H
def tC (v:V):TE:=fun _ H Q=>Q v H
theorem jv {i:Nat}{x:Str}{pos:Pos}(hN:X.N[i]?=some x)(hv:vn X.env.scope x)(hd:(x == ("__debug__":Str))=false:=by decide)(ml:(x == ("__classdict__":Str))=false:=by decide):PE X (.Name x pos) (XE i):=by
 intro pins s σ H Q I h
 obtain⟨v,e,h⟩:=h
 obtain⟨m,hn,hl⟩:=I.loc
 obtain⟨u,r,l⟩:=hl i x v hN e hv
 have fin:EP X pins σ Q u s:=⟨v,H,I,r,h⟩
 rcases l with⟨hk,hm⟩ | ⟨hk,c,hc,Ou⟩
 . exact wpAny_Name (wpAny_loadName_local I.ok.kind hk hn hm fin) hd
 . rcases hk with hk | hk
   . exact wpAny_Name (wpAny_loadName_cell I.ok.kind hk hc Ou fin) hd
   . exact wpAny_Name (wpAny_loadName_free I.ok.kind hk hc Ou fin ml) hd
theorem PR {i j pos}:PE X (.Constant (.int i) j pos) (tC (.int i)):=fun _ _ _ H _ I h=>wpAny_Constant_int ⟨.int i,H,I.tok _,⟨_,rfl⟩,h⟩
theorem PU {x j pos}:PE X (.Constant (.str x) j pos) (tC (.str x)):=fun _ _ _ H _ I h=>Calls.Constant_str ⟨.str x,H,I.tok _,⟨_,rfl⟩,h⟩
def Gl (X:Cx)(x:Str):Prop:=X.env.kindOf x=some .globalImplicit
theorem uC {E:Value->Shared->Prop}{pins:List (Addr×Obj)}{s:Shared}{σ:St}{H:Hp}{x:Str}{u:Value}{pos:Pos}{Q:Value->Shared->Prop}(I:Inv X pins σ H s)(hg:Gl X x)(hm:X.mg x=some u)(h:Q u s)(hd:(x == ("__debug__":Str))=false:=by decide):wpAny (model X.prog X.w) X.A (eval (.Name x pos) X.env) Q E s:=
 Calls.Name_function_global I.ok.kind hg (Calls.loadGlobal_global (by rw[I.ok.glob];exact I.mod.glob.keeps I.bk) hm h) hd
theorem qf {E:Value->Shared->Prop}{pins:List (Addr×Obj)}{s:Shared}{σ:St}{H:Hp}{x:Str}{u:Value}{pos:Pos}{Q:Value->Shared->Prop}(I:Inv X pins σ H s)(hg:Gl X x)(hm:X.mg x=none)(hv:bootBuiltins x=some u)(h:Q u s)(hn:x≠"__name__":=by decide)(hd:(x == ("__debug__":Str))=false:=by decide):wpAny (model X.prog X.w) X.A (eval (.Name x pos) X.env) Q E s:=by
 obtain⟨mb,h1,h2⟩:=I.mod.blt
 exact Calls.Name_function_global I.ok.kind hg (Calls.loadGlobal_builtin (by rw[I.ok.glob];exact I.mod.glob.keeps I.bk) hm (by rw[I.ok.blt];exact h1.keeps I.bk) ((h2 x hn).trans hv) h) hd
theorem LX {x:Str}{v:V}{u:Value}{pos:Pos}(hg:Gl X x)(hm:X.mg x=some u)(r:RelV v u)(hd:(x == ("__debug__":Str))=false:=by decide):PE X (.Name x pos) (tC v):=
 fun _ _ _ H _ I h=>uC I hg hm ⟨v,H,I,r,h⟩ hd
theorem LY {x:Str}{v:V}{u:Value}{pos:Pos}(hg:Gl X x)(hm:X.mg x=none)(hv:bootBuiltins x=some u)(r:RelV v u)(hn:x≠"__name__":=by decide)(hd:(x == ("__debug__":Str))=false:=by decide):PE X (.Name x pos) (tC v):=
 fun _ _ _ H _ I h=>qf I hg hm hv ⟨v,H,I,r,h⟩ hn hd
variable {a b:Expr}{ta tb:TE}{pos:Pos}
def PC (X:Cx)(op:CmpOp)(a b:Expr)(t:TE):Prop:=
 ∀ (pins:List (Addr×Obj)) (s:Shared) (σ:St) (H:Hp) (Q:VK),Inv X pins σ H s->t σ H Q ->
   wpAny (model X.prog X.w) X.A (eval a X.env) (fun v s₁=>wpAny (model X.prog X.w) X.A (eval b X.env) (fun u s₂=>wpAny (model X.prog X.w) X.A (compareOp op v u) (EP X pins σ Q) X.xe s₂) X.xe s₁) X.xe s
def tB (t:TE):TT:=fun σ H Q=>t σ H fun x H1=>∃ c,x=.bl c/\Q c H1
theorem PV {op:CmpOp}{t:TE}(h:PC X op a b t)(h1:behindInMarks op b=false:=by first | exact T1 _ (by decide) (by decide) | rfl):PT X (.Compare a [op] [b] pos) (tB t):=by
 intro pins s σ H Q I hw
 refine wpAny_isTrue_Compare1 (b7 (h pins s σ H _ I hw) fun v s1 h1=>b7 h1 fun u s2 h2=>b7 h2 fun c s3 ⟨x,H1,I1,r1,q1⟩=>?_) h1
 obtain⟨d,rfl,q⟩:=q1
 cases r1
 exact wpAny_truthy_bool ⟨H1,I1,q⟩
theorem PX {e:Expr}{t:TE}(h:PE X e t)(he:∀ whole,isTrue e X.env whole=(do let v <- whole;standAt e.pos;holding [v] (truthy v)):=by intro _;rfl):PT X e (tB t):=by
 intro pins s σ H Q I hw
 refine isTrue_plain (b7 (h pins s σ H _ I hw) fun v s1 ⟨x,H1,I1,r1,q1⟩=>?_) (he _)
 obtain⟨d,rfl,q⟩:=q1
 cases r1
 exact wpAny_truthy_bool ⟨H1,I1,q⟩
variable {tA WM:TT}{rest:List Expr}
def XG (t u:TT):TT:=fun σ H Q=>t σ H fun c H1=>if c=true then u σ H1 Q else Q false H1
def tOr (t u:TT):TT:=fun σ H Q=>t σ H fun c H1=>if c=true then Q true H1 else u σ H1 Q
def XH (t:TT):TT:=fun σ H Q=>t σ H fun c H1=>Q (!c) H1
theorem pw_and1 (ha:PT X a tA):PW X (.BoolOp .And [a] pos) tA:=by
 intro wh pins s σ H Q I h
 refine isTrue_and (b7 (ha pins s σ H Q I h) fun c s1 e=>?_)
 cases c with
 | true=>exact isTrue_and_nil e
 | false=>exact e
theorem pw_or1 (ha:PT X a tA):PW X (.BoolOp .Or [a] pos) tA:=by
 intro wh pins s σ H Q I h
 refine isTrue_or (b7 (ha pins s σ H Q I h) fun c s1 e=>?_)
 cases c with
 | false=>exact isTrue_or_nil e
 | true=>exact e
theorem pw_and (ha:PT X a tA)(hb:PW X (.BoolOp .And (b::rest) pos) WM):PW X (.BoolOp .And (a::b::rest) pos) (XG tA WM):=by
 intro wh pins s σ H Q I h
 refine isTrue_and (b7 (ha pins s σ H _ I h) fun c s1 ⟨H1,I1,q1⟩=>?_)
 cases c with
 | true=>exact hb wh pins s1 σ H1 Q I1 q1
 | false=>exact⟨H1,I1,q1⟩
theorem pw_or (ha:PT X a tA)(hb:PW X (.BoolOp .Or (b::rest) pos) WM):PW X (.BoolOp .Or (a::b::rest) pos) (tOr tA WM):=by
 intro wh pins s σ H Q I h
 refine isTrue_or (b7 (ha pins s σ H _ I h) fun c s1 ⟨H1,I1,q1⟩=>?_)
 cases c with
 | true=>exact⟨H1,I1,q1⟩
 | false=>exact hb wh pins s1 σ H1 Q I1 q1
theorem PY (ha:PT X a tA):PT X (.UnaryOp .Not a pos) (XH tA):=by
 intro pins s σ H Q I h
 exact isTrue_not (ha pins s σ H (fun c H1=>Q (!c) H1) I h)
def T2 (ta tb:TE):TE:=fun σ H Q=>ta σ H fun x H1=>∃ c,x=.bl c/\if c=true then tb σ H1 Q else Q (.bl false) H1
def T3 (ta:TE):TE:=fun σ H Q=>ta σ H fun x H1=>∃ c,x=.bl c/\Q (.bl (!c)) H1
theorem PZ {op}{t:TE}(h:PE X a t):PE X (.BoolOp op [a] pos) t:=fun pins s σ H Q I hw=>BoolOp_one (h pins s σ H Q I hw)
theorem HH (ha:PE X a ta)(hb:PE X (.BoolOp .And (b::rest) pos) tb):PE X (.BoolOp .And (a::b::rest) pos) (T2 ta tb):=by
 intro pins s σ H Q I h
 refine BoolOp_and (b7 (ha pins s σ H _ I h) fun v s1 ⟨x,H1,I1,r1,q1⟩=>?_)
 obtain⟨c,rfl,q1⟩:=q1
 cases r1
 refine wpAny_truthy_bool ?_
 cases c with
 | true=>exact hb pins s1 σ H1 Q I1 q1
 | false=>exact⟨.bl false,H1,I1,rfl,q1⟩
theorem P0 (ha:PE X a ta):PE X (.UnaryOp .Not a pos) (T3 ta):=by
 intro pins s σ H Q I h
 refine UnaryOp_ (b7 (ha pins s σ H _ I h) fun v s1 ⟨x,H1,I1,r1,q1⟩=>?_)
 obtain⟨c,rfl,q1⟩:=q1
 cases r1
 exact not_of (wpAny_truthy_bool ⟨.bl (!c),H1,I1,rfl,q1⟩)
def tIf (t:TT)(ta tb:TE):TE:=fun σ H Q=>t σ H fun c H1=>if c=true then ta σ H1 Q else tb σ H1 Q
theorem AG {c:Expr}(hc:PT X c tA)(ha:PE X a ta)(hb:PE X b tb):PE X (.IfExp c a b pos) (tIf tA ta tb):=by
 intro pins s σ H Q I h
 refine wpAny_IfExp (b7 (hc pins s σ H _ I h) fun d s1 ⟨H1,I1,q1⟩=>?_)
 cases d with
 | true=>exact ha pins s1 σ H1 Q I1 q1
 | false=>exact hb pins s1 σ H1 Q I1 q1
end
def mP (K:PySem.W.Frag)(H:Hp)(a:Addr)(xs:List V):Prop:=
 Rd H a (.lst xs) \/
   ∃ (o:Obj) (aE:Array Value) (n:Nat),K.lookup a=some o/\o.cls=.type "list"/\o.dict=none/\o.data=.seq aE n/\aE.size<=sizeLine/\Vals xs aE.toList
abbrev vp (K:PySem.W.Frag)(H:Hp)(a:Addr)(xs:List V):Prop:=TupAt K H a xs
noncomputable def XI:Value->Option V
 | .none=>some .cW
 | .bool b=>some (.bl b)
 | .int i _=>some (.int i)
 | .str x _=>some (.str x)
 | .bytes b _=>some (.Hn b)
 | .float b _=>some (.PK b)
 | .ref a=>some (.ref a)
 | .type n=>some (.ty n)
 | _=>none
theorem RelV.abs {x:V}{u:Value}(r:RelV x u):XI u=some x:=by
 cases x with
 | cW=>cases r;rfl
 | bl _=>cases r;rfl
 | int _=>obtain⟨t,rfl⟩:=r;rfl
 | str _=>obtain⟨t,rfl⟩:=r;rfl
 | Hn _=>obtain⟨t,rfl⟩:=r;rfl
 | PK _=>obtain⟨t,rfl⟩:=r;rfl
 | ref _=>cases r;rfl
 | ty _=>cases r;rfl
theorem RelV.inj {x y:V}{u:Value}(r:RelV x u)(q:RelV y u):x=y:=Option.some.inj (r.abs.symm.trans q.abs)
theorem Vals.inj:∀ {xs ys:List V} {us:List Value},Vals xs us->Vals ys us->xs=ys
 | _,_,_,.nil,.nil=>rfl
 | _,_,_,.cons r t,.cons r' t'=>by rw[r.inj r',Vals.inj t t']
section
variable {X:Cx}{pins:List (Addr×Obj)}{σ:St}{H:Hp}{s:Shared}{a:Addr}{xs ys:List V}
theorem mP.of {K:W.Frag}(h:H a=some (.lst xs)):mP K H a xs:=.inl (.inl h)
theorem vp.of {K:W.Frag}(h:H a=some (.tup xs)):vp K H a xs:=.inl h
theorem Inv.list (I:Inv X pins σ H s)(h:mP X.K H a xs):∃ aE:List Value,Vals xs aE/\PlainL s.heap a aE.toArray/\xs.length<=sizeLine:=by
 rcases h with h | ⟨o,aE,n,hk,hc,hd,hs,hz,r⟩
 . obtain⟨z,aE,n,r,e⟩:=h.ok I.bh
   exact⟨aE,r,⟨_,n,e,rfl,rfl,rfl⟩,z⟩
 . refine⟨aE.toList,r,⟨o,n,I.mR a o hk,hc,hd,by simpa using hs⟩,?_⟩
   have e:=r.length
   simp only[abn] at e
   omega
theorem Inv.tuple (I:Inv X pins σ H s)(h:vp X.K H a xs):∃ aE:List Value,Vals xs aE/\IsTup s.heap a aE.toArray/\xs.length<=sizeLine:=by
 rcases h with h | ⟨o,aE,n,hk,hc,hs,hz,r⟩
 . obtain⟨z,aE,r,p⟩:=(show aL X.prog X.w H s.heap a (.tup xs) from I.bh a _ h)
   exact⟨aE,r,p,z⟩
 . refine⟨aE.toList,r,⟨o,I.mR a o hk,hc,n,by simpa using hs⟩,?_⟩
   have e:=r.length
   simp only[abn] at e
   omega
theorem Inv.AH (I:Inv X pins σ H s)(h:mP X.K H a xs)(h':mP X.K H a ys):xs=ys:=by
 obtain⟨aE,r,⟨o,n,e,_,_,d⟩,_⟩:=I.list h
 obtain⟨its',r',⟨o',n',e',_,_,d'⟩,_⟩:=I.list h'
 rw[e] at e';cases e'
 rw[d] at d'
 injection d' with d1 _
 have:aE=its':=by simpa using congrArg Array.toList d1
 subst this
 exact r.inj r'
theorem Inv.F0 (I:Inv X pins σ H s)(h:vp X.K H a xs)(h':vp X.K H a ys):xs=ys:=by
 obtain⟨aE,r,⟨o,e,_,n,d⟩,_⟩:=I.tuple h
 obtain⟨its',r',⟨o',e',_,n',d'⟩,_⟩:=I.tuple h'
 rw[e] at e';cases e'
 rw[d] at d'
 injection d' with d1 _
 have:aE=its':=by simpa using congrArg Array.toList d1
 subst this
 exact r.inj r'
end
section
variable {X:Cx}{st:Stmt}{rest:List Stmt}{t u:TS}{e:Expr}{te:TE}{pos:Pos}
def T4:TS:=fun D σ H=>D.nx σ H
def XJ (t u:TS):TS:=fun D σ H=>t { D with nx:=u D} σ H
theorem LZ:Cy X [] T4:=fun _ _ σ H _ I h=>wpAny_execs_nil ⟨σ,H,I,h⟩
theorem n8 (h1:PS X st t)(h2:Cy X rest u):Cy X (st::rest) (XJ t u):=by
 intro pins s σ H D I h
 refine wpAny_execs_cons (b7 (h1 pins s σ H { D with nx:=u D} I h) fun f s1 q=>?_)
 cases f with
 | next=>
   obtain⟨σ',H',I',q⟩:=q
   exact h2 pins s1 σ' H' D I' q
 | ret v=>exact q
 | brk=>exact q
 | cont=>exact q
theorem mS (h1:PS X st t):Cy X [st] t:=by
 intro pins s σ H D I h
 refine wpAny_execs_cons (b7 (h1 pins s σ H D I h) fun f s1 q=>?_)
 cases f with
 | next=>exact wpAny_execs_nil q
 | ret v=>exact q
 | brk=>exact q
 | cont=>exact q
theorem Inv.quiet {pins:List (Addr×Obj)}{σ:St}{H:Hp}{s:Shared}(I:Inv X pins σ H s):interactive X.env=false:=by simp[interactive,I.ok.kind]
def T5 (te:TE):TS:=fun D σ H=>te σ H fun _ H1=>D.nx σ H1
theorem lR (he:PE X e te)(hs:swapsWith e none pos.line X.env=pure false:=by rfl):PS X (.Expr e pos) (T5 te):=by
 intro pins s σ H D I h
 exact wpAny_Expr_any (b7 (he pins s σ H _ I h) fun v s1 ⟨x,H1,I1,r1,q1⟩=>⟨σ,H1,I1,q1⟩) I.quiet hs
def XM (te:TE):TS:=fun D σ H=>te σ H D.rt
theorem Cz (he:PE X e te):PS X (.Return (some e) pos) (XM te):=by
 intro pins s σ H D I h
 exact wpAny_Return_some (b7 (he pins s σ H _ I h) fun v s1 ⟨x,H1,I1,r1,q1⟩=>⟨x,σ,H1,I1,r1,q1⟩)
def XO (c:TT)(t u:TS):TS:=fun D σ H=>c σ H fun b H1=>if b=true then t D σ H1 else u D σ H1
theorem Ov {c:Expr}{a b:List Stmt}{tc:TT}(hc:PT X c tc)(ha:Cy X a t)(hb:Cy X b u):PS X (.If c a b pos) (XO tc t u):=by
 intro pins s σ H D I h
 refine wpAny_If (b7 (hc pins s σ H _ I h) fun d s1 ⟨H1,I1,q1⟩=>?_)
 cases d with
 | true=>exact ha pins s1 σ H1 D I1 q1
 | false=>exact hb pins s1 σ H1 D I1 q1
def P1:TS:=fun _ _ _=>False
theorem rW {sts:List Stmt}:Cy X sts P1:=fun _ _ _ _ _ _ h=>h.elim
end
abbrev TG:=V->St->Hp->(St->Hp->Prop)->Prop
abbrev P2:=List V->St->Hp->(St->Hp->Prop)->Prop
def PG (X:Cx)(target:Expr)(t:TG):Prop:=
 ∀ (pins:List (Addr×Obj)) (s:Shared) (σ:St) (H:Hp) (v:V) (u:Value) (Q:St->Hp->Prop),Inv X pins σ H s->RelV v u->t v σ H Q ->
   wpAny (model X.prog X.w) X.A (assign target X.env u) (fun _ s'=>∃ σ' H',Inv X pins σ' H' s'/\Q σ' H') X.xe s
def WN (X:Cx)(ts:List Expr)(t:P2):Prop:=
 ∀ (pins:List (Addr×Obj)) (s:Shared) (σ:St) (H:Hp) (vs:List V) (us:List Value) (Q:St->Hp->Prop),Inv X pins σ H s->Vals vs us->t vs σ H Q ->
   wpAny (model X.prog X.w) X.A (assignInOrder ((assignEach ts X.env).map (·.2)) us) (fun _ s'=>∃ σ' H',Inv X pins σ' H' s'/\Q σ' H') X.xe s
abbrev P4:=V->V->V->Hp->(Hp->Prop)->Prop
def T6 (X:Cx)(t:P4):Prop:=
 ∀ (pins:List (Addr×Obj)) (s:Shared) (σ:St) (H:Hp) (o i v:V) (ov iv u:Value) (Q:Hp->Prop),Inv X pins σ H s->RelV o ov->RelV i iv->RelV v u->t o i v H Q ->
   wpAny (model X.prog X.w) X.A (setItem ov iv u) (fun _ s'=>∃ H',Inv X pins σ H' s'/\Q H') X.xe s
section
variable {X:Cx}{pos:Pos}
def pW (i:Nat):TG:=fun v σ H Q=>Q (σ.set i (some v)) H
theorem bT {i:Nat}{x:Str}(hN:X.N.Nodup)(hi:X.N[i]?=some x)(hx:Loc X.env.scope x)(hf:X.fn x=true\/X.env.scope.names.lookup x=some .local:=by first | exact .inl rfl | exact .inr rfl | assumption):PG X (.Name x pos) (pW i):=by
 intro pins s σ H v u Q I r h
 exact wpAny_assign_Name (qI I hN hi hx r (fun s' I'=>⟨_,H,I',h⟩) hf)
def P5:P2:=fun vs σ H Q=>vs=[]/\Q σ H
def AI (t:TG)(u:P2):P2:=fun vs σ H Q=>∃ v r,vs=v::r/\t v σ H fun σ' H'=>u r σ' H' Q
theorem qJ:WN X [] P5:=by
 intro pins s σ H vs us Q I r h
 obtain⟨e,h⟩:=h
 subst e
 cases r
 exact assignInOrder_nil ⟨σ,H,I,h⟩
theorem fo {e:Expr}{es:List Expr}{t:TG}{u:P2}(h1:PG X e t)(h2:WN X es u)(hs:(assignEach (e::es) X.env).map (·.2)=assign e X.env::(assignEach es X.env).map (·.2):=by rfl):WN X (e::es) (AI t u):=by
 intro pins s σ H vs us Q I r h
 obtain⟨v,vr,e1,h⟩:=h
 subst e1
 cases r with
 | cons r rr=>
   rw[hs]
   refine assignInOrder_cons (b7 (h1 pins s σ H _ _ _ I r h) fun _ s1 ⟨σ1,H1,I1,q1⟩=>?_)
   exact h2 pins s1 σ1 H1 _ _ Q I1 rr q1
def P6 (K:W.Frag)(n:Nat)(t:P2):TG:=fun v σ H Q=>∃ a xs,v=.ref a/\vp K H a xs/\xs.length=n/\t xs σ H Q
theorem vq {es:List Expr}{k:Nat}{t:P2}{n:Nat}(hc:X.calm=true)(h:WN X es t)(hn:(assignEach es X.env).length=n:=by rfl)(nL:(assignEach es X.env).findIdx? (·.1)=none:=by rfl):PG X (.Tuple es k pos) (P6 X.K n t):=by
 intro pins s σ H v u Q I r hw
 obtain⟨a,xs,e1,hq,hl,hw⟩:=hw
 subst e1
 cases r
 obtain⟨aE,rv,ht,hz⟩:=I.tuple hq
 refine assign_Tuple_tuple (I.ok.hd hc) ht (by simp[hn,<- hl,rv.length]) nL fun h' hx=>?_
 have I1:Inv X pins σ H { s with heap:=h'}:=I.kept (t':=s.toks) fun b o e=>hx b o (aat (aal e)) e
 exact h pins _ σ H xs _ Q I1 (by simpa using rv) hw
def XQ (to ti:TE)(t:P4):TG:=fun v σ H Q=>to σ H fun o H1=>ti σ H1 fun i H2=>t o i v H2 fun H3=>Q σ H3
theorem P7 {o i:Expr}{to ti:TE}{t:P4}(ho:PE X o to)(hi:PE X i ti)(hs:T6 X t)
   (ha:∀ v,assign (.Subscript o i pos) X.env v=(do
     let ov <- holding [v] (eval o X.env)
     let iv <- holding [v,ov] (eval i X.env)
     standAt pos
     holding [v,ov,iv] (setItem ov iv v)
     release [v,ov,iv] []):=by intro _;rfl):PG X (.Subscript o i pos) (XQ to ti t):=by
 intro pins s σ H v u Q I r h
 rw[ha]
 refine wpAny_bind (wpAny_holding (b7 (ho pins s σ H _ I h) fun ov s1 ⟨x,H1,I1,r1,q1⟩=>?_))
 refine wpAny_bind (wpAny_holding (b7 (hi pins s1 σ H1 _ I1 q1) fun iv s2 ⟨y,H2,I2,r2,q2⟩=>?_))
 refine wpAny_bind (wpAny_standAt (wpAny_bind (wpAny_holding (b7 (hs pins s2 σ H2 x y v ov iv u _ I2 r1 r2 r q2) fun _ s3 ⟨H3,I3,q3⟩=>?_))))
 exact wpAny_release ⟨σ,H3,I3,q3⟩
def T7 (te:TE)(g:TG):TS:=fun D σ H=>te σ H fun x H1=>g x σ H1 D.nx
theorem CA {tg e:Expr}{te:TE}{g:TG}(he:PE X e te)(hg:PG X tg g)(hs:swapsWithSole [tg] e pos.line X.env=pure false:=by rfl)(hw:swappedStores [tg] e X.env=pure none:=by rfl)(h1:(assignEach [tg] X.env).map (·.2)=[assign tg X.env]:=by rfl):PS X (.Assign [tg] e pos) (T7 te g):=by
 intro pins s σ H D I h
 refine wpAny_Assign_stores (b7 (he pins s σ H _ I h) fun v s1 ⟨x,H1,I1,r1,q1⟩=>?_) hs hw
 rw[h1]
 exact b7 (hg pins s1 σ H1 x v _ I1 r1 q1) fun _ s2 q=>q
theorem CB {i:Nat}{x:Str}{e:Expr}{te:TE}{pos':Pos}(hN:X.N.Nodup)(hi:X.N[i]?=some x)(hx:Loc X.env.scope x)(he:PE X e te)(hs:swapsWith e (some (.Name x pos')) pos.line X.env=pure false:=by rfl)(hf:X.fn x=true\/X.env.scope.names.lookup x=some .local:=by first | exact .inl rfl | exact .inr rfl | assumption):PS X (.Assign [.Name x pos'] e pos) (T7 te (pW i)):=by
 intro pins s σ H D I h
 refine wpAny_Assign_Name (b7 (he pins s σ H _ I h) fun v s1 ⟨y,H1,I1,r1,q1⟩=>?_) hs
 exact qI I1 hN hi hx r1 (fun s2 I2=>⟨_,H1,I2,q1⟩) hf
def XR (i j:Nat)(ta:TA):TS:=fun D σ H=>ta σ H fun vs H1=>∃ v w,vs=[v,w]/\D.nx ((σ.set i (some v)).set j (some w)) H1
theorem P8 {i j:Nat}{x y:Str}{a b:Expr}{ta:TA}{px py pt:Pos}{kt k2 P9}(hc:X.calm=true)(hN:X.N.Nodup)(hi:X.N[i]?=some x)(hj:X.N[j]?=some y)(T8:i≠j)(hx:X.env.scope.names.lookup x=some .local)(hy:X.env.scope.names.lookup y=some .local)(ha:PA X [a,b] ta)(hw:swappedStores [.Tuple [.Name x px,.Name y py] kt pt] (.Tuple [a,b] k2 P9) X.env=pure (some [x,y]))(hs:swapsWithSole [.Tuple [.Name x px,.Name y py] kt pt] (.Tuple [a,b] k2 P9) pos.line X.env=pure false:=by rfl):PS X (.Assign [.Tuple [.Name x px,.Name y py] kt pt] (.Tuple [a,b] k2 P9) pos) (XR i j ta):=by
 intro pins s σ H D I h
 rw[exec_Assign_arm]
 refine wpAny_bind (wpAny_standAt ?_)
 rw[hs]
 refine wpAny_bind (wpAny_pure ?_)
 rw[if_neg (by decide)]
 refine wpAny_bind (Tuple_ (b7 (ha _ pins s σ H _ I h) fun us s1 ⟨vs,H1,I1,r1,q1⟩=>?_))
 obtain⟨v,w,e1,q1⟩:=q1
 subst e1
 obtain⟨u1,u2,rfl,rv,HI⟩:∃ u1 u2,us=[u1,u2]/\RelV v u1/\RelV w u2:=by
   cases r1 with
   | cons p q=>
     cases q with
     | cons p' q'=>
       cases q'
       exact⟨_,_,rfl,p,p'⟩
 refine wpAny_newObj_type ?_ (by show 2<=sizeLine;decide)
 have I2:Inv X pins σ H1 { s1 with heap:=s1.heap.push { cls:=.type "tuple",data:=.seq [u1,u2].toArray}}:=I1.kept (t':=s1.toks) fun b o e=>aaf _ e
 rw[hw]
 refine wpAny_bind (wpAny_pure ?_)
 show wpAny (model X.prog X.w) X.A (do rule "assign.swapped-stores";let items <- unpackItems (.ref s1.heap.objs.size) 2 none;assignInOrder [fun v=>bindName X.env y v,fun v=>bindName X.env x v] items.reverse;pure Flow.next) _ _ _
 refine wpAny_bind (wpAny_rule (wpAny_bind (unpackItems_tuple (items:=#[u1,u2]) (I.ok.hd hc) (IsTup.new s1.heap _) fun h' D5=>?_)))
 have I3:=I2.kept (h':=h') (t':=s1.toks) fun b o e=>D5 b o (aat (aal e)) e
 show wpAny _ _ (assignInOrder [fun v=>bindName X.env y v,fun v=>bindName X.env x v] [u2,u1] >>= fun _=>pure Flow.next) _ _ _
 refine wpAny_bind (assignInOrder_cons (wpAny_bindName (qI I3 hN hj (.inl hy) HI (fun s2 I4=>?_) (.inr hy))))
 refine assignInOrder_cons (wpAny_bindName (qI I4 hN hi (.inl hx) rv (fun s3 I5=>assignInOrder_nil (wpAny_pure ?_)) (.inr hx)))
 rw[List.set_comm _ _ (Ne.symm T8)] at I5
 exact⟨_,H1,I5,q1⟩
end
section
variable {X:Cx}{pos:Pos}
def Qa (c:TT)(tb:TS):TS:=fun D σ H=>∃ W:Nat->St->Hp->Prop,(∃ m,W m σ H)/\∀ m σ H,W m σ H ->
 c σ H fun b H1=>if b=true then ∃ N:St->Hp->Prop,(∀ σ' H',N σ' H'->∃ m',m' < m/\W m' σ' H')/\tb { D with nx:=N,ct:=N,bk:=D.nx} σ H1 else D.nx σ H1
theorem AJ {c:Expr}{body:List Stmt}{tc:TT}{tb:TS}(hp:PassesOwn (model X.prog X.w) X.A X.env X.xe)(hc:PT X c tc)(hb:Cy X body tb):PS X (.While c body [] pos) (Qa tc tb):=by
 intro pins s σ H D I h
 obtain⟨W,⟨m0,w0⟩,turn⟩:=h
 refine wpAny_While (codeAny_whileLoop (fun n s'=>∃ σ' H',Inv X pins σ' H' s'/\W n σ' H') ?_ m0 ⟨σ,H,I,w0⟩)
 rintro n s1 ⟨σ1,H1,I1,w1⟩
 refine wpAny_passesOwn hp (b7 (hc pins s1 σ1 H1 _ I1 (turn n σ1 H1 w1)) fun b s2 ⟨H2,I2,q2⟩=>?_)
 cases b with
 | true=>
   obtain⟨N,hN,q2⟩:=q2
   rw[if_pos rfl]
   refine wpAny_passesOwn hp (b7 (hb pins s2 σ1 H2 _ I2 q2) fun f s3 q3=>?_)
   cases f with
   | next=>
     obtain⟨σ3,H3,I3,n3⟩:=q3
     obtain⟨m',hm,w3⟩:=hN σ3 H3 n3
     exact⟨m',hm,σ3,H3,I3,w3⟩
   | cont=>
     obtain⟨σ3,H3,I3,n3⟩:=q3
     obtain⟨m',hm,w3⟩:=hN σ3 H3 n3
     exact⟨m',hm,σ3,H3,I3,w3⟩
   | brk=>exact q3
   | ret v=>exact q3
 | false=>
   rw[if_neg aap]
   exact wpAny_execs_nil ⟨σ1,H2,I2,q2⟩
end
structure It where
 go:Nat->Hp->Prop
 HJ:Nat->Hp->V->Hp->Prop
 stop:Nat->Hp->Prop
def lu (X:Cx)(pins:List (Addr×Obj))(H:Hp)(b:Addr):Prop:=
 H b=none/\b≠X.env.locals/\b ∉ X.fs/\(b∈X.ex\/X.s₀.heap.objs.size<=b)/\(∀ x c,X.env.cells.lookup x=some c->c≠b)/\∀ p∈X.pn ++ pins,p.1≠b
theorem Inv.vt {X:Cx}{pins:List (Addr×Obj)}{σ:St}{H H':Hp}{s:Shared}{b:Addr}(I:Inv X pins σ H s)(hb:s.heap.objs.size<=b)(hn:H' b=none):lu X pins H' b:=by
 refine⟨hn,abD (aao I.lt hb),I.Xz hb,.inr (aav I.sz hb),fun x c e z=>?_,fun p hp z=>?_⟩
 . obtain⟨v,q⟩:=I.cell x c e
   exact absurd (aao q.lt (by rw[z];exact hb)) (aa3 _)
 . exact absurd (aao (aal (I.pin p hp).1) (by rw[z];exact hb)) (aa3 _)
structure Turn (P:Program)(w:World)(K:W.Frag)(tg:Expr)(J:It)(fp:List Addr)(it:Addr)(tn:Nat->Heap->Prop):Prop where
 mem:it∈fp
 obj:∀ i h,tn i h->∀ b∈fp,∃ o,h.get? b=some o/\∀ v,o.data≠.cell v
 keep:∀ i h h',tn i h->(∀ b∈fp,∀ o,h.get? b=some o->h'.get? b=some o)->tn i h'
 item:∀ (X:Cx),X.prog=P->X.w=w->X.K=K->X.calm=true->∀ (i:Nat) (pins:List (Addr×Obj)) (s:Shared) (σ:St) (H:Hp) (E:Value->Shared->Prop),Inv X pins σ H s->(∀ b∈fp,lu X pins H b)->tn i s.heap->J.go i H ->
   wpAny (model P w) X.A (pyNext (.ref it)) (fun r s1=>∃ u,r=some u /\
     wpAny (model P w) X.A (letOwnedTupleGo tg (.ref it) u) (fun _ s2=>∃ x H',Inv X pins σ H' s2/\RelV x u/\J.HJ i H x H'/\tn (i+1) s2.heap/\∀ b∈fp,H' b=none) E s1) E s
 done:∀ (X:Cx),X.prog=P->X.w=w->X.K=K->X.calm=true->∀ (i:Nat) (pins:List (Addr×Obj)) (s:Shared) (σ:St) (H:Hp) (E:Value->Shared->Prop),Inv X pins σ H s->(∀ b∈fp,lu X pins H b)->tn i s.heap->J.stop i H ->
   wpAny (model P w) X.A (pyNext (.ref it)) (fun r s1=>r=none/\Inv X pins σ H s1) E s
 self:∀ (A:Around) (i:Nat) (s:Shared) (Q:Value->Shared->Prop) (E:Value->Shared->Prop),tn i s.heap->Q (.ref it) s->wpAny (model P w) A (pyIter (.ref it)) Q E s
abbrev TI:=St->Hp->(It->Hp->Prop)->Prop
def PIE (X:Cx)(pins:List (Addr×Obj))(σ:St)(tg:Expr)(R:It->Hp->Prop)(Ow:Value)(s2:Shared):Prop:=
 ∃ (it:Addr) (fp:List Addr) (tn:Nat->Heap->Prop) (J:It) (H':Hp),Ow=.ref it/\Inv X pins σ H' s2/\Turn X.prog X.w X.K tg J fp it tn/\tn 0 s2.heap/\(∀ b∈fp,lu X pins H' b)/\R J H'
def PI (X:Cx)(tg iter:Expr)(wi:TI):Prop:=
 ∀ (pins:List (Addr×Obj)) (s:Shared) (σ:St) (H:Hp) (R:It->Hp->Prop),Inv X pins σ H s->wi σ H R ->
   wpAny (model X.prog X.w) X.A (eval iter X.env) (fun v s1=>wpAny (model X.prog X.w) X.A (pyIter v) (PIE X pins σ tg R) X.xe s1) X.xe s
theorem AK {M:Model}{A:Around}{E:Value->Shared->Prop}{s:Shared}{tg:Expr}{it:Addr}{u:Value}{o:Obj}{n:String}{vs:Array Value}{Q:Unit->Shared->Prop}(ho:s.heap.get? it=some o)(hc:o.cls=.type n)(hd:o.data=.fields vs)(hn:["enumerate","zip","dict_itemiterator","dict_reverseitemiterator","odict_iterator","itertools.zip_longest","itertools.pairwise"].contains n=false)(hQ:Q () s):wpAny M A (letOwnedTupleGo tg (.ref it) u) Q E s:=by
 unfold letOwnedTupleGo
 cases tg <;> first
   | exact wpAny_pure hQ
   | (cases u <;> first
       | exact wpAny_pure hQ
       | (refine wpAny_bind (wpAny_load ho ?_)
          rw[hc,hd]
          show wpAny M A (if (["enumerate","zip","dict_itemiterator","dict_reverseitemiterator","odict_iterator","itertools.zip_longest","itertools.pairwise"].contains n && vs[0]? == some (rawInt _))=true then _ else _) Q E s
          rw[if_neg (by intro h;rw[hn,Bool.false_and] at h;cases h)]
          exact wpAny_pure hQ))
noncomputable def T9 (K:W.Frag)(a:Addr):It:=
 ⟨fun i H=>∃ xs x,mP K H a xs/\xs[i]?=some x,fun i H x H'=>H'=H/\∀ xs,mP K H a xs->xs[i]?=some x,fun i H=>∃ xs,mP K H a xs/\xs.length<=i⟩
noncomputable def Itt (K:W.Frag)(a:Addr):It:=
 ⟨fun i H=>∃ xs x,vp K H a xs/\xs[i]?=some x,fun i H x H'=>H'=H/\∀ xs,vp K H a xs->xs[i]?=some x,fun i H=>∃ xs,vp K H a xs/\xs.length<=i⟩
noncomputable def LC (lo:Int)(n:Nat):It:=⟨fun i _=>i < n,fun i H x H'=>H'=H/\x=.int (lo+i),fun i _=>n<=i⟩
theorem F1 {P:Program}{w:World}{K:W.Frag}{tg:Expr}(a it:Addr):Turn P w K tg (T9 K a) [it] it (fun i h=>h.IsListIter it a i) where
 mem:=by simp
 obj:=fun i h st b hb=>by
   have e:b=it:=by simpa using hb
   subst e
   obtain⟨o,e,c,d⟩:=st
   exact⟨o,e,fun v z=>by rw[d] at z;cases z⟩
 keep:=fun i h h' st k=>st.at fun o e=>k it (by simp) o e
 item:=by
   intro X hP hw hK hc i pins s σ H E I hf st hg
   subst hP hw hK
   obtain⟨xs,x,hq,hx⟩:=hg
   obtain⟨aE,rv,p,hz⟩:=I.list hq
   obtain⟨u,hu,ru⟩:=rv.get hx
   obtain⟨f0,f1,f2,f3,f4,f5⟩:=hf it (by simp)
   refine wpAny_pyNext_list_item st p.isList (x:=u) (by simpa using hu) fun h' jZ sb=>?_
   have I1:Inv X pins σ H { s with heap:=h'}:=I.turned (t':=s.toks) (fun b o hb e=>(sb.2 b hb).trans e) f0 f1 f3 f4 f5
   obtain⟨o,e,c,d⟩:=id jZ
   exact⟨u,rfl,AK (s:={ s with heap:=h'}) e c d (by decide) ⟨x,H,I1,ru,⟨rfl,fun ys hy=>by rw[I.AH hy hq];exact hx⟩,jZ,fun b hb=>(hf b hb).1⟩⟩
 done:=by
   intro X hP hw hK hc i pins s σ H E I hf st hg
   subst hP hw hK
   obtain⟨xs,hq,hx⟩:=hg
   obtain⟨aE,rv,p,hz⟩:=I.list hq
   obtain⟨f0,f1,f2,f3,f4,f5⟩:=hf it (by simp)
   have hl:=rv.length
   exact wpAny_pyNext_list_end (I.ok.hd hc) st p.isList (by simp;omega) fun h' eb=>⟨rfl,I.turned (t':=s.toks) (fun b o hb e=>eb b o hb e) f0 f1 f3 f4 f5⟩
 self:=fun _ _ _ _ _ st h=>wpAny_pyIter_listiter st h
theorem CC {P:Program}{w:World}{K:W.Frag}{tg:Expr}(a it:Addr):Turn P w K tg (Itt K a) [it] it (fun i h=>h.IsTupleIter it a i) where
 mem:=by simp
 obj:=fun i h st b hb=>by
   have e:b=it:=by simpa using hb
   subst e
   obtain⟨o,e,c,d⟩:=st
   exact⟨o,e,fun v z=>by rw[d] at z;cases z⟩
 keep:=fun i h h' st k=>st.at fun o e=>k it (by simp) o e
 item:=by
   intro X hP hw hK hc i pins s σ H E I hf st hg
   subst hP hw hK
   obtain⟨xs,x,hq,hx⟩:=hg
   obtain⟨aE,rv,p,hz⟩:=I.tuple hq
   obtain⟨u,hu,ru⟩:=rv.get hx
   obtain⟨f0,f1,f2,f3,f4,f5⟩:=hf it (by simp)
   refine wpAny_pyNext_tuple_item st (show s.heap.IsTuple a aE.toArray from p) (x:=u) (by simpa using hu) fun h' jZ sb=>?_
   have I1:Inv X pins σ H { s with heap:=h'}:=I.turned (t':=s.toks) (fun b o hb e=>(sb.2 b hb).trans e) f0 f1 f3 f4 f5
   obtain⟨o,e,c,d⟩:=id jZ
   exact⟨u,rfl,AK (s:={ s with heap:=h'}) e c d (by decide) ⟨x,H,I1,ru,⟨rfl,fun ys hy=>by rw[I.F0 hy hq];exact hx⟩,jZ,fun b hb=>(hf b hb).1⟩⟩
 done:=by
   intro X hP hw hK hc i pins s σ H E I hf st hg
   subst hP hw hK
   obtain⟨xs,hq,hx⟩:=hg
   obtain⟨aE,rv,p,hz⟩:=I.tuple hq
   obtain⟨f0,f1,f2,f3,f4,f5⟩:=hf it (by simp)
   have hl:=rv.length
   exact wpAny_pyNext_tuple_end (I.ok.hd hc) st (show s.heap.IsTuple a aE.toArray from p) (by simp;omega) fun h' eb=>⟨rfl,I.turned (t':=s.toks) (fun b o hb e=>eb b o hb e) f0 f1 f3 f4 f5⟩
 self:=fun _ _ _ _ _ st h=>wpAny_pyIter_tupleiter st h
theorem CD {P:Program}{w:World}{K:PySem.W.Frag}{tg:Expr}(it:Addr)(lo:Int)(n:Nat):Turn P w K tg (LC lo n) [it] it (fun i h=>IsRangeIter h it (lo+(i:Nat) * 1) ((n:Int) - (i:Nat)) 1) where
 mem:=by simp
 obj:=fun i h st b hb=>by
   have e:b=it:=by simpa using hb
   subst e
   exact⟨_,st,fun v z=>by
     have z':Data.fields _=Data.cell v:=z
     cases z'⟩
 keep:=fun i h h' st k=>k it (by simp) _ st
 item:=by
   intro X hP hw hK hc i pins s σ H E I hf st hg
   subst hP hw hK
   obtain⟨f0,f1,f2,f3,f4,f5⟩:=hf it (by simp)
   have W:=Walks.range (prog:=X.prog) (w:=X.w) (I.ok.hd hc) it lo 1 n
   refine W.item i s _ _ hg st fun v h' tk hv jZ kk=>?_
   obtain⟨t,rfl⟩:=hv
   have I1:Inv X pins σ H { s with heap:=h',toks:=tk}:=I.turned (fun b o hb e=>kk b o (by simpa using hb) e) f0 f1 f3 f4 f5
   refine⟨_,rfl,AK (s:={ s with heap:=h',toks:=tk}) (n:="range_iterator") jZ rfl rfl (by decide) ⟨.int (lo+i),H,I1,⟨t,?_⟩,⟨rfl,rfl⟩,jZ,fun b hb=>(hf b hb).1⟩⟩
   rw[Int.mul_one]
 done:=by
   intro X hP hw hK hc i pins s σ H E I hf st hg
   subst hP hw hK
   obtain⟨f0,f1,f2,f3,f4,f5⟩:=hf it (by simp)
   exact wpAny_pyNext_range_end (I.ok.hd hc) st (by have:n<=i:=hg;omega) fun h' eb=>⟨rfl,I.turned (t':=s.toks) (fun b o hb e=>eb b o hb e) f0 f1 f3 f4 f5⟩
 self:=fun _ _ _ _ _ st h=>wpAny_pyIter_rangeiter st h
section
variable {X:Cx}{tg:Expr}
def HK (K:W.Frag)(tl:TE):TI:=fun σ H R=>tl σ H fun x H1=>∃ a,x=.ref a/\(∃ xs,mP K H1 a xs)/\R (T9 K a) H1
def Ua (K:W.Frag)(tl:TE):TI:=fun σ H R=>tl σ H fun x H1=>∃ a,x=.ref a/\(∃ xs,vp K H1 a xs)/\R (Itt K a) H1
theorem fN {l:Expr}{tl:TE}(hl:PE X l tl):PI X tg l (HK X.K tl):=by
 intro pins s σ H R I h
 refine b7 (hl pins s σ H _ I h) fun v s1 ⟨x,H1,I1,r1,q1⟩=>?_
 obtain⟨a,e,⟨xs,hq⟩,q⟩:=q1
 subst e
 cases r1
 obtain⟨aE,rv,p,hz⟩:=I1.list hq
 refine wpAny_pyIter_list p.isList ?_
 refine⟨s1.heap.objs.size,[s1.heap.objs.size],_,_,H1,rfl,I1.kept (t':=s1.toks) fun b o e=>aaf _ e,F1 a _,⟨_,aar _ rfl,rfl,rfl⟩,fun b hb=>?_,q⟩
 have e:b=s1.heap.objs.size:=by simpa using hb
 subst e
 exact I1.vt (aae _) (I1.bh.fresh (aae _))
theorem Qb {l:Expr}{tl:TE}(hl:PE X l tl):PI X tg l (Ua X.K tl):=by
 intro pins s σ H R I h
 refine b7 (hl pins s σ H _ I h) fun v s1 ⟨x,H1,I1,r1,q1⟩=>?_
 obtain⟨a,e,⟨xs,hq⟩,q⟩:=q1
 subst e
 cases r1
 obtain⟨aE,rv,p,hz⟩:=I1.tuple hq
 refine wpAny_pyIter_tuple (show s1.heap.IsTuple a aE.toArray from p) ?_
 refine⟨s1.heap.objs.size,[s1.heap.objs.size],_,_,H1,rfl,I1.kept (t':=s1.toks) fun b o e=>aaf _ e,CC a _,⟨_,aar _ rfl,rfl,rfl⟩,fun b hb=>?_,q⟩
 have e:b=s1.heap.objs.size:=by simpa using hb
 subst e
 exact I1.vt (aae _) (I1.bh.fresh (aae _))
theorem HL {pins:List (Addr×Obj)}{σ:St}{H:Hp}{s:Shared}{R:It->Hp->Prop}{E:Value->Shared->Prop}{lo hi:Int}{t u v:Tok}{tk:Nat}(I:Inv X pins σ H s)(h1:-(2 ^ 62)<=lo)(h2:lo < 2 ^ 62)(h3:-(2 ^ 62)<=hi)(h4:hi < 2 ^ 62)(q:R (LC lo (hi - lo).toNat) H):wpAny (model X.prog X.w) X.A (pyIter (.ref s.heap.objs.size)) (PIE X pins σ tg R) E { s with heap:=s.heap.push { cls:=.type "range",data:=.fields #[.int lo t,.int hi u,.int 1 v]},toks:=tk}:=by
 refine wpAny_pyIter_range (IsRange.new ..) (small_one h1 h2 h3 h4) ?_
 have I1:Inv X pins σ H { s with heap:=s.heap.push { cls:=.type "range",data:=.fields #[.int lo t,.int hi u,.int 1 v]},toks:=tk}:=I.kept fun b o e=>aaf _ e
 refine⟨(s.heap.push { cls:=.type "range",data:=.fields #[.int lo t,.int hi u,.int 1 v]}).objs.size,[(s.heap.push { cls:=.type "range",data:=.fields #[.int lo t,.int hi u,.int 1 v]}).objs.size],_,_,H,rfl,
   I1.kept (t':=tk) fun b o e=>aaf _ e,CD _ lo (hi - lo).toNat,?_,fun b hb=>?_,q⟩
 . have e1:lo+((0:Nat):Int) * 1=lo:=by simp
   have e2:(((hi - lo).toNat:Nat):Int) - ((0:Nat):Int)=Builtin.Range.rangeSize lo hi 1:=by rw[rangeSize_one];split <;> omega
   show IsRangeIter _ _ (lo+((0:Nat):Int) * 1) ((((hi - lo).toNat:Nat):Int) - ((0:Nat):Int)) 1
   rw[e1,e2]
   exact aar _ rfl
 . have e:b=(s.heap.push { cls:=.type "range",data:=.fields #[.int lo t,.int hi u,.int 1 v]}).objs.size:=by simpa using hb
   subst e
   exact I1.vt (aae _) (I1.bh.fresh (aae _))
def HM (ta:TA):TI:=fun σ H R=>ta σ H fun vs H1=>∃ j:Int,vs=[.int j]/\-(2 ^ 62)<=j/\j < 2 ^ 62/\R (LC 0 j.toNat) H1
theorem mn {a:Expr}{ta:TA}{p pos:Pos}(hg:Gl X "range")(hm:X.mg "range"=none)(ha:PA X [a] ta)(hs:starEach [a] X.env=[(false,eval a X.env)]:=by rfl):PI X tg (.Call (.Name "range" p) [a] [] pos) (HM ta):=by
 intro pins s σ H R I h
 refine Call_ (qf I hg hm boot_range (PyProof.Rows.callWith_type1 (b7 (ha pos pins s σ H _ I h) fun us s1 ⟨vs,H1,I1,r1,q1⟩=>?_) hs rfl))
 obtain⟨j,e,q1,q2,q⟩:=q1
 subst e
 cases r1 with
 | cons r rr=>
   cases rr
   obtain⟨t,rfl⟩:=r
   exact call_range_1 (HL I1 (by omega) (by omega) q1 q2 (by simpa using q))
def XS (wi:TI)(g:TG)(tb:TS):TS:=fun D σ H=>wi σ H fun J H1=>∃ W:Nat->Nat->St->Hp->Prop,(∃ m,W 0 m σ H1)/\∀ i m σ H,W i m σ H ->
 (J.stop i H/\D.nx σ H)\/(J.go i H/\∃ N:St->Hp->Prop,(∀ σ' H',N σ' H'->∃ m',m' < m/\W (i+1) m' σ' H')/\∀ x H',J.HJ i H x H'->g x σ H' fun σ2 H2=>tb { D with nx:=N,ct:=N,bk:=D.nx} σ2 H2)
noncomputable def rX (fp:List Addr)(h:Heap):List (Addr×Obj):=fp.filterMap fun b=>(h.get? b).map fun o=>(b,o)
theorem fS {fp:List Addr}{h:Heap}{b:Addr}{o:Obj}(hb:b∈fp)(e:h.get? b=some o):(b,o)∈rX fp h:=List.mem_filterMap.mpr ⟨b,hb,by rw[e];rfl⟩
theorem F2 {fp:List Addr}{h:Heap}{p:Addr×Obj}(hp:p∈rX fp h):p.1∈fp/\h.get? p.1=some p.2:=by
 obtain⟨b,hb,e⟩:=List.mem_filterMap.mp hp
 cases q:h.get? b with
 | none=>rw[q] at e;cases e
 | some o=>
   rw[q] at e
   have e':(b,o)=p:=Option.some.inj e
   subst e'
   exact⟨hb,q⟩
theorem Inv.pinned {pins:List (Addr×Obj)}{σ:St}{H:Hp}{s:Shared}{fp:List Addr}(I:Inv X pins σ H s)(hf:∀ b∈fp,lu X pins H b)(ho:∀ b∈fp,∃ o,s.heap.get? b=some o/\∀ v,o.data≠.cell v):Inv X (pins ++ rX fp s.heap) σ H s:=
 I.D3 fun p hp=>(abb.mp hp).elim (fun z=>I.pin p (aaw _ z)) fun z=>by
   obtain⟨hb,e⟩:=F2 z
   obtain⟨f0,f1,f2,_⟩:=hf p.1 hb
   obtain⟨o,e',d⟩:=ho p.1 hb
   rw[e] at e';cases e'
   exact⟨e,f0,f1,f2,d⟩
theorem Inv.j0 {pins pl:List (Addr×Obj)}{σ:St}{H:Hp}{s:Shared}(I:Inv X (pins ++ pl) σ H s):Inv X pins σ H s:=I.D3 fun p hp=>I.pin p (aaw _ (List.mem_append_left _ hp))
theorem yO {iter:Expr}{body:List Stmt}{wi:TI}{g:TG}{tb:TS}{pos:Pos}(hp:PassesOwn (model X.prog X.w) X.A X.env X.xe)(hc:X.calm=true)(hi:PI X tg iter wi)(hg:PG X tg g)(hb:Cy X body tb)(hs:∀ x,foldedSetIterable iter X.env x=pure x:=by intro _;rfl):PS X (.For tg iter body [] pos) (XS wi g tb):=by
 intro pins s σ H D I h
 refine wpAny_For (b7 (hi pins s σ H _ I h) fun v s1 h1=>b7 h1 fun Ow s2 h2=>?_) hs
 obtain⟨it,fp,tn,J,H2,e,I2,T,D6,f2,W,⟨m0,w0⟩,turn⟩:=h2
 subst e
 have qg:∀ {H':Hp},(∀ b∈fp,H' b=none)->∀ b∈fp,lu X pins H' b:=fun hn b hb=>⟨hn b hb,(f2 b hb).2⟩
 refine codeAny_forLoop_any (fun n s'=>∃ i σ' H',Inv X pins σ' H' s'/\tn i s'.heap/\(∀ b∈fp,H' b=none)/\W i n σ' H') ?_ m0 ⟨0,σ,H2,I2,D6,fun b hb=>(f2 b hb).1,w0⟩
 rintro n s3 ⟨i,σ3,H3,I3,WO,fr3,w3⟩
 rcases turn i n σ3 H3 w3 with⟨stop,qn⟩ | ⟨go,N,hN,step⟩
 . refine wpAny_passesOwn hp (b7 (T.done X rfl rfl rfl hc i pins s3 σ3 H3 X.xe I3 (qg fr3) WO stop) fun r s4 ⟨hr,I4⟩=>?_)
   subst hr
   exact wpAny_execs_nil ⟨σ3,H3,I4,qn⟩
 . refine wpAny_passesOwn hp (b7 (T.item X rfl rfl rfl hc i pins s3 σ3 H3 X.xe I3 (qg fr3) WO go) fun r s4 ⟨u,hr,h4⟩=>?_)
   subst hr
   refine wpAny_passesOwn hp (b7 h4 fun _ s5 ⟨x,H5,I5,r5,y5,Ho,LD⟩=>?_)
   have I5':=I5.pinned (qg LD) (T.obj _ _ Ho)
   refine wpAny_passesOwn hp (b7 (hg _ s5 σ3 H5 x u _ I5' r5 (step x H5 y5)) fun _ s6 ⟨σ6,H6,I6,q6⟩=>?_)
   refine wpAny_passesOwn hp (b7 (hb _ s6 σ6 H6 _ I6 q6) fun f s7 q7=>?_)
   have again:∀ {σ7:St} {H7:Hp},Inv X (pins ++ rX fp s5.heap) σ7 H7 s7->N σ7 H7->∃ m,m < n/\∃ i σ' H',Inv X pins σ' H' s7/\tn i s7.heap/\(∀ b∈fp,H' b=none)/\W i m σ' H':=fun {σ7 H7} I7 n7=>by
     obtain⟨m',hm,w7⟩:=hN σ7 H7 n7
     refine⟨m',hm,i+1,σ7,H7,I7.j0,T.keep _ _ _ Ho fun b hb o e=>(I7.pin (b,o) (aaw _ (aaw _ (fS hb e)))).1,fun b hb=>?_,w7⟩
     obtain⟨o,e,d⟩:=T.obj _ _ Ho b hb
     exact(I7.pin (b,o) (aaw _ (aaw _ (fS hb e)))).2.1
   cases f with
   | next=>obtain⟨σ7,H7,I7,n7⟩:=q7;exact again I7 n7
   | cont=>obtain⟨σ7,H7,I7,n7⟩:=q7;exact again I7 n7
   | brk=>obtain⟨σ7,H7,I7,q7⟩:=q7;exact⟨σ7,H7,I7.j0,q7⟩
   | ret v=>obtain⟨x7,σ7,H7,I7,r7,q7⟩:=q7;exact⟨x7,σ7,H7,I7.j0,r7,q7⟩
end
theorem AL {K:PySem.W.Frag}{a:Addr}{xs:List V}{g:TG}{tb:TS}{D:Ends}{σ:St}{H:Hp}(Pv:Nat->St->Hp->Prop)(h0:Pv 0 σ H)(hl:∀ i σ H,i<=xs.length->Pv i σ H->mP K H a xs)(hs:∀ i x σ H,xs[i]?=some x->Pv i σ H->g x σ H fun σ2 H2=>tb { D with nx:=Pv (i+1),ct:=Pv (i+1),bk:=D.nx} σ2 H2)(hd:∀ σ H,Pv xs.length σ H->D.nx σ H):∃ W:Nat->Nat->St->Hp->Prop,(∃ m,W 0 m σ H)/\∀ i m σ H,W i m σ H->((T9 K a).stop i H/\D.nx σ H)\/((T9 K a).go i H/\∃ N:St->Hp->Prop,(∀ σ' H',N σ' H'->∃ m',m' < m/\W (i+1) m' σ' H')/\∀ x H',(T9 K a).HJ i H x H'->g x σ H' fun σ2 H2=>tb { D with nx:=N,ct:=N,bk:=D.nx} σ2 H2):=by
 refine⟨fun i m σ H=>m=xs.length - i/\i<=xs.length/\Pv i σ H,⟨xs.length,by simp,aa1 _,h0⟩,?_⟩
 rintro i m σ H ⟨rfl,hi,p⟩
 have q:=hl i σ H hi p
 by_cases dg:i < xs.length
 . refine .inr ⟨⟨xs,xs[i],q,by simp[dg]⟩,Pv (i+1),fun σ' H' p'=>⟨xs.length - (i+1),by omega,rfl,dg,p'⟩,fun x H' y=>?_⟩
   obtain⟨e,y⟩:=y
   subst e
   exact hs i x σ _ (y xs q) p
 . have e:i=xs.length:=by omega
   subst e
   exact .inl ⟨⟨xs,q,aae _⟩,hd σ H p⟩
theorem F3 {lo:Int}{n:Nat}{g:TG}{tb:TS}{D:Ends}{σ:St}{H:Hp}(Pv:Nat->St->Hp->Prop)(h0:Pv 0 σ H)(hs:∀ i σ H,i < n->Pv i σ H->g (.int (lo+i)) σ H fun σ2 H2=>tb { D with nx:=Pv (i+1),ct:=Pv (i+1),bk:=D.nx} σ2 H2)(hd:∀ σ H,Pv n σ H->D.nx σ H):∃ W:Nat->Nat->St->Hp->Prop,(∃ m,W 0 m σ H)/\∀ i m σ H,W i m σ H->((LC lo n).stop i H/\D.nx σ H)\/((LC lo n).go i H/\∃ N:St->Hp->Prop,(∀ σ' H',N σ' H'->∃ m',m' < m/\W (i+1) m' σ' H')/\∀ x H',(LC lo n).HJ i H x H'->g x σ H' fun σ2 H2=>tb { D with nx:=N,ct:=N,bk:=D.nx} σ2 H2):=by
 refine⟨fun i m σ H=>m=n - i/\i<=n/\Pv i σ H,⟨n,by simp,aa1 _,h0⟩,?_⟩
 rintro i m σ H ⟨rfl,hi,p⟩
 by_cases dg:i < n
 . refine .inr ⟨dg,Pv (i+1),fun σ' H' p'=>⟨n - (i+1),by omega,rfl,dg,p'⟩,fun x H' y=>?_⟩
   obtain⟨e,y⟩:=y
   subst e y
   exact hs i σ _ dg p
 . have e:i=n:=by omega
   subst e
   exact .inl ⟨aae _,hd σ H p⟩
abbrev R2:=V->V->Hp->VK->Prop
def n9 (X:Cx)(f:Value->Value->Sem Value)(r:R2):Prop:=
 ∀ (pins:List (Addr×Obj)) (s:Shared) (σ:St) (H:Hp) (x y:V) (v u:Value) (Q:VK),Inv X pins σ H s->RelV x v->RelV y u->r x y H Q ->
   wpAny (model X.prog X.w) X.A (f v u) (EP X pins σ Q) X.xe s
def XT (X:Cx)(f:Value->Sem Value)(r:V->Hp->VK->Prop):Prop:=
 ∀ (pins:List (Addr×Obj)) (s:Shared) (σ:St) (H:Hp) (x:V) (v:Value) (Q:VK),Inv X pins σ H s->RelV x v->r x H Q ->
   wpAny (model X.prog X.w) X.A (f v) (EP X pins σ Q) X.xe s
def jr (X:Cx)(f:Value)(r:List V->Hp->VK->Prop):Prop:=
 ∀ (pins:List (Addr×Obj)) (s:Shared) (σ:St) (H:Hp) (xs:List V) (us:List Value) (Q:VK),Inv X pins σ H s->Vals xs us->r xs H Q ->
   wpAny (model X.prog X.w) X.A (call f us) (EP X pins σ Q) X.xe s
def Ub (r:R2)(ta tb:TE):TE:=fun σ H Q=>ta σ H fun x H1=>tb σ H1 fun y H2=>r x y H2 Q
def tUn (r:V->Hp->VK->Prop)(ta:TE):TE:=fun σ H Q=>ta σ H fun x H1=>r x H1 Q
def rI (C:Int->Int->Prop)(g:Int->Int->V):R2:=fun x y H Q=>∃ i j,x=.int i/\y=.int j/\C i j/\Q (g i j) H
def L3 (g:Int->Int->V):R2:=fun x y H Q=>∃ i j,x=.int i/\y=.int j/\Q (g i j) H
def rU (g:Int->V):V->Hp->VK->Prop:=fun x H Q=>∃ i,x=.int i/\Q (g i) H
section
variable {X:Cx}{a b:Expr}{ta tb:TE}{pos:Pos}
theorem Qc (ha:PE X a ta)(hb:PE X b tb){pins:List (Addr×Obj)}{s:Shared}{σ:St}{H:Hp}{R:V->V->Hp->Prop}(I:Inv X pins σ H s)(h:ta σ H fun x H1=>tb σ H1 fun y H2=>R x y H2){Q:Value->Shared->Prop}{f:Value->Value->Sem Value}(hf:∀ v u s2 x y H2,Inv X pins σ H2 s2->RelV x v->RelV y u->R x y H2->wpAny (model X.prog X.w) X.A (f v u) Q X.xe s2):wpAny (model X.prog X.w) X.A (eval a X.env) (fun v s₁=>wpAny (model X.prog X.w) X.A (eval b X.env) (fun u s₂=>wpAny (model X.prog X.w) X.A (f v u) Q X.xe s₂) X.xe s₁) X.xe s:=by
 refine b7 (ha pins s σ H _ I h) fun v s1 ⟨x,H1,I1,r1,q1⟩=>?_
 refine b7 (hb pins s1 σ H1 _ I1 q1) fun u s2 ⟨y,H2,I2,r2,q2⟩=>?_
 exact hf v u s2 x y H2 I2 r1 r2 q2
theorem Ox {op:Operator}{r:R2}(ho:n9 X (binaryOp op) r)(ha:PE X a ta)(hb:PE X b tb):PE X (.BinOp a op b pos) (Ub r ta tb):=by
 intro pins s σ H Q I h
 exact wpAny_BinOp (Qc ha hb I h fun v u s2 x y H2 I2 rx ry q=>ho pins s2 σ H2 x y v u Q I2 rx ry q)
theorem Uc {op:UnaryOp}{r:V->Hp->VK->Prop}(ho:XT X (unaryOp op) r)(ha:PE X a ta):PE X (.UnaryOp op a pos) (tUn r ta):=by
 intro pins s σ H Q I h
 exact UnaryOp_ (b7 (ha pins s σ H _ I h) fun v s1 ⟨x,H1,I1,r1,q1⟩=>ho pins s1 σ H1 x v Q I1 r1 q1)
theorem WQ {f:Value->Value->Sem Value}{C:Int->Int->Prop}{g:Int->Int->Int}(rule:∀ (i j:Int) (t u:Tok) (s:Shared) (Q:Value->Shared->Prop) (E:Value->Shared->Prop),C i j->Q (.int (g i j) s.toks) { s with toks:=s.toks+1}->wpAny (model X.prog X.w) X.A (f (.int i t) (.int j u)) Q E s):n9 X f (rI C fun i j=>.int (g i j)):=by
 intro pins s σ H x y v u Q I rx ry h
 obtain⟨i,j,rfl,rfl,hc,q⟩:=h
 obtain⟨t,rfl⟩:=rx
 obtain⟨t',rfl⟩:=ry
 exact rule i j t t' s _ _ hc ⟨.int (g i j),H,I.tok _,⟨_,rfl⟩,q⟩
theorem Ud {f:Value->Value->Sem Value}{g:Int->Int->Int}(rule:∀ (i j:Int) (t u:Tok) (s:Shared) (Q:Value->Shared->Prop) (E:Value->Shared->Prop),Q (.int (g i j) s.toks) { s with toks:=s.toks+1}->wpAny (model X.prog X.w) X.A (f (.int i t) (.int j u)) Q E s):n9 X f (L3 fun i j=>.int (g i j)):=by
 intro pins s σ H x y v u Q I rx ry h
 obtain⟨i,j,rfl,rfl,q⟩:=h
 obtain⟨t,rfl⟩:=rx
 obtain⟨t',rfl⟩:=ry
 exact rule i j t t' s _ _ ⟨.int (g i j),H,I.tok _,⟨_,rfl⟩,q⟩
theorem L5 {f:Value->Value->Sem Value}{g:Int->Int->Bool}(rule:∀ (i j:Int) (t u:Tok) (s:Shared) (Q:Value->Shared->Prop) (E:Value->Shared->Prop),Q (.bool (g i j)) s->wpAny (model X.prog X.w) X.A (f (.int i t) (.int j u)) Q E s):n9 X f (L3 fun i j=>.bl (g i j)):=by
 intro pins s σ H x y v u Q I rx ry h
 obtain⟨i,j,rfl,rfl,q⟩:=h
 obtain⟨t,rfl⟩:=rx
 obtain⟨t',rfl⟩:=ry
 exact rule i j t t' s _ _ ⟨.bl (g i j),H,I,rfl,q⟩
def Ue (i j:Int):Prop:=0<=j/\j<=1000000/\i.natAbs < 2 ^ 64
def pQ (i j:Int):Prop:=(-(2 ^ 64) < i/\i < 2 ^ 64)\/(-(2 ^ 64) < j/\j < 2 ^ 64)
theorem pQ.ok {i j:Int}(h:pQ i j):IntMulOk i j:=by
 rcases h with⟨h1,h2⟩ | ⟨h1,h2⟩
 . exact .of_left (intBits_le_64 h1 h2)
 . exact .of_right (intBits_le_64 h1 h2)
theorem Qd:n9 X (binaryOp .Add) (L3 fun i j=>.int (i+j)):=Ud fun _ _ _ _ _ _ _ q=>add_int q
theorem Qe:n9 X (binaryOp .Sub) (L3 fun i j=>.int (i - j)):=Ud fun _ _ _ _ _ _ _ q=>sub_int q
theorem Qf:n9 X (binaryOp .Mod) (rI (fun _ j=>0 < j) fun i j=>.int (i % j)):=WQ fun i j _ _ _ _ _ hc q=>by
 have h1:(0:Int) < j:=hc
 exact mod_int' (by omega) (by rw[Int.fmod_eq_emod_of_nonneg i (by omega)];exact q)
theorem Qg:n9 X (binaryOp .Pow) (rI Ue fun i j=>.int (i ^ j.toNat)):=WQ fun _ _ _ _ _ _ _ hc q=>pow_int_small hc.1 hc.2.1 hc.2.2 q
theorem unI {f:Value->Sem Value}{g:Int->Int}(rule:∀ (i:Int) (t:Tok) (s:Shared) (Q:Value->Shared->Prop) (E:Value->Shared->Prop),Q (.int (g i) s.toks) { s with toks:=s.toks+1}->wpAny (model X.prog X.w) X.A (f (.int i t)) Q E s):XT X f (rU fun i=>.int (g i)):=by
 intro pins s σ H x v Q I rx h
 obtain⟨i,rfl,q⟩:=h
 obtain⟨t,rfl⟩:=rx
 exact rule i t s _ _ ⟨.int (g i),H,I.tok _,⟨_,rfl⟩,q⟩
theorem Qh:XT X (unaryOp .USub) (rU fun i=>.int (-i)):=unI fun _ _ _ _ _ q=>neg_int q
end
noncomputable def L6:V->V->Bool
 | .cW,.cW=>true | .cW,.int _=>true | .int _,.cW=>true | .cW,.bl _=>true | .bl _,.cW=>true | .cW,.str _=>true | .str _,.cW=>true
 | .int _,.int _=>true | .bl _,.bl _=>true | .str _,.str _=>true | .Hn _,.Hn _=>true
 | .int _,.str _=>true | .str _,.int _=>true | .bl _,.str _=>true | .str _,.bl _=>true
 | _,_=>false
def rEq:R2:=fun x y H Q=>L6 x y=true/\Q (.bl (decide (x=y))) H
def rNe:R2:=fun x y H Q=>L6 x y=true/\Q (.bl (!decide (x=y))) H
theorem oS {i j:Int}:decide (V.int i=V.int j)=(i == j):=by
 rw[abQ]
 simp
theorem HN {i j:Bool}:decide (V.bl i=V.bl j)=(i == j):=by
 rw[abQ]
 simp
theorem oT {i j:Str}:decide (V.str i=V.str j)=(i == j):=by
 rw[abQ]
 simp
theorem D7 {i j:Array UInt8}:decide (V.Hn i=V.Hn j)=(i.toList == j.toList):=by
 rw[abQ]
 cases i
 cases j
 simp
section
variable {X:Cx}{a b c:Expr}{ta tb tc:TE}{pos:Pos}
theorem bA {pins:List (Addr×Obj)}{σ:St}{H:Hp}{s:Shared}{Q:VK}{k k':Bool}(I:Inv X pins σ H s)(q:Q (.bl k) H)(e:k=k'):EP X pins σ Q (.bool k') s:=by
 subst e
 exact⟨.bl k,H,I,rfl,q⟩
theorem D8:n9 X (compareOp .Eq) rEq:=by
 intro pins s σ H x y v u Q I rx ry h
 obtain⟨hs,q⟩:=h
 cases x with
 | cW=>
   cases rx
   cases y with
   | cW=>cases ry;exact PySem.EqNone.eq_none_none (bA I q (by simp))
   | bl j=>cases ry;exact PySem.EqNone.eq_none_bool (bA I q (by simp))
   | int j=>obtain⟨t',rfl⟩:=ry;exact PySem.EqNone.eq_none_int (bA I q (by simp))
   | str j=>obtain⟨t',rfl⟩:=ry;exact PySem.EqNone.eq_none_str (bA I q (by simp))
   | _=>exact absurd (show false=true from hs) aap
 | bl i=>
   cases rx
   cases y with
   | cW=>cases ry;exact PySem.EqNone.eq_bool_none (bA I q (by simp))
   | bl j=>cases ry;exact eq_bool (bA I q HN)
   | str j=>obtain⟨t',rfl⟩:=ry;exact PySem.EqMixed.eq_bool_str (bA I q (by simp))
   | _=>exact absurd (show false=true from hs) aap
 | int i=>
   obtain⟨t,rfl⟩:=rx
   cases y with
   | cW=>cases ry;exact PySem.EqNone.eq_int_none (bA I q (by simp))
   | int j=>obtain⟨t',rfl⟩:=ry;exact eq_int (bA I q oS)
   | str j=>obtain⟨t',rfl⟩:=ry;exact PySem.EqMixed.eq_int_str (bA I q (by simp))
   | _=>exact absurd (show false=true from hs) aap
 | str i=>
   obtain⟨t,rfl⟩:=rx
   cases y with
   | cW=>cases ry;exact PySem.EqNone.eq_str_none (bA I q (by simp))
   | bl j=>cases ry;exact PySem.EqMixed.eq_str_bool (bA I q (by simp))
   | int j=>obtain⟨t',rfl⟩:=ry;exact PySem.EqMixed.eq_str_int (bA I q (by simp))
   | str j=>obtain⟨t',rfl⟩:=ry;exact eq_str (bA I q oT)
   | _=>exact absurd (show false=true from hs) aap
 | Hn i=>
   obtain⟨t,rfl⟩:=rx
   cases y with
   | Hn j=>obtain⟨t',rfl⟩:=ry;exact W.eq_bytes (bA I q D7)
   | _=>exact absurd (show false=true from hs) aap
 | _=>cases y <;> exact absurd (show false=true from hs) aap
theorem Oy:n9 X (compareOp .NotEq) rNe:=by
 intro pins s σ H x y v u Q I rx ry h
 obtain⟨hs,q⟩:=h
 cases x with
 | cW=>
   cases rx
   cases y with
   | cW=>cases ry;exact PySem.EqNone.ne_none_none (bA I q (by simp))
   | bl j=>cases ry;exact PySem.EqNone.ne_none_bool (bA I q (by simp))
   | int j=>obtain⟨t',rfl⟩:=ry;exact PySem.EqNone.ne_none_int (bA I q (by simp))
   | str j=>obtain⟨t',rfl⟩:=ry;exact PySem.EqNone.ne_none_str (bA I q (by simp))
   | _=>exact absurd (show false=true from hs) aap
 | bl i=>
   cases rx
   cases y with
   | cW=>cases ry;exact PySem.EqNone.ne_bool_none (bA I q (by simp))
   | bl j=>cases ry;exact ne_bool (bA I q (congrArg not HN))
   | str j=>obtain⟨t',rfl⟩:=ry;exact PySem.EqMixed.ne_bool_str (bA I q (by simp))
   | _=>exact absurd (show false=true from hs) aap
 | int i=>
   obtain⟨t,rfl⟩:=rx
   cases y with
   | cW=>cases ry;exact PySem.EqNone.ne_int_none (bA I q (by simp))
   | int j=>obtain⟨t',rfl⟩:=ry;exact ne_int (bA I q (congrArg not oS))
   | str j=>obtain⟨t',rfl⟩:=ry;exact PySem.EqMixed.ne_int_str (bA I q (by simp))
   | _=>exact absurd (show false=true from hs) aap
 | str i=>
   obtain⟨t,rfl⟩:=rx
   cases y with
   | cW=>cases ry;exact PySem.EqNone.ne_str_none (bA I q (by simp))
   | bl j=>cases ry;exact PySem.EqMixed.ne_str_bool (bA I q (by simp))
   | int j=>obtain⟨t',rfl⟩:=ry;exact PySem.EqMixed.ne_str_int (bA I q (by simp))
   | str j=>obtain⟨t',rfl⟩:=ry;exact ne_str (bA I q (congrArg not oT))
   | _=>exact absurd (show false=true from hs) aap
 | Hn i=>
   obtain⟨t,rfl⟩:=rx
   cases y with
   | Hn j=>obtain⟨t',rfl⟩:=ry;exact W.ne_bytes (bA I q (congrArg not D7))
   | _=>exact absurd (show false=true from hs) aap
 | _=>cases y <;> exact absurd (show false=true from hs) aap
theorem Ug:n9 X (compareOp .Lt) (L3 fun i j=>.bl (decide (i < j))):=L5 fun _ _ _ _ _ _ _ q=>lt_int q
theorem HP:n9 X (compareOp .LtE) (L3 fun i j=>.bl (decide (i<=j))):=L5 fun _ _ _ _ _ _ _ q=>le_int q
theorem Uh:n9 X (compareOp .Gt) (L3 fun i j=>.bl (decide (j < i))):=L5 fun _ _ _ _ _ _ _ q=>gt_int q
theorem Ui:n9 X (compareOp .GtE) (L3 fun i j=>.bl (decide (j<=i))):=L5 fun _ _ _ _ _ _ _ q=>ge_int q
theorem kh (b:Expr){op:CmpOp}(h:op≠.In:=by decide)(h2:op≠.NotIn:=by decide):behindInMarks op b=false:=by
 have e1:(op == CmpOp.In)=false:=by cases op <;> first | rfl | exact absurd rfl h
 have e2:(op == CmpOp.NotIn)=false:=by cases op <;> first | rfl | exact absurd rfl h2
 cases b <;> simp[behindInMarks,e1,e2]
theorem L7 {op:CmpOp}{r:R2}(ho:n9 X (compareOp op) r)(ha:PE X a ta)(hb:PE X b tb)(hm:behindInMarks op b=false):PE X (.Compare a [op] [b] pos) (Ub r ta tb):=by
 intro pins s σ H Q I h
 exact wpAny_Compare1 (Qc ha hb I h fun v u s2 x y H2 I2 rx ry q=>ho pins s2 σ H2 x y v u Q I2 rx ry q) hm
def Uj (t:TE):TT:=fun σ H Q=>t σ H fun x H'=>∃ k,x=.bl k/\Q k H'
theorem L8 {op:CmpOp}{r:R2}(ho:n9 X (compareOp op) r)(ha:PE X a ta)(hb:PE X b tb)(hm:behindInMarks op b=false):PT X (.Compare a [op] [b] pos) (Uj (Ub r ta tb)):=by
 intro pins s σ H Q I h
 refine wpAny_isTrue_Compare1 (b7 (ha pins s σ H _ I h) fun v s1 ⟨x,H1,I1,r1,q1⟩=>b7 (hb pins s1 σ H1 _ I1 q1) fun u s2 ⟨y,H2,I2,r2,q2⟩=>
   b7 (ho pins s2 σ H2 x y v u _ I2 r1 r2 q2) fun c s3 ⟨z,H3,I3,r3,k,e,q3⟩=>?_) hm
 subst e
 cases r3
 exact wpAny_truthy_bool ⟨H3,I3,q3⟩
def Qi (r r':R2)(ta tb tc:TE):TE:=fun σ H Q=>ta σ H fun x H1=>tb σ H1 fun y H2=>r x y H2 fun z H3=>∃ k,z=.bl k /\
 (if k=true then tc σ H3 fun w' H4=>r' y w' H4 Q else Q (.bl false) H3)
theorem HQ {op Qj:CmpOp}{r r':R2}(ho:n9 X (compareOp op) r)(HD:n9 X (compareOp Qj) r')(ha:PE X a ta)(hb:PE X b tb)(hc:PE X c tc)(hm:lastMarks [op,Qj] [b,c]=false:=by with_unfolding_all rfl):PE X (.Compare a [op,Qj] [b,c] pos) (Qi r r' ta tb tc):=by
 intro pins s σ H Q I h
 refine Compare_chain (b7 (ha pins s σ H _ I h) fun v s1 ⟨x,H1,I1,r1,q1⟩=>chain_link (b7 (hb pins s1 σ H1 _ I1 q1) fun u s2 ⟨y,H2,I2,r2,q2⟩=>
   b7 (ho pins s2 σ H2 x y v u _ I2 r1 r2 q2) fun d s3 ⟨z,H3,I3,r3,k,e,q3⟩=>?_)) hm
 subst e
 cases r3
 refine wpAny_truthy_bool ?_
 cases k with
 | false=>exact ite_ff ⟨.bl false,H3,I3,rfl,q3⟩
 | true=>exact ite_tt (chain_last (b7 (hc pins s3 σ H3 _ I3 q3) fun w' s4 ⟨z',H4,I4,r4,q4⟩=>HD pins s4 σ H4 y z' u w' Q I4 r2 r4 q4))
theorem l7:(sizeLine:Nat) < 2 ^ 63:=by rw[sizeLine_eq];decide
theorem CF:n9 X (binaryOp .Add) (fun x y H Q=>∃ i j,x=.str i/\y=.str j/\i.length+j.length<=sizeLine/\Q (.str (i ++ j)) H):=by
 intro pins s σ H x y v u Q I rx ry h
 obtain⟨i,j,rfl,rfl,hz,q⟩:=h
 obtain⟨t,rfl⟩:=rx
 obtain⟨t',rfl⟩:=ry
 exact add_str (fun t' tk=>⟨.str (i ++ j),H,I.tok _,⟨_,rfl⟩,q⟩) hz
theorem vals1 {x:V}{us:List Value}(r:Vals [x] us):∃ u,us=[u]/\RelV x u:=by
 cases r with
 | cons r1 r2=>cases r2;exact⟨_,rfl,r1⟩
theorem vals2 {x y:V}{us:List Value}(r:Vals [x,y] us):∃ u w',us=[u,w']/\RelV x u/\RelV y w':=by
 cases r with
 | cons r1 r2=>
   cases r2 with
   | cons r3 r4=>cases r4;exact⟨_,_,rfl,r1,r3⟩
theorem F4 (hc:X.calm=true):jr X (.builtin "max") (fun xs H Q=>∃ i j,xs=[.int i,.int j]/\Q (.int (if j > i then j else i)) H):=by
 intro pins s σ H xs us Q I r h
 obtain⟨i,j,rfl,q⟩:=h
 obtain⟨u,w',rfl,⟨t,rfl⟩,⟨t',rfl⟩⟩:=vals2 r
 refine max_two_ints (I.ok.hd hc) fun h' tk k=>⟨_,H,I.kept k,?_,q⟩
 by_cases hj:j > i
 . rw[if_pos hj,if_pos hj];exact⟨_,rfl⟩
 . rw[if_neg hj,if_neg hj];exact⟨_,rfl⟩
theorem F5 (hc:X.calm=true):jr X (.builtin "min") (fun xs H Q=>∃ i j,xs=[.int i,.int j]/\Q (.int (if j < i then j else i)) H):=by
 intro pins s σ H xs us Q I r h
 obtain⟨i,j,rfl,q⟩:=h
 obtain⟨u,w',rfl,⟨t,rfl⟩,⟨t',rfl⟩⟩:=vals2 r
 refine min_two_ints (I.ok.hd hc) fun h' tk k=>⟨_,H,I.kept k,?_,q⟩
 by_cases hj:j < i
 . rw[if_pos hj,if_pos hj];exact⟨_,rfl⟩
 . rw[if_neg hj,if_neg hj];exact⟨_,rfl⟩
theorem F6:jr X (.type "int") (fun xs H Q=>(∃ i,xs=[.int i]/\Q (.int i) H)\/∃ k,xs=[.bl k]/\Q (.int (if k then 1 else 0)) H):=by
 intro pins s σ H xs us Q I r h
 rcases h with⟨i,rfl,q⟩ | ⟨k,rfl,q⟩
 . obtain⟨u,rfl,t,rfl⟩:=vals1 r
   exact call_int_int ⟨.int i,H,I,⟨_,rfl⟩,q⟩
 . obtain⟨u,rfl,r1⟩:=vals1 r
   cases r1
   exact call_int_bool ⟨.int (if k then 1 else 0),H,I.tok _,⟨_,rfl⟩,q⟩
end
structure CG (h:Heap)(x dx C:Addr)(mA:Str->Option Value):Prop where
 obj:h.get? x=some (W.instObj C dx)
 ns:h.Ns1 dx mA
 ne:dx≠x
theorem F7 {h:Heap}{dx:Addr}{mA:Str->Option Value}(n:h.Ns1 dx mA):∃ od,h.get? dx=some od/\∀ name,W.lookIn name od=some (mA name):=by
 obtain⟨o,es,ep,ho,hd,hk,_,hm⟩:=n
 refine⟨o,ho,fun name=>?_⟩
 have e:=hm name
 unfold nsFind findBy at e
 rw[<- Array.find?_toList] at e
 unfold W.lookIn
 rw[hd]
 dsimp only
 split
 . rename_i y q
   rw[q] at e
   exact congrArg some e
 . rename_i q
   rw[q] at e
   have a:es.toList.any (·.refKey)=false:=by
     rw[List.any_eq_false]
     intro y hy
     obtain⟨z,t,XU⟩:=hk y (Array.mem_toList_iff.mp hy)
     simp[DictEntry.refKey,XU]
   have a':¬ es.toList.any (·.refKey)=true:=by rw[a];exact aap
   rw[if_neg a']
   exact congrArg some e
theorem CG.look {h:Heap}{x dx C:Addr}{mA:Str->Option Value}(I:CG h x dx C mA):∃ od,W.InstAt h x (W.instObj C dx) C (some od)/\∀ name,W.lookIn name od=some (mA name):=
 let ⟨od,ho,hl⟩:=F7 I.ns
 ⟨od,⟨I.obj,rfl,rfl,ho⟩,hl⟩
section
variable {prog:Program}{w:World}{A:Around}{E:Value->Shared->Prop}{s:Shared}{K:W.Frag}{x dx C f:Addr}{mA:Str->Option Value}{name:Str}{v:Value}
theorem get_map {expr:Bool}{Q:Value->Shared->Prop}(X:K.In s.heap)(I:CG s.heap x dx C mA)(hg:W.plainGet K C name=true)(hh:W.hasDictIn K C=true)(ha:W.findIn K (.ref C) name=some none)(hv:mA name=some v)(Oz:W.handedIn v=true)(h:Q v { s with toks:=s.toks+1}):wpAny (model prog w) A (getAttr (.ref x) name expr) Q E s:=by
 obtain⟨od,J,hl⟩:=I.look
 exact W.get_value X J (W.plainGet_of hg).1 (W.findObj_own hh ha rfl (by rw[hl,hv])) Oz h
theorem HR {pl:Sem Bool}{Q:Value×List Value->Shared->Prop}(X:K.In s.heap)(I:CG s.heap x dx C mA)(hg:W.plainGet K C name=true)(hf:W.findIn K (.ref C) name=some (some (.ref f)))(ht:W.isFn K (.ref f)=true)(hv:mA name=none)(h:Q (.ref f,[.ref x]) s):wpAny (model prog w) A (getMethod (.ref x) name pl) Q E s:=by
 obtain⟨od,J,hl⟩:=I.look
 exact W.method_fn X J (W.plainGet_of hg).1 (W.plainGet_of hg).2 hf (beq_iff_eq.mp ht) (by show(W.lookIn name od).map (·.isSome)=some false;rw[hl,hv];rfl) h
theorem L9 {ns:List Str}{Q:Unit->Shared->Prop}(X:K.In s.heap)(I:CG s.heap x dx C mA)
   (hs:W.findIn K (.ref C) "__setattr__"=some (some (.builtin "object.__setattr__"))) (hp:W.plainOver K C=true) (ht:W.takerIn K C name=some none) (hh:W.hasDictIn K C=true)
   (hw:PySem.Within mA ns) (hsz:ns.length<=sizeLine)
   (h:∀ h',CG h' x dx C (fun y=>if y=name then some v else mA y)->abp dx s.heap h'->Q () { s with heap:=h',toks:=s.toks+2}) :
   wpAny (model prog w) A (setAttr (.ref x) name v) Q E s:=by
 obtain⟨od,J,hl⟩:=I.look
 refine W.set_plain X J hs (W.osa_open (s:={ s with toks:=s.toks+1}) (r:=none) X J hp ht fun b=>?_)
 obtain⟨cd,hc,To⟩:=W.any_some hh
 have hx:s.heap.get? x=some ⟨.ref C,some dx,.plain,#[]⟩:=I.obj
 refine wpAny_bind (wpAny_pure (wpAny_bind (wpAny_bind (wpAny_loadPart hx (wpAny_bind (W.Looks.here (s:={ s with toks:=s.toks+1}) (W.looks_clsIn X hc) ?_))))))
 rw[To]
 refine wpAny_pure (a:=some dx) (wpAny_bind (wpAny_pure (wpAny_bind ?_)))
 refine wpAny_nsSet1 (s:={ s with toks:=s.toks+1}) I.ns fun h' Tq AM=>?_
 obtain⟨oD,esD,epD,hoD,hdD,Ma⟩:=Tq.count (PySem.Within.cons name v hw)
 refine wpAny_bind (wpAny_lookBehind hoD (by rw[hdD];exact pastItsLine_dict (aav Ma (by rw[aaI];omega))) ?_)
 exact wpAny_pure (h _ ⟨(AM.2 _ (Ne.symm I.ne)).trans I.obj,Tq,I.ne⟩ AM)
theorem HS {R:Result->Shared->Prop}{vs:List Value}{kw:List (Str×Value)}(X:K.In s.heap)(hm:W.makesIn K C=true)(hi:W.findIn K (.ref C) "__init__"=some (some (.ref f)))(hf:W.typeIn K (.ref f)=some (.type "function"))(h:codeAny (model prog w) (A.under (.builtin "type.__call__" ⟨.ref C::vs,kw⟩)) (.call (.ref f) ⟨.ref (s.heap.objs.size+1)::vs,kw⟩) (W.InitBack (s.heap.objs.size+1) R) { s with heap:=(s.heap.push W.emptyDict).push (W.instObj C s.heap.objs.size)}):codeAny (model prog w) A (.call (.ref C) ⟨vs,kw⟩) R s:=by
 obtain⟨hh,g,d,t,os⟩:=s
 exact W.make_core (W.makes_of X hm) (W.looks_findIn X hi) (fun self=>W.bind_fn X self hf) (.inl rfl) h
theorem F8 {R:Result->Shared->Prop}(X:K.In s.heap)(hm:W.makesIn K C=true)(hi:W.findIn K (.ref C) "__init__"=some (some (.builtin "object.__init__")))(hb:∀ self,W.Looks (model prog w) s.heap (bindSpecial (.builtin "object.__init__") self) (.builtin "object.__init__",[self]))(h:codeAny (model prog w) (A.under (.builtin "type.__call__" ⟨[.ref C],[]⟩)) (.call (.builtin "object.__init__") ⟨[.ref (s.heap.objs.size+1)],[]⟩) (W.InitBack (s.heap.objs.size+1) R) { s with heap:=(s.heap.push W.emptyDict).push (W.instObj C s.heap.objs.size)}):codeAny (model prog w) A (.call (.ref C) ⟨[],[]⟩) R s:=by
 obtain⟨hh,g,d,t,os⟩:=s
 exact W.make_core (W.makes_of X hm) (W.looks_findIn X hi) hb (.inr ⟨rfl,rfl⟩) h
end
noncomputable def fq (f:Str)(v:V):List (Str×V)->List (Str×V)
 | []=>[(f,v)]
 | (g,x)::r=>if g=f then (g,v)::r else (g,x)::fq f v r
theorem oe (f g:Str)(v:V):∀ fs:List (Str×V),(fq f v fs).lookup g=if g=f then some v else fs.lookup g
 | []=>by
   show abA g [(f,v)]=_
   by_cases h:g=f
   . have hb:(g == f)=true:=beq_iff_eq.mpr h
     simp only[abA,hb,if_pos h]
   . have hb:(g == f)=false:=beq_eq_false_iff_ne.mpr h
     simp only[abA,hb,if_neg h]
 | (k,x)::r=>by
   have ih:=oe f g v r
   rw[show fq f v ((k,x)::r)=(if k=f then (k,v)::r else (k,x)::fq f v r) from rfl]
   by_cases hk:k=f
   . rw[if_pos hk]
     by_cases h:g=k
     . have hb:(g == k)=true:=beq_iff_eq.mpr h
       simp only[abA,hb,if_pos (h.trans hk)]
     . have hb:(g == k)=false:=beq_eq_false_iff_ne.mpr h
       simp only[abA,hb,if_neg (fun e:g=f=>h (e.trans hk.symm))]
   . rw[if_neg hk]
     by_cases h:g=k
     . have hb:(g == k)=true:=beq_iff_eq.mpr h
       simp only[abA,hb,if_neg (fun e:g=f=>hk (h.symm.trans e))]
     . have hb:(g == k)=false:=beq_eq_false_iff_ne.mpr h
       simp only[abA,hb]
       exact ih
theorem rY (f:Str)(v:V):∀ fs:List (Str×V),f∈(fq f v fs).map (·.1)/\∀ g,g∈fs.map (·.1)->g∈(fq f v fs).map (·.1)
 | []=>⟨by simp[fq],fun g h=>by simp at h⟩
 | (k,x)::r=>by
   obtain⟨i1,i2⟩:=rY f v r
   rw[show fq f v ((k,x)::r)=(if k=f then (k,v)::r else (k,x)::fq f v r) from rfl]
   by_cases hk:k=f
   . rw[if_pos hk]
     subst hk
     exact⟨by simp,fun g h=>by simpa using h⟩
   . rw[if_neg hk]
     refine⟨?_,fun g h=>?_⟩
     . rw[aaq]
       exact aaF _ i1
     . rw[aaq] at h ⊢
       rcases aaE.mp h with e | e
       . exact aaE.mpr (.inl e)
       . exact aaF _ (i2 g e)
theorem tF (f:Str)(v:V):∀ fs:List (Str×V),(fq f v fs).length<=fs.length+1
 | []=>by simp[fq]
 | (k,x)::r=>by
   have ih:=tF f v r
   rw[show fq f v ((k,x)::r)=(if k=f then (k,v)::r else (k,x)::fq f v r) from rfl]
   by_cases hk:k=f
   . rw[if_pos hk,aaI,aaI];omega
   . rw[if_neg hk,aaI,aaI];omega
theorem pP.some_of {v:V}{o:Option Value}(r:pP (some v) o):∃ u,o=some u/\RelV v u:=by
 cases o with
 | none=>exact(show False from r).elim
 | some u=>exact⟨u,rfl,r⟩
theorem pP.none_of {o:Option Value}(r:pP none o):o=none:=by
 cases o with
 | none=>rfl
 | some u=>exact(show False from r).elim
theorem F9 {v:V}{u:Value}(r:RelV v u):W.handedIn u=true:=by
 cases v with
 | cW=>cases (show u=Value.none from r);rfl
 | bl b=>cases (show u=Value.bool b from r);rfl
 | int i=>obtain⟨t,e⟩:=(show ∃ t,u=Value.int i t from r);cases e;rfl
 | str x=>obtain⟨t,e⟩:=(show ∃ t,u=Value.str x t from r);cases e;rfl
 | Hn b=>obtain⟨t,e⟩:=(show ∃ t,u=Value.bytes b t from r);cases e;rfl
 | PK b=>obtain⟨t,e⟩:=(show ∃ t,u=Value.float b t from r);cases e;rfl
 | ref a=>cases (show u=Value.ref a from r);rfl
 | ty n=>cases (show u=Value.type n from r);rfl
section
variable {P:Program}{w:World}{H:Hp}{h:Heap}{a C dx:Addr}{fs:List (Str×V)}
theorem uD (bh:qH P w H h)(e:Rd H a (.ins C dx fs)):∃ mA,CG h a dx C mA/\(∀ f,pP (fs.lookup f) (mA f))/\PySem.Within mA (fs.map (·.1))/\fs.length<=1000/\H dx=some (.own a):=by
 obtain⟨d,z,ne,ob,mA,n,r,q⟩:=(show aL P w H h a (.ins C dx fs) from e.ok bh)
 exact⟨mA,⟨ob,n,ne⟩,r,q,z,d⟩
end
structure uE (K:W.Frag)(C:Addr):Prop where
 pg:W.plainGet K C Str.empty=true
 hd:W.hasDictIn K C=true
 po:W.plainOver K C=true
 sa:W.findIn K (.ref C) "__setattr__"=some (some (.builtin "object.__setattr__"))
theorem uE.get {K:W.Frag}{C:Addr}(c:uE K C)(f:Str):W.plainGet K C f=true:=c.pg
def bG (K:W.Frag)(C:Addr)(f:Str):Prop:=W.findIn K (.ref C) f=some none
theorem bG.Uk {K:W.Frag}{C:Addr}{f:Str}(n:bG K C f):W.takerIn K C f=some none:=by
 unfold W.takerIn
 rw[show W.findIn K (.ref C) f=some none from n]
 rfl
structure Con (K:W.Frag)(C:Addr)(f:Str)(v:V)(u:Value):Prop where
 at_:W.findIn K (.ref C) f=some (some u)
 rel:RelV v u
 get:W.specialIn K u "__get__"=some none
 cp:W.copiedNames.contains f=false
structure Meth (K:W.Frag)(C:Addr)(m:Str)(f:Addr):Prop where
 at_:W.findIn K (.ref C) m=some (some (.ref f))
 fn:W.isFn K (.ref f)=true
 kp:W.keepIn K (.ref f)=true
section
variable {X:Cx}{pins:List (Addr×Obj)}{σ:St}{H:Hp}{s:Shared}{a C dx:Addr}{fs:List (Str×V)}{f:Str}{v:V}{A:Around}{E:Value->Shared->Prop}
theorem CH {b:Bool}{Q:Value->Shared->Prop}(I:Inv X pins σ H s)(e:Rd H a (.ins C dx fs))(c:uE X.K C)(n:bG X.K C f)(l:fs.lookup f=some v)(h:∀ u s',Inv X pins σ H s'->RelV v u->Q u s'):wpAny (model X.prog X.w) A (getAttr (.ref a) f b) Q E s:=by
 obtain⟨mA,O,r,_,_,_⟩:=uD I.bh e
 obtain⟨u,hu,ru⟩:=pP.some_of (v:=v) (o:=mA f) (by rw[<- l];exact r f)
 exact get_map I.mR O (c.get f) c.hd n hu (F9 ru) (h u _ (I.tok _) ru)
theorem vv {m:Str}{g:Addr}{pl:Sem Bool}{Q:Value×List Value->Shared->Prop}(I:Inv X pins σ H s)(e:Rd H a (.ins C dx fs))(c:uE X.K C)(k:Meth X.K C m g)(l:fs.lookup m=none)(h:Q (.ref g,[.ref a]) s):wpAny (model X.prog X.w) A (getMethod (.ref a) m pl) Q E s:=by
 obtain⟨mA,O,r,_,_,_⟩:=uD I.bh e
 have hn:mA m=none:=pP.none_of (by rw[<- l];exact r m)
 exact HR I.mR O (c.get m) k.at_ k.fn hn h
theorem CI {y:V}{u:Value}{Q:Unit->Shared->Prop}(I:Inv X pins σ H s)(e:H a=some (.ins C dx fs))(c:uE X.K C)(n:bG X.K C f)(hl:fs.length < 1000)(ry:RelV y u)(h:∀ s',Inv X pins σ (upd H a (.ins C dx (fq f y fs))) s'->Q () s'):wpAny (model X.prog X.w) A (setAttr (.ref a) f u) Q E s:=by
 obtain⟨mA,O,r,wi,_,ho⟩:=uD I.bh (.of e)
 have hz:(fs.map (·.1)).length<=sizeLine:=by rw[k5,sizeLine_eq];omega
 refine L9 I.mR O c.sa c.po n.Uk c.hd wi hz fun h' O' sb=>h _ ?_
 have hd:∃ o,h'.get? dx=some o:=let ⟨o,_,_,e',_⟩:=O'.ns;⟨o,e'⟩
 refine I.write (x:=a) (e:=dx) (by rw[e];exact True.intro) (.inr ho) (fun b q hb z=>(sb.2 b hb).trans z) hd ?_
 refine⟨by rw[ah O.ne];exact ho,?_,O.ne,O'.obj,_,O'.ns,fun g=>?_,fun g hg=>?_⟩
 . have:=tF f y fs;omega
 . show pP ((fq f y fs).lookup g) (if g=f then some u else mA g)
   rw[oe]
   by_cases q:g=f
   . rw[if_pos q,if_pos q];exact ry
   . rw[if_neg q,if_neg q];exact r g
 . by_cases q:g=f
   . rw[q];exact(rY f y fs).1
   . refine(rY f y fs).2 g (wi g fun z=>hg ?_)
     show(if g=f then some u else mA g)=none
     rw[if_neg q];exact z
theorem Inv.made (I:Inv X pins σ H s):Inv X pins σ (upd (upd H s.heap.objs.size (.own (s.heap.objs.size+1))) (s.heap.objs.size+1) (.ins C s.heap.objs.size [])) { s with heap:=(s.heap.push W.emptyDict).push (W.instObj C s.heap.objs.size)}:=by
 have e1:(s.heap.push W.emptyDict).get? s.heap.objs.size=some W.emptyDict:=aar s.heap rfl
 have e2:((s.heap.push W.emptyDict).push (W.instObj C s.heap.objs.size)).get? (s.heap.objs.size+1)=some (W.instObj C s.heap.objs.size):=by
   have:=aar (s.heap.push W.emptyDict) (o:=W.instObj C s.heap.objs.size) rfl
   rwa [aa9] at this
 have e3:(s.heap.push W.emptyDict).Ns s.heap.objs.size (fun _=>none):=⟨W.emptyDict,#[],_,e1,rfl,(fun e he=>absurd he (by simp)),fun _=>rfl⟩
 have I1:=I.laid (a:=s.heap.objs.size) (o:=.own (s.heap.objs.size+1)) (h':=s.heap.push W.emptyDict) (t':=s.toks) (fun b u q=>aaf _ q) (aae _) ⟨_,e1⟩
 refine I1.laid (a:=s.heap.objs.size+1) (o:=.ins C s.heap.objs.size []) (t':=s.toks) (fun b u q=>aaf _ q) (Nat.le_of_eq (aa9 _ _)) ?_
 have ne:s.heap.objs.size≠s.heap.objs.size+1:=aat (abe _)
 refine⟨by rw[ah ne,ak],aa1 _,ne,e2,fun _=>none,(Heap.Ns1.of_empty e3).at fun o q=>aaf _ q,fun _=>True.intro,fun y hy=>absurd rfl hy⟩
theorem Mb {prog:Program}{w:World}{env:Env}{e:Expr}{f:Str}{pos:Pos}{s:Shared}{Q:Value->Shared->Prop}(hb:attributeBase e f env (eval e env)=eval e env)(h:wpAny (model prog w) A (eval e env) (fun o s₁=>wpAny (model prog w) A (getAttr o f true) Q E s₁) E s):wpAny (model prog w) A (eval (.Attribute e f pos) env) Q E s:=
 Attribute_any_ h (by rw[arm_eval_Attribute,hb])
end
def XW (K:PySem.W.Frag)(ta:TE)(f:Str):TE:=fun σ H Q=>ta σ H fun x H1=>∃ a C dx fs v,x=.ref a/\Rd H1 a (.ins C dx fs)/\uE K C/\bG K C f/\fs.lookup f=some v/\Q v H1
def XY (K:PySem.W.Frag)(ta tv:TE)(f:Str):TS:=fun D σ H=>tv σ H fun y H1=>ta σ H1 fun x H2=>∃ a C dx fs,x=.ref a/\H2 a=some (.ins C dx fs)/\uE K C/\bG K C f/\fs.length < 1000 /\
 D.nx σ (upd H2 a (.ins C dx (fq f y fs)))
section
variable {X:Cx}{o e value:Expr}{f:Str}{pos pos':Pos}{ta tv:TE}
theorem vw (he:PE X e ta)(hb:attributeBase e f X.env (eval e X.env)=eval e X.env):PE X (.Attribute e f pos) (XW X.K ta f):=by
 intro pins s σ H Q I h
 refine Mb hb (b7 (he pins s σ H _ I h) fun u s1 ⟨x,H1,I1,rx,a,C,dx,fs,v,ex,ea,c,n,l,q⟩=>?_)
 subst ex
 obtain rfl:u=Value.ref a:=rx
 exact CH I1 ea c n l fun u' s2 I2 ru=>⟨v,H1,I2,ru,q⟩
theorem vx (ha:PE X o ta)(hv:PE X value tv)(hs:swapsWith value (some (.Attribute o f pos')) pos.line X.env=pure false):PS X (.Assign [.Attribute o f pos'] value pos) (XY X.K ta tv f):=by
 intro pins s σ H D I h
 refine plainObj_wpAny_Assign_Attribute (b7 (hv pins s σ H _ I h) fun u s1 ⟨y,H1,I1,ry,q⟩=>b7 (ha pins s1 σ H1 _ I1 q) fun ov s2 ⟨x,H2,I2,rx,a,C,dx,fs,ex,ea,c,n,l,q2⟩=>?_) hs
 subst ex
 obtain rfl:ov=Value.ref a:=rx
 exact CI I2 ea c n l ry fun s3 I3=>⟨σ,_,I3,q2⟩
end
section
variable {X:Cx}{pins:List (Addr×Obj)}{σ:St}{H:Hp}{s:Shared}{A:Around}{E:Value->Shared->Prop}{Q:Value->Shared->Prop}{c:Value}{b:Bool}
inductive t5 (K:W.Frag)(H:Hp):V->Value->Prop where
 | cW:t5 K H .cW (.type "NoneType")
 | bl (x:Bool):t5 K H (.bl x) (.type "bool")
 | int (i:Int):t5 K H (.int i) (.type "int")
 | str (x:Str):t5 K H (.str x) (.type "str")
 | PK (x:UInt64):t5 K H (.PK x) (.type "float")
 | lst {a:Addr} {xs:List V} (e:H a=some (.lst xs)):t5 K H (.ref a) (.type "list")
 | bF {a:Addr} {o:Obj} {xs:List V} (e:H a=some (.bF o (.lst xs))):t5 K H (.ref a) (.type "list")
 | tup {a:Addr} {xs:List V} (e:H a=some (.tup xs)):t5 K H (.ref a) (.type "tuple")
 | dK {a:Addr} {kvs:List (Key×V)} (e:H a=some (.dK kvs)):t5 K H (.ref a) (.type "dict")
 | dT {a:Addr} {kvs:List (List Key×V)} (e:H a=some (.dT kvs)):t5 K H (.ref a) (.type "dict")
 | ins {a C dx:Addr} {fs:List (Str×V)} (e:Rd H a (.ins C dx fs)) (cl:uE K C) (ha:W.findIn K (.ref C) "__class__"=some (some (.builtin "object.__class__")))
     (hn:W.specialIn K (.builtin "object.__class__") "__get__"=some (some (.builtin "getset_descriptor.__get__"))) (Qk:W.takesIn K (.builtin "object.__class__")=some true)
     (hm:W.mroIn K C (.type "object")=some true):t5 K H (.ref a) (.ref C)
theorem rZ {x:V}{u t:Value}(I:Inv X pins σ H s)(rx:RelV x u)(ty:t5 X.K H x t)(e:W.kitOne X.K t c=some b)(h:∀ tk,Q (.bool b) { s with toks:=tk}):wpAny (model X.prog X.w) A (call (.builtin "isinstance") [u,c]) Q E s:=by
 cases ty with
 | cW=>cases (show u=Value.none from rx);exact W.kia_one W.kitx_none I.mR True.intro e (fun z=>nomatch z) h
 | bl y=>cases (show u=Value.bool y from rx);exact W.kia_one W.kitx_bool I.mR True.intro e (fun z=>nomatch z) h
 | int i=>obtain⟨t,q⟩:=(show ∃ t,u=Value.int i t from rx);cases q;exact W.kia_one W.kitx_int I.mR True.intro e (fun z=>nomatch z) h
 | str y=>obtain⟨t,q⟩:=(show ∃ t,u=Value.str y t from rx);cases q;exact W.kia_one W.kitx_str I.mR True.intro e (fun z=>nomatch z) h
 | PK y=>obtain⟨t,q⟩:=(show ∃ t,u=Value.float y t from rx);cases q;exact W.kia_one W.kitx_float I.mR True.intro e (fun z=>nomatch z) h
 | @lst a xs ea=>
   cases (show u=Value.ref a from rx)
   obtain⟨_,_,n,_,h1⟩:=(show aL X.prog X.w H s.heap a (.lst xs) from I.bh a _ ea)
   exact W.kia_one W.kitx_list I.mR ⟨_,h1,rfl⟩ e (fun z=>nomatch z) h
 | @bF a ob xs ea=>
   cases (show u=Value.ref a from rx)
   obtain⟨_,_,_,n,_,h1⟩:=(show aL X.prog X.w H s.heap a (.bF ob (.lst xs)) from I.bh a _ ea)
   exact W.kia_one W.kitx_list I.mR ⟨_,h1,rfl⟩ e (fun z=>nomatch z) h
 | @tup a xs ea=>
   cases (show u=Value.ref a from rx)
   obtain⟨_,_,_,p⟩:=(show aL X.prog X.w H s.heap a (.tup xs) from I.bh a _ ea)
   obtain⟨o,h1,h2,_⟩:=p
   exact W.kia_one W.kitx_tuple I.mR ⟨o,h1,h2⟩ e (fun z=>nomatch z) h
 | @dK a kvs ea=>
   cases (show u=Value.ref a from rx)
   obtain⟨_,_,vs,_,p⟩:=(show aL X.prog X.w H s.heap a (.dK kvs) from I.bh a _ ea)
   obtain⟨o,es,ep,h1,h2,_⟩:=p
   exact W.kia_one W.kitx_dict I.mR ⟨o,h1,h2.1⟩ e (fun z=>nomatch z) h
 | @dT a kvs ea=>
   cases (show u=Value.ref a from rx)
   obtain⟨_,_,xs,_,o,es,ep,h1,h2,_⟩:=(show aL X.prog X.w H s.heap a (.dT kvs) from I.bh a _ ea)
   exact W.kia_one W.kitx_dict I.mR ⟨o,h1,h2.1⟩ e (fun z=>nomatch z) h
 | @ins a C dx fs ea cl ha hn Qk hm=>
   cases (show u=Value.ref a from rx)
   obtain⟨mA,O,_⟩:=uD I.bh ea
   obtain⟨od,J,_⟩:=O.look
   exact W.kia_one (W.kitx_own (cl.get _) cl.hd ha hn Qk hm) I.mR J e (fun z=>nomatch z) h
end
structure eQ (k:Nat)(A:Around):Prop where
 hd:A.handled=none
 dp:A.depth+3 * k+5 < recursionLimit
 un:A.units+16 * k+200 < cLine
theorem eQ.mono {j k:Nat}{A:Around}(r:eQ k A)(h:j<=k):eQ j A:=⟨r.hd,by have:=r.dp;omega,by have:=r.un;omega⟩
theorem eQ.deeper {k:Nat}{A:Around}(r:eQ (k+1) A)(env:Env):eQ k (A.deeper env):=
 ⟨r.hd,by have:=r.dp;show A.depth+1+3 * k+5 < _;omega,by have:=r.un;show A.units+3+16 * k+200 < _;omega⟩
theorem CJ {A:Around}{C:Addr}{us:List Value}{kw:List (Str×Value)}:(A.under (.builtin "type.__call__" ⟨.ref C::us,kw⟩)).depth=A.depth+1:=by
 first | rfl | simp[Around.under,Code.weight,Code.isCreation,Code.isGuard,Code.isCaller,Code.frames,Code.isFrame,guardIds]
theorem CK {A:Around}{C:Addr}{us:List Value}{kw:List (Str×Value)}:(A.under (.builtin "type.__call__" ⟨.ref C::us,kw⟩)).units=A.units+1:=by
 first | rfl | simp[Around.under,Code.cUnits,Code.frames,Code.isFrame]
theorem eQ.make {k:Nat}{A:Around}(r:eQ (k+1) A)(C:Addr)(us:List Value)(kw:List (Str×Value)):eQ k (A.under (.builtin "type.__call__" ⟨.ref C::us,kw⟩)):=
 ⟨r.hd,by have:=r.dp;rw[CJ];omega,by have:=r.un;rw[CK];omega⟩
theorem eQ.depth {k:Nat}{A:Around}(r:eQ k A):A.depth < recursionLimit:=by have:=r.dp;omega
theorem eQ.units {k:Nat}{A:Around}(r:eQ k A):A.units+64 < cLine:=by have:=r.un;omega
def Ul:TA:=fun _ H Q=>Q [] H
def Um (ta:TE)(tr:TA):TA:=fun σ H Q=>ta σ H fun x H1=>tr σ H1 fun xs H2=>Q (x::xs) H2
section
variable {X:Cx}{e:Expr}{es:List Expr}{te:TE}{t:TA}{pos:Pos}
theorem og:PA X [] Ul:=fun _ _ _ _ H Q I h=>Calls.spliced_nil ⟨[],H,I,.nil,h⟩
theorem lS (ha:PE X e te)(hr:PA X es t)(hs:starEach (e::es) X.env=(false,eval e X.env)::starEach es X.env:=by rfl):PA X (e::es) (Um te t):=by
 intro pos pins s σ H Q I h
 rw[hs]
 show wpAny _ _ (spliced ((false,eval e X.env)::backTo pos (starEach es X.env))) _ _ s
 refine Calls.spliced_cons (b7 (ha pins s σ H _ I h) fun u s1 ⟨x,H1,I1,r1,q1⟩=>?_)
 exact b7 (hr pos pins s1 σ H1 _ I1 q1) fun us s2 ⟨xs,H2,I2,r2,q2⟩=>⟨x::xs,H2,I2,.cons r1 r2,q2⟩
def XZ (t:TA):TE:=fun σ H Q=>t σ H fun xs H1=>xs.length<=sizeLine/\∀ p,H1 p=none->Q (.ref p) (upd H1 p (.tup xs))
def X0 (t:TA):TE:=fun σ H Q=>t σ H fun xs H1=>xs.length<=sizeLine/\∀ p,H1 p=none->Q (.ref p) (upd H1 p (.lst xs))
theorem Ql {x1}(h:PA X es t):PE X (.Tuple es x1 pos) (XZ t):=by
 intro pins s σ H Q I hq
 refine wpAny_Tuple_spliced (b7 (h pos pins s σ H _ I hq) fun us s1 ⟨xs,H1,I1,r,z,q⟩=>⟨by rw[<- r.length];exact z,?_⟩)
 have hf:H1 s1.heap.objs.size=none:=I1.bh.fresh (aae _)
 refine⟨.ref s1.heap.objs.size,upd H1 s1.heap.objs.size (.tup xs),I1.laid (t':=s1.toks) (fun b u e=>aaf _ e) (aae _) ?_,rfl,q _ hf⟩
 exact⟨z,us,r,⟨_,aar _ rfl,rfl,_,rfl⟩⟩
theorem vy (h:PA X es t):PE X (.List es pos) (X0 t):=by
 intro pins s σ H Q I hq
 refine wpAny_List_spliced (b7 (h pos pins s σ H _ I hq) fun us s1 ⟨xs,H1,I1,r,z,q⟩=>⟨by rw[<- r.length];exact z,?_⟩)
 have hf:H1 s1.heap.objs.size=none:=I1.bh.fresh (aae _)
 refine⟨.ref s1.heap.objs.size,upd H1 s1.heap.objs.size (.lst xs),I1.laid (t':=s1.toks) (fun b u e=>aaf _ e) (aae _) ?_,rfl,q _ hf⟩
 exact⟨z,us,0,r,aar _ rfl⟩
end
abbrev Sp:=List V->Hp->VK->XK->Prop
abbrev r0:=List Env->Hp->Shared->XK->Value->Shared->Prop
structure AN (P:Program)(w:World)(K:W.Frag)(mg:Str->Option Value)(base:Heap)(A:Around)(outer:List Env)(s:Shared)(H:Hp):Prop where
 frames:A.frames=some outer
 mod:Mod K mg base
 bs:∀ b o,base.get? b=some o->s.heap.get? b=some o/\H b=none
 D2:base.objs.size<=s.heap.objs.size
 rV:s.heap.FunFrames base outer
 Ot:∀ b∈HC outer,H b=none
 bh:qH P w H s.heap
 bare:AllBare s.gens
def CE (outer:List Env)(P:Program)(w:World)(H:Hp)(s:Shared)(Q:VK)(u:Value)(s':Shared):Prop:=
 ∃ v H',s'.os=s.os/\AllBare s'.gens/\Un (HC outer) [] H H' s.heap s'.heap/\qH P w H' s'.heap/\RelV v u/\Q v H'
def CR (CX:r0)(outer:List Env)(P:Program)(w:World)(H:Hp)(s:Shared)(Q:VK)(E:XK)(r:Result)(s':Shared):Prop:=
 match r with
 | .ok (.ret u)=>CE outer P w H s Q u s'
 | .ok _=>False
 | .error e=>CX outer H s E e s'
structure j4 (P:Program)(w:World)(K:W.Frag)(mg:Str->Option Value)(base:Heap)(CX:r0)(k:Nat)(f:Addr)(fd:FuncData)(ps:List Str)(sp:Sp):Prop where
 len:∀ vs H Q E,sp vs H Q E->vs.length=ps.length
 run:∀ (A:Around) (outer:List Env) (s:Shared) (H:Hp) (args:Args) (us:List Value) (vs:List V) (Q:VK) (E:XK),eQ k A->AN P w K mg base A outer s H->BindsTo s fd args (ps.zip us)->Vals vs us->sp vs H Q E ->
   codeAny (model P w) A (.call (.ref f) args) (CR CX outer P w H s Q E) s
theorem AN.make {P:Program}{w:World}{K:W.Frag}{mg:Str->Option Value}{base:Heap}{A:Around}{outer:List Env}{s:Shared}{H:Hp}(e:AN P w K mg base A outer s H)(C:Addr)(us:List Value)(kw:List (Str×Value)):AN P w K mg base (A.under (.builtin "type.__call__" ⟨.ref C::us,kw⟩)) outer s H:=⟨by first | exact e.frames | (simpa [Around.under,Code.envs,Code.isFrame,pushEnvs] using e.frames),e.mod,e.bs,e.D2,e.rV,e.Ot,e.bh,e.bare⟩
section
variable {X:Cx}{pins:List (Addr×Obj)}{σ:St}{H:Hp}{s s':Shared}
theorem Inv.Uo (I:Inv X pins σ H s):AN X.prog X.w X.K X.mg X.base X.A X.stack s H:=
 ⟨I.ok.frames,I.ok.mod,I.bs,aav I.ok.D2 I.sz,I.stack,I.uB,I.bh,I.bare⟩
theorem Inv.after {Q:VK}{u:Value}(I:Inv X pins σ H s)(h:CE X.stack X.prog X.w H s Q u s'):EP X pins σ Q u s':=by
 obtain⟨v,H',os,bare,un,bh,r,q⟩:=h
 obtain⟨hh,g,d,t,X1⟩:=s'
 obtain rfl:X1=s.os:=os
 exact⟨v,H',I.call (h':=hh) (g':=g) (d':=d) (t':=t) (ch:=[]) un bh bare (fun b z=>absurd z (by simp)),r,q⟩
end
def Up (sp:Sp)(dvs:List V)(E:XK)(t:TA):TE:=fun σ H Q=>t σ H fun vs H1=>sp (vs ++ dvs) H1 Q E
def OA (C:Addr)(m:Str)(sp:Sp)(dvs:List V)(E:XK)(ta:TE)(t:TA):TE:=fun σ H Q=>ta σ H fun x H1=>∃ a dx fs,x=.ref a/\Rd H1 a (.ins C dx fs)/\fs.lookup m=none /\
 t σ H1 fun vs H2=>sp (x::(vs ++ dvs)) H2 Q E
def Uq (C:Addr)(sp:Sp)(dvs:List V)(E:XK)(t:TA):TE:=fun σ H Q=>t σ H fun vs H1=>∀ x dx,H1 x=none->H1 dx=none->dx≠x ->
 sp (.ref x::(vs ++ dvs)) (upd (upd H1 dx (.own x)) x (.ins C dx [])) (fun v H2=>v=.cW/\Q (.ref x) H2) E
def Binds (K:PySem.W.Frag)(fd:FuncData)(ps:List Str)(ds:List Value):Prop:=
 ∀ (s:Shared) (us:List Value),K.In s.heap->(us ++ ds).length=ps.length->BindsTo s fd ⟨us,[]⟩ (ps.zip (us ++ ds))
theorem Binds.all {K:W.Frag}{fd:FuncData}{ps:List Str}(h:∀ us:List Value,us.length=ps.length->bindArgs fd ⟨us,[]⟩=pure (ps.zip us)):Binds K fd ps []:=fun s us _ hl=>by
 rw[aaZ] at hl ⊢
 exact .of_eq (h us hl)
def Passes (CX:r0)(X:Cx)(E:XK):Prop:=∀ (pins:List (Addr×Obj)) (σ:St) (H:Hp) (s:Shared) (e:Value) (s':Shared),Inv X pins σ H s->CX X.stack H s E e s'->X.xe e s'
section
variable {X:Cx}{CX:r0}{k:Nat}{f C:Addr}{fd:FuncData}{ps:List Str}{sp:Sp}{dvs:List V}{ds:List Value}{E:XK}{x m:Str}{p pos apos:Pos}{e o:Expr}{es:List Expr}{ta:TE}{t:TA}
theorem CL {pins:List (Addr×Obj)}{σ:St}{H:Hp}{s:Shared}{Q:VK}{us:List Value}{vs:List V}(F:j4 X.prog X.w X.K X.mg X.base CX k f fd ps sp)(hr:eQ k X.A)(hb:Binds X.K fd ps ds)(hd:Vals dvs ds)(hx:Passes CX X E)(I:Inv X pins σ H s)(r:Vals vs us)(h:sp (vs ++ dvs) H Q E):wpAny (model X.prog X.w) X.A (call (.ref f) us) (EP X pins σ Q) X.xe s:=by
 have r2:Vals (vs ++ dvs) (us ++ ds):=r.append hd
 have hl:(us ++ ds).length=ps.length:=by rw[<- r2.length];exact F.len _ _ _ _ h
 refine wpAny_call (codeAny_mono (F.run X.A X.stack s H ⟨us,[]⟩ (us ++ ds) (vs ++ dvs) Q E hr I.Uo (hb s us I.mR hl) r2 h) fun r s' hq=>?_)
 cases r with
 | error e=>exact hx pins σ H s e s' I hq
 | ok fl=>
   cases fl with
   | ret u=>exact I.after hq
   | next=>exact False.elim hq
   | brk=>exact False.elim hq
   | cont=>exact False.elim hq
theorem D9 (F:j4 X.prog X.w X.K X.mg X.base CX k f fd ps sp)(hr:eQ k X.A)(hg:Gl X x)(hm:X.mg x=some (.ref f))(hk:W.keepIn X.K (.ref f)=true)(hb:Binds X.K fd ps ds)(hd:Vals dvs ds)(hx:Passes CX X E)(ha:PA X (e::es) t)(mQ:(x == ("__debug__":Str))=false:=by decide)(he:starEach (e::es) X.env=(false,eval e X.env)::starEach es X.env:=by rfl)(nZ:(backTo pos (starEach es X.env)).any (·.1)=false:=by rfl):PE X (.Call (.Name x p) (e::es) [] pos) (Up sp dvs E t):=by
 intro pins s σ H Q I h
 refine wpAny_Call_Name_kw (uC I hg hm ?_ mQ)
 refine W.callWith_K (h₀:=X.base) I.ok.mod.TU hk (b7 (ha pos pins s σ H _ I h) fun us s1 ⟨vs,H1,I1,r,q⟩=>⟨I1.mR,?_⟩) he nZ
 exact CL F hr hb hd hx I1 r q
theorem Ea {pl:Sem Bool}(he:PE X o ta)(c:uE X.K C)(hm:Meth X.K C m f)(F:j4 X.prog X.w X.K X.mg X.base CX k f fd ps sp)(hr:eQ k X.A)(hb:Binds X.K fd ps ds)(hd:Vals dvs ds)(hx:Passes CX X E)(ha:PA X (e::es) t)
   (nL:starEach (e::es) X.env=(false,eval e X.env)::starEach es X.env:=by rfl) (nZ:(backTo pos (starEach es X.env)).any (·.1)=false:=by rfl)
   (ht:eval (.Call (.Attribute o m apos) (e::es) [] pos) X.env=(do
     let ov <- eval o X.env
     standAt apos.atName
     let (f,first) <- holding [ov] (getMethod ov m pl)
     callWith pos f first (backTo pos (starEach (e::es) X.env)) (backToKw pos (keywordEach [] X.env))):=by rfl) :
   PE X (.Call (.Attribute o m apos) (e::es) [] pos) (OA C m sp dvs E ta t):=by
 intro pins s σ H Q I h
 refine W.methodCall_KW (pl:=pl) (b7 (he pins s σ H _ I h) fun u s1 ⟨x,H1,I1,rx,a,dx,fs,ex,ea,l,q⟩=>?_) ht
 subst ex
 obtain rfl:u=Value.ref a:=rx
 refine vv I1 ea c hm l ?_
 refine W.callWith_K (first:=[.ref a]) (h₀:=X.base) I.ok.mod.TU hm.kp (b7 (ha pos pins s1 σ H1 _ I1 q) fun us s2 ⟨vs,H2,I2,r,q2⟩=>⟨I2.mR,?_⟩) nL nZ
 exact CL (us:=.ref a::us) (vs:=.ref a::vs) F hr hb hd hx I2 (.cons rfl r) q2
theorem AO {pl:Sem Bool}(he:PE X o ta)(c:uE X.K C)(hm:Meth X.K C m f)(F:j4 X.prog X.w X.K X.mg X.base CX k f fd ps sp)(hr:eQ k X.A)(hb:Binds X.K fd ps ds)(hd:Vals dvs ds)(hx:Passes CX X E)
   (ht:eval (.Call (.Attribute o m apos) [] [] pos) X.env=(do
     let ov <- eval o X.env
     standAt apos.atName
     let (f,first) <- holding [ov] (getMethod ov m pl)
     callWith pos f first (backTo pos (starEach [] X.env)) (backToKw pos (keywordEach [] X.env))):=by rfl) :
   PE X (.Call (.Attribute o m apos) [] [] pos) (OA C m sp dvs E ta Ul):=by
 intro pins s σ H Q I h
 refine W.methodCall_KW (pl:=pl) (b7 (he pins s σ H _ I h) fun u s1 ⟨x,H1,I1,rx,a,dx,fs,ex,ea,l,q⟩=>?_) ht
 subst ex
 obtain rfl:u=Value.ref a:=rx
 refine vv I1 ea c hm l ?_
 exact W.callWith_K0 (first:=[.ref a]) I1.mR hm.kp (CL (us:=[.ref a]) (vs:=[.ref a]) F hr hb hd hx I1 (.cons rfl .nil) q)
structure Mk (K:W.Frag)(C f:Addr):Prop where
 makes:W.makesIn K C=true
 init:W.findIn K (.ref C) "__init__"=some (some (.ref f))
 fn:W.isFn K (.ref f)=true
 kp:W.keepIn K (.ref C)=true
theorem HU {pins:List (Addr×Obj)}{σ:St}{H:Hp}{s:Shared}{Q:VK}{us:List Value}{vs:List V}(M:Mk X.K C f)(F:j4 X.prog X.w X.K X.mg X.base CX k f fd ps sp)(hr:eQ (k+1) X.A)(hb:Binds X.K fd ps ds)(hd:Vals dvs ds)(hx:Passes CX X E)(I:Inv X pins σ H s)(r:Vals vs us)(h:∀ x dx,H x=none->H dx=none->dx≠x->sp (.ref x::(vs ++ dvs)) (upd (upd H dx (.own x)) x (.ins C dx [])) (fun v H2=>v=.cW/\Q (.ref x) H2) E):wpAny (model X.prog X.w) X.A (call (.ref C) us) (EP X pins σ Q) X.xe s:=by
 have hq:=h (s.heap.objs.size+1) s.heap.objs.size (I.bh.fresh (abc _)) (I.bh.fresh (aae _)) (aat (abe _))
 have I2:=Inv.made (C:=C) I
 have r2:Vals (V.ref (s.heap.objs.size+1)::(vs ++ dvs)) (Value.ref (s.heap.objs.size+1)::(us ++ ds)):=.cons rfl (r.append hd)
 have hl:(Value.ref (s.heap.objs.size+1)::us ++ ds).length=ps.length:=by
   have e:=r2.length
   rw[F.len _ _ _ _ hq] at e
   exact e.symm
 refine wpAny_call (HS (f:=f) I.mR M.makes M.init (beq_iff_eq.mp M.fn) (codeAny_mono (F.run _ X.stack _ _ ⟨Value.ref (s.heap.objs.size+1)::us,[]⟩ (Value.ref (s.heap.objs.size+1)::(us ++ ds)) _ _ E (hr.make C us [])
   (I2.Uo.make C us []) (hb _ (Value.ref (s.heap.objs.size+1)::us) I2.mR hl) r2 hq) fun r s' Ur=>?_))
 cases r with
 | error e=>exact hx pins σ _ _ e s' I2 Ur
 | ok fl=>
   cases fl with
   | ret u=>
     obtain⟨v,H',I3,rv,ev,q3⟩:=I2.after Ur
     subst ev
     exact⟨rv,⟨V.ref (s.heap.objs.size+1),H',I3,rfl,q3⟩⟩
   | next=>exact False.elim Ur
   | brk=>exact False.elim Ur
   | cont=>exact False.elim Ur
theorem Eb (M:Mk X.K C f)(F:j4 X.prog X.w X.K X.mg X.base CX k f fd ps sp)(hr:eQ (k+1) X.A)(hg:Gl X x)(hm:X.mg x=some (.ref C))(hb:Binds X.K fd ps ds)(hd:Vals dvs ds)(hx:Passes CX X E)(ha:PA X (e::es) t)(mQ:(x == ("__debug__":Str))=false:=by decide)(he:starEach (e::es) X.env=(false,eval e X.env)::starEach es X.env:=by rfl)(nZ:(backTo pos (starEach es X.env)).any (·.1)=false:=by rfl):PE X (.Call (.Name x p) (e::es) [] pos) (Uq C sp dvs E t):=by
 intro pins s σ H Q I h
 refine wpAny_Call_Name_kw (uC I hg hm ?_ mQ)
 refine W.callWith_K (h₀:=X.base) I.ok.mod.TU M.kp (b7 (ha pos pins s σ H _ I h) fun us s1 ⟨vs,H1,I1,r,q⟩=>⟨I1.mR,?_⟩) he nZ
 exact HU M F hr hb hd hx I1 r q
end
section
variable {fd:FuncData}{ps ks:List Str}
structure X2 (K:W.Frag)(fd:FuncData)(ps ks:List Str)(g:List Value->List Value->List Value)(gV:List V->List V->List V):Prop where
 to:∀ (s:Shared) (us ws:List Value),K.In s.heap->(g us ws).length=ps.length->BindsTo s fd ⟨us,ks.zip ws⟩ (ps.zip (g us ws))
 rel:∀ {vs:List V} {us:List Value} {zs:List V} {ws:List Value},Vals vs us->Vals zs ws->Vals (gV vs zs) (g us ws)
end
structure aq (N P:List Str)(sc:Scope):Prop where
 kind:sc.kind=.function
 co:sc.isCoroutine=false
 gen:sc.isGenerator=false
 nd:N.Nodup
 pre:N.take P.length=P
 par:∀ x∈P,sc.names.lookup x=some .local\/sc.names.lookup x=some .cell
 Qm:∀ y∈sc.names,y.2≠.free
theorem yb {kindOf:Str->Option NameKind}{x:Str}:∀ {binds:List (Str×Value)} {m:Str->Option Value},(∀ v,(x,v) ∉ binds)->bindL kindOf binds m x=m x
 | [],_,_=>rfl
 | (n,v)::r,m,h=>by
   unfold bindL
   rw[yb fun w hw=>h w (aaF _ hw)]
   split
   . have:x≠n:=by rintro rfl;exact h v aaX
     simp[this]
   . rfl
theorem yc {kindOf:Str->Option NameKind}{x:Str}:∀ {binds:List (Str×Value)} {m:Str->Option Value},(∀ v,(x,v) ∉ binds)->bindC kindOf binds m x=m x
 | [],_,_=>rfl
 | (n,v)::r,m,h=>by
   unfold bindC
   rw[yc fun w hw=>h w (aaF _ hw)]
   split
   . rfl
   . have:x≠n:=by rintro rfl;exact h v aaX
     simp[this]
theorem yd {kindOf:Str->Option NameKind}{x:Str}{v:Value}:∀ {P:List Str} {vs:List Value} {i:Nat} {m:Str->Option Value},P.Nodup->P[i]?=some x->vs[i]?=some v->kindOf x=some .local->bindL kindOf (P.zip vs) m x=some v
 | [],_,_,_,_,h,_,_=>by simp at h
 | _::_,[],_,_,_,_,h,_=>by simp at h
 | p::P,w::vs,0,m,nd,h1,h2,hk=>by
   simp at h1 h2;subst h1;subst h2
   show bindL kindOf ((p,w)::P.zip vs) m p=_
   unfold bindL
   rw[yb fun v hv=>(abr.mp nd).1 (List.of_mem_zip hv).1,if_pos hk]
   simp
 | p::P,w::vs,i+1,m,nd,h1,h2,hk=>by
   show bindL kindOf ((p,w)::P.zip vs) m x=_
   unfold bindL
   exact yd (i:=i) (abr.mp nd).2 (by simpa using h1) (by simpa using h2) hk
theorem ye {kindOf:Str->Option NameKind}{x:Str}{v:Value}:∀ {P:List Str} {vs:List Value} {i:Nat} {m:Str->Option Value},P.Nodup->P[i]?=some x->vs[i]?=some v->kindOf x≠some .local->bindC kindOf (P.zip vs) m x=some v
 | [],_,_,_,_,h,_,_=>by simp at h
 | _::_,[],_,_,_,_,h,_=>by simp at h
 | p::P,w::vs,0,m,nd,h1,h2,hk=>by
   simp at h1 h2;subst h1;subst h2
   show bindC kindOf ((p,w)::P.zip vs) m p=_
   unfold bindC
   rw[yc fun v hv=>(abr.mp nd).1 (List.of_mem_zip hv).1,if_neg hk]
   simp
 | p::P,w::vs,i+1,m,nd,h1,h2,hk=>by
   show bindC kindOf ((p,w)::P.zip vs) m x=_
   unfold bindC
   exact ye (i:=i) (abr.mp nd).2 (by simpa using h1) (by simpa using h2) hk
noncomputable def start (N:List Str)(vs:List V):St:=vs.map some ++ aak (N.length - vs.length) none
noncomputable def AQ (CX:r0)(P:Program)(w:World)(K:W.Frag)(mg:Str->Option Value)(base:Heap)(N:List Str)(qual:Str)(scope:Scope)(f:Addr)(cd:Value)(A:Around)(outer:List Env)(s:Shared)(H:Hp)(E:XK):Cx where
 prog:=P
 w:=w
 K:=K
 mg:=mg
 base:=base
 A:=A.deeper (envOfC qual scope s.heap.objs.size f cd)
 N:=N
 s₀:=s
 H₀:=H
 env:=envOfC qual scope s.heap.objs.size f cd
 outer:=outer
 stack:=envOfC qual scope s.heap.objs.size f cd::outer
 ex:=[]
 calm:=true
 fn:=fun _=>true
 pn:=[]
 xe:=fun e s'=>wpAny (model P w) (A.deeper (envOfC qual scope s.heap.objs.size f cd)) (leaving (envOfC qual scope s.heap.objs.size f cd) e) (fun _ Mc=>CX outer H s E e Mc) (fun e' Mc=>CX outer H s E e' Mc) s'
theorem AR {sc:Scope}{n:Nat}{x:Str}(h:sc.names.lookup x=some .cell):∃ c,(cellsFrom n sc.names []).lookup x=some c:=by
 have q:=W.cellsFrom_some sc.names n [] (.inl h)
 exact abz.mp q
theorem Ga {CX:r0}{P:Program}{w:World}{K:W.Frag}{mg:Str->Option Value}{base:Heap}{N ps:List Str}{qual:Str}{scope:Scope}{f:Addr}{cd:Value}{A:Around}{outer:List Env}{s s1:Shared}{H:Hp}{E:XK}{us:List Value}{vs:List V}(S:aq N ps scope)(hd:A.handled=none)(e0:AN P w K mg base A outer s H)(hl:vs.length=ps.length)(r:Vals vs us)(x:InCallC s s.heap.objs.size (bindL (envOfC qual scope s.heap.objs.size f cd).kindOf (ps.zip us) fun _=>none) (cellsFrom (s.heap.objs.size+1) scope.names []) (bindC (envOfC qual scope s.heap.objs.size f cd).kindOf (ps.zip us) fun _=>none) s1):Inv (AQ CX P w K mg base N qual scope f cd A outer s H E) [] (start N vs) H s1:=by
 have nZ:ps.length<=N.length:=by have:=congrArg abd S.pre;rw[aax] at this;omega
 obtain⟨h1,tk,rfl,hk⟩:=x.done
 have Us:∀ b:Addr,b ∉ (AQ CX P w K mg base N qual scope f cd A outer s H E).ex:=fun b z=>absurd (show b∈([]:List Addr) from z) (by simp)
 refine⟨⟨e0.mod,S.kind,rfl,rfl,aae _,fun y z c h1 h2=>?_,fun y hy=>?_,fun y c _ h=>?_,fun _=>hd,Around.frames_deeper e0.frames,.inr ⟨rfl,rfl⟩,fun b z=>absurd z (Us b),e0.bs,e0.D2,fun b _ _=>Us b,fun b z=>absurd z (Us b),e0.rV,e0.Ot⟩,
   rfl,e0.bare,Un.kept hk,⟨_,x.toInCall.ns,fun i y v h1 h2 h3=>?_⟩,fun y c h=>⟨_,x.cell y c h⟩,e0.bh.fresh (aae _),fun y c h=>?_,fun p hp=>absurd (show p∈([]:List (Addr×Obj)) from hp) (by simp),e0.bh.kept hk,?_⟩
 . exact name_of_addr x.apart (PySem.mem_of_lookup h1) (PySem.mem_of_lookup h2)
 . have hy:scope.names.lookup y=some .cell\/scope.names.lookup y=some .free:=hy
   rcases hy with hy | hy
   . exact AR hy
   . exact absurd rfl (S.Qm _ (PySem.mem_of_lookup hy))
 . exact aa5 (x.above y c (PySem.mem_of_lookup h))
 . have hi:i < vs.length:=by
     unfold start at h2
     by_cases hi:i < vs.length
     . exact hi
     . rw[aaB (by simpa using hi)] at h2
       rw[aaR] at h2
       split at h2 <;> cases h2
   have ha:vs[i]?=some v:=by
     unfold start at h2
     rw[aaA (by simpa using hi),YL] at h2
     cases e:vs[i]? with
     | none=>rw[e] at h2;cases h2
     | some a=>rw[e] at h2;cases h2;rfl
   obtain⟨u,hu,rv⟩:=r.get ha
   have hp:ps[i]?=some y:=by
     rw[<- S.pre,List.getElem?_take_of_lt (by omega)];exact h1
   have ndP:ps.Nodup:=by rw[<- S.pre];exact S.nd.sublist (List.take_sublist _ _)
   refine⟨u,rv,?_⟩
   rcases S.par y (abg hp) with k | k
   . exact .inl ⟨k,yd ndP hp hu k⟩
   . obtain⟨c,e⟩:=AR (n:=s.heap.objs.size+1) k
     refine .inr ⟨.inl k,c,e,?_⟩
     have q:=x.cell y c e
     rw[ye ndP hp hu (by show scope.names.lookup y≠_;rw[k];decide)] at q
     exact q
 . exact e0.bh.fresh (aa5 (x.above y c (PySem.mem_of_lookup h)))
 . unfold start
   show _=N.length
   rw[aau,k5,List.length_replicate]
   omega
theorem HV {CX:r0}{P:Program}{w:World}{K:W.Frag}{mg:Str->Option Value}{base:Heap}{k:Nat}{f:Addr}{name qual:Str}{params:Arguments}{body:List Stmt}{scope:Scope}{dV kV doc pm bj ct oc:Value}{an od:Option Addr}{yf:Array (Option Value)}{N ps:List Str}{sp:Sp}(lk:K.lookup f=some ⟨oc,od,.func (W.fnOf name qual params body scope dV kV doc pm an bj ct),yf⟩)(ml:W.codeIn K bj qual=true)(S:aq N ps scope)(len:∀ vs H Q E,sp vs H Q E->vs.length=ps.length)(qK:∀ (A:Around) (outer:List Env) (s:Shared) (H:Hp) (vs:List V) (Q:VK) (E:XK),eQ k (A.deeper (envOfC qual scope s.heap.objs.size f bj))->sp vs H Q E->∃ t,Cy (AQ CX P w K mg base N qual scope f bj A outer s H E) body t/\t { nx:=fun _ H'=>Q .cW H',rt:=Q} (start N vs) H):j4 P w K mg base CX (k+1) f (W.fnOf name qual params body scope dV kV doc pm an bj ct) ps sp:=by
 refine⟨len,fun A outer s H args us vs Q E hr e0 hb r LF=>?_⟩
 have hl:=len _ _ _ _ LF
 have KX:K.In s.heap:=e0.mod.TU.keeps fun b o e=>(e0.bs b o e).1
 have lim:s.heap.NoLimit:=e0.mod.nolimit.keeps fun b o e=>(e0.bs b o e).1
 have Ut:∀ y∈ps.zip us,scope.names.lookup y.1=some .local\/(scope.names.lookup y.1=some .cell/\((cellsFrom (s.heap.objs.size+1) scope.names []).lookup y.1).isSome=true):=fun⟨n,v⟩ hy=>by
   rcases S.par n (List.of_mem_zip hy).1 with q | q
   . exact .inl q
   . exact .inr ⟨q,W.cellsFrom_some _ _ _ (.inl q)⟩
 refine codeAny_call_function hr.depth (KX _ _ lk) rfl S.co S.gen rfl (W.codeRec_of KX ml) (hb _ _ _ _ ?_)
 refine wpAny_newFunctionEnv_cells S.kind Ut fun env he s1 x=>?_
 subst he
 refine⟨lim.keeps x.toInCall.keep,codeAny_func ?_⟩
 obtain⟨t,ht,hq⟩:=qK A outer s H vs Q E (hr.deeper _) LF
 have I:Inv (AQ CX P w K mg base N qual scope f bj A outer s H E) [] (start N vs) H s1:=Ga S hr.hd e0 hl r x
 refine wpAny_mono (ht [] s1 (start N vs) H _ I hq) (fun fl s' hs=>?_) fun e s' hs=>hs
 have fin:∀ {σ':St} {H':Hp} {v:V} {u:Value},Inv (AQ CX P w K mg base N qual scope f bj A outer s H E) [] σ' H' s'->RelV v u->Q v H'->CE outer P w H s Q u s':=
   fun {σ' H' v u} J rv q=>⟨v,H',J.os,J.bare,J.base,J.bh,rv,q⟩
 cases fl with
 | ret u=>
   obtain⟨v,σ',H',J,rv,q⟩:=hs
   exact fin J rv q
 | next=>
   obtain⟨σ',H',J,q⟩:=hs
   exact fin (v:=V.cW) (u:=Value.none) J rfl q
 | brk=>
   obtain⟨_,_,_,q⟩:=hs
   exact False.elim q
 | cont=>
   obtain⟨_,_,_,q⟩:=hs
   exact False.elim q
section
variable {X:Cx}{x:Str}{p pos:Pos}{e:Expr}{es:List Expr}{t:TA}{id T:String}{r:List V->Hp->VK->Prop}
def tCB (r:List V->Hp->VK->Prop)(t:TA):TE:=fun σ H Q=>t σ H fun vs H1=>r vs H1 Q
theorem dY (hc:jr X (.builtin id) r)(hg:Gl X x)(hm:X.mg x=none)(hv:bootBuiltins x=some (.builtin id))(ha:PA X (e::es) t)(hn:x≠"__name__":=by decide)(mQ:(x == ("__debug__":Str))=false:=by decide)(he:starEach (e::es) X.env=(false,eval e X.env)::starEach es X.env:=by rfl)(nZ:(backTo pos (starEach es X.env)).any (·.1)=false:=by rfl):PE X (.Call (.Name x p) (e::es) [] pos) (tCB r t):=by
 intro pins s σ H Q I h
 refine wpAny_Call_Name_kw (qf I hg hm hv ?_ hn mQ)
 exact PyProof.Rows.callWith_builtin1 (b7 (ha pos pins s σ H _ I h) fun us s1 ⟨vs,H1,I1,r1,q1⟩=>hc pins s1 σ H1 vs us Q I1 r1 q1) he nZ
theorem lp (hc:jr X (.type T) r)(hg:Gl X x)(hm:X.mg x=none)(hv:bootBuiltins x=some (.type T))(ha:PA X (e::es) t)(hn:x≠"__name__":=by decide)(mQ:(x == ("__debug__":Str))=false:=by decide)(he:starEach (e::es) X.env=(false,eval e X.env)::starEach es X.env:=by rfl)(nZ:(backTo pos (starEach es X.env)).any (·.1)=false:=by rfl):PE X (.Call (.Name x p) (e::es) [] pos) (tCB r t):=by
 intro pins s σ H Q I h
 refine wpAny_Call_Name_kw (qf I hg hm hv ?_ hn mQ)
 exact PyProof.Rows.callWith_type1 (b7 (ha pos pins s σ H _ I h) fun us s1 ⟨vs,H1,I1,r1,q1⟩=>hc pins s1 σ H1 vs us Q I1 r1 q1) he nZ
end
end L2
namespace HT
open PySem PyProof.Rows
section
noncomputable def AS (n d:Nat):Option Int->Nat
 | none=>d
 | some v=>if v < 0 then (v+(n:Int)).toNat else min v.toNat n
theorem HW (n d:Nat):AS n d none=d:=rfl
theorem Md (n d k:Nat):AS n d (some (k:Int))=min k n:=by
 show(if (k:Int) < 0 then ((k:Int)+(n:Int)).toNat else min (k:Int).toNat n)=min k n
 rw[if_neg (by omega),aaS]
end
end HT
namespace L2
open PySem PySem.Spec PyProof.Rows
abbrev TO:=St->Hp->(Option Int->Hp->Prop)->Prop
def PO (X:Cx)(e:Option Expr)(t:TO):Prop:=
 ∀ (pins:List (Addr×Obj)) (s:Shared) (σ:St) (H:Hp) (Q:Option Int->Hp->Prop),Inv X pins σ H s->t σ H Q ->
   wpAny (model X.prog X.w) X.A (evalPart e X.env) (fun u s'=>∃ o H',Inv X pins σ H' s'/\IsPart u o/\Q o H') X.xe s
def Me:TO:=fun _ H Q=>Q none H
def Uu (t:TE):TO:=fun σ H Q=>t σ H fun x H1=>∃ i,x=.int i/\Q (some i) H1
theorem intsAre_of {ns:List Int}:∀ {us:List Value},Vals (ns.map V.int) us->IntsAre us ns:=by
 induction ns with
 | nil=>intro us r;rw[List.map_nil] at r;cases r;exact .nil
 | cons n ns ih=>
   intro us r
   rw[aaq] at r
   cases r with
   | cons r1 r2=>
     obtain⟨t,e⟩:=r1
     subst e
     exact .cons n t (ih r2)
section
variable {X:Cx}{e:Expr}{te:TE}{lo hi:Option Expr}{tl th:TO}{pos p2:Pos}
theorem Ec:PO X none Me:=by
 intro pins s σ H Q I h
 rw[evalPart_none]
 exact wpAny_pure ⟨none,H,I,.none,h⟩
theorem Ed (h:PE X e te):PO X (some e) (Uu te):=by
 intro pins s σ H Q I hw
 rw[evalPart_some]
 refine b7 (h pins s σ H _ I hw) fun u s1 ⟨x,H1,I1,r1,q1⟩=>?_
 obtain⟨i,rfl,q⟩:=q1
 obtain⟨t,rfl⟩:=r1
 exact⟨some i,H1,I1,.int i t,q⟩
def X3 (X:Cx)(r:V->Option Int->Option Int->Hp->VK->Prop):Prop:=
 ∀ (pins:List (Addr×Obj)) (s:Shared) (σ:St) (H:Hp) (x:V) (v vl vu:Value) (lo hi:Option Int) (sl:Addr) (Q:VK),Inv X pins σ H s->RelV x v->s.heap.IsSliceOf sl vl vu .none->IsPart vl lo->IsPart vu hi->r x lo hi H Q ->
   ∃ T id,typeLookup (.type T) "__getitem__"=pure (some (.builtin id))/\s.TypeIs v T/\wpAny (model X.prog X.w) X.A (getItem v (.ref sl)) (EP X pins σ Q) X.xe s
def tSl (r:V->Option Int->Option Int->Hp->VK->Prop)(te:TE)(tl th:TO):TE:=fun σ H Q=>te σ H fun x H1=>tl σ H1 fun l H2=>th σ H2 fun u H3=>r x l u H3 Q
theorem AU {r:V->Option Int->Option Int->Hp->VK->Prop}(hr:X3 X r)(he:PE X e te)(hl:PO X lo tl)(hu:PO X hi th):PE X (.Subscript e (.Slice lo hi none p2) pos) (tSl r te tl th):=by
 intro pins s σ H Q I h
 refine Subscript_ (b7 (he pins s σ H _ I h) fun v s1 ⟨x,H1,I1,r1,q1⟩=>?_)
 refine wpAny_Slice (b7 (hl pins s1 σ H1 _ I1 q1) fun vl s2 ⟨l,H2,I2,pl,q2⟩=>b7 (hu pins s2 σ H2 _ I2 q2) fun vu s3 ⟨u,H3,I3,pu,q3⟩=>?_)
 rw[evalPart_none]
 refine wpAny_pure ?_
 have I4:Inv X pins σ H3 { s3 with heap:=s3.heap.push { cls:=.type "slice",data:=.fields #[vl,vu,.none]}}:=I3.kept (t':=s3.toks) fun b ob q=>aaf _ q
 obtain⟨T,id,hT,ht,hg⟩:=hr pins { s3 with heap:=s3.heap.push { cls:=.type "slice",data:=.fields #[vl,vu,.none]}} σ H3 x v vl vu l u s3.heap.objs.size Q I4 r1 (Heap.IsSliceOf.new ..) pl pu q3
 show wpAny (model X.prog X.w) X.A (subscriptTail e (.Slice lo hi none p2) v (.ref s3.heap.objs.size)) (EP X pins σ Q) X.xe { s3 with heap:=s3.heap.push { cls:=.type "slice",data:=.fields #[vl,vu,.none]}}
 exact tail_any (ops:=[.ref s3.heap.objs.size,v]) ht hT hg (by with_unfolding_all rfl)
noncomputable def Gb (xs:List V)(lo hi:Option Int):List V:=(xs.drop (HT.AS xs.length 0 lo)).take (HT.AS xs.length xs.length hi - HT.AS xs.length 0 lo)
theorem AV (xs:List V)(lo hi:Option Int):(Gb xs lo hi).length<=xs.length:=by
 unfold Gb
 rw[aax,aa0]
 omega
theorem AW:jr X (.type "tuple") (fun xs H Q=>∃ a ys,xs=[.ref a]/\vp X.K H a ys/\Q (.ref a) H):=by
 intro pins s σ H xs us Q I r h
 obtain⟨a,ys,rfl,ha,q⟩:=h
 obtain⟨u,rfl,ru⟩:=vals1 r
 cases ru
 obtain⟨aE,_,p1,_⟩:=I.tuple ha
 exact call_tuple_same (items:=aE.toArray) p1 ⟨.ref a,H,I,rfl,q⟩
end
noncomputable def CM (n:Nat)(i:Int):Option Nat:=if 0<=i then (if i < n then some i.toNat else none) else if -(n:Int)<=i then some (i+n).toNat else none
noncomputable def oU {α:Type}(xs:List α)(i:Int):Option α:=(CM xs.length i).bind fun j=>xs[j]?
theorem Ee {n:Nat}{i:Int}{j:Nat}(h:CM n i=some j):seqIndex? i n=some j/\j < n/\-(n:Int)<=i/\i < n:=by
 unfold CM at h
 by_cases h0:0<=i
 . rw[if_pos h0] at h
   by_cases h1:i < n
   . rw[if_pos h1] at h
     have e:i.toNat=j:=Option.some.inj h
     exact⟨by rw[seqIndex_of h0 h1,e],by omega,by omega,h1⟩
   . rw[if_neg h1] at h;cases h
 . rw[if_neg h0] at h
   by_cases h1:-(n:Int)<=i
   . rw[if_pos h1] at h
     have e:(i+n).toNat=j:=Option.some.inj h
     exact⟨by rw[seqIndex_neg (by omega) h1,e],by omega,h1,by omega⟩
   . rw[if_neg h1] at h;cases h
theorem yQ {α:Type}{xs:List α}{i:Int}{v:α}(h:oU xs i=some v):∃ j,seqIndex? i xs.length=some j/\xs[j]?=some v/\j < xs.length/\-(xs.length:Int)<=i/\i < xs.length:=by
 unfold oU at h
 cases e:CM xs.length i with
 | none=>rw[e] at h;cases h
 | some j=>
   rw[e] at h
   obtain⟨h1,h2,h3,h4⟩:=Ee e
   exact⟨j,h1,h,h2,h3,h4⟩
theorem lU {α:Type}{xs:List α}{j:Nat}{v:α}(h:xs[j]?=some v):oU xs (j:Int)=some v:=by
 have hj:j < xs.length:=(aag.mp h).1
 have e:CM xs.length (j:Int)=some j:=by
   unfold CM
   rw[if_pos (by omega),if_pos (by omega)];simp
 unfold oU;rw[e];exact h
def kG (b:Expr):Prop:=∀ o i,subscripted b false o i=operate [o,i] (getItem o i)
def Ts (X:Cx)(r:R2):Prop:=
 ∀ (value slice:Expr) (pins:List (Addr×Obj)) (s:Shared) (σ:St) (H:Hp) (x y:V) (v u:Value) (Q:VK),Inv X pins σ H s->RelV x v->RelV y u->r x y H Q ->
   subscripted slice false v u=operate [v,u] (getItem v u)->wpAny (model X.prog X.w) X.A (subscriptTail value slice v u) (EP X pins σ Q) X.xe s
def Qn (X:Cx)(id:String)(r:V->List V->Hp->VK->Prop):Prop:=
 ∀ (pins:List (Addr×Obj)) (s:Shared) (σ:St) (H:Hp) (x:V) (xs:List V) (v:Value) (us:List Value) (Q:VK),Inv X pins σ H s->RelV x v->Vals xs us->r x xs H Q ->
   wpAny (model X.prog X.w) X.A (call (.builtin id) (v::us)) (EP X pins σ Q) X.xe s
section
variable {X:Cx}{a b:Expr}{ta tb:TE}{pos:Pos}
theorem vz {r:R2}(hr:Ts X r)(ha:PE X a ta)(hb:PE X b tb)(hs:kG b):PE X (.Subscript a b pos) (Ub r ta tb):=by
 intro pins s σ H Q I h
 exact Subscript_ (Qc ha hb I h fun v u s2 x y H2 I2 rx ry q=>hr a b pins s2 σ H2 x y v u Q I2 rx ry q (hs _ _))
def X4 (K:W.Frag):R2:=fun x y H Q=>∃ p xs i v,x=.ref p/\y=.int i/\mP K H p xs/\oU xs i=some v/\Q v H
def X5 (K:W.Frag):R2:=fun x y H Q=>∃ p xs i v,x=.ref p/\y=.int i/\vp K H p xs/\oU xs i=some v/\Q v H
def X6:R2:=fun x y H Q=>∃ z i c,x=.str z/\y=.int i/\z.length<=sizeLine/\oU z.cps.toList i=some c/\Q (.str ⟨#[c]⟩) H
theorem yR:Ts X (X4 X.K):=by
 intro value slice pins s σ H x y v u Q I rx ry h hs
 obtain⟨p,xs,i,z,rfl,rfl,hq,he,q⟩:=h
 cases rx
 obtain⟨t,rfl⟩:=ry
 obtain⟨aE,r,pl,hz⟩:=I.list hq
 obtain⟨j,h1,h2,h3,h4,h5⟩:=yQ he
 obtain⟨w,ew,HI⟩:=r.get h2
 have hl:=r.length
 have hn:=l7
 have fin:EP X pins σ Q w s:=⟨z,H,I,HI,q⟩
 by_cases h0:0<=i
 . have hj:i.toNat=j:=by
     rw[seqIndex_of h0 h5] at h1
     exact Option.some.inj h1
   exact item_listR pl.isList h0 (by omega) (by rw[hj];simpa using ew) fin hs
 . have hj:(i+(aE.toArray.size:Int)).toNat=j:=by
     rw[seqIndex_neg (by omega) h4] at h1
     rw[aan,<- hl]
     exact Option.some.inj h1
   exact subscriptTail_builtinR (x:=w) pl.isList.typeIs slot_list_getitem.lookup
     (wpAny_getItem_list_neg (Q:=fun r s'=>r=w/\EP X pins σ Q r s') pl.isList (by omega) (by rw[aan] <;> omega) (by omega) (by rw[hj];simpa using ew) ⟨rfl,fin⟩) hs
theorem Qo:Ts X (X5 X.K):=by
 intro value slice pins s σ H x y v u Q I rx ry h hs
 obtain⟨p,xs,i,z,rfl,rfl,hq,he,q⟩:=h
 cases rx
 obtain⟨t,rfl⟩:=ry
 obtain⟨aE,r,pl,hz⟩:=I.tuple hq
 obtain⟨j,h1,h2,h3,h4,h5⟩:=yQ he
 obtain⟨w,ew,HI⟩:=r.get h2
 have hl:=r.length
 have hn:=l7
 have fin:EP X pins σ Q w s:=⟨z,H,I,HI,q⟩
 exact subscriptTail_builtinR (x:=w) pl.typeIs slot_tuple_getitem.lookup
   (getItem_tuple (j:=j) (Q:=fun r s'=>r=w/\EP X pins σ Q r s') pl (by omega) (by omega) (by rw[aan,<- hl];exact h1) (by simpa using ew) ⟨rfl,fin⟩) hs
theorem Qp:Ts X X6:=by
 intro value slice pins s σ H x y v u Q I rx ry h hs
 obtain⟨z,i,c,rfl,rfl,hz,he,q⟩:=h
 obtain⟨t,rfl⟩:=rx
 obtain⟨t',rfl⟩:=ry
 obtain⟨j,h1,h2,h3,h4,h5⟩:=yQ he
 have hl:z.cps.toList.length=z.length:=by simp[Str.length]
 rw[hl] at h1 h4 h5
 have hn:=l7
 exact tail_any (typeIs_str s z t) slot_str_getitem.lookup (getItem_str (c:=c) (by
   have e1:decide (i < -(2 ^ 63:Int))=false:=decide_eq_false (by omega)
   have e2:decide (i >= 2 ^ 63)=false:=decide_eq_false (by omega)
   rw[e1,e2,Bool.or_false]) (by rw[h1];simpa using h2) ⟨.str ⟨#[c]⟩,H,I.tok _,⟨_,rfl⟩,q⟩) hs
theorem CN (aE:List Value)(n j:Nat)(u:Value):Obj.mapSeq (·.setIfInBounds j u) { cls:=.type "list",data:=.seq aE.toArray n}={ cls:=.type "list",data:=.seq (aE.set j u).toArray n}:=by
 simp[Obj.mapSeq]
theorem Inv.lst {pins:List (Addr×Obj)}{σ:St}{H:Hp}{s:Shared}{p:Addr}{xs:List V}(I:Inv X pins σ H s)(h:H p=some (.lst xs)):∃ (aE:List Value) (n:Nat),Vals xs aE/\s.heap.get? p=some { cls:=.type "list",data:=.seq aE.toArray n}/\xs.length<=sizeLine:=by
 obtain⟨z,aE,n,r,e⟩:=I.bh p _ h
 exact⟨aE,n,r,e,z⟩
theorem Inv.Qq {pins:List (Addr×Obj)}{σ:St}{H:Hp}{s:Shared}{p:Addr}{xs ys:List V}{aE its':List Value}{n n':Nat}{f:Obj->Obj}(I:Inv X pins σ H s)(h:H p=some (.lst xs))(ho:s.heap.get? p=some { cls:=.type "list",data:=.seq aE.toArray n})(hf:f { cls:=.type "list",data:=.seq aE.toArray n}={ cls:=.type "list",data:=.seq its'.toArray n'})(r:Vals ys its')(hz:ys.length<=sizeLine)(t:Nat):Inv X pins σ (upd H p (.lst ys)) { s with heap:=s.heap.update p f,toks:=t}:=by
 have e:(s.heap.update p f).get? p=some { cls:=.type "list",data:=.seq its'.toArray n'}:=by
   rw[abH f ho (by rw[hf] <;> rfl),hf]
 refine I.write (x:=p) (e:=p) (by rw[h];trivial) (.inl rfl) (fun b u hb q=>(abE _ _ (Ne.symm hb)).trans q) ⟨_,e⟩ ?_
 exact⟨hz,its',n',r,e⟩
def Uv:V->V->V->Hp->(Hp->Prop)->Prop:=fun o i v H Q=>∃ p xs k j,o=.ref p/\i=.int k/\H p=some (.lst xs)/\CM xs.length k=some j/\Q (upd H p (.lst (xs.set j v)))
theorem set_list:T6 X Uv:=by
 intro pins s σ H o i v ov iv u Q I ro ri rv h
 obtain⟨p,xs,k,j,rfl,rfl,hp,hj,q⟩:=h
 cases ro
 obtain⟨t,rfl⟩:=ri
 obtain⟨aE,n,r,ho,hz⟩:=I.lst hp
 obtain⟨h1,h2,h3,h4⟩:=Ee hj
 have hl:=r.length
 have hn:=l7
 have I':Inv X pins σ (upd H p (.lst (xs.set j v))) { s with heap:=s.heap.update p (Obj.mapSeq (·.setIfInBounds j u))}:=
   I.Qq hp ho (CN aE n j u) (r.set rv j) (by rw[abR];exact hz) s.toks
 by_cases h0:0<=k
 . have hk:k.toNat=j:=by
     rw[seqIndex_of h0 h4] at h1
     exact Option.some.inj h1
   exact W.ki_setAt ho h0 (by omega) (by rw[aan,<- hl];exact h4) (by rw[hk];exact⟨_,I',q⟩)
 . have hk:(k+(aE.toArray.size:Int)).toNat=j:=by
     rw[seqIndex_neg (by omega) h3] at h1
     rw[aan,<- hl]
     exact Option.some.inj h1
   exact W.ki_setBack ho (by omega) (by rw[aan,<- hl];exact h3) (by omega) (by rw[hk];exact⟨_,I',q⟩)
theorem yS (lo hi:Option Int)(n:Nat):(sliceBounds lo hi none n).1=((HT.AS n 0 lo:Nat):Int)/\(sliceBounds lo hi none n).2.1=((HT.AS n n hi:Nat):Int)/\(sliceBounds lo hi none n).2.2=1:=by
 refine⟨?_,?_,rfl⟩
 . cases lo with
   | none=>simp[sliceBounds,HT.AS]
   | some i=>
     simp only[sliceBounds,HT.AS,Option.getD_none,show(1:Int) > 0 by decide,if_true]
     by_cases h:i < 0
     . simp only[h,if_true] <;> omega
     . simp only[h,if_false] <;> omega
 . cases hi with
   | none=>simp[sliceBounds,HT.AS]
   | some i=>
     simp only[sliceBounds,HT.AS,Option.getD_none,show(1:Int) > 0 by decide,if_true]
     by_cases h:i < 0
     . simp only[h,if_true] <;> omega
     . simp only[h,if_false] <;> omega
theorem xA (aE:List Value)(lo hi:Option Int):slicePick aE.toArray lo hi none=((aE.drop (HT.AS aE.length 0 lo)).take (HT.AS aE.length aE.length hi - HT.AS aE.length 0 lo)).toArray:=by
 obtain⟨h1,h2,h3⟩:=yS lo hi aE.toArray.size
 unfold slicePick
 rw[h1,h2,h3]
 simp only[sliceRange_one,pick_run,aan] <;> rfl
def X7 (K:W.Frag):V->Option Int->Option Int->Hp->VK->Prop:=fun x lo hi H Q=>∃ a xs,x=.ref a/\mP K H a xs/\∀ p,H p=none->Q (.ref p) (upd H p (.lst (Gb xs lo hi)))
theorem Mf:X3 X (X7 X.K):=by
 intro pins s σ H x v vl vu lo hi sl Q I rx hs pl pu h
 obtain⟨a,xs,rfl,hx,q⟩:=h
 cases rx
 obtain⟨aE,r,ht,hz⟩:=I.list hx
 have hlen:=r.length
 refine⟨"list",_,slot_list_getitem.lookup,ht.isList.typeIs,?_⟩
 refine wpAny_getItem_list_slice ht.isList hs pl pu .none (by simp) ?_ (by rw[aan] <;> omega)
 rw[xA,<- hlen]
 refine⟨.ref s.heap.objs.size,_,I.laid (t':=s.toks) (o:=.lst (Gb xs lo hi)) (fun b ob q=>aaf _ q) (aae _) ?_,rfl,q _ (I.bh.fresh (aae _))⟩
 exact⟨aav (AV xs lo hi) hz,_,0,(r.drop (HT.AS xs.length 0 lo)).take (HT.AS xs.length xs.length hi - HT.AS xs.length 0 lo),aar _ rfl⟩
noncomputable def qL:V->Bool
 | .cW=>true
 | .bl _=>true
 | .int _=>true
 | .str _=>true
 | _=>false
noncomputable def LG:V->V->Bool
 | .cW,.cW=>true
 | .bl a,.bl b=>a == b
 | .bl a,.int b=>(if a then 1 else 0) == b
 | .int a,.bl b=>a == (if b then 1 else 0)
 | .int a,.int b=>a == b
 | .str a,.str b=>a == b
 | _,_=>false
theorem Qr {A:Around}{s:Shared}{y x:V}{u v:Value}(ry:RelV y u)(rx:RelV x v)(fy:qL y=true)(fx:qL x=true):SeqAt.EqAt A s u v (LG y x):=by
 cases y with
 | cW=>
   cases ry
   cases x with
   | cW=>cases rx;exact SeqAt.EqAt.same _
   | bl b=>cases rx;exact SeqAt.EqAt.none_bool b
   | int b=>obtain⟨t,rfl⟩:=rx;exact SeqAt.EqAt.none_int b t
   | str b=>obtain⟨t,rfl⟩:=rx;exact SeqAt.EqAt.none_str b t
   | _=>exact absurd (show false=true from fx) aap
 | bl a=>
   cases ry
   cases x with
   | cW=>cases rx;exact SeqAt.EqAt.bool_none a
   | bl b=>cases rx;exact SeqAt.EqAt.bool_bool a b
   | int b=>obtain⟨t,rfl⟩:=rx;exact SeqAt.EqAt.bool_int a b t
   | str b=>obtain⟨t,rfl⟩:=rx;exact SeqAt.EqAt.bool_str a b t
   | _=>exact absurd (show false=true from fx) aap
 | int a=>
   obtain⟨t',rfl⟩:=ry
   cases x with
   | cW=>cases rx;exact SeqAt.EqAt.int_none a t'
   | bl b=>cases rx;exact SeqAt.EqAt.int_bool a t' b
   | int b=>obtain⟨t,rfl⟩:=rx;exact SeqAt.EqAt.int_int a t' b t
   | str b=>obtain⟨t,rfl⟩:=rx;exact SeqAt.EqAt.int_str a t' b t
   | _=>exact absurd (show false=true from fx) aap
 | str a=>
   obtain⟨t',rfl⟩:=ry
   cases x with
   | cW=>cases rx;exact SeqAt.EqAt.str_none a t'
   | bl b=>cases rx;exact SeqAt.EqAt.str_bool a t' b
   | int b=>obtain⟨t,rfl⟩:=rx;exact SeqAt.EqAt.str_int a t' b t
   | str b=>obtain⟨t,rfl⟩:=rx;exact SeqAt.EqAt.str_str a t' b t
   | _=>exact absurd (show false=true from fx) aap
 | _=>exact absurd (show false=true from fy) aap
noncomputable def CO (x:V)(u:Value):Bool:=match u with
 | .none=>LG .cW x
 | .bool b=>LG (.bl b) x
 | .int i _=>LG (.int i) x
 | .str z _=>LG (.str z) x
 | _=>false
theorem HX {x y:V}{u:Value}(r:RelV y u)(f:qL y=true):CO x u=LG y x:=by
 cases y with
 | cW=>cases r;rfl
 | bl b=>cases r;rfl
 | int i=>obtain⟨t,rfl⟩:=r;rfl
 | str z=>obtain⟨t,rfl⟩:=r;rfl
 | _=>exact absurd (show false=true from f) aap
theorem qM {x:V}:∀ {xs:List V} {us:List Value},Vals xs us->xs.all qL=true->us.any (CO x)=xs.any fun y=>LG y x
 | _,_,.nil,_=>rfl
 | y::xs,u::us,.cons r t,f=>by
   rw[abL,aaP] at f
   rw[abl,abl,HX r f.1,qM t f.2]
theorem oh {A:Around}{s:Shared}{x:V}{v:Value}(rx:RelV x v)(fx:qL x=true):∀ {xs:List V} {us:List Value},Vals xs us->xs.all qL=true->∀ u∈us,SeqAt.EqAt A s u v (CO x u)
 | _,_,.nil,_=>fun u hu=>by cases hu
 | y::xs,u::us,.cons r t,f=>fun u' hu=>by
   rw[abL,aaP] at f
   rcases aaE.mp hu with rfl | hu
   . rw[HX r f.1];exact Qr r rx f.1 fx
   . exact oh rx fx t f.2 u' hu
noncomputable def Uw (x:V)(xs:List V):Bool:=xs.any fun y=>LG y x
def WR (K:W.Frag)(neg:Bool):R2:=fun x y H Q=>∃ p xs,y=.ref p/\(mP K H p xs\/vp K H p xs)/\qL x=true/\xs.all qL=true/\Q (.bl (if neg then !Uw x xs else Uw x xs)) H
theorem yg:n9 X (compareOp .In) (WR X.K false):=by
 intro pins s σ H x y v u Q I rx ry h
 obtain⟨p,xs,rfl,hq,fx,fs,q⟩:=h
 cases ry
 rcases hq with hq | hq
 . obtain⟨aE,r,pl,hz⟩:=I.list hq
   refine SeqAt.in_listAt (CO x) pl.isList (fun w hw=>oh rx fx r fs w (by simpa using hw)) ⟨.bl _,H,I,rfl,?_⟩
   rw[show aE.toArray.any (CO x)=aE.any (CO x) by simp,qM r fs]
   exact q
 . obtain⟨aE,r,pl,hz⟩:=I.tuple hq
   refine SeqAt.in_tupleAt (CO x) pl (fun w hw=>oh rx fx r fs w (by simpa using hw)) ⟨.bl _,H,I,rfl,?_⟩
   rw[show aE.toArray.any (CO x)=aE.any (CO x) by simp,qM r fs]
   exact q
theorem qN:n9 X (compareOp .NotIn) (WR X.K true):=by
 intro pins s σ H x y v u Q I rx ry h
 obtain⟨p,xs,rfl,hq,fx,fs,q⟩:=h
 cases ry
 rcases hq with hq | hq
 . obtain⟨aE,r,pl,hz⟩:=I.list hq
   refine SeqAt.notIn_listAt (CO x) pl.isList (fun w hw=>oh rx fx r fs w (by simpa using hw)) ⟨.bl _,H,I,rfl,?_⟩
   rw[show aE.toArray.any (CO x)=aE.any (CO x) by simp,qM r fs]
   exact q
 . obtain⟨aE,r,pl,hz⟩:=I.tuple hq
   refine SeqAt.notIn_tupleAt (CO x) pl (fun w hw=>oh rx fx r fs w (by simpa using hw)) ⟨.bl _,H,I,rfl,?_⟩
   rw[show aE.toArray.any (CO x)=aE.any (CO x) by simp,qM r fs]
   exact q
theorem mT:jr X (.builtin "len") (fun xs H Q=>∃ p ys,xs=[.ref p]/\(mP X.K H p ys\/vp X.K H p ys)/\Q (.int ys.length) H):=by
 intro pins s σ H xs us Q I r h
 obtain⟨p,ys,rfl,hq,q⟩:=h
 obtain⟨u,rfl,rx⟩:=vals1 r
 cases rx
 have hn:=l7
 rcases hq with hq | hq
 . obtain⟨aE,r',pl,hz⟩:=I.list hq
   have hlen:=r'.length
   exact Calls.call_len_list pl.isList (by simp only[aan] <;> omega) ⟨.int ys.length,H,I.tok _,⟨s.toks+1,by rw[aan,hlen]⟩,q⟩
 . obtain⟨aE,r',pl,hz⟩:=I.tuple hq
   have hlen:=r'.length
   exact len_tuple pl (by simp only[aan] <;> omega) ⟨.int ys.length,H,I.tok _,⟨s.toks+1,by rw[aan,hlen]⟩,q⟩
theorem yT:jr X (.builtin "len") (fun xs H Q=>∃ z,xs=[.str z]/\z.length<=sizeLine/\Q (.int z.length) H):=by
 intro pins s σ H xs us Q I r h
 obtain⟨z,rfl,hz,q⟩:=h
 obtain⟨u,rfl,t,rfl⟩:=vals1 r
 have hn:=l7
 exact len_str (by omega) ⟨.int z.length,H,I.tok _,⟨_,rfl⟩,q⟩
theorem qO:jr X (.type "list") (fun xs H Q=>∃ p ys,xs=[.ref p]/\(mP X.K H p ys\/vp X.K H p ys)/\∀ l,H l=none->Q (.ref l) (upd H l (.lst ys))):=by
 intro pins s σ H xs us Q I r h
 obtain⟨p,ys,rfl,hq,q⟩:=h
 obtain⟨u,rfl,rx⟩:=vals1 r
 cases rx
 have fin:∀ (aE:List Value),Vals ys aE->ys.length<=sizeLine->∀ (h':Heap) (c':Nat),(∀ b o',s.heap.get? b=some o'->h'.get? b=some o') ->
     h'.get? s.heap.objs.size=some { cls:=.type "list",dict:=none,data:=.seq aE.toArray c',slots:=#[]}->EP X pins σ Q (.ref s.heap.objs.size) { s with heap:=h'}:=fun aE r' hz h' c' kp e=>
   ⟨.ref s.heap.objs.size,_,I.laid (t':=s.toks) kp (aae _) (show aL X.prog X.w _ h' _ (.lst ys) from⟨hz,aE,c',r',e⟩),rfl,q _ (I.bh.fresh (aae _))⟩
 rcases hq with hq | hq
 . obtain⟨aE,r',pl,hz⟩:=I.list hq
   have hlen:=r'.length
   obtain⟨o,ho,hc,n,hd⟩:=pl.isList
   exact call_list_seq p (.inl rfl) ho hc hd (fun h' c' kp e=>fin aE r' hz h' c' kp e) (by simp only[aan] <;> omega)
 . obtain⟨aE,r',pl,hz⟩:=I.tuple hq
   have hlen:=r'.length
   obtain⟨o,ho,hc,n,hd⟩:=pl
   exact call_list_seq p (.inr rfl) ho hc hd (fun h' c' kp e=>fin aE r' hz h' c' kp e) (by simp only[aan] <;> omega)
def WS (K:W.Frag)(T:String)(x:V)(H:Hp):Prop:=match x with
 | .str _=>T="str"
 | .int _=>T="int"
 | .ref p=>(T="list"/\∃ xs,mP K H p xs)\/(T="tuple"/\∃ o,K.lookup p=some o/\o.cls=.type "tuple"/\o.dict=none) \/
     (T="dict"/\((∃ kvs,H p=some (.dK kvs))\/(∃ kvs,H p=some (.dT kvs))\/∃ tg o kvs,H p=some (.kd tg o kvs)))\/(T="set"/\∃ S n,H p=some (.set S n)) \/
     (T="list"/\∃ (a:Addr) (ls:kg) (ns:List Nat) (j:Nat) (f:Nat->List (Key×FD)) (N:Nat),H a=some (.bD ls ns)/\ls[j]?=some (p,f)/\ns[j]?=some N)
 | _=>False
theorem HY {pins:List (Addr×Obj)}{σ:St}{H:Hp}{s:Shared}{T:String}{x:V}{v:Value}(I:Inv X pins σ H s)(r:RelV x v)(ty:WS X.K T x H):s.TypeIs v T/\∀ a,v=.ref a->∃ ob,s.heap.get? a=some ob/\ob.dict=none:=by
 cases x with
 | str z=>
   obtain⟨t,rfl⟩:=r
   cases (show T="str" from ty)
   exact⟨typeIs_str s z t,fun _ e=>nomatch e⟩
 | int i=>
   obtain⟨t,rfl⟩:=r
   cases (show T="int" from ty)
   exact⟨typeIs_int s i t,fun _ e=>nomatch e⟩
 | ref p=>
   cases r
   rcases ty with⟨rfl,xs,hq⟩ | ⟨rfl,o,hk,hc,hd⟩ | ⟨rfl,hk⟩ | ⟨rfl,S,n,hk⟩ | ⟨rfl,a,ls,ns,j,f,N,h1,h2,h3⟩
   . obtain⟨aE,_,pl,_⟩:=I.list hq
     refine⟨pl.isList.typeIs,fun a e=>?_⟩
     cases e
     obtain⟨o,n,e,c,hd,_⟩:=pl
     exact⟨o,e,hd⟩
   . refine⟨⟨o,I.mR p o hk,hc⟩,fun a e=>?_⟩
     cases e
     exact⟨o,I.mR _ o hk,hd⟩
   . have z:∃ o,s.heap.get? p=some o/\o.ExactDict:=by
       rcases hk with⟨kvs,hk⟩ | ⟨kvs,hk⟩ | ⟨tg,ob,kvs,hk⟩
       . obtain⟨_,_,_,_,o,_,_,e,ex,_⟩:=I.bh p _ hk
         exact⟨o,e,ex⟩
       . obtain⟨_,_,_,_,o,_,_,e,ex,_⟩:=I.bh p _ hk
         exact⟨o,e,ex⟩
       . obtain⟨_,⟨_,_,_,_,o,_,_,e,ex,_⟩,_⟩:=I.bh p _ hk
         exact⟨o,e,ex⟩
     obtain⟨o,e,ex⟩:=z
     refine⟨⟨o,e,ex.1⟩,fun a e2=>?_⟩
     cases e2
     exact⟨o,e,ex.2.1⟩
   . obtain⟨o,_,_,_,e,ex,_⟩:=I.bh p _ hk
     refine⟨⟨o,e,ex.1⟩,fun a e2=>?_⟩
     cases e2
     exact⟨o,e,ex.2.1⟩
   . obtain⟨_,_,_,_,_,_,h6⟩:=(show aL X.prog X.w H s.heap a (.bD ls ns) from I.bh a _ h1)
     obtain⟨aE,c,e1,e2,e3⟩:=h6 j p f N h2 h3
     refine⟨⟨_,e1,rfl⟩,fun a' e4=>?_⟩
     cases e4
     exact⟨_,e1,rfl⟩
 | _=>exact False.elim ty
def X8 (K:W.Frag)(T:String)(r:V->List V->Hp->VK->Prop)(to:TE):TE:=fun σ H Q=>to σ H fun x H1=>WS K T x H1/\r x [] H1 Q
def tBM (K:W.Frag)(T:String)(r:V->List V->Hp->VK->Prop)(to:TE)(t:TA):TE:=fun σ H Q=>to σ H fun x H1=>WS K T x H1/\t σ H1 fun xs H2=>r x xs H2 Q
variable {o e:Expr}{es:List Expr}{to:TE}{t:TA}{name:Str}{apos bH:Pos}{T id:String}{r:V->List V->Hp->VK->Prop}
theorem HZ (pa:PlainAttrs T)(slot:Slot T name id)(Ux:typeOf (.builtin id)=pure (.type "method_descriptor"))(hm:Qn X id r)(ho:PE X o to)(iS:attributeBase o name X.env (eval o X.env)=eval o X.env:=by rfl)(iU:(apos.endLine == bH.line)=true:=by rfl):PE X (.Call (.Attribute o name apos) [] [] bH) (X8 X.K T r to):=by
 intro pins s σ H Q I h
 refine wpAny_Call_method0_late iS iU (b7 (ho pins s σ H _ I h) fun v s1 ⟨x,H1,I1,r1,ty,q1⟩=>?_)
 obtain⟨h1,h2⟩:=HY I1 r1 ty
 exact⟨T,id,pa,slot,Ux,h1,h2,Calls.callWith_builtin rfl (PySem.evalArgs_none (hm pins s1 σ H1 x [] v [] Q I1 r1 .nil q1))⟩
theorem tG (pa:PlainAttrs T)(slot:Slot T name id)(Ux:typeOf (.builtin id)=pure (.type "method_descriptor"))(hm:Qn X id r)(ho:PE X o to)(ha:PA X (e::es) t)
   (iS:attributeBase o name X.env (eval o X.env)=eval o X.env:=by rfl)
   (r6:((backTo bH (starEach (e::es) X.env)).all (fun x=>!x.1) && (backToKw bH (keywordEach [] X.env)).all (fun x=>x.1.isSome)
     && decide ((e::es).length+([]:List Keyword).length+(if ([]:List Keyword).isEmpty then 0 else 1) < 30))=true:=by rfl)
   (iU:(apos.endLine == bH.line)=true:=by rfl) (hs:starEach (e::es) X.env=(false,eval e X.env)::starEach es X.env:=by rfl) (Qs:(backTo bH (starEach es X.env)).any (·.1)=false:=by rfl) :
   PE X (.Call (.Attribute o name apos) (e::es) [] bH) (tBM X.K T r to t):=by
 intro pins s σ H Q I h
 refine wpAny_Call_method_late iS r6 iU rfl (b7 (ho pins s σ H _ I h) fun v s1 ⟨x,H1,I1,r1,ty,q1⟩=>?_)
 obtain⟨h1,h2⟩:=HY I1 r1 ty
 refine⟨T,id,pa,slot,Ux,h1,h2,?_⟩
 have hA:=ha bH pins s1 σ H1 _ I1 q1
 rw[hs] at hA ⊢
 refine Calls.callWith_builtin (by show(false || (backTo bH (starEach es X.env)).any (·.1))=false;rw[Qs] <;> rfl) (Calls.evalArgs_plain ?_)
 exact b7 hA fun us s2 ⟨vs,H2,I2,r2,q2⟩=>hm pins s2 σ H2 x vs v us Q I2 r1 r2 q2
end
def X9 (X:Cx)(id:String)(r:V->List V->Hp->VK->Prop):Prop:=
 ∀ (pins:List (Addr×Obj)) (s:Shared) (σ:St) (H:Hp) (x:V) (xs:List V) (v:Value) (us:List Value) (Q:VK),Inv X pins σ H s->RelV x v->Vals xs us->r x xs H Q ->
   wpAny (model X.prog X.w) X.A (call (.builtin id) (v::us)) (EP X pins σ Q) X.xe s
theorem Vals.one:∀ {x:V} {us:List Value},Vals [x] us->∃ u,us=[u]/\RelV x u
 | _,_,.cons r .nil=>⟨_,rfl,r⟩
theorem Vals.zero:∀ {us:List Value},Vals [] us->us=[]
 | _,.nil=>rfl
theorem Vals.dropLast {xs:List V}{us:List Value}(h:Vals xs us):Vals xs.dropLast us.dropLast:=by
 induction h with
 | nil=>exact .nil
 | cons r t ih=>
   cases t with
   | nil=>exact .nil
   | cons q t'=>exact .cons r ih
theorem Vals.rep {xs:List V}{us:List Value}(h:Vals xs us):∀ k:Nat,Vals (aak k xs).flatten (aak k us).flatten
 | 0=>.nil
 | k+1=>by
   rw[aba,aba,aaU,aaU]
   exact Vals.append h (Vals.rep h k)
theorem CP {α:Type}(l:List α):l.eraseIdx (l.length - 1)=l.dropLast:=by
 induction l with
 | nil=>rfl
 | cons a r ih=>
   cases r with
   | nil=>rfl
   | cons b r=>
     have e:(a::b::r).length - 1=((b::r).length - 1)+1:=by
       have h1:(a::b::r).length=r.length+2:=rfl
       have h2:(b::r).length=r.length+1:=rfl
       omega
     rw[e,List.eraseIdx_cons_succ,ih]
     all_goals rfl
theorem foldl_rep (aE:List Value):∀ (k:Nat) (acc:List Value),List.foldl (fun x1 x2=>x1 ++ x2) acc.toArray (aak k aE.toArray)=(acc ++ (aak k aE).flatten).toArray
 | 0,acc=>by simp
 | k+1,acc=>by
   have e:acc.toArray ++ aE.toArray=(acc ++ aE).toArray:=by simp
   have e2:(acc ++ aE) ++ (aak k aE).flatten=acc ++ (aak (k+1) aE).flatten:=by
     rw[aba,aaU,List.append_assoc]
   rw[<- e2,<- foldl_rep aE k (acc ++ aE),<- e,aba,List.foldl_cons]
section
variable {X:Cx}{pins:List (Addr×Obj)}{σ:St}{H:Hp}{s:Shared}{l:Addr}{xs ys:List V}
theorem Inv.Qt {aE its':List Value}{n:Nat}{f:Array Value->Array Value}{t':Nat}(I:Inv X pins σ H s)(hH:H l=some (.lst xs))(e:s.heap.get? l=some { cls:=.type "list",data:=.seq aE.toArray n})(hf:f aE.toArray=its'.toArray)(hv:Vals ys its')(hz:ys.length<=sizeLine):Inv X pins σ (upd H l (.lst ys)) { s with heap:=s.heap.update l (Obj.mapSeq f),toks:=t'}:=by
 have q:=PySem.IsL.update e f
 rw[hf] at q
 refine I.write (x:=l) (e:=l) (by rw[hH];exact trivial) (.inl rfl) (fun b' u hb hu=>(abE s.heap (Obj.mapSeq f) (Ne.symm hb)).trans hu) ⟨_,q⟩ ?_
 exact⟨hz,its',_,hv,q⟩
theorem Inv.Uy {aE:List Value}{t':Nat}(I:Inv X pins σ H s)(hv:Vals ys aE)(hz:ys.length<=sizeLine):Inv X pins σ (upd H s.heap.objs.size (.lst ys)) { s with heap:=s.heap.push { cls:=.type "list",data:=.seq aE.toArray},toks:=t'}:=
 I.laid (fun _ _ q=>aaf _ q) (aae _) ⟨hz,aE,0,hv,aar _ rfl⟩
theorem Inv.fresh (I:Inv X pins σ H s):H s.heap.objs.size=none:=I.bh.fresh (aae _)
theorem Inv.CQ (I:Inv X pins σ H s)(hH:H l=some (.lst xs)):xs.length<=sizeLine/\∃ (aE:List Value) (n:Nat),Vals xs aE/\xs.length=aE.length/\s.heap.get? l=some { cls:=.type "list",data:=.seq aE.toArray n}:=by
 obtain⟨z,aE,n,r,e⟩:=I.bh l _ hH
 exact⟨z,aE,n,r,r.length,e⟩
theorem AX {n:Nat}(h:n<=sizeLine):Builtin.List.listTooLong n=false:=by
 unfold Builtin.List.listTooLong
 exact decide_eq_false (by omega)
end
section
variable {X:Cx}
def Mg:V->List V->Hp->VK->Prop:=fun x vs H Q=>∃ l xs y,x=.ref l/\vs=[y]/\H l=some (.lst xs)/\xs.length < sizeLine/\Q .cW (upd H l (.lst (xs ++ [y])))
theorem oV:X9 X "list.append" Mg:=by
 intro pins s σ H x vs v us Q I rx rv h
 obtain⟨l,xs,y,rfl,rfl,hH,hz,q⟩:=h
 cases rx
 obtain⟨u,rfl,ru⟩:=rv.one
 obtain⟨z,aE,n,r,hl,e⟩:=I.CQ hH
 refine call_meets F.slot_list_append ⟨_,e,rfl⟩ F.entry_list_append (F.args_list_append_2 _ _) (PySem.list_append l aE.toArray n u (by rw[aan];omega)) ⟨e,?_⟩
 refine⟨.cW,_,I.Qt (its':=aE ++ [u]) hH e (by simp) (r.append (.cons ru .nil)) ?_,rfl,q⟩
 rw[aau,List.length_singleton]
 omega
def Mh:V->List V->Hp->VK->Prop:=fun x vs H Q=>∃ l b xs zs,x=.ref l/\vs=[.ref b]/\H l=some (.lst xs)/\H b=some (.lst zs)/\xs.length+zs.length<=sizeLine/\Q .cW (upd H l (.lst (xs ++ zs)))
theorem Gd:X9 X "list.extend" Mh:=by
 intro pins s σ H x vs v us Q I rx rv h
 obtain⟨l,b,xs,zs,rfl,rfl,hH,hB,hz,q⟩:=h
 cases rx
 obtain⟨u,rfl,ru⟩:=rv.one
 cases ru
 obtain⟨z,aE,n,r,hl,e⟩:=I.CQ hH
 obtain⟨z2,CS,n2,r2,Qu,e2⟩:=I.CQ hB
 have hsz:aE.toArray.size+CS.toArray.size<=sizeLine:=by rw[aan,aan];omega
 have Ia:¬ (!aE.toArray.isEmpty && Builtin.List.listTooLong (aE.toArray.size+CS.toArray.size))=true:=by
   rw[AX hsz,Bool.and_false]
   exact aap
 refine call_meets F.slot_list_extend ⟨_,e,rfl⟩ F.entry_list_extend (F.args_list_extend_2 _ _)
   (AutoSeq1.list_extend_list_list_0 l aE.toArray n b CS.toArray n2 Ia (by rw[aan];omega) (by omega)) ⟨e,e2,?_⟩
 refine⟨.cW,_,I.Qt (its':=aE ++ CS) hH e (by simp) (r.append r2) ?_,rfl,q⟩
 rw[aau]
 omega
def Ya:V->List V->Hp->VK->Prop:=fun x vs H Q=>∃ l xs y,x=.ref l/\vs=[]/\H l=some (.lst xs)/\xs[xs.length - 1]?=some y/\Q y (upd H l (.lst xs.dropLast))
theorem Qv:X9 X "list.pop" Ya:=by
 intro pins s σ H x vs v us Q I rx rv h
 obtain⟨l,xs,y,rfl,rfl,hH,hy,q⟩:=h
 cases rx
 have hus:=rv.zero
 subst hus
 obtain⟨z,aE,n,r,hl,e⟩:=I.CQ hH
 obtain⟨u,hu,ru⟩:=r.get hy
 have Uz:aE.toArray[aE.toArray.size - 1]?=some u:=by
   show aE.toArray[aE.length - 1]?=some u
   rw[<- abI,<- hl]
   exact hu
 refine call_meets F.slot_list_pop ⟨_,e,rfl⟩ F.entry_list_pop (F.args_list_pop_1 _) (MeetsSeq.list_pop_last l aE.toArray n u Uz (by rw[aan];omega)) ⟨e,?_⟩
 refine⟨y,_,I.Qt (its':=aE.dropLast) hH e ?_ r.dropLast ?_,ru,q⟩
 . show aE.toArray.eraseIdxIfInBounds (aE.toArray.size - 1)=aE.dropLast.toArray
   rw[aan,List.eraseIdxIfInBounds_toArray,CP]
 . rw[abk]
   omega
def Yb:R2:=fun x y H Q=>∃ l b xs zs,x=.ref l/\y=.ref b/\H l=some (.lst xs)/\H b=some (.lst zs)/\xs.length+zs.length<=sizeLine/\∀ p,H p=none->Q (.ref p) (upd H p (.lst (xs ++ zs)))
theorem Qw:n9 X (binaryOp .Add) Yb:=by
 intro pins s σ H x y v u Q I rx ry h
 obtain⟨l,b,xs,zs,rfl,rfl,hH,hB,hz,q⟩:=h
 cases rx
 cases ry
 obtain⟨z,aE,n,r,hl,e⟩:=I.CQ hH
 obtain⟨z2,CS,n2,r2,Qu,e2⟩:=I.CQ hB
 refine PySem.P.add_list e e2 ?_ (by rw[aan,aan];omega)
 have ea:aE.toArray ++ CS.toArray=(aE ++ CS).toArray:=by simp
 rw[ea]
 exact⟨.ref _,_,I.Uy (t':=s.toks) (r.append r2) (by rw[aau];omega),rfl,q _ I.fresh⟩
def Yc:R2:=fun x y H Q=>∃ l k xs,x=.ref l/\y=.int k/\H l=some (.lst xs)/\-(2 ^ 63)<=k/\k < 2 ^ 63/\xs.length * k.toNat<=sizeLine /\
 ∀ p,H p=none->Q (.ref p) (upd H p (.lst (aak k.toNat xs).flatten))
theorem len_rep {α:Type}(xs:List α)(k:Nat):(aak k xs).flatten.length=k * xs.length:=by
 induction k with
 | zero=>simp
 | succ k ih=>rw[aba,aaU,aau,ih,Nat.succ_mul,Nat.add_comm]
theorem Qx:n9 X (binaryOp .Mult) Yc:=by
 intro pins s σ H x y v u Q I rx ry h
 obtain⟨l,k,xs,rfl,rfl,hH,h1,h2,hz,q⟩:=h
 cases rx
 obtain⟨t,rfl⟩:=ry
 obtain⟨z,aE,n,r,hl,e⟩:=I.CQ hH
 have hlen:aE.toArray.size * k.toNat<=sizeLine:=by rw[aan,<- hl];exact hz
 have Yd:¬ aE.toArray.size * k.toNat > (2 ^ 63 - 1) / 8:=by
   have:(sizeLine:Nat)<=(2 ^ 63 - 1) / 8:=by decide
   omega
 have vA:¬ (!Builtin.List.listFitsIndex k)=true:=by
   rw[fitsIndex_both h1 h2]
   exact aap
 have Ia:¬ Builtin.List.listTooLong (aE.toArray.size * k.toNat)=true:=by
   rw[AX hlen]
   exact aap
 have Ge:List.foldl (fun x1 x2=>x1 ++ x2) #[] (aak (if aE.toArray.isEmpty=true then 0 else k.toNat) aE.toArray)=(aak k.toNat aE).flatten.toArray:=by
   have f0:∀ m:Nat,List.foldl (fun x1 x2=>x1 ++ x2) #[] (aak m aE.toArray)=(aak m aE).flatten.toArray:=fun m=>by
     have:=foldl_rep aE m []
     rw[List.nil_append] at this
     exact this
   rw[f0]
   cases aE with
   | nil=>simp
   | cons a r'=>rw[if_neg (by simp)]
 refine wpAny_binaryOp_repeat_ref (T:="list") (U:="int") (by decide) ⟨_,e,rfl⟩ (fun s'=>typeIs_int s' k t) noFill_list_mul F.fills_int_mul F.slot_int_rmul repeat_list F.slot_int_index.lookup
   (call_meets F.slot_int_rmul (typeIs_int s k t) F.entry_int_rmul (F.args_int_rmul_2 _ _) (int___rmul___int_list k t l aE.toArray n)
     ⟨e,rfl,⟨_,e,rfl⟩,call_meets F.slot_list_mul ⟨_,e,rfl⟩ F.entry_list_mul (F.args_list_mul_2 _ _) (AutoListH.list___mul___list_int_3 l aE.toArray n k t vA Yd Ia) ⟨e,?_⟩⟩)
 rw[Ge]
 exact⟨.ref _,_,I.Uy (t':=s.toks) (r.rep k.toNat) (by rw[len_rep,Nat.mul_comm];exact hz),rfl,q _ I.fresh⟩
end
section
variable {κ:Type}[DecidableEq κ]
noncomputable def oi (kvs:List (κ×V))(k:κ):Option V:=(kvs.find? fun kv=>decide (kv.1=k)).map (·.2)
noncomputable def putK (kvs:List (κ×V))(k:κ)(v:V):List (κ×V):=
 if (kvs.any fun kv=>decide (kv.1=k))=true then kvs.map (fun kv=>if kv.1=k then (kv.1,v) else kv) else kvs ++ [(k,v)]
theorem oj {p:κ×V}{r:List (κ×V)}{k:κ}(e:p.1=k):oi (p::r) k=some p.2:=by simp[oi,abi,e]
theorem mq {p:κ×V}{r:List (κ×V)}{k:κ}(e:¬ p.1=k):oi (p::r) k=oi r k:=by simp[oi,abi,e]
theorem qP (k:κ):∀ kvs:List (κ×V),(kvs.any fun kv=>decide (kv.1=k))=(oi kvs k).isSome
 | []=>rfl
 | p::r=>by
   rw[abl]
   by_cases e:p.1=k
   . simp only[oj e,decide_eq_true e,Bool.true_or,Option.isSome_some]
   . rw[mq e,decide_eq_false e,Bool.false_or];exact qP k r
theorem tH (kvs:List (κ×V))(k:κ)(v:V):(putK kvs k v).length<=kvs.length+1:=by
 unfold putK
 split
 . rw[k5];omega
 . rw[aau,aaI,List.length_nil];omega
theorem pP.r8 {o:Option V}{u:Option Value}(r:pP o u):o.isSome=u.isSome:=by
 cases o with
 | none=>cases u with
   | none=>rfl
   | some _=>exact(show False from r).elim
 | some _=>cases u with
   | none=>exact(show False from r).elim
   | some _=>rfl
theorem KV.val {kvs:List (κ×V)}{vs:List (κ×Value)}(r:KV kvs vs)(k:κ):pP (oi kvs k) (valueAt vs k):=by
 unfold KV at r
 induction r with
 | nil=>exact True.intro
 | @cons p q ps qs h t ih=>
   obtain⟨h1,h2⟩:=h
   by_cases e:p.1=k
   . have e':q.1=k:=h1.symm.trans e
     have b:valueAt (q::qs) k=some q.2:=by simp[valueAt,abi,e']
     rw[oj e,b];exact h2
   . have e':¬ q.1=k:=fun z=>e (h1.trans z)
     have b:valueAt (q::qs) k=valueAt qs k:=by simp[valueAt,abi,e']
     rw[mq e,b];exact ih
theorem KV.any {kvs:List (κ×V)}{vs:List (κ×Value)}(r:KV kvs vs)(k:κ):(kvs.any fun kv=>decide (kv.1=k))=vs.any fun kv=>decide (kv.1=k):=by
 unfold KV at r
 induction r with
 | nil=>rfl
 | cons h t ih=>rw[abl,abl,ih,h.1]
theorem KV.Qy {kvs:List (κ×V)}{vs:List (κ×Value)}(r:KV kvs vs)(k:κ){y:V}{u:Value}(ry:RelV y u):KV (kvs.map fun kv=>if kv.1=k then (kv.1,y) else kv) (vs.map fun kv=>if kv.1=k then (kv.1,u) else kv):=by
 unfold KV at r ⊢
 induction r with
 | nil=>exact .nil
 | @cons p q ps qs h t ih=>
   rw[aaq,aaq]
   refine .cons ?_ ih
   obtain⟨h1,h2⟩:=h
   by_cases e:p.1=k
   . rw[if_pos e,if_pos (h1.symm.trans e)];exact⟨h1,ry⟩
   . rw[if_neg e,if_neg (fun z=>e (h1.trans z))];exact⟨h1,h2⟩
theorem KV.put {kvs:List (κ×V)}{vs:List (κ×Value)}(r:KV kvs vs)(k:κ){y:V}{u:Value}(ry:RelV y u):KV (putK kvs k y) (stored vs k u):=by
 unfold putK stored
 rw[r.any k]
 by_cases e:(vs.any fun kv=>decide (kv.1=k))=true
 . rw[if_pos e,if_pos e];exact r.Qy k ry
 . rw[if_neg e,if_neg e];exact Paired.snoc r ⟨rfl,ry⟩
theorem KV.length {kvs:List (κ×V)}{vs:List (κ×Value)}(r:KV kvs vs):kvs.length=vs.length:=Paired.length r
end
theorem AY {P:Program}{w:World}{k:Key}{u:Value}(r:RelV (kV k) u):(cL P w).is k u=true:=by
 cases k with
 | inl i=>obtain⟨t,e⟩:=(show ∃ t,u=Value.int i t from r);subst e;exact Ay P w i t
 | inr x=>obtain⟨t,e⟩:=(show ∃ t,u=Value.str x t from r);subst e;exact Az P w x t
theorem yh {P:Program}{w:World}:∀ {ks:List Key} {us:List Value},Vals (ks.map kV) us->ItemsAre (cL P w) ks us
 | [],_,r=>by rw[List.map_nil] at r;cases r;exact .nil
 | k::ks,_,r=>by
   rw[aaq] at r
   cases r with
   | cons h t=>exact .cons (AY h) (yh t)
abbrev KT (H:Hp):List (List Key×V)->List (List Key×Addr×Value)->Prop:=Paired fun p q=>p.1=q.1/\H q.2.1=some (.tup (p.1.map kV))/\RelV p.2 q.2.2
theorem KT.val {H:Hp}{kvs:List (List Key×V)}{xs:List (List Key×Addr×Value)}(r:KT H kvs xs)(k:List Key):pP (oi kvs k) ((atKey xs k).map (·.2)):=by
 induction r with
 | nil=>exact True.intro
 | @cons p q ps qs h t ih=>
   obtain⟨h1,_,h2⟩:=h
   by_cases e:p.1=k
   . have e':q.1=k:=h1.symm.trans e
     have b:atKey (q::qs) k=some q.2:=by simp[atKey,abi,e']
     rw[oj e,b];exact h2
   . have e':¬ q.1=k:=fun z=>e (h1.trans z)
     have b:atKey (q::qs) k=atKey qs k:=by simp[atKey,abi,e']
     rw[mq e,b];exact ih
theorem KT.Qy {H:Hp}{kvs:List (List Key×V)}{xs:List (List Key×Addr×Value)}(r:KT H kvs xs)(k:List Key){y:V}{u:Value}(ry:RelV y u):KT H (kvs.map fun kv=>if kv.1=k then (kv.1,y) else kv) (xs.map (putAt k u)):=by
 induction r with
 | nil=>exact .nil
 | @cons p q ps qs h t ih=>
   rw[aaq,aaq]
   refine .cons ?_ ih
   obtain⟨h1,h2,h3⟩:=h
   unfold putAt
   by_cases e:p.1=k
   . rw[if_pos e,if_pos (h1.symm.trans e)];exact⟨h1,h2,ry⟩
   . rw[if_neg e,if_neg (fun z=>e (h1.trans z))];exact⟨h1,h2,h3⟩
theorem KT.put {H:Hp}{kvs:List (List Key×V)}{xs:List (List Key×Addr×Value)}(r:KT H kvs xs)(k:List Key){b:Addr}{y:V}{u:Value}(hb:H b=some (.tup (k.map kV)))(ry:RelV y u):KT H (putK kvs k y) (storedH xs k b u):=by
 have e:(kvs.any fun kv=>decide (kv.1=k))=(atKey xs k).isSome:=by
   rw[qP,(r.val k).r8,Option.isSome_map]
 unfold putK storedH
 rw[e]
 by_cases q:(atKey xs k).isSome=true
 . rw[if_pos q,if_pos q];exact r.Qy k ry
 . rw[if_neg q,if_neg q];exact Paired.snoc r ⟨rfl,hb,ry⟩
theorem KT.keeps {H H':Hp}{kvs:List (List Key×V)}{xs:List (List Key×Addr×Value)}(r:KT H kvs xs)(ht:∀ b ys,H b=some (.tup ys)->H' b=some (.tup ys)):KT H' kvs xs:=
 Paired.PN r fun _ _ z=>⟨z.1,ht _ _ z.2.1,z.2.2⟩
section
variable {P:Program}{w:World}{H:Hp}{h:Heap}{a:Addr}
theorem OB {u:HO}(ok:qH P w H h)(e:Rd H a u):aL P w H h a u:=e.ok ok
theorem tJ {kvs:List (Key×V)}(ok:qH P w H h)(e:Rd H a (.dK kvs)):kvs.length<=sizeLine/\(a == sysModules)=false/\∃ vs,KV kvs vs/\h.DictOf (cL P w) a vs:=
 show aL P w H h a (.dK kvs) from OB ok e
theorem OC {kvs:List (Key×V)}(ok:qH P w H h)(e:H a=some (.dK kvs)):kvs.length<=sizeLine/\(a == sysModules)=false/\∃ vs,KV kvs vs/\h.DictOf (cL P w) a vs:=tJ ok (.inl e)
theorem yU {ks:List Key}(ok:qH P w H h)(e:H a=some (.tup (ks.map kV))):(tupleKind (cL P w)).is h ks a:=by
 obtain⟨_,aE,r,o,h1,h2,n,h3⟩:=(show aL P w H h a (.tup (ks.map kV)) from ok a _ e)
 exact⟨o,aE.toArray,n,h1,h2,h3,by simpa using yh r⟩
theorem Ef {kvs:List (List Key×V)}(ok:qH P w H h)(e:Rd H a (.dT kvs)):kvs.length<=sizeLine/\(a == sysModules)=false/\∃ xs,KT H kvs xs/\h.DictOfH (tupleKind (cL P w)) a xs:=by
 obtain⟨z,y,xs,r,o,es,ep,h1,h2,h3,h4,h5⟩:=(show aL P w H h a (.dT kvs) from OB ok e)
 refine⟨z,y,xs,r,o,es,ep,h1,h2,h3,h4,fun x hx=>?_,h5⟩
 have all:∀ {l:List (List Key×V)} {m:List (List Key×Addr×Value)},KT H l m->∀ x∈m,(tupleKind (cL P w)).is h x.1 x.2.1:=by
   intro l m q
   induction q with
   | nil=>intro x hx;exact nomatch hx
   | @cons p q ps qs hq t ih=>
     intro x hx
     rcases aaE.mp hx with e | hx
     . subst e
       exact yU ok (by rw[<- hq.1];exact hq.2.1)
     . exact ih x hx
 exact all r x hx
theorem UA {kvs:List (List Key×V)}(ok:qH P w H h)(e:H a=some (.dT kvs)):kvs.length<=sizeLine/\(a == sysModules)=false/\∃ xs,KT H kvs xs/\h.DictOfH (tupleKind (cL P w)) a xs:=Ef ok (.inl e)
end
def t6 (H:Hp)(a:Addr)(y:V)(r:Option V):Prop:=
 (∃ kvs k,Rd H a (.dK kvs)/\y=kV k/\r=oi kvs k)\/∃ kvs k b,Rd H a (.dT kvs)/\y=.ref b/\H b=some (.tup (k.map kV))/\r=oi kvs k
def Gf (H:Hp)(a:Addr)(y v:V)(H':Hp):Prop:=
 (∃ kvs k,H a=some (.dK kvs)/\y=kV k/\kvs.length < sizeLine/\H'=upd H a (.dK (putK kvs k v))) \/
 ∃ kvs k b,H a=some (.dT kvs)/\y=.ref b/\H b=some (.tup (k.map kV))/\kvs.length < sizeLine/\H'=upd H a (.dT (putK kvs k v))
theorem t6.k {H:Hp}{a:Addr}{kvs:List (Key×V)}{k:Key}(e:H a=some (.dK kvs)):t6 H a (kV k) (oi kvs k):=.inl ⟨kvs,k,.inl e,rfl,rfl⟩
theorem Gf.k {H:Hp}{a:Addr}{kvs:List (Key×V)}{k:Key}{v:V}(e:H a=some (.dK kvs))(hl:kvs.length < sizeLine):Gf H a (kV k) v (upd H a (.dK (putK kvs k v))):=.inl ⟨kvs,k,e,rfl,hl,rfl⟩
section
variable {X:Cx}{pins:List (Addr×Obj)}{σ:St}{H:Hp}{s:Shared}{a:Addr}{y v:V}{u r:Value}{o:Option V}{A:Around}{E:Value->Shared->Prop}
theorem Inv.big (I:Inv X pins σ H s):sysModules < s.heap.objs.size:=by
 have h:mainGlobals < s.heap.objs.size:=(I.mod.glob.keeps I.bk).lt
 exact Nat.lt_trans (by decide) h
theorem Gg {Q:Value->Shared->Prop}(hu:A.units+1 < cLine)(I:Inv X pins σ H s)(g:t6 H a y (some v))(ry:RelV y u)(h:∀ w' s',Inv X pins σ H s'->RelV v w'->Q w' s'):wpAny (model X.prog X.w) A (getItem (.ref a) u) Q E s:=by
 rcases g with⟨kvs,k,e,ey,l⟩ | ⟨kvs,k,b,e,ey,eb,l⟩
 . subst ey
   obtain⟨z,hd,vs,rel,dd⟩:=tJ I.bh e
   obtain⟨w',hw,HI⟩:=pP.some_of (v:=v) (o:=valueAt vs k) (by rw[l];exact rel.val k)
   exact wpAny_getItem_of (AY ry) dd.mapOf hw (h w' _ (I.tok _) HI)
 . subst ey
   cases (show u=Value.ref b from ry)
   obtain⟨z,hd,xs,rel,dd⟩:=Ef I.bh e
   obtain⟨w',hw,HI⟩:=pP.some_of (v:=v) (o:=(atKey xs k).map (·.2)) (by rw[l];exact rel.val k)
   obtain⟨p,hp,yV⟩:=Option.map_eq_some_iff.mp hw
   refine wpAny_getItem_heap (tupleKind_room_in1 hu) (yU I.bh eb) dd hp ?_
   rw[yV]
   exact h w' _ (I.tok _) HI
theorem Mi {Q:Value->Shared->Prop}(hu:A.units+1 < cLine)(I:Inv X pins σ H s)(g:t6 H a y o)(ry:RelV y u)(h:∀ s',Inv X pins σ H s'->Q (.bool (!o.isSome)) s'):wpAny (model X.prog X.w) A (compareOp .NotIn u (.ref a)) Q E s:=by
 rcases g with⟨kvs,k,e,ey,l⟩ | ⟨kvs,k,b,e,ey,eb,l⟩
 . subst ey
   obtain⟨z,hd,vs,rel,dd⟩:=tJ I.bh e
   refine wpAny_notIn_of (AY ry) hd dd.mapOf ?_
   rw[<- (rel.val k).r8,<- l]
   exact h _ (I.tok _)
 . subst ey
   cases (show u=Value.ref b from ry)
   obtain⟨z,hd,xs,rel,dd⟩:=Ef I.bh e
   refine wpAny_notIn_heap (tupleKind_room_in1 hu) (yU I.bh eb) hd dd ?_
   have q:=(rel.val k).r8
   rw[Option.isSome_map] at q
   rw[<- q,<- l]
   exact h _ (I.tok _)
theorem mU {h':Heap}{t':Nat}{ob:HO}(I:Inv X pins σ H s)(mu:Ti (H a))(hs:abp a s.heap h')(he:∃ q,h'.get? a=some q)(new:aL X.prog X.w (upd H a ob) h' a ob):Inv X pins σ (upd H a ob) { s with heap:=h',toks:=t'}:=
 I.write (x:=a) (e:=a) mu (.inl rfl) (fun b q hb z=>(hs.2 b hb).trans z) he new
theorem Ib {P:Program}{w:World}{H':Hp}{h':Heap}{kvs:List (Key×V)}{vs:List (Key×Value)}(z:kvs.length<=sizeLine)(hd:(a == sysModules)=false)(rel:KV kvs vs)(dd:h'.DictOf (cL P w) a vs):aL P w H' h' a (.dK kvs):=⟨z,hd,vs,rel,dd⟩
theorem Gh {H':Hp}{Q:Unit->Shared->Prop}(hu:A.units+1 < cLine)(I:Inv X pins σ H s)(g:Gf H a y v H')(ry:RelV y u)(rv:RelV v r)(h:∀ s',Inv X pins σ H' s'->Q () s'):wpAny (model X.prog X.w) A (setItem (.ref a) u r) Q E s:=by
 rcases g with⟨kvs,k,e,ey,l,eH⟩ | ⟨kvs,k,b,e,ey,eb,l,eH⟩
 . subst ey eH
   obtain⟨z,hd,vs,rel,dd⟩:=OC I.bh e
   have hz:vs.length<=sizeLine:=by rw[<- rel.length];exact z
   have hl:(putK kvs k v).length<=sizeLine:=by have:=tH kvs k v;omega
   refine wpAny_setItem_pairs (hsz:=hz) (AY ry) dd fun h' Qz hs=>h _ ?_
   have he:∃ q,h'.get? a=some q:=let ⟨q,_,_,hq,_⟩:=Qz;⟨q,hq⟩
   exact mU I (by rw[e];exact True.intro) hs he (Ib hl hd (rel.put k rv) Qz)
 . subst ey eH
   cases (show u=Value.ref b from ry)
   obtain⟨z,hd,xs,rel,dd⟩:=UA I.bh e
   have hz:xs.length<=sizeLine:=by rw[<- Paired.length rel];exact z
   have hl:(putK kvs k v).length<=sizeLine:=by have:=tH kvs k v;omega
   refine wpAny_setItem_heap (hsz:=hz) (tupleKind_room_in1 hu) (yU I.bh eb) dd fun h' Qz hs=>h _ ?_
   obtain⟨q,es,ep,hq,h2,h3,h4,_,h5⟩:=Qz
   refine mU I (by rw[e];exact True.intro) hs ⟨q,hq⟩ ⟨hl,hd,_,(rel.put k eb rv).keeps fun c ys ec=>?_,q,es,ep,hq,h2,h3,h4,h5⟩
   rw[ah (TQ ec e (fun z=>nomatch z))]
   exact ec
end
def Mj (i:Expr):Prop:=∀ ov iv,subscripted i false ov iv=operate [ov,iv] (getItem ov iv)
theorem Ml {prog:Program}{w:World}{A:Around}{E:Value->Shared->Prop}{s:Shared}{env:Env}{value slice:Expr}{pos:Pos}{T id:String}{Q:Value->Shared->Prop}(hl:typeLookup (.type T) "__getitem__"=pure (some (.builtin id)))(hs:Mj slice)(h:wpAny (model prog w) A (eval value env) (fun o s₁=>wpAny (model prog w) A (eval slice env) (fun i s₂=>s₂.TypeIs o T/\wpAny (model prog w) A (getItem o i) Q E s₂) E s₁) E s):wpAny (model prog w) A (eval (.Subscript value slice pos) env) Q E s:=by
 refine Subscript_ (wpAny_mono h (fun o s₁ h₁=>wpAny_mono h₁ (fun i s₂ h₂=>?_) fun _ _ x=>x) fun _ _ x=>x)
 obtain⟨hT,h₂⟩:=h₂
 unfold subscriptTail
 refine wpAny_bind ?_
 rw[getitemInPython_of_ne hT.not_modules]
 refine wpAny_bind (wpAny_specialOf hT hl ?_)
 have fin:wpAny (model prog w) A (subscripted slice false o i) (fun r s₃=>wpAny (model prog w) A (letTemporaryGo value o r >>= fun _=>pure r) Q E s₃) E s₂:=by
   rw[hs o i]
   exact wpAny_operating (wpAny_mono h₂ (fun r s₃ h₃=>wpAny_bind (wpAny_letTemporaryGo (wpAny_pure h₃))) fun _ _ x=>x)
 first
   | exact wpAny_pure (wpAny_bind fin)
   | exact wpAny_bind (wpAny_pure (wpAny_bind fin))
   | exact wpAny_bind fin
theorem AZ {X:Cx}{pins:List (Addr×Obj)}{σ:St}{H:Hp}{s:Shared}{a:Addr}{y:V}{o:Option V}(I:Inv X pins σ H s)(g:t6 H a y o):s.TypeIs (.ref a) "dict":=by
 rcases g with⟨kvs,k,e,_,_⟩ | ⟨kvs,k,b,e,_,_,_⟩
 . obtain⟨_,_,vs,_,dd⟩:=tJ I.bh e
   exact dd.typeIs
 . obtain⟨_,_,xs,_,dd⟩:=Ef I.bh e
   exact dd.typeIs
def UB (td ty:TE):TE:=fun σ H Q=>td σ H fun x H1=>ty σ H1 fun y H2=>∃ a v,x=.ref a/\t6 H2 a y (some v)/\Q v H2
def Ye (ty td:TE):TE:=fun σ H Q=>ty σ H fun y H1=>td σ H1 fun x H2=>∃ a o,x=.ref a/\t6 H2 a y o/\Q (.bl o.isSome) H2
def Eg (ty td:TE):TE:=fun σ H Q=>ty σ H fun y H1=>td σ H1 fun x H2=>∃ a o,x=.ref a/\t6 H2 a y o/\Q (.bl (!o.isSome)) H2
def UC (td ty tv:TE):TS:=fun D σ H=>tv σ H fun v H1=>td σ H1 fun x H2=>ty σ H2 fun y H3=>∃ a H4,x=.ref a/\Gf H3 a y v H4/\D.nx σ H4
section
variable {X:Cx}{o i value:Expr}{pos pos':Pos}{td ty tv:TE}
theorem Eh (hu:X.A.units+1 < cLine)(ho:PE X o td)(hi:PE X i ty)(hs:Mj i):PE X (.Subscript o i pos) (UB td ty):=by
 intro pins s σ H Q I h
 refine Ml PySem.F.slot_dict_getitem.lookup hs (b7 (ho pins s σ H _ I h) fun u s1 ⟨x,H1,I1,rx,q1⟩=>b7 (hi pins s1 σ H1 _ I1 q1) fun iv s2 ⟨y,H2,I2,ry,a,v,ex,g,q2⟩=>?_)
 subst ex
 obtain rfl:u=Value.ref a:=rx
 exact⟨AZ I2 g,Gg hu I2 g ry fun w' s3 I3 HI=>⟨v,H2,I3,HI,q2⟩⟩
theorem Gi (hu:X.A.units+1 < cLine)(hi:PE X i ty)(ho:PE X o td):PC X .NotIn i o (Eg ty td):=by
 intro pins s σ H Q I h
 refine b7 (hi pins s σ H _ I h) fun iv s1 ⟨y,H1,I1,ry,q1⟩=>b7 (ho pins s1 σ H1 _ I1 q1) fun u s2 ⟨x,H2,I2,rx,a,ov,ex,g,q2⟩=>?_
 subst ex
 obtain rfl:u=Value.ref a:=rx
 exact Mi hu I2 g ry fun s3 I3=>⟨.bl (!ov.isSome),H2,I3,rfl,q2⟩
theorem Ei (hu:X.A.units+1 < cLine)(ho:PE X o td)(hi:PE X i ty)(hv:PE X value tv)(hs:swapsWith value (some (.Subscript o i pos')) pos.line X.env=pure false):PS X (.Assign [.Subscript o i pos'] value pos) (UC td ty tv):=by
 intro pins s σ H D I h
 refine wpAny_Assign_Subscript (b7 (hv pins s σ H _ I h) fun r s1 ⟨v,H1,I1,rv,q1⟩=>b7 (ho pins s1 σ H1 _ I1 q1) fun u s2 ⟨x,H2,I2,rx,q2⟩=>b7 (hi pins s2 σ H2 _ I2 q2) fun iv s3 ⟨y,H3,I3,ry,a,H4,ex,g,q3⟩=>?_) hs
 subst ex
 obtain rfl:u=Value.ref a:=rx
 exact Gh hu I3 g ry rv fun s4 I4=>⟨σ,H4,I4,q3⟩
end
theorem A0 {P:Program}{w:World}{H:Hp}(h:Heap)(hb:sysModules < h.objs.size):aL P w H (h.push { cls:=.type "dict",data:=.dict #[]}) h.objs.size (.dK []):=
 ⟨aa1 _,beq_eq_false_iff_ne.mpr (Ne.symm (aat hb)),[],.nil,Heap.DictOf.new h⟩
def QA:TE:=fun _ H Q=>∀ p,H p=none->Q (.ref p) (upd H p (.dK []))
section
variable {X:Cx}{pos:Pos}
theorem A1:PE X (.Dict [] [] pos) QA:=fun pins s σ H Q I h=>
 wpAny_Dict_empty ⟨.ref s.heap.objs.size,_,I.laid (a:=s.heap.objs.size) (o:=.dK []) (t':=s.toks) (fun _ _ q=>aaf _ q) (aae _) (A0 s.heap I.big),rfl,h _ (I.bh.fresh (aae _))⟩
end
structure M1 (X:Cx)(o:Expr)(m:Str)(apos:Pos)(e:Expr)(bH:Pos):Prop where
 base:attributeBase o m X.env (eval o X.env)=eval o X.env
 few:((backTo bH (starEach [e] X.env)).all (fun x=>!x.1) && (backToKw bH (keywordEach [] X.env)).all (fun x=>x.1.isSome)
   && decide (([e]:List Expr).length+([]:List Keyword).length+(if ([]:List Keyword).isEmpty then 0 else 1) < 30))=true
 line:(apos.endLine == bH.line)=true
 trees:backTo bH (starEach [e] X.env)=[(false,eval e X.env)]
structure M2 (X:Cx)(o:Expr)(m:Str)(apos:Pos)(e f:Expr)(bH:Pos):Prop where
 base:attributeBase o m X.env (eval o X.env)=eval o X.env
 few:((backTo bH (starEach [e,f] X.env)).all (fun x=>!x.1) && (backToKw bH (keywordEach [] X.env)).all (fun x=>x.1.isSome)
   && decide (([e,f]:List Expr).length+([]:List Keyword).length+(if ([]:List Keyword).isEmpty then 0 else 1) < 30))=true
 line:(apos.endLine == bH.line)=true
 trees:backTo bH (starEach [e,f] X.env)=[(false,eval e X.env),(false,eval f X.env)]
end L2
namespace Att
open PySem PySem.W PySem.Calls PyProof.Rows
theorem t7 {P:Params}{h:Heap}:∀ (ns:List Int) (vs:List Value),WellAll P h vs (ns.map WData.int)->IntsAre vs ns:=by
 intro ns
 induction ns with
 | nil=>
   intro vs w
   rw[List.map_nil] at w
   cases w
   exact .nil
 | cons n ns ih=>
   intro vs w
   rw[aaq] at w
   cases w with
   | cons a b=>
     cases a
     exact .cons _ _ (ih _ b)
theorem Gj {l:OpenLaw}{n:Nat}(hn:l.most=some n){P:Params}{h:Heap}{args:List WData}{vals:List Value}(Mm:l.row.toRowW.claim.pre args=true)(QB:WellAll P h vals args):∃ a vs ns,vals=[Value.ref a]/\args=[WData.list (ns.map WData.int)]/\h.get? a=some { cls:=.type "list",data:=.seq vs.toArray}/\IntsAre vs ns/\ns.length<=n:=by
 have hsh:WShape.hasAll [] args [.list .int]=true:=(pre_splitW Mm).1
 have hc:l.pre.holds [] { args:=args}=true:=(pre_splitW Mm).2
 obtain⟨d,r,rfl,h1,h2⟩:=hasAllW_cons hsh
 obtain rfl:=hasAllW_nil h2
 obtain⟨xs,rfl,h3⟩:=hasW_list h1
 obtain⟨ns,rfl⟩:=items_int h3
 have hlen:ns.length<=n:=by
   unfold OpenLaw.pre at hc
   have h4:(WTm.not (.lt (.lit (.int (n:Int))) (.len (.arg 0)))).holds [] { args:=[.list (ns.map .int)]}=true:=by
     have h4:=(holds_andW hc).1
     rw[hn] at h4
     exact h4
   have h5:=condW_of h4 (w_not (w_lt w_lit (w_len_list (w_arg rfl))))
   rw[k5] at h5
   refine abJ fun q=>?_
   have q':(n:Int) < ((ns.length:Nat):Int):=by omega
   first
     | (rw[decide_eq_true q'] at h5;exact absurd h5 (by decide))
     | (simp at h5;omega)
 cases QB with
 | cons w1 w2=>
   cases w2
   cases w1 with
   | list ho Yf=>exact⟨_,_,ns,rfl,rfl,ho,t7 ns _ Yf,hlen⟩
theorem Gk (l:OpenLaw)(args:List WData):l.row.toRowW.claim.post args (.bool true) args=true:=
 postW_of (r:=l.row.toRowW) (X:=(true == true))
   (show WShape.has [] (.bool true) .bool=true by first | rfl | decide | simp[WShape.has,WShape.arms,WShape.armsAll])
   (show(WTm.eq .res (.lit (.bool true))).value [] { args:=args,res:=some (.bool true),after:=args}=some (.bool (true == true)) from w_eq_bool (w_res rfl) w_lit) rfl
theorem A2 {l:OpenLaw}{n:Nat}{q:Program}{loose:List Str}{XP:(Str->Option Value)->Heap->Prop}{YP:World->Heap->Prop}{d:DefRec}(hn:l.most=some n)(UD:d.params.defaults=[])(call:∀ (w:World) (s₀ s₁:Shared) (mg mb:Str->Option Value) (fa:Addr) (o:Obj) (pm cd doc:Value) (a:Addr) (vs:List Value) (ns:List Int),Ground q loose [] XP w s₀ mg mb s₁.heap->YP w s₁.heap->s₁.heap.get? fa=some o->o.data=.func (docDef d.name d.params d.body d.scope pm cd doc)->s₁.heap.CodeRec cd d.name->mg d.name=some (.ref fa)->s₁.heap.get? a=some { cls:=.type "list",data:=.seq vs.toArray}->IntsAre vs ns->ns.length<=n->s₁.gens=#[]->codeAny (model l.prog w) callerA (.call (.ref fa) ⟨[.ref a],[]⟩) (fun r s'=>r=.ok (.ret (.bool true))/\OldK s₁.heap s'.heap/\s'.os=s₁.os/\AllBare s'.gens) s₁):WalkO q loose XP YP l.row.toRowW d [] (fun f vs=>PySem.call f vs):=by
 intro w s₀ s₁ mg mb G Y fa o pm cd doc dV kV ho hd ml hD UE hg args vals as Mm ab3 OD QB hlo
 obtain rfl:dV=.none:=Dflts.none hD UD
 obtain rfl:kV=.none:=Dflts.noKw hD
 obtain⟨a,vs,ns,rfl,rfl,QC,hints,hlen⟩:=Gj hn Mm QB
 refine enter_call (codeAny_mono (call w s₀ s₁ mg mb fa o pm cd doc a vs ns G Y ho (fd_plain hd) ml UE QC hints hlen hg) fun r s' hq=>?_)
 obtain⟨rfl,h2,h3,h4⟩:=hq
 exact⟨.inl ⟨.bool true,.bool true,[],rfl,fun _=>rfl,.bool true,Gk l _,fun _=>⟨List.Pairwise.nil,fun _ hm=>(nomatch hm)⟩⟩,h2,h3,h4⟩
end Att
namespace L2
open PySem PySem.Spec PyProof.Rows
theorem oW:∀ {vs:List Value} {ns:List Int},IntsAre vs ns->Vals (ns.map V.int) vs
 | _,_,.nil=>.nil
 | _,_,.cons n t h=>.cons ⟨t,rfl⟩ (oW h)
def Mn (H:Hp):Prop:=∀ b,H b=none\/∃ o xs,H b=some (.bF o (.lst xs))
theorem Ic {P:Program}{w:World}{K:W.Frag}{mg mb:Str->Option Value}{CX:r0}{k:Nat}{fa a:Addr}{fd:FuncData}{x:Str}{sp:Sp}{s₁:Shared}{vs:List Value}{ns:List Int}(KX:K.In s₁.heap)(Hq:s₁.heap.Ns mainGlobals mg)(hb:s₁.heap.Ns builtinsNs mb)(hbb:∀ x:Str,x≠"__name__"->mb x=bootBuiltins x)(Yg:s₁.heap.NoLimit)(hg:s₁.gens=#[])(ha:s₁.heap.get? a=some { cls:=.type "list",data:=.seq vs.toArray})(hi:IntsAre vs ns)(hl:ns.length<=sizeLine)(hr:eQ k callerA)(F:∀ base:Heap,K.In base->base.Ns mainGlobals mg->j4 P w K mg base CX k fa fd [x] sp)(UG:∀ (s:Shared) (u:Value),BindsTo s fd ⟨[u],[]⟩ [(x,u)])(LF:∀ H:Hp,Mn H->mP K H a (ns.map V.int)->sp [.ref a] H (fun v _=>v=.bl true) fun _ _ _=>False)(UH:∀ H e s',CX [] H s₁ (fun _ _ _=>False) e s'->False):codeAny (model P w) callerA (.call (.ref fa) ⟨[.ref a],[]⟩) (fun r s'=>r=.ok (.ret (.bool true))/\OldK s₁.heap s'.heap/\s'.os=s₁.os/\AllBare s'.gens) s₁:=by
 have rv:=oW hi
 have Yh:=hi.length
 have core:∀ H:Hp,Mn H->mP K H a (ns.map V.int)->qH P w H s₁.heap->(∀ b,H b≠none->b=a)->(H a≠none->K.lookup a=none) ->
     codeAny (model P w) callerA (.call (.ref fa) ⟨[.ref a],[]⟩) (fun r s'=>r=.ok (.ret (.bool true))/\OldK s₁.heap s'.heap/\s'.os=s₁.os/\AllBare s'.gens) s₁:=by
   intro H hO hS bh hA hK
   have Ej:∀ {b:Addr} {o:Obj},s₁.heap.get? b=some o->H b=none->(yN s₁.heap H).get? b=some o:=fun e n=>HB e n
   have Us:∀ {b:Addr} {o:Obj} {es:Array DictEntry} {ep:Nat},s₁.heap.get? b=some o->o.data=.dict es ep->H b=none:=fun {b o es ep} e d=>by
     cases q:H b with
     | none=>rfl
     | some u=>
       have e':b=a:=hA b (by rw[q];simp)
       subst e'
       rw[ha] at e;cases e
       have d':Data.seq vs.toArray _=Data.dict es ep:=d
       cases d'
   have WT:∀ {b:Addr} {m:Str->Option Value},s₁.heap.Ns b m->(yN s₁.heap H).Ns b m:=fun {b m} ⟨o,es,ep,e,d,r⟩=>⟨o,es,ep,Ej e (Us e d),d,r⟩
   have hKb:K.In (yN s₁.heap H):=fun b o e=>Ej (KX b o e) (by
     cases q:H b with
     | none=>rfl
     | some u=>
       have e':b=a:=hA b (by rw[q];simp)
       subst e'
       rw[hK (by rw[q];simp)] at e;cases e)
   have hM:Mod K mg (yN s₁.heap H):=⟨hKb,WT Hq,⟨mb,WT hb,hbb⟩,let ⟨mc,h1,h2⟩:=Yg;⟨mc,WT h1,h2⟩⟩
   have e0:AN P w K mg (yN s₁.heap H) callerA [] s₁ H:=⟨rfl,hM,fun b o e=>LR e,Nat.le_of_eq (FZ _ _),trivial,fun b hb=>absurd (show b∈([]:List Addr) from hb) (by simp),bh,.of_eq hg⟩
   refine codeAny_mono ((F _ hKb (WT Hq)).run callerA [] s₁ H ⟨[.ref a],[]⟩ [.ref a] [.ref a] _ _ hr e0 (UG s₁ (.ref a)) (.cons rfl .nil) (LF H hO hS)) fun r s' h=>?_
   cases r with
   | error e=>exact(UH H e s' h).elim
   | ok fl=>
     cases fl with
     | next=>exact False.elim h
     | brk=>exact False.elim h
     | cont=>exact False.elim h
     | ret u=>
       obtain⟨v,H',os,bare,un,Yi,r',q⟩:=h
       have q':v=.bl true:=q
       subst q'
       obtain rfl:u=Value.bool true:=r'
       refine⟨rfl,OldK.of_keep fun b o e=>?_,os,bare⟩
       cases q:H b with
       | none=>exact un.keep b o e q (by intro z;exact absurd (show b∈([]:List Addr) from z) (by simp)) (by simp)
       | some u=>
         rcases hO b with z | ⟨ob,xs,z⟩
         . rw[q] at z;cases z
         . have z2:=un.yM b ob _ z
           obtain⟨e1,_⟩:=bh b _ z
           obtain⟨e2,_⟩:=Yi b _ z2
           rw[e] at e1;cases e1
           exact e2
 cases hk:K.lookup a with
 | some o=>
   have e:=KX a o hk
   rw[ha] at e
   cases e
   refine core (fun _=>none) (fun _=>.inl rfl) (.inr ⟨_,vs.toArray,_,hk,rfl,rfl,rfl,by rw[aan,Yh];exact hl,by simpa using rv⟩) (fun b u z=>by have z':(none:Option HO)=some u:=z;cases z') (fun b z=>absurd rfl z) fun z=>absurd rfl z
 | none=>
   refine core (fun b=>if b=a then some (.bF { cls:=.type "list",data:=.seq vs.toArray} (.lst (ns.map V.int))) else none) (fun b=>?_) (.inl (.inr (.inl ⟨{ cls:=.type "list",data:=.seq vs.toArray},if_pos rfl⟩))) (fun b u z=>?_) (fun b z=>?_) fun _=>hk
   . by_cases hb:b=a
     . exact .inr ⟨_,_,if_pos hb⟩
     . exact .inl (if_neg hb)
   . by_cases hb:b=a
     . have z':=(if_pos hb).symm.trans z
       cases z'
       subst hb
       exact⟨ha,by rw[k5];exact hl,vs,_,rv,ha⟩
     . have z':=(if_neg hb).symm.trans z
       cases z'
   . by_cases hb:b=a
     . exact hb
     . exact absurd (if_neg hb) z
noncomputable abbrev KOf {K:W.Frag}{h:Heap}(_:K.In h):W.Frag:=K
theorem Mo {l:W.OpenLaw}{n k:Nat}{q:Program}{loose:List Str}{XP:(Str->Option Value)->Heap->Prop}{YP:World->Heap->Prop}{d:DefRec}{K:Params->W.Frag}{CX:World->r0}{sp:World->Sp}{x:Str}(hn:l.most=some n)(Tq:n<=sizeLine)(UD:d.params.defaults=[])(hr:eQ k callerA)(hY:∀ (w:World) (h:Heap),YP w h->(K w.params).In h)(F:∀ (w:World) (mg:Str->Option Value) (fa:Addr) (h:Heap),(K w.params).In h->h.Ns mainGlobals mg->mg d.name=some (.ref fa)->∃ fd:FuncData,(∀ (s:Shared) (u:Value),BindsTo s fd ⟨[u],[]⟩ [(x,u)])/\∀ base:Heap,(K w.params).In base->base.Ns mainGlobals mg->j4 l.prog w (K w.params) mg base (CX w) k fa fd [x] (sp w))(LF:∀ (w:World) (H:Hp) (a:Addr) (ns:List Int),ns.length<=n->Mn H->mP (K w.params) H a (ns.map V.int)->sp w [.ref a] H (fun v _=>v=.bl true) fun _ _ _=>False)(UH:∀ (w:World) (H:Hp) (s:Shared) (e:Value) (s':Shared),CX w [] H s (fun _ _ _=>False) e s'->False):W.WalkO q loose XP YP l.row.toRowW d [] (fun f vs=>PySem.call f vs):=by
 refine Att.A2 hn UD fun w s₀ s₁ mg mb fa o pm cd doc a vs ns G Y ho hd ml UE QC hints hlen hg=>?_
 have KX:=hY w _ Y
 obtain⟨fd,hb,hF⟩:=F w mg fa _ KX G.T.g UE
 exact Ic KX G.T.g G.T.b G.T.builtins G.T.nolimit hg QC hints (aav hlen Tq) hr hF hb (fun H hO hS=>LF w H a ns hlen hO hS) fun H e s'=>UH w H s₁ e s'
theorem Ie {l:W.OpenLaw}{n k:Nat}{q:Program}{loose:List Str}{XP:(Str->Option Value)->Heap->Prop}{YP:World->Heap->Prop}{d:DefRec}{K:Params->W.Frag}{CX:r0}{sp:W.Frag->Sp}{x:Str}(hn:l.most=some n)(Tq:n<=sizeLine)(UD:d.params.defaults=[])(hr:eQ k callerA)(hY:∀ (w:World) (h:Heap),YP w h->(K w.params).In h)(F:∀ (w:World) (mg:Str->Option Value) (fa:Addr) (h:Heap),(K w.params).In h->h.Ns mainGlobals mg->mg d.name=some (.ref fa)->∃ fd:FuncData,(∀ (s:Shared) (u:Value),BindsTo s fd ⟨[u],[]⟩ [(x,u)])/\∀ base:Heap,(K w.params).In base->base.Ns mainGlobals mg->j4 l.prog w (K w.params) mg base CX k fa fd [x] (sp (K w.params)))(LF:∀ (K:W.Frag) (H:Hp) (a:Addr) (ns:List Int),ns.length<=n->Mn H->mP K H a (ns.map V.int)->sp K [.ref a] H (fun v _=>v=.bl true) fun _ _ _=>False)(UH:∀ (H:Hp) (s:Shared) (e:Value) (s':Shared),CX [] H s (fun _ _ _=>False) e s'->False):W.WalkO q loose XP YP l.row.toRowW d [] (fun f vs=>PySem.call f vs):=
 Mo (K:=K) (CX:=fun _=>CX) (sp:=fun w=>sp (K w.params)) hn Tq UD hr hY F (fun w H a ns h1 h2 h3=>LF (K w.params) H a ns h1 h2 h3) fun _ H s e s'=>UH H s e s'
noncomputable def inClass (s:Stmt)(j:Nat):Stmt:=match s with
 | .ClassDef _ _ _ body _ _ _ _ _ _ _=>body.getD j (.Pass ⟨0,0,0,0⟩)
 | _=>.Pass ⟨0,0,0,0⟩
noncomputable def cf (s:Stmt):Arguments:=match s with
 | .FunctionDef _ a _ _ _ _ _ _ _ _=>a
 | _=>{ posonlyargs:=[],args:=[],vararg:=none,kwonlyargs:=[],kw_defaults:=[],kwarg:=none,defaults:=[]}
noncomputable def aA (s:Stmt):List Stmt:=match s with
 | .FunctionDef _ _ b _ _ _ _ _ _ _=>b
 | _=>[]
noncomputable def af (s:Stmt):Scope:=match s with
 | .FunctionDef _ _ _ _ _ _ sc _ _ _=>sc
 | _=>{ kind:=.function,names:=[],isGenerator:=false,isCoroutine:=false}
abbrev CX0:r0:=fun _ _ _ _ _ _=>False
abbrev E0:XK:=fun _ _ _=>False
structure Tt (K:W.Frag)(x qual:Str)(st:Stmt)(f:Addr)(fd:FuncData):Prop where
 ex:∃ (oc:Value) (od:Option Addr) (kV doc pm:Value) (an:Option Addr) (bj ct:Value) (yf:Array (Option Value)),
   fd=W.fnOf x qual (cf st) (aA st) (af st) .none kV doc pm an bj ct/\K.lookup f=some ⟨oc,od,.func fd,yf⟩/\W.codeIn K bj qual=true
 kp:W.keepIn K (.ref f)=true
section
variable {K:W.Frag}
theorem Tt.binds {x qual:Str}{st:Stmt}{f:Addr}{fd:FuncData}{ps:List Str}(F:Tt K x qual st f fd)(h:∀ (kV doc pm:Value) (an:Option Addr) (bj ct:Value) (us:List Value),us.length=ps.length->bindArgs (W.fnOf x qual (cf st) (aA st) (af st) .none kV doc pm an bj ct) ⟨us,[]⟩=pure (ps.zip us)):Binds K fd ps []:=by
 obtain⟨oc,od,kV,doc,pm,an,bj,ct,yf,rfl,lk,ml⟩:=F.ex
 exact .all (h kV doc pm an bj ct)
theorem vB {x qual:Str}{st:Stmt}{f:Addr}{oc:Value}{od an:Option Addr}{yf:Array (Option Value)}{kV doc pm bj ct:Value}(l:K.lookup f=some ⟨oc,od,.func (W.fnOf x qual (cf st) (aA st) (af st) .none kV doc pm an bj ct),yf⟩)(c:W.codeIn K bj qual=true)(k:W.keepIn K (.ref f)=true):Tt K x qual st f (W.fnOf x qual (cf st) (aA st) (af st) .none kV doc pm an bj ct):=⟨⟨oc,od,kV,doc,pm,an,bj,ct,yf,rfl,l,c⟩,k⟩
end
theorem sd {n:Nat}(h:n<=1000):n < sizeLine:=aaK h (by decide)
theorem A3 {A B:Prop}(h:B):if false=true then A else B:=by
 rw[if_neg aap]
 exact h
theorem A4 {A B:Prop}(h:A):if true=true then A else B:=by
 rw[if_pos rfl]
 exact h
def aG (H H':Hp):Prop:=∀ b o,H b=some o->H' b=some o
theorem aG.refl (H:Hp):aG H H:=fun _ _ h=>h
theorem aG.trans {H H1 H2:Hp}(a:aG H H1)(b:aG H1 H2):aG H H2:=fun c o h=>b c o (a c o h)
theorem aG.free {H H':Hp}(e:aG H H'){l:Addr}(h:H' l=Option.none):H l=Option.none:=by
 cases q:H l with
 | none=>rfl
 | some o=>
   rw[e l o q] at h
   cases h
theorem aG.seq {K:W.Frag}{H H':Hp}{a:Addr}{xs:List V}(e:aG H H')(h:mP K H a xs):mP K H' a xs:=by
 rcases h with(h | ⟨o,h⟩ | ⟨_,_,_,_,h⟩ | ⟨o,h⟩) | h
 . exact .inl (.inl (e _ _ h))
 . exact .inl (.inr (.inl ⟨o,e _ _ h⟩))
 . cases h
 . exact .inl (.inr (.inr (.inr ⟨o,e _ _ h⟩)))
 . exact .inr h
end L2
set_option maxHeartbeats 4000000
namespace Sg
open PySem PySem.Spec PyProof.Rows L2 PySem.Builtin PySem.Builtin.Getset_descriptor
def CT (h:Heap)(x D:Addr):Prop:=∃ ox,h.get? x=some ox/\ox.cls=.ref D
theorem CT.ty {M:Model}{h:Heap}{x D:Addr}(I:CT h x D):W.Looks M h (typeOf (.ref x)) (.ref D):=by
 obtain⟨ox,h1,h2⟩:=I
 rw[<- h2]
 exact(W.Looks.ld h1).andThen .now
theorem QD {prog:Program}{w:World}{A:Around}{E:Value->Shared->Prop}{K:W.Frag}{s:Shared}{x D:Addr}{name:Str}{tk:Tok}{fill expr:Bool}{Q:Value->Shared->Prop}{r:Builtin.ObjectAttr.Found}(X:K.In s.heap)(I:CT s.heap x D)
   (hga:W.findIn K (.ref D) "__getattribute__"=some (some (.builtin "BaseException.__getattribute__"))) (hgt:W.findIn K (.ref D) "__getattr__"=some none) (rS:W.mroIn K D (.type "BaseException")=some true)
   (hf:W.Looks (model prog w) s.heap (Builtin.ObjectAttr.find (.ref x) (.ref D) name) r)
   (h:match r with
     | .bind g a=>wpAny (model prog w) A.in1 (call g [a,.ref x,.ref D]) (fun v s'=>wpAny (model prog w) A (handedOut v) Q E s') (fun _ _=>False) s
     | .value v=>wpAny (model prog w) A (handedOut v) Q E s
     | .missing=>False) :
   wpAny (model prog w) A (getAttrBy (.ref x) (.str name tk) fill expr) Q E s:=by
 obtain⟨hh,gg,d,t,os⟩:=s
 have L0:=I.ty (M:=model prog w)
 have L1:=W.looks_findIn (M:=model prog w) X hga
 have L2':=W.looks_findIn (M:=model prog w) X hgt
 have L4:=W.looks_mroIn (M:=model prog w) X rS
 have f3:=PySem.F.excAttr_ValueError.ga.bind (.ref x)
 unfold getAttrBy
 refine wpAny_holding (wpAny_bind (L0.at (wpAny_bind (L1.at ?_))))
 have UI:(Value.builtin "BaseException.__getattribute__" == Value.builtin "object.__getattribute__")=false:=by
   decide +kernel
 simp only[UI,Bool.and_false,aaY,if_false]
 unfold getAttrByItsOwn hookBefore
 refine wpAny_bind (L2'.at ?_)
 refine wpAny_bind (wpAny_attempt (wpAny_holding ?_))
 unfold callGetattribute boundAndCalled
 have hx0:(expr && onTheHeap (Value.builtin "BaseException.__getattribute__"))=false:=by
   cases expr <;> rfl
 rw[hx0,f3]
 simp only[aaY,if_false]
 refine wpAny_bind (wpAny_pure ?_)
 have hbi:W.Looks (model prog w) hh (isInstance (.ref x) (.type "BaseException")) true:=L0.andThen L4
 refine wpAny_call (codeAny_call_builtin PySem.F.excAttr_ValueError.ga.plain PySem.F.entry_bexc_ga (@W.check_slot (model prog w) _ _ _ "BaseException.__getattribute__" "BaseException" "__getattribute__" (.ref x) [.str name tk] [] _ (by decide +kernel) (by decide +kernel) hbi (PySem.F.args_bexc_ga _ _) ?_))
 unfold Builtin.«object.__getattribute__»
 refine wpAny_bind (wpAny_pure ?_)
 show wpAny (model prog w) A.in1 (Builtin.ObjectAttr.attrName (.str name tk) >>= _) _ _ _
 unfold Builtin.ObjectAttr.attrName
 refine wpAny_bind (wpAny_pure (wpAny_bind (L0.at (wpAny_bind (hf.at ?_)))))
 cases r with
 | bind g a=>
   show wpAny (model prog w) A.in1 (Builtin.ObjectAttr.bindTo g a (.ref x) (.ref D)) _ _ _
   unfold Builtin.ObjectAttr.bindTo
   show wpAny (model prog w) A.in1 (holding [a] (call g [a,.ref x,.ref D]) >>= ret) _ _ _
   exact wpAny_bind (wpAny_holding (wpAny_mono h (fun v s' z=>wpAny_pure z) fun _ _ z=>z.elim))
 | value v=>
   show wpAny (model prog w) A.in1 (ret v) _ _ _
   exact wpAny_pure h
 | missing=>exact h.elim
theorem Mp {prog:Program}{w:World}{A:Around}{K:W.Frag}{s:Shared}{x D:Addr}{tp:Value}{R:Result->Shared->Prop}(X:K.In s.heap)(I:CT s.heap x D)(hm:W.mroIn K D (.type "object")=some true)(hR:R (.ok (.ret (.ref D))) s):codeAny (model prog w) A (.call (.builtin "getset_descriptor.__get__") ⟨[.builtin "object.__class__",.ref x,tp],[]⟩) R s:=by
 obtain⟨hh,g,dr,t,os⟩:=s
 have L0:=I.ty (M:=model prog w)
 have L1:=W.looks_mroIn (M:=model prog w) X hm
 have pl:=W.KF.slot_gs.plain
 have ent:=W.KF.entry_gs
 refine codeAny_call_builtin pl ent (W.KF.slot_gs.check _ _ _ _ _ _ _ _ W.KF.type_class (W.KF.args_gs _ _ _) ?_)
 unfold Builtin.«getset_descriptor.__get__» descrGet
 rw[W.dga_obj]
 refine wpAny_bind (wpAny_pure ?_)
 unfold descrGetter descrCheckInstance descrNameAndClass isInstance
 simp only[W.KF.owner_class]
 repeat lk
 refine⟨Code.quiet_builtin _ (by decide +kernel),codeAny_builtin W.KF.entry_class ?_⟩
 unfold Builtin.«object.__class__» shownTypeOf
 repeat lk
 exact hR
structure Tu (K:W.Frag)(C:Addr):Prop where
 hc:(W.clsIn K C).isSome=true
 ga:W.findIn K (.ref C) "__getattribute__"=some (some (.builtin "BaseException.__getattribute__"))
 gt:W.findIn K (.ref C) "__getattr__"=some none
 be:W.mroIn K C (.type "BaseException")=some true
 ha:W.findIn K (.ref C) "__class__"=some (some (.builtin "object.__class__"))
 hn:W.specialIn K (.builtin "object.__class__") "__get__"=some (some (.builtin "getset_descriptor.__get__"))
 Qk:W.takesIn K (.builtin "object.__class__")=some true
 hm:W.mroIn K C (.type "object")=some true
theorem Ig {M:Model}{K:W.Frag}{h:Heap}{x C:Addr}(X:K.In h)(T:Tu K C):W.Looks M h (Builtin.ObjectAttr.find (.ref x) (.ref C) "__class__") (.bind (.builtin "getset_descriptor.__get__") (.builtin "object.__class__")):=by
 refine(W.looks_findIn X T.ha).andThen ?_
 refine(W.looks_specialIn X T.hn:W.Looks M h (Builtin.ObjectAttr.getOf (some (.builtin "object.__class__"))) _).andThen ?_
 refine((W.looks_takesIn X T.Qk).andThen .now:W.Looks M h (Builtin.ObjectAttr.dataDescriptor? (some (.builtin "object.__class__")) (some (.builtin "getset_descriptor.__get__"))) (some (.builtin "getset_descriptor.__get__",.builtin "object.__class__"))).andThen ?_
 exact W.Looks.tag .now
theorem A5 {K:W.Frag}{x D:Addr}(T:Tu K D):W.KitX K (.ref x) (.ref D) (fun h=>CT h x D) where
 ty:=fun _ _ _ I=>I.ty
 it:=fun M h X _=>by
   obtain⟨cdD,Ma⟩:=abz.mp T.hc
   unfold W.clsIn at Ma
   split at Ma
   . rename_i u1 u2 u3 u4 Yj
     intro A' Q' E' s' k q
     unfold isType loadHead
     exact wpAny_bind (wpAny_loadPart (k _ _ (X _ _ Yj)) (wpAny_pure q))
   . cases Ma
 ne:=fun h tp dd aE n sl X htp=>by
   obtain⟨cdD,Ma⟩:=abz.mp T.hc
   refine Bool.eq_false_iff.mpr fun q=>?_
   have e:D=tp:=Value.ref.inj (beq_iff_eq.mp q)
   subst e
   unfold W.clsIn at Ma
   split at Ma
   . rename_i u1 u2 u3 u4 Yj
     have z:=(X _ _ Yj).symm.trans htp
     cases z
   . cases Ma
 ca:=fun {prog w A E Q s} X I k=>by
   unfold getAttr? getAttrBy?
   refine wpAny_bind (wpAny_mkText (wpAny_bind (wpAny_attempt ?_)))
   refine QD (s:={ s with toks:=s.toks+1}) X I T.ga T.gt T.be (Ig X T) ?_
   refine wpAny_call (Mp (s:={ s with toks:=s.toks+1}) X I T.hm ?_)
   exact W.handed_on rfl (wpAny_pure k)
end Sg
namespace Sg
open PySem PySem.Spec PyProof.Rows L2
noncomputable abbrev St:=L2.St
def Ih (h:Heap)(x C dx:Addr):Prop:=∃ ox,h.get? x=some ox/\ox.cls=.ref C/\ox.dict=some dx/\∃ vs,ox.data=.fields vs
theorem Ih.of {h:Heap}{x C dx:Addr}(I:Ih h x C dx):CT h x C:=let ⟨ox,h1,h2,_⟩:=I;⟨ox,h1,h2⟩
inductive Dt where
 | cW
 | bl (b:Bool)
 | int (i:Int)
 | str (x:Str)
 | tup (ds:List Dt)
 | lst (ds:List Dt)
 | oX (ns:List Int)
 | eP (kvs:List (Key×Dt))
 | obj (C:Addr) (fs:List (Str×Dt))
 | ty (n:String)
 | cls (C:Addr)
 | xo (C:Addr)
 | qh (kvs:List (Key×Dt))
 | Cs (C:Addr) (fs:List (Str×Dt))
 | dM (kvs:List (Key×Dt))
 | memo (a:Addr) (ls:kg) (j n:Nat)
 | dJ (a:Addr) (ls:kg) (j n:Nat)
 | uF (a:Addr) (ls:kg) (n:Nat)
 | vC (C:Addr) (fs:List (Str×Dt)) (gs:List (Nat->List (Key×FD))) (nm:List Str) (n:Nat)
 | iQ (fd:FD)
 | l8 (OE:List (List Key×Int))
noncomputable def tK (fs:List (Str×Dt))(nm:List Str)(a:Addr)(ls:kg)(n:Nat):List (Str×Dt):=fs ++ (aaj nm.length).map fun j=>(nm.getD j "",.memo a ls j n)
def Known (H:Hp)(p:Addr)(f:Nat->List (Key×FD))(n:Nat):Prop:=∀ i,i < n->∃ q o kvs,H q=some (.kd (some (p,i)) o kvs)/\rT H kvs (f i)
def b9 (H:Hp)(a:Addr)(ls:kg):Prop:=H a=some (.memo ls)\/∃ ns,H a=some (.bD ls ns)
theorem Known.mono {H H':Hp}{p:Addr}{f:Nat->List (Key×FD)}{n:Nat}(e:∀ b u,H b=some u->H' b=some u)(h:Known H p f n):Known H' p f n:=fun i hi=>let ⟨q,o,kvs,h1,h2⟩:=h i hi;⟨q,o,kvs,e _ _ h1,h2.kp (.of e)⟩
theorem b9.mono {H H':Hp}{a:Addr}{ls:kg}(e:∀ b u,H b=some u->H' b=some u)(h:b9 H a ls):b9 H' a ls:=h.imp (e _ _) fun⟨ns,z⟩=>⟨ns,e _ _ z⟩
mutual
inductive Rep (K:W.Frag)(H:Hp):V->Dt->Prop
 | cW:Rep K H .cW .cW
 | bl (b:Bool):Rep K H (.bl b) (.bl b)
 | int (i:Int):Rep K H (.int i) (.int i)
 | str (x:Str):Rep K H (.str x) (.str x)
 | tup {a:Addr} {vs:List V} {ds:List Dt}:vp K H a vs->bB K H vs ds->Rep K H (.ref a) (.tup ds)
 | lst {a:Addr} {vs:List V} {ds:List Dt}:H a=some (.lst vs)->bB K H vs ds->Rep K H (.ref a) (.lst ds)
 | oX {a:Addr} {ns:List Int}:mP K H a (ns.map V.int)->Rep K H (.ref a) (.oX ns)
 | eP {a:Addr} {kvs:List (Key×V)} {kds:List (Key×Dt)}:H a=some (.dK kvs)->cM K H kvs kds->Rep K H (.ref a) (.eP kds)
 | obj {a C dx:Addr} {fs:List (Str×V)} {ds:List (Str×Dt)}:Rd H a (.ins C dx fs)->bb K H fs ds->Rep K H (.ref a) (.obj C ds)
 | ty (n:String):Rep K H (.ty n) (.ty n)
 | cls (C:Addr):Rep K H (.ref C) (.cls C)
 | xo {a C:Addr} {ph:Heap->Prop}:H a=some (.ext ph)->(∀ h,ph h->CT h a C)->Rep K H (.ref a) (.xo C)
 | qh {a:Addr} {ob:Obj} {kvs:List (Key×V)} {kds:List (Key×Dt)}:H a=some (.bF ob (.dK kvs))->cM K H kvs kds->Rep K H (.ref a) (.qh kds)
 | Cs {a C dx:Addr} {ph:Heap->Prop} {fs:List (Str×V)} {ds:List (Str×Dt)}:H a=some (.ext ph)->(∀ h,ph h->Ih h a C dx)->H dx=some (.xd fs)->bb K H fs ds->Rep K H (.ref a) (.Cs C ds)
 | dM {a:Addr} {tg:Option (Addr×Nat)} {ob:Obj} {kvs:List (Key×V)} {kds:List (Key×Dt)}:H a=some (.kd tg ob kvs)->cM K H kvs kds->Rep K H (.ref a) (.dM kds)
 | memo {a p:Addr} {ls:kg} {j n:Nat} {f:Nat->List (Key×FD)}:ls[j]?=some (p,f)->H a=some (.memo ls)->(p=a\/H p=some (.part a))->Known H p f n->Rep K H (.ref p) (.memo a ls j n)
 | dJ {a p:Addr} {ls:kg} {j n:Nat} {f:Nat->List (Key×FD)}:ls[j]?=some (p,f)->b9 H a ls->(p=a\/H p=some (.part a))->Known H p f n->Rep K H (.ref p) (.dJ a ls j n)
 | uF {a:Addr} {ls:kg} {n:Nat}:(∀ (j:Nat) (p:Addr) (f:Nat->List (Key×FD)),ls[j]?=some (p,f)->Known H p f n)->Rep K H .cW (.uF a ls n)
 | vC {s a C dx:Addr} {fv:List (Str×V)} {fs:List (Str×Dt)} {gs:List (Nat->List (Key×FD))} {nm:List Str} {n:Nat} {ls:kg}:ls.map (·.2)=gs->Rd H s (.ins C dx fv)->bb K H fv (tK fs nm a ls n)->Rep K H (.ref s) (.vC C fs gs nm n)
 | iQ {v:V} {fd:FD}:Fz H v fd->Rep K H v (.iQ fd)
 | l8 {a:Addr} {OE:List (List Key×Int)}:H a=some (.dT (OE.map fun k=>(k.1,V.int k.2)))->Rep K H (.ref a) (.l8 OE)
inductive bB (K:W.Frag)(H:Hp):List V->List Dt->Prop
 | nil:bB K H [] []
 | cons {v:V} {d:Dt} {vs:List V} {ds:List Dt}:Rep K H v d->bB K H vs ds->bB K H (v::vs) (d::ds)
inductive cM (K:W.Frag)(H:Hp):List (Key×V)->List (Key×Dt)->Prop
 | nil:cM K H [] []
 | cons {k:Key} {v:V} {d:Dt} {vs:List (Key×V)} {ds:List (Key×Dt)}:Rep K H v d->cM K H vs ds->cM K H ((k,v)::vs) ((k,d)::ds)
inductive bb (K:W.Frag)(H:Hp):List (Str×V)->List (Str×Dt)->Prop
 | nil:bb K H [] []
 | cons {k:Str} {v:V} {d:Dt} {vs:List (Str×V)} {ds:List (Str×Dt)}:Rep K H v d->bb K H vs ds->bb K H ((k,v)::vs) ((k,d)::ds)
end
theorem gd {H H':Hp}{a:Addr}{u:HO}(e:aG H H')(h:Rd H a u):Rd H' a u:=by
 rcases h with h | ⟨o,h⟩ | ⟨tg,o,kvs,h,z⟩ | ⟨o,h⟩
 . exact .inl (e _ _ h)
 . exact .inr (.inl ⟨o,e _ _ h⟩)
 . exact .inr (.inr (.inl ⟨tg,o,kvs,e _ _ h,z⟩))
 . exact .inr (.inr (.inr ⟨o,e _ _ h⟩))
theorem bU {K:W.Frag}{H H':Hp}{a:Addr}{xs:List V}(e:aG H H')(h:vp K H a xs):vp K H' a xs:=by
 rcases h with h | h
 . exact .inl (e _ _ h)
 . exact .inr h
mutual
theorem Rep.mono {K:W.Frag}{H H':Hp}(e:aG H H'):∀ {v:V} {d:Dt},Rep K H v d->Rep K H' v d
 | _,_,.cW=>.cW
 | _,_,.bl b=>.bl b
 | _,_,.int i=>.int i
 | _,_,.str x=>.str x
 | _,_,.tup h r=>.tup (bU e h) (bB.mono e r)
 | _,_,.lst h r=>.lst (e _ _ h) (bB.mono e r)
 | _,_,.oX h=>.oX (e.seq h)
 | _,_,.eP h r=>.eP (e _ _ h) (cM.mono e r)
 | _,_,.obj h r=>.obj (gd e h) (bb.mono e r)
 | _,_,.ty n=>.ty n
 | _,_,.cls C=>.cls C
 | _,_,.xo h r=>.xo (e _ _ h) r
 | _,_,.qh h r=>.qh (e _ _ h) (cM.mono e r)
 | _,_,.Cs h q g r=>.Cs (e _ _ h) q (e _ _ g) (bb.mono e r)
 | _,_,.dM h r=>.dM (e _ _ h) (cM.mono e r)
 | _,_,.memo h1 h2 h3 h4=>.memo h1 (e _ _ h2) (h3.imp id fun z=>e _ _ z) (h4.mono e)
 | _,_,.dJ h1 h2 h3 h4=>.dJ h1 (h2.mono e) (h3.imp id fun z=>e _ _ z) (h4.mono e)
 | _,_,.uF h=>.uF fun j p f z=>(h j p f z).mono e
 | _,_,.vC h1 h2 h3=>.vC h1 (gd e h2) (bb.mono e h3)
 | _,_,.iQ h=>.iQ (h.st fun b u q _=>e b u q)
 | _,_,.l8 h=>.l8 (e _ _ h)
theorem bB.mono {K:W.Frag}{H H':Hp}(e:aG H H'):∀ {v:List V} {d:List Dt},bB K H v d->bB K H' v d
 | _,_,.nil=>.nil
 | _,_,.cons h r=>.cons (Rep.mono e h) (bB.mono e r)
theorem cM.mono {K:W.Frag}{H H':Hp}(e:aG H H'):∀ {v:List (Key×V)} {d:List (Key×Dt)},cM K H v d->cM K H' v d
 | _,_,.nil=>.nil
 | _,_,.cons h r=>.cons (Rep.mono e h) (cM.mono e r)
theorem bb.mono {K:W.Frag}{H H':Hp}(e:aG H H'):∀ {v:List (Str×V)} {d:List (Str×Dt)},bb K H v d->bb K H' v d
 | _,_,.nil=>.nil
 | _,_,.cons h r=>.cons (Rep.mono e h) (bb.mono e r)
end
theorem bB.length {K:W.Frag}{H:Hp}:∀ {v:List V} {d:List Dt},bB K H v d->v.length=d.length
 | _,_,.nil=>rfl
 | _,_,.cons _ r=>congrArg (·+1) (bB.length r)
theorem bB.get {K:W.Frag}{H:Hp}:∀ {v:List V} {d:List Dt} {i:Nat} {x:Dt},bB K H v d->d[i]?=some x->∃ y,v[i]?=some y/\Rep K H y x
 | _,_,_,_,.nil,e=>by simp at e
 | _,_,0,_,.cons h _,e=>by simp at e;subst e;exact⟨_,rfl,h⟩
 | _,_,i+1,x,.cons _ r,e=>by
   obtain⟨y,h1,h2⟩:=bB.get (i:=i) (x:=x) r (by simpa using e)
   exact⟨y,by simpa using h1,h2⟩
theorem bB.get' {K:W.Frag}{H:Hp}{v:List V}{d:List Dt}{i:Nat}{y:V}(r:bB K H v d)(e:v[i]?=some y):∃ x,d[i]?=some x/\Rep K H y x:=by
 have hi:i < v.length:=(aag.mp e).1
 have WU:i < d.length:=by rw[<- r.length];exact hi
 obtain⟨z,h1,h2⟩:=r.get (k3 WU)
 rw[e] at h1;cases h1
 exact⟨_,k3 WU,h2⟩
theorem bB.append {K:W.Frag}{H:Hp}:∀ {v:List V} {d:List Dt} {v':List V} {d':List Dt},bB K H v d->bB K H v' d'->bB K H (v ++ v') (d ++ d')
 | _,_,_,_,.nil,s=>s
 | _,_,_,_,.cons h r,s=>.cons h (bB.append r s)
theorem bB.take {K:W.Frag}{H:Hp}:∀ {v:List V} {d:List Dt} (n:Nat),bB K H v d->bB K H (v.take n) (d.take n)
 | _,_,0,_=>.nil
 | _,_,_+1,.nil=>.nil
 | _,_,n+1,.cons h r=>.cons h (bB.take n r)
theorem bB.set {K:W.Frag}{H:Hp}{y:V}{x:Dt}(q:Rep K H y x):∀ {v:List V} {d:List Dt} (n:Nat),bB K H v d->bB K H (v.set n y) (d.set n x)
 | _,_,_,.nil=>.nil
 | _,_,0,.cons _ r=>.cons q r
 | _,_,n+1,.cons h r=>.cons h (bB.set q n r)
theorem bb.lookup {K:W.Frag}{H:Hp}{f:Str}:∀ {v:List (Str×V)} {d:List (Str×Dt)} {x:Dt},bb K H v d->d.lookup f=some x->∃ y,v.lookup f=some y/\Rep K H y x
 | _,_,_,.nil,e=>by simp at e
 | (k,v)::r,(_,d)::s,x,.cons h t,e=>by
   rw[aaQ] at e ⊢
   cases q:(f == k) with
   | true=>rw[q] at e;cases e;exact⟨v,rfl,h⟩
   | false=>rw[q] at e;exact bb.lookup t e
theorem bb.none_of {K:W.Frag}{H:Hp}{f:Str}:∀ {v:List (Str×V)} {d:List (Str×Dt)},bb K H v d->d.lookup f=none->v.lookup f=none
 | _,_,.nil,_=>rfl
 | (k,v)::r,(_,d)::s,.cons h t,e=>by
   rw[aaQ] at e ⊢
   cases q:(f == k) with
   | true=>rw[q] at e;cases e
   | false=>rw[q] at e;exact bb.none_of t e
theorem bb.length {K:W.Frag}{H:Hp}:∀ {v:List (Str×V)} {d:List (Str×Dt)},bb K H v d->v.length=d.length
 | _,_,.nil=>rfl
 | _,_,.cons _ r=>congrArg (·+1) (bb.length r)
theorem cM.length {K:W.Frag}{H:Hp}:∀ {v:List (Key×V)} {d:List (Key×Dt)},cM K H v d->v.length=d.length
 | _,_,.nil=>rfl
 | _,_,.cons _ r=>congrArg (·+1) (cM.length r)
structure bo (Hf H aI H':Hp):Prop where
 big:aG H H'
 bF:aG Hf aI
 sub:aG aI H'
 new:∀ a o,aI a=some o->(∃ o,Hf a=some o)\/H a=Option.none\/Kept o
theorem bo.refl {Hf H:Hp}(s:aG Hf H):bo Hf H Hf H:=⟨aG.refl _,aG.refl _,s,fun a o h=>.inl ⟨o,h⟩⟩
theorem bo.trans {Hf H Hf1 H1 bV H2:Hp}(a:bo Hf H Hf1 H1)(b:bo Hf1 H1 bV H2):bo Hf H bV H2:=
 ⟨a.big.trans b.big,a.bF.trans b.bF,b.sub,fun x o h=>by
   rcases b.new x o h with⟨o',h'⟩ | h' | h'
   . have e:=b.bF _ _ h'
     rw[h] at e;cases e
     exact a.new x o h'
   . exact .inr (.inl (a.big.free h'))
   . exact .inr (.inr h')⟩
theorem bo.yW {Hf H aI H':Hp}(g:bo Hf H aI H'){a:Addr}{u o:HO}(h:H a=some u)(nk:¬ Kept u)(q:aI a=some o):∃ o,Hf a=some o:=by
 rcases g.new a o q with z | z | z
 . exact z
 . rw[h] at z;cases z
 . have e:=g.big _ _ h
   rw[g.sub _ _ q] at e;cases e
   exact absurd z nk
theorem bN {H:Hp}{p:Addr}{o:HO}(n:H p=Option.none):aG H (upd H p o):=fun b u e=>by
 rw[ah (aw e n)];exact e
theorem cY {Hf H:Hp}{p:Addr}{o:HO}(s:aG Hf H):aG (upd Hf p o) (upd H p o):=fun b u e=>by
 by_cases hb:b=p
 . subst hb;rw[ak] at e ⊢;exact e
 . rw[ah hb] at e ⊢;exact s _ _ e
theorem yi {Hf H:Hp}{p:Addr}{o:HO}(s:aG Hf H)(n:Hf p=Option.none):aG Hf (upd H p o):=fun b u e=>by
 rw[ah (aw e n)];exact s _ _ e
theorem bo.alloc {Hf H:Hp}{p:Addr}{o:HO}(s:aG Hf H)(n:H p=Option.none):bo Hf H (upd Hf p o) (upd H p o):=
 ⟨bN n,bN (s.free n),cY s,fun a u h=>by
   by_cases hb:a=p
   . subst hb;exact .inr (.inl n)
   . rw[ah hb] at h;exact .inl ⟨u,h⟩⟩
theorem bo.eX {Hf H:Hp}{p:Addr}{o:HO}(s:aG Hf H)(n:H p=Option.none):bo Hf H Hf (upd H p o):=
 ⟨bN n,aG.refl _,yi s (s.free n),fun a u h=>.inl ⟨u,h⟩⟩
inductive Own where
 | lst (ds:List Dt)
 | eP (kds:List (Key×Dt))
 | obj (C:Addr) (fs:List (Str×Dt))
 | A6 (x:Addr) (C:Addr) (fs:List (Str×Dt))
 | se (C:Addr) (fs:List (Str×Dt)) (gs:List (Nat->List (Key×FD))) (nm:List Str) (n:Nat)
 | yX (x:Addr) (C:Addr) (fs:List (Str×Dt)) (gs:List (Nat->List (Key×FD))) (nm:List Str) (n:Nat)
 | l8 (OE:List (List Key×Int))
inductive Slot where
 | aJ
 | val (d:Dt)
 | own (o:Own)
def gW (K:W.Frag)(Hf H:Hp)(a:Addr):Own->Prop
 | .lst ds=>∃ vs,H a=some (.lst vs)/\bB K Hf vs ds
 | .eP kds=>∃ kvs,H a=some (.dK kvs)/\cM K Hf kvs kds
 | .obj C ds=>∃ dx fs,H a=some (.ins C dx fs)/\bb K Hf fs ds
 | .A6 x C ds=>a=x/\∃ dx fs,H a=some (.ins C dx fs)/\bb K Hf fs ds
 | .se C ds gs nm n=>∃ dx fs b ls,(ls:kg).map (·.2)=gs/\H a=some (.ins C dx fs)/\bb K Hf fs (tK ds nm b ls n)
 | .yX x C ds gs nm n=>a=x/\∃ dx fs b ls,(ls:kg).map (·.2)=gs/\H a=some (.ins C dx fs)/\bb K Hf fs (tK ds nm b ls n)
 | .l8 OE=>H a=some (.dT (OE.map fun k=>(k.1,V.int k.2)))
theorem gW.UJ {K:W.Frag}{Hf H:Hp}{a:Addr}:∀ {o:Own},gW K Hf H a o->∃ u,H a=some u/\¬ Kept u
 | .lst _,⟨_,h,_⟩=>⟨_,h,fun z=>z⟩
 | .eP _,⟨_,h,_⟩=>⟨_,h,fun z=>z⟩
 | .obj _ _,⟨_,_,h,_⟩=>⟨_,h,fun z=>z⟩
 | .A6 _ _ _,⟨_,_,_,h,_⟩=>⟨_,h,fun z=>z⟩
 | .se _ _ _ _ _,⟨_,_,_,_,_,h,_⟩=>⟨_,h,fun z=>z⟩
 | .yX _ _ _ _ _ _,⟨_,_,_,_,_,_,h,_⟩=>⟨_,h,fun z=>z⟩
 | .l8 _,h=>⟨_,h,fun z=>z⟩
theorem gW.some {K:W.Frag}{Hf H:Hp}{a:Addr}:∀ {o:Own},gW K Hf H a o->∃ u,H a=some u
 | .lst _,⟨_,h,_⟩=>⟨_,h⟩
 | .eP _,⟨_,h,_⟩=>⟨_,h⟩
 | .obj _ _,⟨_,_,h,_⟩=>⟨_,h⟩
 | .A6 _ _ _,⟨_,_,_,h,_⟩=>⟨_,h⟩
 | .se _ _ _ _ _,⟨_,_,_,_,_,h,_⟩=>⟨_,h⟩
 | .yX _ _ _ _ _ _,⟨_,_,_,_,_,_,h,_⟩=>⟨_,h⟩
 | .l8 _,h=>⟨_,h⟩
theorem gW.grow {K:W.Frag}{Hf H aI H':Hp}{a:Addr}(e:H' a=H a)(f:aG Hf aI):∀ {o:Own},gW K Hf H a o->gW K aI H' a o
 | .lst _,⟨vs,h,r⟩=>⟨vs,by rw[e];exact h,r.mono f⟩
 | .eP _,⟨vs,h,r⟩=>⟨vs,by rw[e];exact h,r.mono f⟩
 | .obj _ _,⟨dx,fs,h,r⟩=>⟨dx,fs,by rw[e];exact h,r.mono f⟩
 | .A6 _ _ _,⟨q,dx,fs,h,r⟩=>⟨q,dx,fs,by rw[e];exact h,r.mono f⟩
 | .se _ _ _ _ _,⟨dx,fs,b,ls,q,h,r⟩=>⟨dx,fs,b,ls,q,by rw[e];exact h,r.mono f⟩
 | .yX _ _ _ _ _ _,⟨q0,dx,fs,b,ls,q,h,r⟩=>⟨q0,dx,fs,b,ls,q,by rw[e];exact h,r.mono f⟩
 | .l8 OE,h=>(show H' a=Option.some (HO.dT (OE.map fun k=>(k.1,V.int k.2))) from by rw[e];exact h)
structure Gr where
 Hf:Hp
 H:Hp
structure dO (K:W.Frag)(G:Gr)(st:L2.St)(Hf H:Hp)(dl:List Slot):Prop where
 gr:bo G.Hf G.H Hf H
 len:st.length=dl.length
 val:∀ (i:Nat) d,dl[i]?=some (.val d)->∃ v,st[i]?=some (some v)/\Rep K Hf v d
 own:∀ (i:Nat) o,dl[i]?=some (.own o)->∃ a,st[i]?=some (some (.ref a))/\Hf a=Option.none/\G.H a=Option.none/\gW K Hf H a o
 Gm:∀ (i j:Nat) o o' a,dl[i]?=some (.own o)->dl[j]?=some (.own o')->st[i]?=some (some (.ref a))->st[j]?=some (some (.ref a))->i=j
section
variable {K:W.Frag}{G:Gr}{st:L2.St}{Hf H aI H':Hp}{dl dl':List Slot}
theorem dO.sub (S:dO K G st Hf H dl):aG Hf H:=S.gr.sub
theorem dO.grow (S:dO K G st Hf H dl)(g:bo Hf H aI H'):dO K G st aI H' dl:=by
 refine⟨S.gr.trans g,S.len,fun i d h=>let ⟨v,h1,h2⟩:=S.val i d h;⟨v,h1,h2.mono g.bF⟩,fun i o h=>?_,S.Gm⟩
 obtain⟨a,h1,h2,h3,h4⟩:=S.own i o h
 obtain⟨u,hu,nk⟩:=h4.UJ
 refine⟨a,h1,?_,h3,h4.grow (by rw[hu];exact g.big _ _ hu) g.bF⟩
 cases q:aI a with
 | none=>rfl
 | some u'=>
   obtain⟨o',z⟩:=g.yW hu nk q
   rw[h2] at z;cases z
theorem dO.set (S:dO K G st Hf H dl){i:Nat}{v:V}{d:Dt}(r:Rep K Hf v d):dO K G (st.set i (some v)) Hf H (dl.set i (.val d)):=by
 have ln:=S.len
 refine⟨S.gr,by simp[S.len],fun j x h=>?_,fun j o h=>?_,fun j k o o' a h1 h2 h3 h4=>?_⟩
 . by_cases e:i=j
   . subst e
     by_cases hl:i < dl.length
     . rw[aah hl] at h;cases h
       exact⟨v,aah (by omega),r⟩
     . rw[aaC (by simp;omega)] at h;cases h
   . rw[aai e] at h ⊢;exact S.val j x h
 . by_cases e:i=j
   . subst e
     by_cases hl:i < dl.length
     . rw[aah hl] at h;cases h
     . rw[aaC (by simp;omega)] at h;cases h
   . rw[aai e] at h ⊢;exact S.own j o h
 . have nj:i≠j:=fun e=>by
     subst e
     by_cases hl:i < dl.length
     . rw[aah hl] at h1;cases h1
     . rw[aaC (by simp;omega)] at h1;cases h1
   have nk:i≠k:=fun e=>by
     subst e
     by_cases hl:i < dl.length
     . rw[aah hl] at h2;cases h2
     . rw[aaC (by simp;omega)] at h2;cases h2
   rw[aai nj] at h1 h3
   rw[aai nk] at h2 h4
   exact S.Gm j k o o' a h1 h2 h3 h4
theorem dO.Gn (S:dO K G st Hf H dl){i:Nat}{p:Addr}{o:HO}{w w':Own}(hi:dl[i]?=some (.own w))(hp:st[i]?=some (some (.ref p)))(r:gW K Hf (upd H p o) p w'):dO K G st Hf (upd H p o) (dl.set i (.own w')):=by
 have ln:=S.len
 obtain⟨p',q1,q2,q3,q4⟩:=S.own i w hi
 rw[hp] at q1;cases q1
 have hl:i < dl.length:=(aag.mp hi).1
 have g:bo G.Hf G.H Hf (upd H p o):=⟨fun b u e=>by rw[ah (aw e q3)];exact S.gr.big _ _ e,S.gr.bF,yi S.sub q2,S.gr.new⟩
 refine⟨g,by simp[S.len],fun j x h=>?_,fun j o' h=>?_,fun j k o1 o2 a h1 h2 h3 h4=>?_⟩
 . by_cases e:i=j
   . subst e;rw[aah hl] at h;cases h
   . rw[aai e] at h;exact S.val j x h
 . by_cases e:i=j
   . subst e;rw[aah hl] at h;cases h
     exact⟨p,hp,q2,q3,r⟩
   . rw[aai e] at h
     obtain⟨a,z1,z2,z3,z4⟩:=S.own j o' h
     have:a≠p:=fun q=>by subst q;exact e (S.Gm i j _ _ _ hi h hp z1)
     exact⟨a,z1,z2,z3,z4.grow (ah this) (aG.refl _)⟩
 . have tr:∀ (j:Nat) o',(dl.set i (.own w'))[j]?=some (.own o')->∃ QE,dl[j]?=some (.own QE):=fun j o' h=>by
     by_cases e:i=j
     . subst e;exact⟨_,hi⟩
     . rw[aai e] at h;exact⟨_,h⟩
   obtain⟨_,t1⟩:=tr j o1 h1
   obtain⟨_,t2⟩:=tr k o2 h2
   exact S.Gm j k _ _ a t1 t2 h3 h4
def Le (dl dl':List Slot):Prop:=dl.length=dl'.length/\∀ (i:Nat) s,dl[i]?=some s->s≠.aJ->dl'[i]?=some s
theorem Le.refl (dl:List Slot):Le dl dl:=⟨rfl,fun _ _ h _=>h⟩
theorem dO.weak (S:dO K G st Hf H dl')(l:Le dl dl'):dO K G st Hf H dl:=
 ⟨S.gr,by rw[S.len,l.1],fun i d h=>S.val i d (l.2 i _ h (by intro z;cases z)),fun i o h=>S.own i o (l.2 i _ h (by intro z;cases z)),
  fun i j o o' a h1 h2=>S.Gm i j o o' a (l.2 i _ h1 (by intro z;cases z)) (l.2 j _ h2 (by intro z;cases z))⟩
def UK:List Slot->List Slot->Prop
 | [],[]=>True
 | .aJ::r,_::s=>UK r s
 | x::r,y::s=>x=y/\UK r s
 | _,_=>False
theorem Le.of:∀ {dl dl':List Slot},UK dl dl'->Le dl dl'
 | [],[],_=>Le.refl _
 | .aJ::r,y::s,h=>by
   have q:=Le.of (dl:=r) (dl':=s) h
   refine⟨congrArg (·+1) q.1,fun i x e n=>?_⟩
   cases i with
   | zero=>simp at e;exact absurd e.symm n
   | succ i=>exact q.2 i x (by simpa using e) n
 | .val d::r,y::s,h=>by
   obtain⟨h1,h2⟩:=(show Slot.val d=y/\UK r s from h)
   subst h1
   have q:=Le.of h2
   refine⟨congrArg (·+1) q.1,fun i x e n=>?_⟩
   cases i with
   | zero=>exact e
   | succ i=>exact q.2 i x (by simpa using e) n
 | .own d::r,y::s,h=>by
   obtain⟨h1,h2⟩:=(show Slot.own d=y/\UK r s from h)
   subst h1
   have q:=Le.of h2
   refine⟨congrArg (·+1) q.1,fun i x e n=>?_⟩
   cases i with
   | zero=>exact e
   | succ i=>exact q.2 i x (by simpa using e) n
end
def tD (K:PySem.W.Frag)(G:Gr)(dl:List Slot)(d:Dt):TE:=fun st H Q=>∃ Hf,dO K G st Hf H dl/\∀ v aI H',bo Hf H aI H'->Rep K aI v d->Q v H'
def Tv (K:PySem.W.Frag)(G:Gr)(dl:List Slot)(ds:List Dt):TA:=fun st H Q=>∃ Hf,dO K G st Hf H dl/\∀ vs aI H',bo Hf H aI H'->bB K aI vs ds->Q vs H'
def UL (K:PySem.W.Frag)(G:Gr)(dl:List Slot)(b:Bool):TT:=fun st H Q=>∃ Hf,dO K G st Hf H dl/\∀ aI H',bo Hf H aI H'->Q b H'
abbrev EE (X:Cx)(G:Gr)(dl:List Slot)(e:Expr)(d:Dt):Prop:=PE X e (tD X.K G dl d)
abbrev EA (X:Cx)(G:Gr)(dl:List Slot)(es:List Expr)(ds:List Dt):Prop:=PA X es (Tv X.K G dl ds)
abbrev EB (X:Cx)(G:Gr)(dl:List Slot)(e:Expr)(b:Bool):Prop:=PT X e (UL X.K G dl b)
def ExcAt (K:PySem.W.Frag)(Hf:Hp)(od:Option Addr)(fs:List (Str×Dt)):Prop:=match od with
 | none=>fs=[]
 | some dx=>∃ fv,Hf dx=some (.xd fv)/\bb K Hf fv fs
inductive Out where
 | nx (dl:List Slot)
 | rt (d:Dt)
 | ro (w:Own)
 | bk (dl:List Slot)
 | ct (dl:List Slot)
 | ex (c:Value) (fs:List (Str×Dt))
 | raw (R:L2.St->Hp->Prop)
def xB (K:W.Frag)(G:Gr)(E:XK)(D:Ends)(Hf:Hp):Out->Prop
 | .nx dl=>∀ st aI H,aG Hf aI->dO K G st aI H dl->D.nx st H
 | .bk dl=>∀ st aI H,aG Hf aI->dO K G st aI H dl->D.bk st H
 | .ct dl=>∀ st aI H,aG Hf aI->dO K G st aI H dl->D.ct st H
 | .rt d=>∀ v aI H,bo G.Hf G.H aI H->Rep K aI v d->D.rt v H
 | .ro o=>∀ p aI H,bo G.Hf G.H aI H->G.H p=none->aI p=none->gW K aI H p o->D.rt (.ref p) H
 | .ex c fs=>∀ od aI H,bo G.Hf G.H aI H->ExcAt K aI od fs->E c od H
 | .raw R=>∀ st H,R st H->D.nx st H
theorem xB.mono {K:W.Frag}{G:Gr}{E:XK}{D:Ends}{Hf Hf1:Hp}(s:aG Hf Hf1):∀ {o:Out},xB K G E D Hf o->xB K G E D Hf1 o
 | .nx _,k=>fun st aI H s' S=>k st aI H (s.trans s') S
 | .bk _,k=>fun st aI H s' S=>k st aI H (s.trans s') S
 | .ct _,k=>fun st aI H s' S=>k st aI H (s.trans s') S
 | .rt _,k=>k
 | .ro _,k=>k
 | .ex _ _,k=>k
 | .raw _,k=>k
def tO (K:W.Frag)(G:Gr)(E:XK)(dl:List Slot)(o:Out):TS:=fun D st H=>∃ Hf,dO K G st Hf H dl/\xB K G E D Hf o
abbrev ES (X:Cx)(G:Gr)(E:XK)(dl:List Slot)(s:Stmt)(o:Out):Prop:=PS X s (tO X.K G E dl o)
abbrev nM (X:Cx)(G:Gr)(E:XK)(dl:List Slot)(s:List Stmt)(o:Out):Prop:=Cy X s (tO X.K G E dl o)
theorem gc {X:Cx}{e:Expr}{t t':TE}(h:PE X e t)(i:∀ st H Q,t' st H Q->t st H Q):PE X e t':=fun pins s st H Q I q=>h pins s st H Q I (i st H Q q)
theorem WV {X:Cx}{e:Expr}{t t':TT}(h:PT X e t)(i:∀ st H Q,t' st H Q->t st H Q):PT X e t':=fun pins s st H Q I q=>h pins s st H Q I (i st H Q q)
theorem paI {X:Cx}{e:List Expr}{t t':TA}(h:PA X e t)(i:∀ st H Q,t' st H Q->t st H Q):PA X e t':=fun pos pins s st H Q I q=>h pos pins s st H Q I (i st H Q q)
theorem tL {X:Cx}{e:Stmt}{t t':TS}(h:PS X e t)(i:∀ D st H,t' D st H->t D st H):PS X e t':=fun pins s st H D I q=>h pins s st H D I (i D st H q)
theorem A7 {X:Cx}{e:List Stmt}{t t':TS}(h:Cy X e t)(i:∀ D st H,t' D st H->t D st H):Cy X e t':=fun pins s st H D I q=>h pins s st H D I (i D st H q)
section
variable {X:Cx}{G:Gr}{dl:List Slot}{a b e:Expr}{i j:Int}{d d1 d2:Dt}{pos:Pos}{x y:Str}{u v:Bool}
theorem aa (n:Nat){x:Str}{pos:Pos}(hd:dl[n]?=some (.val d):=by rfl)(hN:X.N[n]?=some x:=by rfl)(hv:vn X.env.scope x:=by first | exact aaG rfl | exact aaD (aaG rfl) | exact aaD (aaD rfl))(hb:(x == ("__debug__":Str))=false:=by decide)(ml:(x == ("__classdict__":Str))=false:=by decide):EE X G dl (.Name x pos) d:=
 gc (jv hN hv hb ml) fun st H Q zq=>Bn zq fun Hf zq=>have S:=zq.1;have k:=zq.2;let ⟨v,h1,h2⟩:=S.val n d hd;⟨v,h1,k v Hf H (.refl S.sub) h2⟩
theorem aj {z:Int}{j pos}:EE X G dl (.Constant (.int z) j pos) (.int z):=gc PR fun st H Q zq=>Bn zq fun Hf zq=>have S:=zq.1;have k:=zq.2;k _ Hf H (.refl S.sub) (.int z)
theorem bI {z:Str}{j pos}:EE X G dl (.Constant (.str z) j pos) (.str z):=gc PU fun st H Q zq=>Bn zq fun Hf zq=>have S:=zq.1;have k:=zq.2;k _ Hf H (.refl S.sub) (.str z)
def Ek (K:W.Frag)(r:R2)(d1 d2 d:Dt):Prop:=∀ v w Hf H Q,aG Hf H->Rep K Hf v d1->Rep K Hf w d2->(∀ u aI H',bo Hf H aI H'->Rep K aI u d->Q u H')->r v w H Q
theorem vD {r:R2}(h:Ek X.K r d1 d2 d):∀ st H Q,tD X.K G dl d st H Q->Ub r (tD X.K G dl d1) (tD X.K G dl d2) st H Q:=fun st H Q zq=>Bn zq fun Hf zq=>have S:=zq.1;have k:=zq.2;
 ⟨Hf,S,fun v Hf1 H1 g1 r1=>⟨Hf1,S.grow g1,fun w bV H2 g2 r2=>h v w bV H2 Q g2.sub (r1.mono g2.bF) r2 fun u jq H3 g3 r3=>k u jq H3 ((g1.trans g2).trans g3) r3⟩⟩
theorem vE {op:Operator}{r:R2}(ho:n9 X (binaryOp op) r)(h:Ek X.K r d1 d2 d)(ha:EE X G dl a d1)(hb:EE X G dl b d2):EE X G dl (.BinOp a op b pos) d:=gc (Ox ho ha hb) (vD h)
theorem sh {op:CmpOp}{r:R2}(ho:n9 X (compareOp op) r)(h:Ek X.K r d1 d2 d)(hm:behindInMarks op b=false)(ha:EE X G dl a d1)(hb:EE X G dl b d2):EE X G dl (.Compare a [op] [b] pos) d:=gc (L7 ho ha hb hm) (vD h)
theorem lx {op:CmpOp}{r:R2}(ho:n9 X (compareOp op) r)(h:Ek X.K r d1 d2 (.bl u))(hm:behindInMarks op b=false)(ha:EE X G dl a d1)(hb:EE X G dl b d2):EB X G dl (.Compare a [op] [b] pos) u:=
 WV (L8 ho ha hb hm) fun st H Q zq=>Bn zq fun Hf zq=>have S:=zq.1;have k:=zq.2;vD h st H _ ⟨Hf,S,fun v aI H' g r=>by cases r;exact⟨u,rfl,k aI H' g⟩⟩
theorem tM {K:W.Frag}{g:Int->Int->V}{g':Int->Int->Dt}(h:∀ K H i j,Rep K H (g i j) (g' i j)):Ek K (L3 g) (.int i) (.int j) (g' i j):=fun v w Hf H Q s r1 r2 k=>by
 cases r1;cases r2;exact⟨i,j,rfl,rfl,k _ Hf H (.refl s) (h _ _ _ _)⟩
theorem Mq {K:W.Frag}{C:Int->Int->Prop}{g:Int->Int->V}{g':Int->Int->Dt}(h:∀ K H i j,Rep K H (g i j) (g' i j))(hc:C i j):Ek K (rI C g) (.int i) (.int j) (g' i j):=fun v w Hf H Q s r1 r2 k=>by
 cases r1;cases r2;exact⟨i,j,rfl,rfl,hc,k _ Hf H (.refl s) (h _ _ _ _)⟩
theorem aK (ha:EE X G dl a (.int i))(hb:EE X G dl b (.int j)):EE X G dl (.BinOp a .Add b pos) (.int (i+j)):=vE Qd (tM (g':=fun i j=>.int (i+j)) fun _ _ _ _=>.int _) ha hb
theorem gF (ha:EE X G dl a (.int i))(hb:EE X G dl b (.int j)):EE X G dl (.BinOp a .Sub b pos) (.int (i - j)):=vE Qe (tM (g':=fun i j=>.int (i - j)) fun _ _ _ _=>.int _) ha hb
theorem Mr:n9 X (binaryOp .Mult) (rI IntMulOk fun i j=>.int (i * j)):=WQ fun _ _ _ _ _ _ _ hc q=>mul_int q hc
theorem fE (ha:EE X G dl a (.int i))(hb:EE X G dl b (.int j))(hc:IntMulOk i j):EE X G dl (.BinOp a .Mult b pos) (.int (i * j)):=vE Mr (Mq (g':=fun i j=>.int (i * j)) (fun _ _ _ _=>.int _) hc) ha hb
theorem Ii:n9 X (binaryOp .FloorDiv) (rI (fun _ j=>0 < j/\j.natAbs.log2 < 9000) fun i j=>.int (i / j)):=WQ fun i j _ _ _ _ _ hc q=>by
 refine floordiv_int (abf hc.1) ?_ (.inl (PyProof.noPylong_of_log2 hc.2))
 rw[Int.fdiv_eq_ediv_of_nonneg _ (Int.le_of_lt hc.1)]
 exact q
theorem iV (ha:EE X G dl a (.int i))(hb:EE X G dl b (.int j))(hc:0 < j/\j.natAbs.log2 < 9000):EE X G dl (.BinOp a .FloorDiv b pos) (.int (i / j)):=vE Ii (Mq (g':=fun i j=>.int (i / j)) (fun _ _ _ _=>.int _) hc) ha hb
theorem cN (ha:EE X G dl a (.int i))(hb:EE X G dl b (.int j))(hc:0 < j):EE X G dl (.BinOp a .Mod b pos) (.int (i % j)):=vE Qf (Mq (g':=fun i j=>.int (i % j)) (fun _ _ _ _=>.int _) hc) ha hb
theorem Ij (ha:EE X G dl a (.int i))(hb:EE X G dl b (.int j))(hc:Ue i j):EE X G dl (.BinOp a .Pow b pos) (.int (i ^ j.toNat)):=vE Qg (Mq (g':=fun i j=>.int (i ^ j.toNat)) (fun _ _ _ _=>.int _) hc) ha hb
theorem QF {K:W.Frag}(h:x.length+y.length<=sizeLine):Ek K (fun a b H Q=>∃ i j,a=.str i/\b=.str j/\i.length+j.length<=sizeLine/\Q (.str (i ++ j)) H) (.str x) (.str y) (.str (x ++ y)):=fun v w Hf H Q s r1 r2 k=>by
 cases r1;cases r2;exact⟨x,y,rfl,rfl,h,k _ Hf H (.refl s) (.str _)⟩
theorem QG (ha:EE X G dl a (.str x))(hb:EE X G dl b (.str y))(h:x.length+y.length<=sizeLine):EE X G dl (.BinOp a .Add b pos) (.str (x ++ y)):=vE CF (QF h) ha hb
theorem iG (ha:EE X G dl a (.int i)):EE X G dl (.UnaryOp .USub a pos) (.int (-i)):=
 gc (Uc Qh ha) fun st H Q zq=>Bn zq fun Hf zq=>have S:=zq.1;have k:=zq.2;⟨Hf,S,fun v Hf1 H1 g1 r1=>by cases r1;exact⟨i,rfl,k _ Hf1 H1 g1 (.int _)⟩⟩
theorem qQ (h:EE X G dl e (.bl u))(he:∀ whole,isTrue e X.env whole=(do let v <- whole;standAt e.pos;holding [v] (truthy v)):=by intro _;rfl):EB X G dl e u:=
 WV (PX h he) fun st H Q zq=>Bn zq fun Hf zq=>have S:=zq.1;have k:=zq.2;⟨Hf,S,fun v Hf1 H1 g1 r1=>by cases r1;exact⟨u,rfl,k Hf1 H1 g1⟩⟩
end
section
variable {X:Cx}{G:Gr}{E:XK}{dl dl1:List Slot}{a b c e:Expr}{es:List Expr}{i j:Int}{d d1:Dt}{ds:List Dt}{pos:Pos}{o o':Out}{x:Str}{u v:Bool}{rest:List Expr}{sts Gp:List Stmt}{s:Stmt}
theorem CU:PE X e fun _ _ _=>False:=fun _ _ _ _ _ _ h=>h.elim
theorem pw_nev:PW X e fun _ _ _=>False:=fun _ _ _ _ _ _ _ h=>h.elim
abbrev EW (X:Cx)(G:Gr)(dl:List Slot)(e:Expr)(b:Bool):Prop:=PW X e (UL X.K G dl b)
theorem WX {e:Expr}{t t':TT}(h:PW X e t)(i:∀ st H Q,t' st H Q->t st H Q):PW X e t':=fun wh pins s st H Q I q=>h wh pins s st H Q I (i st H Q q)
theorem yY (ha:EB X G dl a u):EW X G dl (.BoolOp .And [a] pos) u:=pw_and1 ha
theorem qi (ha:EB X G dl a u):EW X G dl (.BoolOp .Or [a] pos) u:=pw_or1 ha
theorem vF (ha:EB X G dl a u)(hb:u=true->EW X G dl (.BoolOp .And (b::rest) pos) v):EW X G dl (.BoolOp .And (a::b::rest) pos) (u && v):=by
 cases u with
 | true=>exact WX (pw_and ha (hb rfl)) fun st H Q zq=>Bn zq fun Hf zq=>have S:=zq.1;have k:=zq.2;⟨Hf,S,fun Hf1 H1 g1=>A4 ⟨Hf1,S.grow g1,fun bV H2 g2=>k bV H2 (g1.trans g2)⟩⟩
 | false=>exact WX (pw_and ha pw_nev) fun st H Q zq=>Bn zq fun Hf zq=>have S:=zq.1;have k:=zq.2;⟨Hf,S,fun Hf1 H1 g1=>A3 (k Hf1 H1 g1)⟩
theorem qR (ha:EB X G dl a u)(hb:u=false->EW X G dl (.BoolOp .Or (b::rest) pos) v):EW X G dl (.BoolOp .Or (a::b::rest) pos) (u || v):=by
 cases u with
 | false=>exact WX (pw_or ha (hb rfl)) fun st H Q zq=>Bn zq fun Hf zq=>have S:=zq.1;have k:=zq.2;⟨Hf,S,fun Hf1 H1 g1=>A3 ⟨Hf1,S.grow g1,fun bV H2 g2=>k bV H2 (g1.trans g2)⟩⟩
 | true=>exact WX (pw_or ha pw_nev) fun st H Q zq=>Bn zq fun Hf zq=>have S:=zq.1;have k:=zq.2;⟨Hf,S,fun Hf1 H1 g1=>A4 (k Hf1 H1 g1)⟩
theorem vG (h:EW X G dl e u):EB X G dl e u:=h.pt
theorem si (ha:EB X G dl a u):EB X G dl (.UnaryOp .Not a pos) (!u):=WV (PY ha) fun st H Q zq=>Bn zq fun Hf zq=>have S:=zq.1;have k:=zq.2;⟨Hf,S,fun Hf1 H1 g1=>k Hf1 H1 g1⟩
theorem qS (ha:EE X G dl a (.bl u)):EE X G dl (.BoolOp .And [a] pos) (.bl u):=PZ ha
theorem vH (ha:EE X G dl a (.bl u))(hb:u=true->EE X G dl (.BoolOp .And (b::rest) pos) (.bl v)):EE X G dl (.BoolOp .And (a::b::rest) pos) (.bl (u && v)):=by
 cases u with
 | true=>exact gc (HH ha (hb rfl)) fun st H Q zq=>Bn zq fun Hf zq=>have S:=zq.1;have k:=zq.2;⟨Hf,S,fun w Hf1 H1 g1 r1=>by cases r1;exact⟨true,rfl,A4 ⟨Hf1,S.grow g1,fun w bV H2 g2 r2=>k w bV H2 (g1.trans g2) r2⟩⟩⟩
 | false=>exact gc (HH ha CU) fun st H Q zq=>Bn zq fun Hf zq=>have S:=zq.1;have k:=zq.2;⟨Hf,S,fun w Hf1 H1 g1 r1=>by cases r1;exact⟨false,rfl,A3 (k _ Hf1 H1 g1 (.bl _))⟩⟩
theorem QH (ha:EE X G dl a (.bl u)):EE X G dl (.UnaryOp .Not a pos) (.bl (!u)):=gc (P0 ha) fun st H Q zq=>Bn zq fun Hf zq=>have S:=zq.1;have k:=zq.2;⟨Hf,S,fun w Hf1 H1 g1 r1=>by cases r1;exact⟨u,rfl,k _ Hf1 H1 g1 (.bl _)⟩⟩
theorem bO (h:EB X G dl e u)(q:u=v):EB X G dl e v:=by subst q;exact h
theorem aM (h:EE X G dl e d)(q:d=d1):EE X G dl e d1:=by subst q;exact h
theorem QI (hc:EB X G dl c u)(ha:u=true->EE X G dl a d)(hb:u=false->EE X G dl b d):EE X G dl (.IfExp c a b pos) d:=by
 cases u with
 | true=>exact gc (AG hc (ha rfl) CU) fun st H Q zq=>Bn zq fun Hf zq=>have S:=zq.1;have k:=zq.2;⟨Hf,S,fun Hf1 H1 g1=>A4 ⟨Hf1,S.grow g1,fun w bV H2 g2 r2=>k w bV H2 (g1.trans g2) r2⟩⟩
 | false=>exact gc (AG hc CU (hb rfl)) fun st H Q zq=>Bn zq fun Hf zq=>have S:=zq.1;have k:=zq.2;⟨Hf,S,fun Hf1 H1 g1=>A3 ⟨Hf1,S.grow g1,fun w bV H2 g2 r2=>k w bV H2 (g1.trans g2) r2⟩⟩
theorem ai:EA X G dl [] []:=paI og fun st H Q zq=>Bn zq fun Hf zq=>have S:=zq.1;have k:=zq.2;k [] Hf H (.refl S.sub) .nil
theorem ae (ha:EE X G dl e d)(hr:EA X G dl es ds)(hs:starEach (e::es) X.env=(false,eval e X.env)::starEach es X.env:=by rfl):EA X G dl (e::es) (d::ds):=
 paI (lS ha hr hs) fun st H Q zq=>Bn zq fun Hf zq=>have S:=zq.1;have k:=zq.2;⟨Hf,S,fun v Hf1 H1 g1 r1=>⟨Hf1,S.grow g1,fun vs bV H2 g2 r2=>k _ bV H2 (g1.trans g2) (.cons (r1.mono g2.bF) r2)⟩⟩
theorem bQ {x1}(h:EA X G dl es ds)(hl:ds.length<=sizeLine:=by decide):EE X G dl (.Tuple es x1 pos) (.tup ds):=
 gc (Ql h) fun st H Q zq=>Bn zq fun Hf zq=>have S:=zq.1;have k:=zq.2;⟨Hf,S,fun vs Hf1 H1 g1 r1=>⟨by rw[r1.length];exact hl,fun p hp=>k _ (upd Hf1 p (.tup vs)) _ (g1.trans (.alloc g1.sub hp)) (.tup (.of ak) (r1.mono (bN (g1.sub.free hp))))⟩⟩
theorem Il (h:EA X G dl es ds)(hl:ds.length<=sizeLine:=by decide):EE X G dl (.List es pos) (.lst ds):=
 gc (vy h) fun st H Q zq=>Bn zq fun Hf zq=>have S:=zq.1;have k:=zq.2;⟨Hf,S,fun vs Hf1 H1 g1 r1=>⟨by rw[r1.length];exact hl,fun p hp=>k _ (upd Hf1 p (.lst vs)) _ (g1.trans (.alloc g1.sub hp)) (.lst ak (r1.mono (bN (g1.sub.free hp))))⟩⟩
theorem bB.oU {K:W.Frag}{H:Hp}{vs:List V}{ds:List Dt}{i:Int}{d:Dt}(r:bB K H vs ds)(h:L2.oU ds i=some d):∃ v,L2.oU vs i=some v/\Rep K H v d:=by
 unfold L2.oU at h ⊢
 rw[r.length]
 cases q:CM ds.length i with
 | none=>rw[q] at h;cases h
 | some n=>
   rw[q] at h
   exact r.get h
theorem aB (ha:EE X G dl a (.tup ds))(hb:EE X G dl b (.int i))(h:oU ds i=some d)(hs:kG b:=by intro _ _;rfl):EE X G dl (.Subscript a b pos) d:=
 gc (vz Qo ha hb hs) (vD fun v w Hf H Q s r1 r2 k=>by
   cases r1 with
   | tup q r=>
     cases r2
     obtain⟨v,h1,h2⟩:=r.oU h
     exact⟨_,_,i,v,rfl,rfl,bU s q,h1,k v Hf H (.refl s) h2⟩)
theorem CV (ha:EE X G dl a (.lst ds))(hb:EE X G dl b (.int i))(h:oU ds i=some d)(hs:kG b:=by intro _ _;rfl):EE X G dl (.Subscript a b pos) d:=
 gc (vz yR ha hb hs) (vD fun v w Hf H Q s r1 r2 k=>by
   cases r1 with
   | lst q r=>
     cases r2
     obtain⟨v,h1,h2⟩:=r.oU h
     exact⟨_,_,i,v,rfl,rfl,.of (s _ _ q),h1,k v Hf H (.refl s) h2⟩)
theorem sj {ns:List Int}{z:Int}(ha:EE X G dl a (.oX ns))(hb:EE X G dl b (.int i))(h:oU ns i=some z)(hs:kG b:=by intro _ _;rfl):EE X G dl (.Subscript a b pos) (.int z):=
 gc (vz yR ha hb hs) (vD fun v w Hf H Q s r1 r2 k=>by
   cases r1 with
   | oX q=>
     cases r2
     have h':L2.oU (ns.map V.int) i=some (.int z):=by
       unfold L2.oU at h ⊢
       rw[k5]
       cases q2:CM ns.length i with
       | none=>rw[q2] at h;cases h
       | some n=>
         rw[q2] at h
         show(ns.map V.int)[n]?=_
         rw[YL,show ns[n]?=some z from h];rfl
     exact⟨_,_,i,_,rfl,rfl,s.seq q,h',k _ Hf H (.refl s) (.int z)⟩)
theorem QJ {z:Nat}(ha:EE X G dl a (.str x))(hb:EE X G dl b (.int i))(h:oU x.cps.toList i=some z)(hl:x.length<=sizeLine)(hs:kG b:=by intro _ _;rfl):EE X G dl (.Subscript a b pos) (.str ⟨#[z]⟩):=
 gc (vz Qp ha hb hs) (vD fun v w Hf H Q s r1 r2 k=>by
   cases r1;cases r2
   exact⟨x,i,z,rfl,rfl,hl,h,k _ Hf H (.refl s) (.str _)⟩)
theorem bJ:nM X G E dl [] (.nx dl):=A7 LZ fun D st H zq=>Bn zq fun Hf zq=>have S:=zq.1;have k:=zq.2;k st Hf H (aG.refl _) S
theorem ag (h1:ES X G E dl s (.nx dl1))(h2:nM X G E dl1 sts o):nM X G E dl (s::sts) o:=
 A7 (n8 h1 h2) fun D st H zq=>Bn zq fun Hf zq=>have S:=zq.1;have k:=zq.2;⟨Hf,S,fun jZ aI H' s' S'=>⟨aI,S',k.mono s'⟩⟩
theorem ao (h1:ES X G E dl s o):nM X G E dl [s] o:=mS h1
theorem xB.stop {K:W.Frag}{D D':Ends}{Hf:Hp}(h:(∀ dl,o≠.nx dl)/\∀ R,o≠.raw R)(hr:D'.rt=D.rt)(hb:D'.bk=D.bk)(hc:D'.ct=D.ct)(k:xB K G E D Hf o):xB K G E D' Hf o:=by
 cases o with
 | nx dl=>exact absurd rfl (h.1 dl)
 | raw R=>exact absurd rfl (h.2 R)
 | rt d=>show ∀ v Hf H,_->_->D'.rt v H;rw[hr];exact k
 | ro d=>show ∀ v Hf H,_->_->_->_->D'.rt _ H;rw[hr];exact k
 | bk d=>show ∀ v Hf H,_->_->D'.bk v H;rw[hb];exact k
 | ct d=>show ∀ v Hf H,_->_->D'.ct v H;rw[hc];exact k
 | ex c fs=>exact k
theorem oY (h1:ES X G E dl s o)(h:(∀ dl,o≠.nx dl)/\(∀ R,o≠.raw R):=by exact⟨(fun _ z=>nomatch z),(fun _ z=>nomatch z)⟩):nM X G E dl (s::sts) o:=
 A7 (n8 h1 (rW (sts:=sts))) fun D st H zq=>Bn zq fun Hf zq=>have S:=zq.1;have k:=zq.2;⟨Hf,S,xB.stop (D:=D) h rfl rfl rfl k⟩
theorem El (h1:nM X G E dl1 sts o)(l:Le dl1 dl):nM X G E dl sts o:=A7 h1 fun D st H zq=>Bn zq fun Hf zq=>have S:=zq.1;have k:=zq.2;⟨Hf,S.weak l,k⟩
theorem aS (hc:EB X G dl c u)(h1:u=true->nM X G E dl sts o)(h2:u=false->nM X G E dl Gp o):ES X G E dl (.If c sts Gp pos) o:=by
 cases u with
 | true=>exact tL (Ov hc (h1 rfl) (rW (sts:=Gp))) fun D st H zq=>Bn zq fun Hf zq=>have S:=zq.1;have k:=zq.2;⟨Hf,S,fun Hf1 H1 g1=>A4 ⟨Hf1,S.grow g1,k.mono g1.bF⟩⟩
 | false=>exact tL (Ov hc (rW (sts:=sts)) (h2 rfl)) fun D st H zq=>Bn zq fun Hf zq=>have S:=zq.1;have k:=zq.2;⟨Hf,S,fun Hf1 H1 g1=>A3 ⟨Hf1,S.grow g1,k.mono g1.bF⟩⟩
theorem aF (h:EE X G dl e d):ES X G E dl (.Return (some e) pos) (.rt d):=tL (Cz h) fun D st H zq=>Bn zq fun Hf zq=>have S:=zq.1;have k:=zq.2;⟨Hf,S,fun v Hf1 H1 g1 r1=>k v Hf1 H1 (S.gr.trans g1) r1⟩
theorem mV (h:EE X G dl e d)(hs:swapsWith e none pos.line X.env=pure false:=by rfl):ES X G E dl (.Expr e pos) (.nx dl):=
 tL (lR h hs) fun D st H zq=>Bn zq fun Hf zq=>have S:=zq.1;have k:=zq.2;⟨Hf,S,fun v Hf1 H1 g1 r1=>k st Hf1 H1 g1.bF (S.grow g1)⟩
theorem ar (n:Nat){x:Str}{pos':Pos}(hN:X.N.Nodup)(he:EE X G dl e d)(hi:X.N[n]?=some x:=by rfl)(hx:Loc X.env.scope x:=by first | exact aaG rfl | exact aaD rfl)(hs:swapsWith e (some (.Name x pos')) pos.line X.env=pure false:=by rfl)(hf:X.fn x=true\/X.env.scope.names.lookup x=some .local:=by first | exact .inl rfl | exact .inr rfl | assumption):ES X G E dl (.Assign [.Name x pos'] e pos) (.nx (dl.set n (.val d))):=
 tL (CB hN hi hx he hs hf) fun D st H zq=>Bn zq fun Hf zq=>have S:=zq.1;have k:=zq.2;⟨Hf,S,fun v Hf1 H1 g1 r1=>k _ Hf1 H1 g1.bF ((S.grow g1).set r1)⟩
inductive pX (X:Cx)(G:Gr)(E:XK)(body:List Stmt)(S:Nat->List Slot)(pre:Nat->List Slot)(n m:Nat):Out->Prop
 | all (h:m=n):pX X G E body S pre n m (.nx (S n))
 | rt {d:Dt} (h:m < n) (hb:nM X G E (pre m) body (.rt d)):pX X G E body S pre n m (.rt d)
 | ro {d:Own} (h:m < n) (hb:nM X G E (pre m) body (.ro d)):pX X G E body S pre n m (.ro d)
 | bk {dl':List Slot} (h:m < n) (hb:nM X G E (pre m) body (.bk dl')):pX X G E body S pre n m (.nx dl')
 | ex {c:Value} {fs:List (Str×Dt)} (h:m < n) (hb:nM X G E (pre m) body (.ex c fs)):pX X G E body S pre n m (.ex c fs)
inductive Goes (X:Cx)(G:Gr)(E:XK)(body:List Stmt)(pre post:List Slot):Prop
 | nx {dl':List Slot} (hb:nM X G E pre body (.nx dl')) (l:Le post dl')
 | ct {dl':List Slot} (hb:nM X G E pre body (.ct dl')) (l:Le post dl')
def Im (X:Cx)(G:Gr)(E:XK)(body:List Stmt):TS:=fun D st H=>∃ pre o,nM X G E pre body o/\tO X.K G E pre o D st H
theorem qT {body:List Stmt}:Cy X body (Im X G E body):=fun pins s st H D J ⟨pre,o,h,q⟩=>h pins s st H D J q
theorem oZ {body:List Stmt}{pre post:List Slot}{D:Ends}{st:L2.St}{Hf H:Hp}(g:Goes X G E body pre post)(S:dO X.K G st Hf H pre)(hn:∀ st aI H,aG Hf aI->dO X.K G st aI H post->D.nx st H)(hc:∀ st aI H,aG Hf aI->dO X.K G st aI H post->D.ct st H):Im X G E body D st H:=by
 cases g with
 | nx hb l=>exact⟨_,_,hb,Hf,S,fun jZ aI H' s' S'=>hn jZ aI H' s' (S'.weak l)⟩
 | ct hb l=>exact⟨_,_,hb,Hf,S,fun jZ aI H' s' S'=>hc jZ aI H' s' (S'.weak l)⟩
theorem sk {body:List Stmt}{S pre:Nat->List Slot}{n m:Nat}{D D':Ends}{st:L2.St}{Hf H:Hp}(e:pX X G E body S pre n m o)(hm:m < n)(S':dO X.K G st Hf H (pre m))(k:xB X.K G E D Hf o)(hr:D'.rt=D.rt)(QK:D'.bk=D.nx):Im X G E body D' st H:=by
 cases e with
 | all h=>omega
 | rt h hb=>exact⟨_,_,hb,Hf,S',by show ∀ v Hf H,_->_->D'.rt v H;rw[hr];exact k⟩
 | ro h hb=>exact⟨_,_,hb,Hf,S',by show ∀ v Hf H,_->_->_->_->D'.rt _ H;rw[hr];exact k⟩
 | bk h hb=>exact⟨_,_,hb,Hf,S',by show ∀ v Hf H,_->_->D'.bk v H;rw[QK];exact k⟩
 | ex h hb=>exact⟨_,_,hb,Hf,S',k⟩
theorem Io (nN:Nat){x:Str}{px:Pos}{body:List Stmt}{lo:Int}{n m:Nat}(S:Nat->List Slot)(hN:X.N.Nodup)(qU:X.calm=true)(hp:PassesOwn (model X.prog X.w) X.A X.env X.xe){wi:TI}{iter:Expr}(hI:PI X (.Name x px) iter wi)(hw:∀ st Hf H R,dO X.K G st Hf H dl->(∀ aI H',bo Hf H aI H'->R (LC lo n) H')->wi st H R)(h0:Le (S 0) dl)(WY:m<=n)(hb:∀ k,k < m->Goes X G E body ((S k).set nN (.val (.int (lo+k)))) (S (k+1)))(he:pX X G E body S (fun k=>(S k).set nN (.val (.int (lo+k)))) n m o)(hi:X.N[nN]?=some x:=by rfl)(hx:Loc X.env.scope x:=by first | exact aaG rfl | exact aaD rfl)(hf:X.fn x=true\/X.env.scope.names.lookup x=some .local:=by first | exact .inl rfl | exact .inr rfl | assumption)(hs:∀ x,foldedSetIterable iter X.env x=pure x:=by intro _;rfl):ES X G E dl (.For (.Name x px) iter body [] pos) o:=by
 refine tL (yO hp qU hI (bT hN hi hx hf) (qT (G:=G) (E:=E)) hs) fun D st H ⟨Hf,S0,k⟩=>hw st Hf H _ S0 fun aI H' g=>?_
 refine F3 (lo:=lo) (n:=n) (fun j st H=>j<=m/\∃ Hf1,aG Hf Hf1/\dO X.K G st Hf1 H (S j)) ⟨aa1 _,aI,g.bF,(S0.grow g).weak h0⟩ (fun j st H hj ⟨hjm,Hf1,s1,Sj⟩=>?_) (fun st H ⟨hnm,Hf1,s1,Sn⟩=>?_)
 . have Sp:dO X.K G (st.set nN (some (.int (lo+j)))) Hf1 H ((S j).set nN (.val (.int (lo+j)))):=Sj.set (.int _)
   by_cases dg:j < m
   . exact oZ (hb j dg) Sp (fun st bV H s2 S'=>⟨dg,bV,s1.trans s2,S'⟩) (fun st bV H s2 S'=>⟨dg,bV,s1.trans s2,S'⟩)
   . have e:j=m:=by omega
     subst e
     exact sk he hj Sp (k.mono s1) rfl rfl
 . have e:m=n:=by omega
   subst e
   cases he with
   | all _=>exact k st Hf1 H s1 Sn
   | rt h _=>omega
   | ro h _=>omega
   | bk h _=>omega
   | ex h _=>omega
theorem jw (nN:Nat){x:Str}{p px pc:Pos}{body:List Stmt}{n:Int}{m:Nat}(S:Nat->List Slot)(hN:X.N.Nodup)(qU:X.calm=true)(hp:PassesOwn (model X.prog X.w) X.A X.env X.xe)(QL:X.mg "range"=none)(ha:EA X G dl [a] [.int n])(hn:-(2 ^ 62)<=n/\n < 2 ^ 62)(h0:Le (S 0) dl)(WY:m<=n.toNat)(hb:∀ k:Nat,k < m->Goes X G E body ((S k).set nN (.val (.int k))) (S (k+1)))(he:pX X G E body S (fun k=>(S k).set nN (.val (.int k))) n.toNat m o)(hg:Gl X "range":=by rfl)(hi:X.N[nN]?=some x:=by rfl)(hx:Loc X.env.scope x:=by first | exact aaG rfl | exact aaD rfl)(hf:X.fn x=true\/X.env.scope.names.lookup x=some .local:=by first | exact .inl rfl | exact .inr rfl | assumption)(Hr:starEach [a] X.env=[(false,eval a X.env)]:=by rfl)(hs:∀ z,foldedSetIterable (.Call (.Name "range" p) [a] [] pc) X.env z=pure z:=by intro _;rfl):ES X G E dl (.For (.Name x px) (.Call (.Name "range" p) [a] [] pc) body [] pos) o:=by
 have ez:∀ k:Nat,(0:Int)+k=k:=fun k=>Int.zero_add _
 have eS:(fun k:Nat=>(S k).set nN (.val (.int ((0:Int)+k))))=fun k:Nat=>(S k).set nN (.val (.int k)):=by funext k;rw[ez]
 refine Io nN (lo:=0) (n:=n.toNat) (m:=m) S hN qU hp (mn hg QL ha Hr) (fun st Hf H R S0 h=>⟨Hf,S0,fun vs Hf1 H1 g1 r1=>?_⟩) h0 WY (fun k hk=>by rw[ez];exact hb k hk) (by rw[eS];exact he) hi hx hf hs
 cases r1 with
 | cons r t=>cases t;cases r;exact⟨n,rfl,hn.1,hn.2,h Hf1 H1 g1⟩
theorem Em (nN:Nat){x:Str}{px:Pos}{iter:Expr}{body:List Stmt}{xs:List Dt}{m:Nat}(S:Nat->List Slot)(hN:X.N.Nodup)(qU:X.calm=true)(hp:PassesOwn (model X.prog X.w) X.A X.env X.xe)(hl:EE X G dl iter (.lst xs))(h0:Le (S 0) dl)(WY:m<=xs.length)(hb:∀ (k:Nat) (z:Dt),k < m->xs[k]?=some z->Goes X G E body ((S k).set nN (.val z)) (S (k+1)))(he:pX X G E body S (fun k=>(S k).set nN (.val (xs.getD k .cW))) xs.length m o)(hi:X.N[nN]?=some x:=by rfl)(hx:Loc X.env.scope x:=by first | exact aaG rfl | exact aaD rfl)(hf:X.fn x=true\/X.env.scope.names.lookup x=some .local:=by first | exact .inl rfl | exact .inr rfl | assumption)(hs:∀ z,foldedSetIterable iter X.env z=pure z:=by intro _;rfl):ES X G E dl (.For (.Name x px) iter body [] pos) o:=by
 refine tL (yO hp qU (fN hl) (bT hN hi hx hf) (qT (G:=G) (E:=E)) hs) fun D st H ⟨Hf,S0,k⟩=>⟨Hf,S0,fun v aI H' g r=>?_⟩
 cases r with
 | @lst a vs _ q r=>
   have hlen:=r.length
   refine⟨a,rfl,⟨vs,.of (g.sub _ _ q)⟩,AL (xs:=vs) (fun j st H=>j<=m/\∃ Hf1,aG aI Hf1/\dO X.K G st Hf1 H (S j)) ⟨aa1 _,aI,aG.refl _,(S0.grow g).weak h0⟩ ?_ ?_ ?_⟩
   . rintro j st H _ ⟨_,Hf1,s1,Sj⟩
     exact .of (Sj.sub _ _ (s1 _ _ q))
   . rintro j v st H hv ⟨hjm,Hf1,s1,Sj⟩
     obtain⟨z,hz,rz⟩:=r.get' hv
     have hj:j < xs.length:=(aag.mp hz).1
     have Sp:dO X.K G (st.set nN (some v)) Hf1 H ((S j).set nN (.val z)):=Sj.set (rz.mono s1)
     by_cases dg:j < m
     . exact oZ (hb j z dg hz) Sp (fun st bV H s2 S'=>⟨dg,bV,s1.trans s2,S'⟩) (fun st bV H s2 S'=>⟨dg,bV,s1.trans s2,S'⟩)
     . have e:j=m:=by omega
       subst e
       have ez:xs.getD j .cW=z:=by rw[WW,hz];rfl
       exact sk he hj (by show dO _ _ _ _ _ ((S j).set nN (.val (xs.getD j .cW)));rw[ez];exact Sp) (k.mono (g.bF.trans s1)) rfl rfl
   . rintro st H ⟨hnm,Hf1,s1,Sn⟩
     have e:m=xs.length:=by omega
     subst e
     rw[hlen] at Sn
     cases he with
     | all _=>exact k st Hf1 H (g.bF.trans s1) Sn
     | rt h _=>omega
     | ro h _=>omega
     | bk h _=>omega
     | ex h _=>omega
inductive Res where
 | ret (d:Dt)
 | own (w:Own)
 | exc (c:Value) (fs:List (Str×Dt))
def UM (K:W.Frag)(Hf H:Hp)(Q:VK)(E:XK):Res->Prop
 | .ret d=>∀ v aI H',bo Hf H aI H'->Rep K aI v d->Q v H'
 | .own w=>∀ p aI H',bo Hf H aI H'->H p=none->aI p=none->gW K aI H' p w->Q (.ref p) H'
 | .exc c fs=>∀ od aI H',bo Hf H aI H'->ExcAt K aI od fs->E c od H'
def En (K:W.Frag)(n:Nat)(R:List Dt->Res->Prop):Sp:=fun vs H Q E=>∃ Hf ds r,aG Hf H/\bB K Hf vs ds/\ds.length=n/\R ds r/\UM K Hf H Q E r
def Ct (CX:r0):Prop:=∀ outer H s e s',CX outer H s E0 e s'->False
theorem ax:Ct CX0:=fun _ _ _ _ _ h=>h
theorem Ct.passes {CX:r0}(n:Ct CX):Passes CX X E0:=fun _ _ _ _ _ _ _ h=>(n _ _ _ _ _ h).elim
noncomputable def slots (N:List Str)(ds:List Dt):List Slot:=ds.map Slot.val ++ aak (N.length - ds.length) .aJ
theorem yj {K:W.Frag}{N:List Str}{Hf H:Hp}{vs:List V}{ds:List Dt}(s:aG Hf H)(r:bB K Hf vs ds):dO K ⟨Hf,H⟩ (start N vs) Hf H (slots N ds):=by
 have hl:=r.length
 have yL:∀ (i:Nat) o,(slots N ds)[i]?≠some (.own o):=fun i o h=>by
   unfold slots at h
   by_cases hi:i < ds.length
   . rw[aaA (by simpa using hi),YL] at h
     cases e:ds[i]? with
     | none=>rw[e] at h;cases h
     | some a=>rw[e] at h;cases h
   . rw[aaB (by simpa using hi),aaR] at h
     split at h <;> cases h
 refine⟨.refl s,?_,fun i d h=>?_,fun i o h=>absurd h (yL i o),fun i j o o' a h=>absurd h (yL i o)⟩
 . unfold L2.start slots
   simp[hl]
 . unfold slots at h
   by_cases hi:i < ds.length
   . rw[aaA (by simpa using hi),YL] at h
     cases e:ds[i]? with
     | none=>rw[e] at h;cases h
     | some a=>
       rw[e] at h;cases h
       obtain⟨v,h1,h2⟩:=r.get e
       refine⟨v,?_,h2⟩
       unfold L2.start
       rw[aaA (by simp;omega),YL,h1];rfl
   . rw[aaB (by simpa using hi),aaR] at h
     split at h <;> cases h
inductive Comes:Out->Res->Prop
 | rt (d:Dt):Comes (.rt d) (.ret d)
 | ro (d:Own):Comes (.ro d) (.own d)
 | nx (dl:List Slot):Comes (.nx dl) (.ret .cW)
 | kn {dl:List Slot} {d:Dt} (h:∀ K G st Hf H,dO K G st Hf H dl->Rep K Hf .cW d):Comes (.nx dl) (.ret d)
 | ex (c:Value) (fs:List (Str×Dt)):Comes (.ex c fs) (.exc c fs)
theorem Comes.ends {K:W.Frag}{Hf H:Hp}{Q:VK}{o:Out}{r:Res}(h:Comes o r)(k:UM K Hf H Q E r):xB K ⟨Hf,H⟩ E { nx:=fun _ H'=>Q .cW H',rt:=Q} Hf o:=by
 cases h with
 | rt d=>exact k
 | ro d=>exact k
 | nx dl=>exact fun st aI H' s' S=>k _ aI H' S.gr .cW
 | kn h=>exact fun st aI H' s' S=>k _ aI H' S.gr (h _ _ _ _ _ S)
 | ex c fs=>exact k
theorem iH {P:Program}{w:World}{K:W.Frag}{mg:Str->Option Value}{base:Heap}{CX:r0}{x qual:Str}{st:Stmt}{f:Addr}{fd:FuncData}{N ps:List Str}{k n:Nat}{R:List Dt->Res->Prop}(F:Tt K x qual st f fd)(S:aq N ps (af st))(hn:ps.length=n)(qK:∀ (bj:Value) (A:Around) (outer:List Env) (s:Shared) (H:Hp) (E:XK) (G:Gr) (ds:List Dt) (r:Res),eQ k (A.deeper (envOfC qual (af st) s.heap.objs.size f bj))->ds.length=n->R ds r->∃ o,Comes o r/\nM (AQ CX P w K mg base N qual (af st) f bj A outer s H E) G E (slots N ds) (aA st) o):j4 P w K mg base CX (k+1) f fd ps (En K n R):=by
 obtain⟨oc,od,kV,doc,pm,an,bj,ct,yf,rfl,lk,ml⟩:=F.ex
 refine HV lk ml S (fun vs H Q E ⟨Hf,ds,r,s,rp,hl,_⟩=>by rw[rp.length,hl,hn]) fun A outer s H vs Q E hr ⟨Hf,ds,r,sm,rp,hl,hR,hk⟩=>?_
 obtain⟨o,hc,hb⟩:=qK bj A outer s H E ⟨Hf,H⟩ ds r hr hl hR
 exact⟨_,hb,Hf,yj sm rp,hc.ends hk⟩
section
variable {CX:r0}{k n:Nat}{f C:Addr}{fd:FuncData}{ps:List Str}{R:List Dt->Res->Prop}{m:Str}{p apos:Pos}{ob:Expr}{dvs:List Dt}{vds:List V}{Gq:List Value}{fs:List (Str×Dt)}
theorem Ms (F:j4 X.prog X.w X.K X.mg X.base CX k f fd ps (En X.K n R))(nx:Ct CX)(hr:eQ k X.A)(hm:X.mg x=some (.ref f))(hk:W.keepIn X.K (.ref f)=true)(hb:Binds X.K fd ps Gq)(hd:Vals vds Gq)(CW:∀ H,bB X.K H vds dvs)(ha:EA X G dl (e::es) ds)(hl:(ds ++ dvs).length=n)(h:R (ds ++ dvs) (.ret d))(hg:Gl X x:=by rfl)(mQ:(x == ("__debug__":Str))=false:=by decide)(he:starEach (e::es) X.env=(false,eval e X.env)::starEach es X.env:=by rfl)(nZ:(backTo pos (starEach es X.env)).any (·.1)=false:=by rfl):EE X G dl (.Call (.Name x p) (e::es) [] pos) d:=
 gc (D9 (E:=E0) F hr hg hm hk hb hd nx.passes ha mQ he nZ) fun st H Q zq=>Bn zq fun Hf zq=>have S:=zq.1;have k:=zq.2;⟨Hf,S,fun vs Hf1 H1 g1 r1=>⟨Hf1,ds ++ dvs,.ret d,g1.sub,r1.append (CW _),hl,h,fun v bV H2 g2 r2=>k v bV H2 (g1.trans g2) r2⟩⟩
theorem Eo {pl:Sem Bool}(he:EE X G dl ob (.obj C fs))(c:uE X.K C)(hm:Meth X.K C m f)(F:j4 X.prog X.w X.K X.mg X.base CX k f fd ps (En X.K n R))(nx:Ct CX)(hr:eQ k X.A)(hb:Binds X.K fd ps Gq)(hd:Vals vds Gq)(CW:∀ H,bB X.K H vds dvs)
   (ha:EA X G dl (e::es) ds) (hl:(.obj C fs::(ds ++ dvs)).length=n) (h:R (.obj C fs::(ds ++ dvs)) (.ret d)) (tN:fs.lookup m=none)
   (nL:starEach (e::es) X.env=(false,eval e X.env)::starEach es X.env:=by rfl) (nZ:(backTo pos (starEach es X.env)).any (·.1)=false:=by rfl)
   (ht:eval (.Call (.Attribute ob m apos) (e::es) [] pos) X.env=(do
     let ov <- eval ob X.env
     standAt apos.atName
     let (f,first) <- holding [ov] (getMethod ov m pl)
     callWith pos f first (backTo pos (starEach (e::es) X.env)) (backToKw pos (keywordEach [] X.env))):=by rfl):EE X G dl (.Call (.Attribute ob m apos) (e::es) [] pos) d:=
 gc (Ea (pl:=pl) (E:=E0) he c hm F hr hb hd nx.passes ha nL nZ ht) fun st H Q zq=>Bn zq fun Hf zq=>have S:=zq.1;have k:=zq.2;⟨Hf,S,fun v Hf1 H1 g1 r1=>by
   cases r1 with
   | @obj a _ dx fv _ q r=>
     exact⟨a,dx,fv,rfl,gd g1.sub q,r.none_of tN,Hf1,S.grow g1,fun vs bV H2 g2 r2=>⟨bV,_,.ret d,g2.sub,.cons (.obj (gd g2.bF q) (r.mono g2.bF)) (r2.append (CW _)),hl,h,fun v jq H3 g3 r3=>k v jq H3 ((g1.trans g2).trans g3) r3⟩⟩⟩
theorem A8 {pl:Sem Bool}(he:EE X G dl ob (.obj C fs))(c:uE X.K C)(hm:Meth X.K C m f)(F:j4 X.prog X.w X.K X.mg X.base CX k f fd ps (En X.K n R))(nx:Ct CX)(hr:eQ k X.A)(hb:Binds X.K fd ps Gq)(hd:Vals vds Gq)(CW:∀ H,bB X.K H vds dvs)
   (hl:(Dt.obj C fs::dvs).length=n) (h:R (.obj C fs::dvs) (.ret d)) (tN:fs.lookup m=none)
   (ht:eval (.Call (.Attribute ob m apos) [] [] pos) X.env=(do
     let ov <- eval ob X.env
     standAt apos.atName
     let (f,first) <- holding [ov] (getMethod ov m pl)
     callWith pos f first (backTo pos (starEach [] X.env)) (backToKw pos (keywordEach [] X.env))):=by rfl):EE X G dl (.Call (.Attribute ob m apos) [] [] pos) d:=
 gc (AO (pl:=pl) (E:=E0) he c hm F hr hb hd nx.passes ht) fun st H Q zq=>Bn zq fun Hf zq=>have S:=zq.1;have k:=zq.2;⟨Hf,S,fun v Hf1 H1 g1 r1=>by
   cases r1 with
   | @obj a _ dx fv _ q r=>
     exact⟨a,dx,fv,rfl,gd g1.sub q,r.none_of tN,Hf1,_,.ret d,g1.sub,.cons (.obj q r) (CW _),hl,h,fun v jq H3 g3 r3=>k v jq H3 (g1.trans g3) r3⟩⟩
end
end
section
variable {X:Cx}{G:Gr}{dl:List Slot}{a b c e:Expr}{i j:Int}{d d1 d2:Dt}{ds:List Dt}{pos p:Pos}{o:Out}{x y f:Str}{u v:Bool}{s:Stmt}{C:Addr}{fs:List (Str×Dt)}
theorem vI {T:String}(hm:X.mg x=none)(hv:bootBuiltins x=some (.type T))(hg:Gl X x:=by rfl)(hn:x≠"__name__":=by decide)(hd:(x == ("__debug__":Str))=false:=by decide):EE X G dl (.Name x pos) (.ty T):=
 gc (LY (v:=.ty T) hg hm hv rfl hn hd) fun st H Q zq=>Bn zq fun Hf zq=>have S:=zq.1;have k:=zq.2;k _ Hf H (.refl S.sub) (.ty T)
theorem jH {w:V}{z:Value}(hm:X.mg x=some z)(r:RelV w z)(hr:∀ H,Rep X.K H w d)(hg:Gl X x:=by rfl)(hd:(x == ("__debug__":Str))=false:=by decide):EE X G dl (.Name x pos) d:=
 gc (LX hg hm r hd) fun st H Q zq=>Bn zq fun Hf zq=>have S:=zq.1;have k:=zq.2;k _ Hf H (.refl S.sub) (hr _)
theorem boot_int:bootBuiltins "int"=some (.type "int"):=by decide +kernel
theorem boot_bool:bootBuiltins "bool"=some (.type "bool"):=by decide +kernel
theorem boot_str:bootBuiltins "str"=some (.type "str"):=by decide +kernel
theorem boot_tuple:bootBuiltins "tuple"=some (.type "tuple"):=by decide +kernel
theorem boot_list:bootBuiltins "list"=some (.type "list"):=by decide +kernel
theorem boot_dict:bootBuiltins "dict"=some (.type "dict"):=by decide +kernel
structure QM (K:W.Frag)(C:Addr):Prop where
 makes:W.makesIn K C=true
 init:W.findIn K (.ref C) "__init__"=some (some (.builtin "object.__init__"))
 kp:W.keepIn K (.ref C)=true
theorem Gs {pins:List (Addr×Obj)}{st:L2.St}{H:Hp}{s:Shared}{Q:VK}(M:QM X.K C)(I:L2.Inv X pins st H s)(h:∀ x dx,H x=none->H dx=none->dx≠x->Q (.ref x) (upd (upd H dx (.own x)) x (.ins C dx []))):wpAny (model X.prog X.w) X.A (call (.ref C) []) (EP X pins st Q) X.xe s:=by
 have hq:=h (s.heap.objs.size+1) s.heap.objs.size (I.bh.fresh (abc _)) (I.bh.fresh (aae _)) (aat (abe _))
 have I2:=L2.Inv.made (C:=C) I
 refine wpAny_call (F8 (s:=s) I.mR M.makes M.init (fun self=>W.Looks.of_pure (W.oi_bind self)) ?_)
 obtain⟨hh,g,d,t,os⟩:=s
 have Y:=W.makes_of (M:=model X.prog X.w) I.mR M.makes
 have t1:W.Looks (model X.prog X.w) ((hh.push W.emptyDict).push (W.instObj C hh.objs.size)) (typeOf (.ref (hh.objs.size+1))) (.ref C):=by
   have e2:=aar (hh.push W.emptyDict) (o:=W.instObj C hh.objs.size) rfl
   rw[aa9] at e2
   exact(W.Looks.ld e2).andThen .now
 have t2:W.Looks (model X.prog X.w) ((hh.push W.emptyDict).push (W.instObj C hh.objs.size)) (isInstance (.ref (hh.objs.size+1)) (.type "object")) true:=t1.andThen (Y.top.keeps fun b o e=>aaf _ (aaf _ e))
 refine codeAny_call_builtin W.oi_plain W.entry_oi (@W.check_slot (model X.prog X.w) _ _ _ "object.__init__" "object" "__init__" (.ref (hh.objs.size+1)) [] [] _ W.oi_kind W.oi_split t2 (W.oi_args (.ref (hh.objs.size+1))) ?_)
 rw[W.oi_run]
 exact wpAny_pure (And.intro rfl ⟨V.ref (hh.objs.size+1),_,I2,rfl,hq⟩)
theorem aH (he:EE X G dl e (.obj C fs))(c:uE X.K C)(n:bG X.K C f)(h:fs.lookup f=some d)(hb:attributeBase e f X.env (eval e X.env)=eval e X.env:=by rfl):EE X G dl (.Attribute e f pos) d:=
 gc (vw he hb) fun st H Q zq=>Bn zq fun Hf zq=>have S:=zq.1;have k:=zq.2;⟨Hf,S,fun v Hf1 H1 g1 r1=>by
   cases r1 with
   | @obj a _ dx fv _ q r=>
     obtain⟨y,h1,h2⟩:=r.lookup h
     exact⟨a,C,dx,fv,y,rfl,gd g1.sub q,c,n,h1,k y Hf1 H1 g1 h2⟩⟩
theorem yZ (hm:X.mg "len"=none)(ha:EE X G dl a (.lst ds))(hg:Gl X "len":=by rfl)(he:starEach [a] X.env=[(false,eval a X.env)]:=by rfl):EE X G dl (.Call (.Name "len" p) [a] [] pos) (.int ds.length):=
 gc (dY mT hg hm PySem.boot_len (ae ha ai he) (he:=he)) fun st H Q zq=>Bn zq fun Hf zq=>have S:=zq.1;have k:=zq.2;⟨Hf,S,fun vs Hf1 H1 g1 r1=>by
   cases r1 with
   | cons r t=>cases t;cases r with
     | @lst q vs _ z w=>exact⟨q,vs,rfl,.inl (.of (g1.sub _ _ z)),by rw[w.length];exact k _ Hf1 H1 g1 (.int _)⟩⟩
theorem zb {ns:List Int}(hm:X.mg "len"=none)(ha:EE X G dl a (.oX ns))(hg:Gl X "len":=by rfl)(he:starEach [a] X.env=[(false,eval a X.env)]:=by rfl):EE X G dl (.Call (.Name "len" p) [a] [] pos) (.int ns.length):=
 gc (dY mT hg hm PySem.boot_len (ae ha ai he) (he:=he)) fun st H Q zq=>Bn zq fun Hf zq=>have S:=zq.1;have k:=zq.2;⟨Hf,S,fun vs Hf1 H1 g1 r1=>by
   cases r1 with
   | cons r t=>cases t;cases r with
     | @oX q _ z=>exact⟨q,_,rfl,.inl (g1.sub.seq z),by rw[k5];exact k _ Hf1 H1 g1 (.int _)⟩⟩
theorem Ep (hm:X.mg "len"=none)(ha:EE X G dl a (.tup ds))(hg:Gl X "len":=by rfl)(he:starEach [a] X.env=[(false,eval a X.env)]:=by rfl):EE X G dl (.Call (.Name "len" p) [a] [] pos) (.int ds.length):=
 gc (dY mT hg hm PySem.boot_len (ae ha ai he) (he:=he)) fun st H Q zq=>Bn zq fun Hf zq=>have S:=zq.1;have k:=zq.2;⟨Hf,S,fun vs Hf1 H1 g1 r1=>by
   cases r1 with
   | cons r t=>cases t;cases r with
     | @tup q vs _ z w=>exact⟨q,vs,rfl,.inr (bU g1.sub z),by rw[w.length];exact k _ Hf1 H1 g1 (.int _)⟩⟩
theorem uG (hm:X.mg "len"=none)(ha:EE X G dl a (.str x))(hl:x.length<=sizeLine)(hg:Gl X "len":=by rfl)(he:starEach [a] X.env=[(false,eval a X.env)]:=by rfl):EE X G dl (.Call (.Name "len" p) [a] [] pos) (.int x.length):=
 gc (dY yT hg hm PySem.boot_len (ae ha ai he) (he:=he)) fun st H Q zq=>Bn zq fun Hf zq=>have S:=zq.1;have k:=zq.2;⟨Hf,S,fun vs Hf1 H1 g1 r1=>by
   cases r1 with
   | cons r t=>cases t;cases r;exact⟨x,rfl,hl,k _ Hf1 H1 g1 (.int _)⟩⟩
noncomputable def Yk:Dt->Value
 | .cW=>.type "NoneType"
 | .bl _=>.type "bool"
 | .int _=>.type "int"
 | .str _=>.type "str"
 | .tup _=>.type "tuple"
 | .lst _=>.type "list"
 | .oX _=>.type "list"
 | .eP _=>.type "dict"
 | .obj C _=>.ref C
 | .ty _=>.type "type"
 | .cls _=>.type "type"
 | .xo C=>.ref C
 | .qh _=>.type "dict"
 | .Cs C _=>.ref C
 | .dM _=>.type "dict"
 | .memo _ _ _ _=>.type "list"
 | .dJ _ _ _ _=>.type "list"
 | .uF _ _ _=>.type "NoneType"
 | .vC C _ _ _ _=>.ref C
 | _=>.type "object"
structure WZ (K:W.Frag)(C:Addr):Prop where
 cl:uE K C
 ha:W.findIn K (.ref C) "__class__"=some (some (.builtin "object.__class__"))
 hn:W.specialIn K (.builtin "object.__class__") "__get__"=some (some (.builtin "getset_descriptor.__get__"))
 Qk:W.takesIn K (.builtin "object.__class__")=some true
 hm:W.mroIn K C (.type "object")=some true
def QN (K:W.Frag):Dt->Prop
 | .obj C _=>WZ K C
 | .xo C=>Tu K C
 | .Cs C _=>Tu K C
 | .memo _ _ _ _=>False
 | .dJ _ _ _ _=>False
 | .uF _ _ _=>False
 | .vC C _ _ _ _=>WZ K C
 | .iQ _=>False
 | .l8 _=>False
 | .ty _=>False
 | .cls _=>False
 | _=>True
noncomputable def UN:Dt->Option Value
 | .ty n=>some (.type n)
 | .cls C=>some (.ref C)
 | _=>none
theorem Ip {pins:List (Addr×Obj)}{st:L2.St}{Hf H:Hp}{s:Shared}{Q:Value->Shared->Prop}{w:V}{z c:Value}{r:Bool}(I:L2.Inv X pins st H s)(sm:aG Hf H)(rp:Rep X.K Hf w d)(rx:RelV w z)(t:QN X.K d)(e:W.kitOne X.K (Yk d) c=some r)(h:∀ tk,Q (.bool r) { s with toks:=tk}):wpAny (model X.prog X.w) X.A (call (.builtin "isinstance") [z,c]) Q X.xe s:=by
 cases rp with
 | cW=>cases (show z=Value.none from rx);exact W.kia_one W.kitx_none I.mR True.intro e (fun z=>nomatch z) h
 | bl y=>cases (show z=Value.bool y from rx);exact W.kia_one W.kitx_bool I.mR True.intro e (fun z=>nomatch z) h
 | int i=>obtain⟨t,q⟩:=(show ∃ t,z=Value.int i t from rx);cases q;exact W.kia_one W.kitx_int I.mR True.intro e (fun z=>nomatch z) h
 | str y=>obtain⟨t,q⟩:=(show ∃ t,z=Value.str y t from rx);cases q;exact W.kia_one W.kitx_str I.mR True.intro e (fun z=>nomatch z) h
 | @tup a vs ds q rr=>
   cases (show z=Value.ref a from rx)
   obtain⟨aE,_,⟨o,h1,h2,_⟩,_⟩:=I.tuple (bU sm q)
   exact W.kia_one W.kitx_tuple I.mR ⟨o,h1,h2⟩ e (fun z=>nomatch z) h
 | @lst a vs ds q rr=>
   cases (show z=Value.ref a from rx)
   obtain⟨aE,_,⟨o,n,h1,h2,_⟩,_⟩:=I.list (.of (sm _ _ q))
   exact W.kia_one W.kitx_list I.mR ⟨o,h1,h2⟩ e (fun z=>nomatch z) h
 | @oX a ns q=>
   cases (show z=Value.ref a from rx)
   obtain⟨aE,_,⟨o,n,h1,h2,_⟩,_⟩:=I.list (sm.seq q)
   exact W.kia_one W.kitx_list I.mR ⟨o,h1,h2⟩ e (fun z=>nomatch z) h
 | @eP a kvs kds q rr=>
   cases (show z=Value.ref a from rx)
   exact rZ (x:=.ref a) I rfl (.dK (sm _ _ q)) e h
 | @obj a C dx fv fs q rr=>
   cases (show z=Value.ref a from rx)
   have t:WZ X.K C:=t
   exact rZ (x:=.ref a) I rfl (.ins (gd sm q) t.cl t.ha t.hn t.Qk t.hm) e h
 | ty n=>exact t.elim
 | cls C=>exact t.elim
 | @xo a C ph q hp=>
   cases (show z=Value.ref a from rx)
   have t:Tu X.K C:=t
   have ok:aL X.prog X.w H s.heap a (.ext ph):=I.bh a _ (sm _ _ q)
   exact W.kia_one (A5 t) I.mR (hp _ ok.1) e (fun z=>nomatch z) h
 | @qh a ob kvs kds q rr=>
   cases (show z=Value.ref a from rx)
   obtain⟨_,_,vs,_,D⟩:=tJ (kvs:=kvs) I.bh (.inr (.inl ⟨ob,sm _ _ q⟩))
   exact W.kia_one W.kitx_dict I.mR D.typeIs e (fun z=>nomatch z) h
 | @Cs a C dx ph fv fs q hp g rr=>
   cases (show z=Value.ref a from rx)
   have t:Tu X.K C:=t
   have ok:aL X.prog X.w H s.heap a (.ext ph):=I.bh a _ (sm _ _ q)
   exact W.kia_one (A5 t) I.mR (hp _ ok.1).of e (fun z=>nomatch z) h
 | @dM a tg ob kvs kds q rr=>
   cases (show z=Value.ref a from rx)
   obtain⟨_,_,vs,_,D⟩:=tJ (kvs:=kvs) I.bh (.inr (.inr (.inl ⟨tg,ob,kvs,sm _ _ q,rfl⟩)))
   exact W.kia_one W.kitx_dict I.mR D.typeIs e (fun z=>nomatch z) h
 | memo=>exact t.elim
 | dJ=>exact t.elim
 | iQ=>exact t.elim
 | l8=>exact t.elim
 | uF=>exact t.elim
 | @vC a _ C dx fv fs gs nm n ls _ q rr=>
   cases (show z=Value.ref a from rx)
   have t:WZ X.K C:=t
   exact rZ (x:=.ref a) I rfl (.ins (gd sm q) t.cl t.ha t.hn t.Qk t.hm) e h
theorem boot_isinstance:bootBuiltins "isinstance"=some (.builtin "isinstance"):=by decide +kernel
def Yl (K:W.Frag)(d d2:Dt)(r:Bool):List V->Hp->VK->Prop:=fun xs H Q=>∃ Hf w c,xs=[w,c]/\aG Hf H/\Rep K Hf w d/\Rep K Hf c d2/\Q (.bl r) H
theorem Iq {r:Bool}{z:Value}(hc:UN d2=some z)(t:QN X.K d)(h:W.kitOne X.K (Yk d) z=some r):jr X (.builtin "isinstance") (Yl X.K d d2 r):=by
 intro pins s st H xs us Q I rv ⟨Hf,w,c,e,sm,r1,r2,q⟩
 subst e
 cases rv with
 | cons q1 t1=>
   cases t1 with
   | cons q2 t2=>
     cases t2
     rename_i ud uc
     have ez:uc=z:=by
       cases r2 with
       | ty n=>cases hc;exact q2
       | cls C=>cases hc;exact q2
       | _=>cases hc
     subst ez
     exact Ip I sm r1 q1 t h fun tk=>⟨.bl r,H,I.tok _,rfl,q⟩
theorem qj {r:Bool}{z:Value}(hm:X.mg "isinstance"=none)(ha:EE X G dl a d)(hb:EE X G dl b d2)(hc:UN d2=some z)(t:QN X.K d)(h:W.kitOne X.K (Yk d) z=some r)(hg:Gl X "isinstance":=by rfl)(he:starEach [a,b] X.env=(false,eval a X.env)::starEach [b] X.env:=by rfl)(QO:starEach [b] X.env=[(false,eval b X.env)]:=by rfl)(nZ:(backTo pos (starEach [b] X.env)).any (·.1)=false:=by rfl):EE X G dl (.Call (.Name "isinstance" p) [a,b] [] pos) (.bl r):=
 gc (dY (Iq hc t h) hg hm boot_isinstance (ae ha (ae hb ai QO) he) (by decide) (by decide) he nZ) fun st H Q zq=>Bn zq fun Hf zq=>have S:=zq.1;have k:=zq.2;⟨Hf,S,fun vs Hf1 H1 g1 r1=>by
   cases r1 with
   | cons r1 t1=>cases t1 with
     | cons r2 t2=>cases t2;exact⟨Hf1,_,_,rfl,g1.sub,r1,r2,k _ Hf1 H1 g1 (.bl _)⟩⟩
mutual
noncomputable def pd:Dt->PyData
 | .cW=>.none
 | .bl b=>.bool b
 | .int i=>.int i
 | .str x=>.str x
 | .tup ds=>.tuple (Cu ds)
 | .lst ds=>.list (Cu ds)
 | .oX _=>.none
 | .eP _=>.none
 | .obj _ _=>.none
 | .ty _=>.none
 | .cls _=>.none
 | .xo _=>.none
 | .qh _=>.none
 | .Cs _ _=>.none
 | .dM _=>.none
 | .memo _ _ _ _=>.none
 | .dJ _ _ _ _=>.none
 | .uF _ _ _=>.none
 | .vC _ _ _ _ _=>.none
 | .iQ _=>.none
 | .l8 _=>.none
noncomputable def Cu:List Dt->List PyData
 | []=>[]
 | d::r=>pd d::Cu r
end
mutual
noncomputable def plain:Dt->Bool
 | .tup ds=>ly ds
 | .lst ds=>ly ds
 | .oX _=>false
 | .eP _=>false
 | .obj _ _=>false
 | .ty _=>false
 | .cls _=>false
 | .xo _=>false
 | .qh _=>false
 | .Cs _ _=>false
 | .dM _=>false
 | .memo _ _ _ _=>false
 | .dJ _ _ _ _=>false
 | .uF _ _ _=>false
 | .vC _ _ _ _ _=>false
 | .iQ _=>false
 | .l8 _=>false
 | .cW=>true
 | .bl _=>true
 | .int _=>true
 | .str _=>true
noncomputable def ly:List Dt->Bool
 | []=>true
 | d::r=>plain d && ly r
end
section
variable {pins:List (Addr×Obj)}{st:L2.St}{Hf H:Hp}{s:Shared}
mutual
theorem om (I:L2.Inv X pins st H s)(sm:aG Hf H):∀ {w:V} {d:Dt} {z:Value},Rep X.K Hf w d->plain d=true->RelV w z->∃ as,Reads s.heap z (pd d) as
 | _,_,z,.cW,_,r=>by cases (show z=Value.none from r);exact⟨_,.none⟩
 | _,_,z,.bl b,_,r=>by cases (show z=Value.bool b from r);exact⟨_,.bool b⟩
 | _,_,z,.int i,_,r=>by obtain⟨t,q⟩:=(show ∃ t,z=Value.int i t from r);cases q;exact⟨_,.int i t⟩
 | _,_,z,.str x,_,r=>by obtain⟨t,q⟩:=(show ∃ t,z=Value.str x t from r);cases q;exact⟨_,.str x t⟩
 | _,_,z,@Rep.tup _ _ a vs ds q rr,h,r=>by
   cases (show z=Value.ref a from r)
   obtain⟨aE,rv,⟨o,h1,h2,n,h3⟩,_⟩:=I.tuple (bU sm q)
   obtain⟨as,ra⟩:=sq I sm rr (by rw[plain] at h;exact h) rv
   refine⟨as,?_⟩
   rw[pd]
   exact .tuple h1 h2 h3 (by simpa using ra)
 | _,_,z,@Rep.lst _ _ a vs ds q rr,h,r=>by
   cases (show z=Value.ref a from r)
   obtain⟨aE,rv,⟨o,n,h1,h2,_,h3⟩,_⟩:=I.list (.of (sm _ _ q))
   obtain⟨as,ra⟩:=sq I sm rr (by rw[plain] at h;exact h) rv
   refine⟨a::as,?_⟩
   rw[pd]
   exact .list h1 h2 h3 (by simpa using ra)
 | _,_,_,.eP _ _,h,_=>by rw[plain] at h;cases h
 | _,_,_,.oX _,h,_=>by rw[plain] at h;cases h
 | _,_,_,.obj _ _,h,_=>by rw[plain] at h;cases h
 | _,_,_,.ty _,h,_=>by rw[plain] at h;cases h
 | _,_,_,.cls _,h,_=>by rw[plain] at h;cases h
 | _,_,_,.xo _ _,h,_=>by rw[plain] at h;cases h
 | _,_,_,.qh _ _,h,_=>by rw[plain] at h;cases h
 | _,_,_,.Cs _ _ _ _,h,_=>by rw[plain] at h;cases h
 | _,_,_,.dM _ _,h,_=>by rw[plain] at h;cases h
 | _,_,_,.memo _ _ _ _,h,_=>by rw[plain] at h;cases h
 | _,_,_,.dJ _ _ _ _,h,_=>by rw[plain] at h;cases h
 | _,_,_,.uF _,h,_=>by rw[plain] at h;cases h
 | _,_,_,.vC _ _ _,h,_=>by rw[plain] at h;cases h
 | _,_,_,.iQ _,h,_=>by rw[plain] at h;cases h
 | _,_,_,.l8 _,h,_=>by rw[plain] at h;cases h
theorem sq (I:L2.Inv X pins st H s)(sm:aG Hf H):∀ {vs:List V} {ds:List Dt} {zs:List Value},bB X.K Hf vs ds->ly ds=true->Vals vs zs->∃ as,ReadsAll s.heap zs (Cu ds) as
 | _,_,_,.nil,_,.nil=>⟨[],by rw[Cu];exact .nil⟩
 | _,_,_,.cons r t,h,.cons q w=>by
   rw[ly,aaP] at h
   obtain⟨as,h1⟩:=om I sm r h.1 q
   obtain⟨bs,h2⟩:=sq I sm t h.2 w
   exact⟨as ++ bs,by rw[Cu];exact .cons h1 h2⟩
end
end
def LH (d:Dt):Prop:=plain d=true/\SeqAt.shaped (pd d)=true
def QP (K:PySem.W.Frag)(d1 d2:Dt)(g:Bool->Bool):R2:=fun x y H Q=>∃ Hf,aG Hf H/\Rep K Hf x d1/\Rep K Hf y d2/\LH d1/\LH d2/\Q (.bl (g (PyData.eqv (pd d1) (pd d2)))) H
theorem QQ (hu:X.A.units+64 < cLine):n9 X (compareOp .Eq) (QP X.K d1 d2 id):=by
 intro pins s st H x y v w Q I rx ry ⟨Hf,sm,r1,r2,o1,o2,q⟩
 obtain⟨as,h1⟩:=om I sm r1 o1.1 rx
 obtain⟨bs,h2⟩:=om I sm r2 o2.1 ry
 exact eq_dataH h1 h2 o1.2 o2.2 hu ⟨.bl _,H,I,rfl,q⟩
theorem QR (hu:X.A.units+64 < cLine):n9 X (compareOp .NotEq) (QP X.K d1 d2 (!·)):=by
 intro pins s st H x y v w Q I rx ry ⟨Hf,sm,r1,r2,o1,o2,q⟩
 obtain⟨as,h1⟩:=om I sm r1 o1.1 rx
 obtain⟨bs,h2⟩:=om I sm r2 o2.1 ry
 exact ne_dataH h1 h2 o1.2 o2.2 hu ⟨.bl _,H,I,rfl,q⟩
theorem Ir {K:W.Frag}{g:Bool->Bool}(o1:LH d1)(o2:LH d2):Ek K (QP K d1 d2 g) d1 d2 (.bl (g (PyData.eqv (pd d1) (pd d2)))):=fun v w Hf H Q s r1 r2 k=>⟨Hf,s,r1,r2,o1,o2,k _ Hf H (.refl s) (.bl _)⟩
mutual
theorem eqv_refl:∀ d:Dt,plain d=true->PyData.eqv (pd d) (pd d)=true
 | .cW,_=>by simp[pd,PyData.eqv]
 | .bl b,_=>by simp[pd,PyData.eqv]
 | .int i,_=>by simp[pd,PyData.eqv]
 | .str x,_=>by simp[pd,PyData.eqv]
 | .tup ds,h=>by rw[plain] at h;rw[pd,PyData.eqv];exact su ds h
 | .lst ds,h=>by rw[plain] at h;rw[pd,PyData.eqv];exact su ds h
 | .eP _,h=>by rw[plain] at h;cases h
 | .oX _,h=>by rw[plain] at h;cases h
 | .obj _ _,h=>by rw[plain] at h;cases h
 | .ty _,h=>by rw[plain] at h;cases h
 | .cls _,h=>by rw[plain] at h;cases h
 | .xo _,h=>by rw[plain] at h;cases h
 | .qh _,h=>by rw[plain] at h;cases h
 | .Cs _ _,h=>by rw[plain] at h;cases h
 | .dM _,h=>by rw[plain] at h;cases h
 | .memo _ _ _ _,h=>by rw[plain] at h;cases h
 | .dJ _ _ _ _,h=>by rw[plain] at h;cases h
 | .uF _ _ _,h=>by rw[plain] at h;cases h
 | .vC _ _ _ _ _,h=>by rw[plain] at h;cases h
theorem su:∀ ds:List Dt,ly ds=true->PyData.eqvAll (Cu ds) (Cu ds)=true
 | [],_=>by simp[Cu,PyData.eqvAll]
 | d::r,h=>by
   rw[ly,aaP] at h
   rw[Cu,PyData.eqvAll,eqv_refl d h.1,su r h.2];rfl
end
theorem Iu (hr:X.A.units+64 < cLine)(ha:EE X G dl a d1)(hb:EE X G dl b d2)(o1:LH d1)(o2:LH d2)(hu:PyData.eqv (pd d1) (pd d2)=u):EE X G dl (.Compare a [.Eq] [b] pos) (.bl u):=by
 subst hu;exact sh (QQ hr) (Ir (g:=id) o1 o2) (kh _) ha hb
theorem Iv (hr:X.A.units+64 < cLine)(ha:EE X G dl a d1)(hb:EE X G dl b d2)(o1:LH d1)(o2:LH d2)(hu:(!PyData.eqv (pd d1) (pd d2))=u):EB X G dl (.Compare a [.NotEq] [b] pos) u:=by
 subst hu;exact lx (QR hr) (Ir (g:=(!·)) o1 o2) (kh _) ha hb
theorem A9 (ha:EE X G dl a (.int i))(hb:EE X G dl b (.int j)):EB X G dl (.Compare a [.Lt] [b] pos) (decide (i < j)):=lx Ug (tM (g':=fun i j=>.bl (decide (i < j))) fun _ _ _ _=>.bl _) (kh _) ha hb
theorem tP (ha:EE X G dl a (.int i))(hb:EE X G dl b (.int j)):EB X G dl (.Compare a [.LtE] [b] pos) (decide (i<=j)):=lx HP (tM (g':=fun i j=>.bl (decide (i<=j))) fun _ _ _ _=>.bl _) (kh _) ha hb
theorem Ba (ha:EE X G dl a (.int i))(hb:EE X G dl b (.int j)):EB X G dl (.Compare a [.Gt] [b] pos) (decide (j < i)):=lx Uh (tM (g':=fun i j=>.bl (decide (j < i))) fun _ _ _ _=>.bl _) (kh _) ha hb
theorem Iw (ha:EE X G dl a (.int i))(hb:EE X G dl b (.int j)):EB X G dl (.Compare a [.GtE] [b] pos) (decide (j<=i)):=lx Ui (tM (g':=fun i j=>.bl (decide (j<=i))) fun _ _ _ _=>.bl _) (kh _) ha hb
theorem sv {K:W.Frag}{w1 w2:V}{g:Bool->Bool}(h1:∀ H w,Rep K H w d1->w=w1)(h2:∀ H w,Rep K H w d2->w=w2)(hs:L6 w1 w2=true):Ek K (fun x y H Q=>L6 x y=true/\Q (.bl (g (decide (x=y)))) H) d1 d2 (.bl (g (decide (w1=w2)))):=fun v w Hf H Q s r1 r2 k=>by
 cases h1 _ _ r1;cases h2 _ _ r2;exact⟨hs,k _ Hf H (.refl s) (.bl _)⟩
theorem oS (i j:Int):decide (V.int i=V.int j)=decide (i=j):=by simp
theorem oT (i j:Str):decide (V.str i=V.str j)=decide (i=j):=by simp
theorem QS (ha:EE X G dl a (.int i))(hb:EE X G dl b (.int j)):EE X G dl (.Compare a [.Eq] [b] pos) (.bl (decide (i=j))):=by
 rw[<- oS];exact sh D8 (sv (g:=id) (fun _ _ r=>by cases r;rfl) (fun _ _ r=>by cases r;rfl) rfl) (kh _) ha hb
theorem l9 (ha:EE X G dl a (.int i))(hb:EE X G dl b (.int j)):EB X G dl (.Compare a [.Eq] [b] pos) (decide (i=j)):=by
 rw[<- oS];exact lx D8 (sv (g:=id) (fun _ _ r=>by cases r;rfl) (fun _ _ r=>by cases r;rfl) rfl) (kh _) ha hb
theorem zc (ha:EE X G dl a (.int i))(hb:EE X G dl b (.int j)):EB X G dl (.Compare a [.NotEq] [b] pos) (!decide (i=j)):=by
 rw[<- oS];exact lx Oy (sv (g:=(!·)) (fun _ _ r=>by cases r;rfl) (fun _ _ r=>by cases r;rfl) rfl) (kh _) ha hb
theorem QT (ha:EE X G dl a (.str x))(hb:EE X G dl b (.str y)):EE X G dl (.Compare a [.Eq] [b] pos) (.bl (decide (x=y))):=by
 rw[<- oT];exact sh D8 (sv (g:=id) (fun _ _ r=>by cases r;rfl) (fun _ _ r=>by cases r;rfl) rfl) (kh _) ha hb
theorem gG (ha:EE X G dl a (.str x))(hb:EE X G dl b (.str y)):EB X G dl (.Compare a [.Eq] [b] pos) (decide (x=y)):=by
 rw[<- oT];exact lx D8 (sv (g:=id) (fun _ _ r=>by cases r;rfl) (fun _ _ r=>by cases r;rfl) rfl) (kh _) ha hb
theorem Iy (ha:EE X G dl a (.str x))(hb:EE X G dl b (.str y)):EB X G dl (.Compare a [.NotEq] [b] pos) (!decide (x=y)):=by
 rw[<- oT];exact lx Oy (sv (g:=(!·)) (fun _ _ r=>by cases r;rfl) (fun _ _ r=>by cases r;rfl) rfl) (kh _) ha hb
end
structure GF (P:Program)(w:World)(K:W.Frag)(mg:Str->Option Value)(base:Heap)(CX:r0)(k:Nat)(x:Str)(n:Nat)(R:List Dt->Res->Prop):Prop where
 ex:∃ f fd ps,j4 P w K mg base CX k f fd ps (En K n R)/\mg x=some (.ref f)/\W.keepIn K (.ref f)=true/\Binds K fd ps []
structure MF (P:Program)(w:World)(K:W.Frag)(mg:Str->Option Value)(base:Heap)(CX:r0)(k:Nat)(C:Addr)(m:Str)(n:Nat)(R:List Dt->Res->Prop):Prop where
 cl:uE K C
 ex:∃ f fd ps,j4 P w K mg base CX k f fd ps (En K n R)/\Meth K C m f/\Binds K fd ps []
section
variable {X:Cx}{G:Gr}{dl:List Slot}{e:Expr}{es:List Expr}{d:Dt}{ds:List Dt}{pos p apos:Pos}{x m:Str}{C:Addr}{fs:List (Str×Dt)}{CX:r0}{k k' n:Nat}{R:List Dt->Res->Prop}{ob:Expr}
theorem aX (F:GF X.prog X.w X.K X.mg X.base CX k x n R)(nx:Ct CX)(hr:eQ k' X.A)(ha:EA X G dl (e::es) ds)(h:R ds (.ret d))(zd:k<=k':=by decide)(hl:ds.length=n:=by rfl)(hg:Gl X x:=by rfl)(mQ:(x == ("__debug__":Str))=false:=by decide)(he:starEach (e::es) X.env=(false,eval e X.env)::starEach es X.env:=by rfl)(nZ:(backTo pos (starEach es X.env)).any (·.1)=false:=by rfl):EE X G dl (.Call (.Name x p) (e::es) [] pos) d:=by
 obtain⟨f,fd,ps,F,hm,hk,hb⟩:=F.ex
 refine Ms (dvs:=[]) (vds:=[]) F nx (hr.mono zd) hm hk hb .nil (fun _=>.nil) ha (by rw[aaZ];exact hl) (by rw[aaZ];exact h) hg mQ he nZ
theorem bE {pl:Sem Bool}(he:EE X G dl ob (.obj C fs))(F:MF X.prog X.w X.K X.mg X.base CX k C m n R)(nx:Ct CX)(hr:eQ k' X.A)(ha:EA X G dl (e::es) ds)(h:R (.obj C fs::ds) (.ret d))(zd:k<=k':=by decide)(hl:(Dt.obj C fs::ds).length=n:=by rfl)(tN:fs.lookup m=none:=by rfl)
   (nL:starEach (e::es) X.env=(false,eval e X.env)::starEach es X.env:=by rfl) (nZ:(backTo pos (starEach es X.env)).any (·.1)=false:=by rfl)
   (ht:eval (.Call (.Attribute ob m apos) (e::es) [] pos) X.env=(do
     let ov <- eval ob X.env
     standAt apos.atName
     let (f,first) <- holding [ov] (getMethod ov m pl)
     callWith pos f first (backTo pos (starEach (e::es) X.env)) (backToKw pos (keywordEach [] X.env))):=by rfl):EE X G dl (.Call (.Attribute ob m apos) (e::es) [] pos) d:=by
 obtain⟨f,fd,ps,Fo,hm,hb⟩:=F.ex
 refine Eo (dvs:=[]) (vds:=[]) (pl:=pl) he F.cl hm Fo nx (hr.mono zd) hb .nil (fun _=>.nil) ha (by rw[aaZ];exact hl) (by rw[aaZ];exact h) tN nL nZ ht
theorem bR {pl:Sem Bool}(he:EE X G dl ob (.obj C fs))(F:MF X.prog X.w X.K X.mg X.base CX k C m n R)(nx:Ct CX)(hr:eQ k' X.A)(h:R [.obj C fs] (.ret d))(zd:k<=k':=by decide)(hl:[Dt.obj C fs].length=n:=by rfl)(tN:fs.lookup m=none:=by rfl)
   (ht:eval (.Call (.Attribute ob m apos) [] [] pos) X.env=(do
     let ov <- eval ob X.env
     standAt apos.atName
     let (f,first) <- holding [ov] (getMethod ov m pl)
     callWith pos f first (backTo pos (starEach [] X.env)) (backToKw pos (keywordEach [] X.env))):=by rfl):EE X G dl (.Call (.Attribute ob m apos) [] [] pos) d:=by
 obtain⟨f,fd,ps,Fo,hm,hb⟩:=F.ex
 refine A8 (dvs:=[]) (vds:=[]) (pl:=pl) he F.cl hm Fo nx (hr.mono zd) hb .nil (fun _=>.nil) hl h tN ht
end
noncomputable def bmV:List Value:=[.type "ValueError",.type "Exception",.type "BaseException",.type "object"]
structure ExC (K:W.Frag)(C:Addr):Prop where
 ex:W.excIn K C bmV "ValueError.__new__"=true
def xC:Value->Shared->Prop:=fun _ _=>False
theorem Mt {P:Program}{w:World}{A:Around}{R:Result->Shared->Prop}{s:Shared}{elt tg iter:Expr}{sc:Scope}{pos:Pos}{it acc:Value}{env:Env}(J:Nat->Shared->Prop)
   (turn:∀ n s,J n s->wpAny (model P w) A (pyNext it) (fun r s1=>match r with
     | none=>R (.ok .next) s1
     | some v=>wpAny (model P w) A (letOwnedTupleGo tg it v) (fun _ s2=>wpAny (model P w) A (assign tg env v) (fun _ s3=>wpAny (model P w) A (eval elt env) (fun x s4=>
         wpAny (model P w) A (call (.builtin "list.append") [acc,x]) (fun _ s5=>∃ m,m < n/\J m s5) xC s4) xC s3) xC s2) xC s1) xC s)
   (n:Nat) (h:J n s):codeAny (model P w) A (.compLoop (.ListComp elt [⟨tg,iter,[],0⟩] sc pos) 0 it acc env) R s:=by
 have off:∀ {B:Value->Shared->Prop} (x:Value) (s':Shared),xC x s'->B x s':=fun _ _ z=>z.elim
 refine codeAny_loop rfl J (fun n s hJ=>?_) n h
 show wpAny _ A ((compTurn (.ListComp elt [⟨tg,iter,[],0⟩] sc pos) 0 it acc env).onRaise (fun x=>(do noteFrame x env;theTreesLotGoes x))) _ _ s
 refine wpAny_noted ?_
 rw[compTurn_list1]
 refine wpAny_bind (wpAny_standAt (wpAny_bind (wpAny_mono (turn n s hJ) (fun r s1 h1=>?_) off)))
 cases r with
 | none=>exact wpAny_pure h1
 | some v=>
   refine wpAny_bind (wpAny_mono h1 (fun _ s2 h2=>wpAny_bind (wpAny_mono h2 (fun _ s3 h3=>wpAny_bind (wpAny_bind ?_)) off)) off)
   exact wpAny_mono h3 (fun x s4 h4=>wpAny_bind (wpAny_mono h4 (fun _ s5 h5=>wpAny_pure (wpAny_pure ⟨rfl,h5⟩)) off)) off
noncomputable def ze (cells:List (Str×Addr)):List (Str×NameKind)->List (Str×Addr)->List (Str×Addr)
 | [],cs=>cs
 | (n,k)::r,cs=>if k == .free then ze cells r ((n,(cells.lookup n).getD 0)::cs) else ze cells r cs
noncomputable def lQ (sc:Scope)(env:Env):List (Str×Addr):=ze env.cells sc.names []
theorem zf {env:Env}:∀ (l:List (Str×NameKind)) (cs:List (Str×Addr)),(∀ y∈l,y.2=.free->∃ c,env.cells.lookup y.1=some c) ->
   (forIn l cs fun(x:Str×NameKind) r=>(if x.2 == .free then (do let c <- cellOf env x.1;pure (ForInStep.yield ((x.1,c)::r))) else pure (ForInStep.yield r):Sem _))=pure (ze env.cells l cs)
 | [],cs,_=>rfl
 | (n,k)::l,cs,h=>by
   have hr:∀ y∈l,y.2=.free->∃ c,env.cells.lookup y.1=some c:=fun y hy=>h y (aaF _ hy)
   rw[List.forIn_cons,ze]
   by_cases hk:(k == NameKind.free)=true
   . obtain⟨c,hc⟩:=h (n,k) aaX (by simpa using hk)
     have hc:env.cells.lookup n=some c:=hc
     simp only[hk,if_true,cellOf,hc,pure_bind,Option.getD_some]
     exact zf l _ hr
   . simp only[hk,if_false,pure_bind]
     exact zf l _ hr
theorem zg {sc:Scope}{env:Env}(h:∀ y∈sc.names,y.2=.free->∃ c,env.cells.lookup y.1=some c):closureFor sc env=pure (lQ sc env):=by
 unfold closureFor lQ
 have:=zf (env:=env) sc.names [] h
 simp only[bind_pure]
 refine Eq.trans ?_ this
 congr 1
theorem qV {cells:List (Str×Addr)}{y:Str}{c:Addr}:∀ (l:List (Str×NameKind)) (cs:List (Str×Addr)),(ze cells l cs).lookup y=some c->((y,NameKind.free)∈l/\(cells.lookup y).getD 0=c)\/cs.lookup y=some c
 | [],cs,h=>.inr h
 | (n,k)::l,cs,h=>by
   rw[ze] at h
   by_cases hk:(k == NameKind.free)=true
   . rw[if_pos hk] at h
     have W0:k=.free:=by simpa using hk
     subst W0
     rcases qV l _ h with⟨h1,h2⟩ | h1
     . exact .inl ⟨aaF _ h1,h2⟩
     . rw[aaQ] at h1
       cases q:(y == n) with
       | true=>
         rw[q] at h1
         have e:y=n:=by simpa using q
         subst e
         exact .inl ⟨aaX,Option.some.inj h1⟩
       | false=>rw[q] at h1;exact .inr h1
   . rw[if_neg hk] at h
     rcases qV l _ h with⟨h1,h2⟩ | h1
     . exact .inl ⟨aaF _ h1,h2⟩
     . exact .inr h1
theorem j5 {cells:List (Str×Addr)}{y:Str}:∀ (l:List (Str×NameKind)) (cs:List (Str×Addr)),((y,NameKind.free)∈l\/∃ c,cs.lookup y=some c)->∃ c,(ze cells l cs).lookup y=some c
 | [],cs,h=>by
   rcases h with h | h
   . cases h
   . exact h
 | (n,k)::l,cs,h=>by
   rw[ze]
   by_cases hk:(k == NameKind.free)=true
   . rw[if_pos hk]
     refine j5 l _ ?_
     rcases h with h | ⟨c,h⟩
     . rcases aaE.mp h with h | h
       . cases h;exact .inr ⟨_,by rw[aaQ,show(y == y)=true by simp]⟩
       . exact .inl h
     . refine .inr ?_
       rw[aaQ]
       cases q:(y == n) with
       | true=>exact⟨_,rfl⟩
       | false=>exact⟨c,h⟩
   . rw[if_neg hk]
     refine j5 l _ ?_
     rcases h with h | h
     . rcases aaE.mp h with h | h
       . cases h;exact absurd rfl hk
       . exact .inl h
     . exact .inr h
theorem fT {env:Env}{y:Str}{k:NameKind}:∀ {names:List (Str×NameKind)},(names.map fun(n,k)=>if (k == NameKind.free && env.scope.kind == .function && env.kindOf n == some .cell) then (n,NameKind.cell) else (n,k)).lookup y=some k->∃ k',(y,k')∈names/\(k=k'\/k'=.free)
 | [],h=>by simp at h
 | (n,kk)::r,h=>by
   rw[aaq,aaQ] at h
   by_cases hc:(kk == NameKind.free && env.scope.kind == .function && env.kindOf n == some .cell)=true
   . simp only[hc,if_true] at h
     cases q:(y == n) with
     | true=>
       have e:y=n:=by simpa using q
       subst e
       have:kk=.free:=by
         have:=hc;simp at this;exact this.1.1
       exact⟨kk,aaX,.inr this⟩
     | false=>
       rw[q] at h
       obtain⟨k',h1,h2⟩:=fT h
       exact⟨k',aaF _ h1,h2⟩
   . simp only[hc,aaY,if_false] at h
     cases q:(y == n) with
     | true=>
       have e:y=n:=by simpa using q
       subst e
       rw[q] at h
       exact⟨kk,aaX,.inl (Option.some.inj h).symm⟩
     | false=>
       rw[q] at h
       obtain⟨k',h1,h2⟩:=fT h
       exact⟨k',aaF _ h1,h2⟩
theorem mW {env:Env}{y:Str}:∀ {names:List (Str×NameKind)},names.lookup y=some .free->(names.map fun(n,k)=>if (k == NameKind.free && env.scope.kind == .function && env.kindOf n == some .cell) then (n,NameKind.cell) else (n,k)).lookup y=some .cell \/
   (names.map fun(n,k)=>if (k == NameKind.free && env.scope.kind == .function && env.kindOf n == some .cell) then (n,NameKind.cell) else (n,k)).lookup y=some .free
 | [],h=>by simp at h
 | (n,kk)::r,h=>by
   rw[aaq,aaQ]
   rw[aaQ] at h
   cases q:(y == n) with
   | true=>
     rw[q] at h
     have:kk=.free:=Option.some.inj h
     subst this
     by_cases hc:(NameKind.free == NameKind.free && env.scope.kind == .function && env.kindOf n == some .cell)=true
     . left;simp only[hc,if_true];simp[q]
     . right;simp only[hc,aaY,if_false];simp[q]
   | false=>
     rw[q] at h
     have ih:=mW (env:=env) h
     by_cases hc:(kk == NameKind.free && env.scope.kind == .function && env.kindOf n == some .cell)=true
     . simp only[hc,if_true,q];exact ih
     . simp only[hc,aaY,if_false,q];exact ih
structure gX (X:Cx)(N:List Str)(ix:List Nat)(x:Str)(sc:Scope):Prop where
 nd:N.Nodup
 nm:N=x::ix.map (fun j=>X.N.getD j "")
 kind:sc.kind=.function
 vJ:∀ y∈sc.names,y.2≠.cell
 names:∀ y∈sc.names,y.2=.local->sc.names.lookup y.1=some .local
 hx:sc.names.lookup x=some .local
 fr:∀ y∈sc.names,y.2=.free->X.env.kindOf y.1=some .cell\/X.env.kindOf y.1=some .free
 UO:∀ j∈ix,∃ y,X.N[j]?=some y/\sc.names.lookup y=some .free
noncomputable def a5 (X:Cx)(N:List Str)(sc:Scope)(C:Addr)(fp:List Addr)(s:Shared)(H:Hp):Cx:=
 { X with N:=N,s₀:=s,H₀:=H,env:=compEnvC sc (lQ sc X.env) C X.env,outer:=X.stack,stack:=X.stack,ex:=fp,fn:=fun _=>false,pn:=[],xe:=xC}
noncomputable def frees (ix:List Nat)(st:L2.St):L2.St:=ix.map fun j=>(st[j]?).join
section
variable {X:Cx}{N:List Str}{ix:List Nat}{x:Str}{sc:Scope}{pins:List (Addr×Obj)}{st:L2.St}{H H':Hp}{s s':Shared}{C D:Addr}{fp:List Addr}{h1:Heap}
theorem Iz (B:gX X N ix x sc)(ok:X.Ok):closureFor sc X.env=pure (lQ sc X.env):=zg fun y hy hk=>ok.has y.1 (B.fr y hy hk)
theorem vK (B:gX X N ix x sc)(ok:X.Ok){y:Str}{c:Addr}(h:(lQ sc X.env).lookup y=some c):X.env.cells.lookup y=some c/\(y,NameKind.free)∈sc.names:=by
 rcases qV _ _ h with⟨h1,h2⟩ | h1
 . obtain⟨c',h3⟩:=ok.has y (B.fr _ h1 rfl)
   rw[h3] at h2
   cases h2
   exact⟨h3,h1⟩
 . cases h1
theorem zh (B:gX X N ix x sc)(I:L2.Inv X pins st H s)(hC:s.heap.objs.size<=C)(hf:∀ b∈fp,lu X pins H b)(dg:∀ b∈fp,b < s.heap.objs.size):(a5 X N sc C fp s H).Ok where
 mod:=I.ok.mod
 kind:=B.kind
 glob:=I.ok.glob
 blt:=I.ok.blt
 above:=hC
 inj:=fun y z c h1 h2=>I.ok.inj y z c (vK B I.ok h1).1 (vK B I.ok h2).1
 has:=fun y hy=>by
   have hy:(relabel sc X.env).names.lookup y=some .cell\/(relabel sc X.env).names.lookup y=some .free:=hy
   have:(y,NameKind.free)∈sc.names:=by
     rcases hy with hy | hy
     . obtain⟨k',h1,h2⟩:=fT hy
       rcases h2 with h2 | h2
       . subst h2;exact absurd rfl (B.vJ _ h1)
       . subst h2;exact h1
     . obtain⟨k',h1,h2⟩:=fT hy
       rcases h2 with h2 | h2 <;> subst h2 <;> exact h1
   exact j5 _ _ (.inl this)
 Tn:=fun y c h=>by cases h
 hd:=I.ok.hd
 frames:=I.ok.frames
 TV:=.inl rfl
 LV:=fun b hb=>⟨aat (aao (dg b hb) hC),fun y c h=>(hf b hb).2.2.2.2.1 y c (vK B I.ok h).1⟩
 bs:=I.bs
 D2:=aav I.ok.D2 I.sz
 AD:=fun b o e hb=>by
   rcases (hf b hb).2.2.2.1 with z | z
   . exact I.ok.AD b o e z
   . exact absurd (aao (aal e) (aav I.ok.D2 z)) (aa3 _)
 AE:=fun b hb z=>by
   rcases aaE.mp (I.vo b z) with z | z
   . exact(hf b hb).2.1 z
   . exact(hf b hb).2.2.1 z
 rV:=I.stack
 Ot:=I.uB
theorem Gu (B:gX X N ix x sc)(I:L2.Inv X pins st H s)(hf:∀ b∈fp,lu X pins H b)(dg:∀ b∈fp,b < s.heap.objs.size)(hC:C=s.heap.objs.size+1)(k:∀ b o,s.heap.get? b=some o->h1.get? b=some o)(hn:h1.Ns C fun _=>none)(hD:h1.get? s.heap.objs.size=some { cls:=.type "list",data:=.seq ([]:List Value).toArray 0}){t':Nat}:L2.Inv (a5 X N sc C fp s H) [] (none::frees ix st) (upd H s.heap.objs.size (.lst [])) { s with heap:=h1,toks:=t'}:=by
 have OF:s.heap.objs.size<=C:=by rw[hC];exact abc _
 have fr:∀ a,s.heap.objs.size<=a->H a=none:=fun a ha=>I.bh.fresh ha
 have ok:=zh B I OF hf dg
 have Cq:∀ y c,(lQ sc X.env).lookup y=some c->H c=none/\c < s.heap.objs.size/\∃ v,s.heap.IsCell c v:=fun y c h=>by
   have h:=(vK B I.ok h).1
   obtain⟨v,q⟩:=I.cell y c h
   exact⟨I.pV y c h,q.lt,v,q⟩
 refine⟨ok,rfl,I.bare,Un.laid k (aae _) (fr _ (aae _)),⟨_,hn,fun i y v e1 e2 e3=>?_⟩,fun y c h=>?_,?_,fun y c h=>?_,fun p hp=>absurd (show p∈([]:List (Addr×Obj)) from hp) (by simp),?_,?_⟩
 . have e1:N[i]?=some y:=e1
   cases i with
   | zero=>cases e2
   | succ i=>
     rw[B.nm,aa2,YL] at e1
     rw[aa2] at e2
     unfold frees at e2
     rw[YL] at e2
     cases q:ix[i]? with
     | none=>rw[q] at e1;cases e1
     | some j=>
       rw[q] at e1 e2
       obtain⟨y',LI,IA⟩:=B.UO j (abg q)
       have Mu:=PySem.mem_of_lookup IA
       have ey:y=y':=by
         have e1:X.N.getD j ""=y:=Option.some.inj e1
         rw[WW,LI] at e1
         exact e1.symm
       subst ey
       have e2:(st[j]?).join=some v:=Option.some.inj e2
       have UP:st[j]?=some (some v):=by
         cases q2:st[j]? with
         | none=>rw[q2] at e2;cases e2
         | some z=>rw[q2] at e2;rw[show z=some v from e2]
       have kd:=B.fr _ Mu rfl
       have UQ:vn X.env.scope y:=by
         rcases kd with z | z
         . exact .inr (.inl z)
         . exact .inr (.inr z)
       obtain⟨m,_,hl⟩:=I.loc
       obtain⟨u,r,l⟩:=hl j y v LI UP UQ
       refine⟨u,r,.inr ?_⟩
       rcases l with⟨z,_⟩ | ⟨_,c,hc,ic⟩
       . rcases kd with z' | z' <;> rw[z] at z' <;> cases z'
       . obtain⟨c',Cr⟩:=j5 (cells:=X.env.cells) sc.names [] (.inl Mu)
         have:=(vK B I.ok Cr).1
         rw[hc] at this;cases this
         obtain⟨oc,D4,hd⟩:=ic
         refine⟨?_,c,Cr,oc,k _ _ D4,hd⟩
         rcases e3 with e3 | e3 | e3
         . have e3:(relabel sc X.env).names.lookup y=some .local:=e3
           rcases mW (env:=X.env) IA with z | z
           . exact absurd (e3.symm.trans z) (by decide)
           . exact absurd (e3.symm.trans z) (by decide)
         . exact .inl e3
         . exact .inr e3
 . obtain⟨_,_,v,oc,D4,hd⟩:=Cq y c h
   exact⟨v,oc,k _ _ D4,hd⟩
 . show upd H s.heap.objs.size (.lst []) C=none
   rw[ah (by rw[hC];exact abv _)]
   exact fr _ OF
 . show upd H s.heap.objs.size (.lst []) c=none
   obtain⟨q1,q2,_⟩:=Cq y c h
   rw[ah (aat q2)]
   exact q1
 . exact I.bh.laid k (aae _) ⟨aa1 _,[],0,.nil,hD⟩
 . show(none::frees ix st).length=N.length
   rw[B.nm]
   unfold frees
   simp
def QU (te:TE)(fs:L2.St)(J:It)(D:Addr)(Q:List V->Hp->Prop)(H:Hp):Prop:=
 ∃ W:Nat->Nat->List V->Hp->Prop,(∃ m,W 0 m [] (upd H D (.lst [])))/\∀ i m ys H1,W i m ys H1 ->
   (J.stop i H1/\Q ys H1)\/(J.go i H1/\ys.length < sizeLine/\∀ v H2,J.HJ i H1 v H2->te (some v::fs) H2 fun y H3=>H3 D=some (.lst ys)/\∃ m',m' < m/\W (i+1) m' (ys ++ [y]) (upd H3 D (.lst (ys ++ [y]))))
theorem Er {elt iter:Expr}{px pos:Pos}{te:TE}{J:It}{it:Addr}{tn:Nat->Heap->Prop}{Q:Addr->List V->Hp->Prop}{RR:Value->Addr->Result->Shared->Prop}{E:Value->Shared->Prop}(hc:X.calm=true)(B:gX X N ix x sc)(iW:∀ C fp s H,PE (a5 X N sc C fp s H) elt te)(I:L2.Inv X pins st H s)(T:Turn X.prog X.w X.K (.Name x px) J fp it tn)(h0:tn 0 s.heap)(hf:∀ b∈fp,lu X pins H b)(hq:∀ D,H D=none->QU te (frees ix st) J D (Q D) H)(UR:∀ D C ys H' s',L2.Inv X pins st H' s'->(∃ m,s'.heap.Ns C m)->lu X pins H' C->Q D ys H'->RR (.ref D) C (.ok .next) s'):wpAny (model X.prog X.w) X.A (newList []) (fun acc s3=>wpAny (model X.prog X.w) X.A (newFunctionEnv sc X.env.globals (lQ sc X.env) [] X.env.qual none .none (some X.env)) (fun Bb s4=>codeAny (model X.prog X.w) X.A (.compStart (.ListComp elt [⟨.Name x px,iter,[],0⟩] sc pos) 0 (.ref it) acc { Bb with scope:=relabel sc X.env}) (RR acc Bb.locals) s4) E s3) E s:=by
 have dg:∀ b∈fp,b < s.heap.objs.size:=fun b hb=>by
   obtain⟨o,e,_⟩:=T.obj _ _ h0 b hb
   exact aal e
 refine wpAny_newObj_type (wpAny_newFunctionEnv B.vJ (fun y hy=>absurd hy (by simp)) (fun h1 Hq CY=>?_) B.kind)
 dsimp only at Hq CY ⊢
 generalize hG:s.heap.push { cls:=.type "list",dict:=none,data:=.seq ([]:List Value).toArray}=g at Hq CY ⊢
 have hC:g.objs.size=s.heap.objs.size+1:=by rw[<- hG,aa9]
 have W2:s.heap.objs.size≠g.objs.size:=by rw[hC];exact aat (abe _)
 have old:∀ b o,s.heap.get? b=some o->h1.get? b=some o:=fun b o e=>
   CY.extBut b o (by rw[hC];exact aat (abF (aal e))) (aaf _ (hG ▸ aaf _ e))
 have IB:h1.get? s.heap.objs.size=some { cls:=.type "list",data:=.seq ([]:List Value).toArray 0}:=CY.extBut _ _ W2 (aaf _ (hG ▸ aar _ rfl))
 have hD:H s.heap.objs.size=none:=I.bh.fresh (aae _)
 obtain⟨W,⟨m0,w0⟩,turn⟩:=hq _ hD
 have I0:=Gu (t':=s.toks+([]:List (Str×Value)).length) B I hf dg hC old (by simpa using Hq) IB
 have OG:tn 0 h1:=T.keep _ _ _ h0 fun b _ o e=>old b o e
 have oo:s.heap.objs.size<=g.objs.size:=by rw[hC];exact abc _
 have qg:∀ {H':Hp},(∀ b∈fp,H' b=none)->∀ b∈fp,lu (a5 X N sc g.objs.size fp s H) [] H' b:=fun {H'} hn b hb=>
   ⟨hn b hb,((zh B I oo hf dg).LV b hb).1,(zh B I oo hf dg).AE b hb,.inl hb,((zh B I oo hf dg).LV b hb).2,fun p hp=>absurd (show p∈([]:List (Addr×Obj)) from hp) (by simp)⟩
 have hN:(a5 X N sc g.objs.size fp s H).N[0]?=some x:=by
   show N[0]?=some x
   rw[B.nm];rfl
 have Es:(a5 X N sc g.objs.size fp s H).env.scope.names.lookup x=some .local:=lookup_relabel_local B.hx
 have loop:∀ s3:Shared,s3={ s with heap:=h1,toks:=s.toks+([]:List (Str×Value)).length} ->
     codeAny (model X.prog X.w) X.A (.compLoop (.ListComp elt [⟨.Name x px,iter,[],0⟩] sc pos) 0 (.ref it) (.ref s.heap.objs.size) (compEnvC sc (lQ sc X.env) g.objs.size X.env)) (RR (.ref s.heap.objs.size) g.objs.size) s3:=by
   rintro s3 rfl
   refine Mt (fun n s'=>∃ i ys σ H',L2.Inv (a5 X N sc g.objs.size fp s H) [] (σ::frees ix st) H' s'/\tn i s'.heap/\(∀ b∈fp,H' b=none)/\W i n ys H') ?_ m0
     ⟨0,[],none,_,I0,OG,fun b hb=>?_,w0⟩
   . rintro n s5 ⟨i,ys,σ,H5,I5,Ho,LD,w5⟩
     rcases turn i n ys H5 w5 with⟨stop,qn⟩ | ⟨go,hz,step⟩
     . refine b7 (T.done (a5 X N sc g.objs.size fp s H) rfl rfl rfl hc i [] s5 _ H5 xC I5 (qg LD) Ho stop) fun r s6 ⟨hr,I6⟩=>?_
       subst hr
       refine UR _ _ ys H5 s6 ?_ ?_ (I.vt oo I6.free) qn
       . exact I.HG I6.os I6.base I6.bh I6.bare fun b hb=>⟨(hf b hb).2.2.2.1,(hf b hb).2.1,(hf b hb).2.2.2.2.1,(hf b hb).2.2.2.2.2⟩
       . obtain⟨m,hm,_⟩:=I6.loc
         exact⟨m,hm⟩
     . refine b7 (T.item (a5 X N sc g.objs.size fp s H) rfl rfl rfl hc i [] s5 _ H5 xC I5 (qg LD) Ho go) fun r s6 ⟨u,hr,h6⟩=>?_
       subst hr
       refine b7 h6 fun _ s7 ⟨v,H7,I7,r7,y7,IC,US⟩=>?_
       have UT:=I7.pinned (qg US) (T.obj _ _ IC)
       refine b7 (bT (X:=a5 X N sc g.objs.size fp s H) (pos:=px) B.nd hN (.inl Es) (.inr Es) _ s7 _ H7 v u (fun σ' H'=>σ'=some v::frees ix st/\H'=H7) UT r7 ⟨rfl,rfl⟩) fun _ s8 h8=>?_
       obtain⟨σ8,H8,I8,rfl,rfl⟩:=h8
       refine b7 (iW g.objs.size fp s H _ s8 _ H8 _ I8 (step v H8 y7)) fun z s9 ⟨y,H9,I9,r9,UU,m',hm,w9⟩=>?_
       refine b7 (oV _ s9 _ H9 (.ref s.heap.objs.size) [y] (.ref s.heap.objs.size) [z] (fun _ H'=>H'=upd H9 s.heap.objs.size (.lst (ys ++ [y]))) I9 rfl (.cons r9 .nil) ⟨_,ys,y,rfl,rfl,UU,hz,rfl⟩) fun _ s10 UW=>?_
       obtain⟨_,H10,ID,_,rfl⟩:=UW
       refine⟨m',hm,i+1,ys ++ [y],some v,_,ID.j0 (pins:=[]),T.keep _ _ _ IC fun b hb o e=>(ID.pin (b,o) (aaw _ (aaw _ (fS hb e)))).1,fun b hb=>?_,w9⟩
       obtain⟨o,e,d⟩:=T.obj _ _ IC b hb
       exact(ID.pin (b,o) (aaw _ (aaw _ (fS hb e)))).2.1
   . rw[ah (aat (dg b hb))]
     exact(hf b hb).1
 exact codeAny_compStart_list (loop _ rfl) (T.self _ 0 _ _ _ OG (loop _ rfl))
end
def W3 (K:PySem.W.Frag)(G:Gr)(dl:List Slot)(o:Own):TE:=fun st H Q=>∃ Hf,dO K G st Hf H dl/\∀ p aI H',bo Hf H aI H'->H p=none->aI p=none->gW K aI H' p o->Q (.ref p) H'
abbrev EO (X:Cx)(G:Gr)(dl:List Slot)(e:Expr)(o:Own):Prop:=PE X e (W3 X.K G dl o)
noncomputable def UX:Own->Dt
 | .lst ds=>.lst ds
 | .eP k=>.eP k
 | .obj C fs=>.obj C fs
 | .A6 _ C fs=>.obj C fs
 | .se C fs gs nm n=>.vC C fs gs nm n
 | .yX _ C fs gs nm n=>.vC C fs gs nm n
 | .l8 k=>.l8 k
section
variable {K:W.Frag}{G:Gr}{st:L2.St}{Hf H aI H':Hp}{dl:List Slot}{p:Addr}{w:Own}{u:HO}
theorem IE (g:bo Hf H aI H')(n:H p=none)(n':aI p=none)(e:H' p=some u):bo Hf H (upd aI p u) H':=
 ⟨g.big,g.bF.trans (bN n'),fun b o h=>by
   by_cases hb:b=p
   . subst hb;rw[ak] at h;cases h;exact e
   . rw[ah hb] at h;exact g.sub _ _ h,fun a o h=>by
   by_cases hb:a=p
   . subst hb;exact .inr (.inl n)
   . rw[ah hb] at h;exact g.new a o h⟩
theorem Et (r:gW K Hf H p w)(n:Hf p=none):∃ u,H p=some u/\Rep K (upd Hf p u) (.ref p) (UX w):=by
 cases w with
 | lst ds=>obtain⟨vs,h,r⟩:=r;exact⟨_,h,.lst ak (r.mono (bN n))⟩
 | eP ds=>obtain⟨vs,h,r⟩:=r;exact⟨_,h,.eP ak (r.mono (bN n))⟩
 | obj C ds=>obtain⟨dx,fs,h,r⟩:=r;exact⟨_,h,.obj (.of ak) (r.mono (bN n))⟩
 | A6 x C ds=>obtain⟨_,dx,fs,h,r⟩:=r;exact⟨_,h,.obj (.of ak) (r.mono (bN n))⟩
 | se C ds gs nm k=>obtain⟨dx,fs,b,ls,q,h,r⟩:=r;exact⟨_,h,.vC q (.of ak) (r.mono (bN n))⟩
 | yX x C ds gs nm k=>obtain⟨_,dx,fs,b,ls,q,h,r⟩:=r;exact⟨_,h,.vC q (.of ak) (r.mono (bN n))⟩
 | l8 ks=>exact⟨_,r,.l8 ak⟩
theorem dO.Mv (S:dO K G st Hf H dl)(g:bo Hf H aI H'){i:Nat}(n:H p=none)(n':aI p=none)(r:gW K aI H' p w):dO K G (st.set i (some (.ref p))) aI H' (dl.set i (.own w)):=by
 have ln:=S.len
 have S':=S.grow g
 have pn:∀ (j:Nat) (o':Own) (a:Addr),dl[j]?=some (Slot.own o')->st[j]?=some (some (V.ref a))->a≠p:=fun j o' a h1 h2=>by
   obtain⟨b,q1,_,_,q4⟩:=S.own j o' h1
   rw[h2] at q1;cases q1
   obtain⟨u,hu⟩:=q4.some
   exact aw hu n
 refine⟨S'.gr,by simp[S.len],fun j x h=>?_,fun j o' h=>?_,fun j k o1 o2 a h1 h2 h3 h4=>?_⟩
 . by_cases e:i=j
   . subst e
     by_cases hl:i < dl.length
     . rw[aah hl] at h;cases h
     . rw[aaC (by simp;omega)] at h;cases h
   . rw[aai e] at h ⊢;exact S'.val j x h
 . by_cases e:i=j
   . subst e
     by_cases hl:i < dl.length
     . rw[aah hl] at h;cases h
       exact⟨p,aah (by omega),n',S.gr.big.free n,r⟩
     . rw[aaC (by simp;omega)] at h;cases h
   . rw[aai e] at h ⊢
     exact S'.own j o' h
 . by_cases ej:i=j
   . by_cases ek:i=k
     . omega
     . subst ej
       rw[aai ek] at h2 h4
       by_cases hl:i < st.length
       . rw[aah hl] at h3;cases h3
         exact absurd rfl (pn k o2 _ h2 h4)
       . rw[aaC (by simp;omega)] at h3;cases h3
   . rw[aai ej] at h1 h3
     by_cases ek:i=k
     . subst ek
       by_cases hl:i < st.length
       . rw[aah hl] at h4;cases h4
         exact absurd rfl (pn j o1 _ h1 h3)
       . rw[aaC (by simp;omega)] at h4;cases h4
     . rw[aai ek] at h2 h4
       exact S.Gm j k o1 o2 a h1 h2 h3 h4
theorem dO.bF (S:dO K G st Hf H dl){i:Nat}(hd:dl[i]?=some (.own w)):∃ aI,aG Hf aI/\dO K G st aI H (dl.set i (.val (UX w))):=by
 have ln:=S.len
 obtain⟨p,h1,h2,h3,h4⟩:=S.own i w hd
 obtain⟨u,hu,rp⟩:=Et h4 h2
 have hl:i < dl.length:=(aag.mp hd).1
 have sm:aG Hf (upd Hf p u):=bN h2
 refine⟨upd Hf p u,sm,⟨S.gr.big,S.gr.bF.trans sm,fun b o h=>?_,fun a o h=>?_⟩,by simp[S.len],fun j x h=>?_,fun j o' h=>?_,fun j k o1 o2 a q1 q2 q3 q4=>?_⟩
 . by_cases hb:b=p
   . subst hb;rw[ak] at h;cases h;exact hu
   . rw[ah hb] at h;exact S.gr.sub _ _ h
 . by_cases hb:a=p
   . subst hb;exact .inr (.inl h3)
   . rw[ah hb] at h;exact S.gr.new a o h
 . by_cases e:i=j
   . subst e
     rw[aah hl] at h;cases h
     exact⟨_,h1,rp⟩
   . rw[aai e] at h
     obtain⟨v,z1,z2⟩:=S.val j x h
     exact⟨v,z1,z2.mono sm⟩
 . by_cases e:i=j
   . subst e;rw[aah hl] at h;cases h
   . rw[aai e] at h
     obtain⟨a,z1,z2,z3,z4⟩:=S.own j o' h
     have ne:a≠p:=fun q=>by subst q;exact e (S.Gm i j _ _ _ hd h h1 z1)
     exact⟨a,z1,by rw[ah ne];exact z2,z3,z4.grow rfl sm⟩
 . have tr:∀ (j:Nat) o',(dl.set i (.val (UX w)))[j]?=some (.own o')->dl[j]?=some (.own o'):=fun j o' h=>by
     by_cases e:i=j
     . subst e;rw[aah hl] at h;cases h
     . rw[aai e] at h;exact h
   exact S.Gm j k _ _ a (tr _ _ q1) (tr _ _ q2) q3 q4
end
section
variable {X:Cx}{G:Gr}{E:XK}{dl:List Slot}{a b e:Expr}{i:Int}{d:Dt}{ds:List Dt}{pos p:Pos}{o:Out}{x:Str}{u v:Bool}{sts:List Stmt}{C:Addr}{w:Own}{fs:List (Str×Dt)}
theorem Mw (h:EO X G dl e w):EE X G dl e (UX w):=gc h fun st H Q zq=>Bn zq fun Hf zq=>have S:=zq.1;have k:=zq.2;⟨Hf,S,fun p aI H' g n n' r=>by
 obtain⟨u,hu,rp⟩:=Et r n'
 exact k _ _ H' (IE g n n' hu) rp⟩
theorem lz (h:EO X G dl e (.lst ds)):EE X G dl e (.lst ds):=Mw h
theorem UY (h:EO X G dl e (.obj C fs)):EE X G dl e (.obj C fs):=Mw h
theorem Eu {w':Own}(h:EO X G dl e w)(q:w=w'):EO X G dl e w':=by subst q;exact h
theorem jI (n:Nat){x:Str}{pos':Pos}(hN:X.N.Nodup)(he:EO X G dl e w)(hi:X.N[n]?=some x:=by rfl)(hx:Loc X.env.scope x:=by first | exact aaG rfl | exact aaD rfl)(hs:swapsWith e (some (.Name x pos')) pos.line X.env=pure false:=by rfl)(hf:X.fn x=true\/X.env.scope.names.lookup x=some .local:=by first | exact .inl rfl | exact .inr rfl | assumption):ES X G E dl (.Assign [.Name x pos'] e pos) (.nx (dl.set n (.own w))):=
 tL (CB hN hi hx he hs hf) fun D st H zq=>Bn zq fun Hf zq=>have S:=zq.1;have k:=zq.2;⟨Hf,S,fun p Hf1 H1 g1 n1 n2 r1=>k _ Hf1 H1 g1.bF (S.Mv g1 n1 n2 r1)⟩
theorem lW (h:EO X G dl e w):ES X G E dl (.Return (some e) pos) (.ro w):=tL (Cz h) fun D st H zq=>Bn zq fun Hf zq=>have S:=zq.1;have k:=zq.2;⟨Hf,S,fun p Hf1 H1 g1 n1 n2 r1=>k p Hf1 H1 (S.gr.trans g1) (S.gr.big.free n1) n2 r1⟩
theorem Mx (n:Nat)(hd:dl[n]?=some (.own w):=by rfl)(hN:X.N[n]?=some x:=by rfl)(hv:vn X.env.scope x:=by first | exact aaG rfl | exact aaD (aaG rfl) | exact aaD (aaD rfl))(hb:(x == ("__debug__":Str))=false:=by decide)(ml:(x == ("__classdict__":Str))=false:=by decide):ES X G E dl (.Return (some (.Name x p)) pos) (.ro w):=
 tL (Cz (jv hN hv hb ml)) fun D st H zq=>Bn zq fun Hf zq=>have S:=zq.1;have k:=zq.2;by
   obtain⟨q,h1,h2,h3,h4⟩:=S.own n w hd
   exact⟨_,h1,k q Hf H S.gr h3 h2 h4⟩
theorem qk (i:Nat)(h:nM X G E (dl.set i (.val (UX w))) sts o)(hd:dl[i]?=some (.own w):=by rfl):nM X G E dl sts o:=A7 h fun D st H zq=>Bn zq fun Hf zq=>have S:=zq.1;have k:=zq.2;by
 obtain⟨aI,sm,S'⟩:=S.bF hd
 exact⟨aI,S',k.mono sm⟩
def tOv (K:W.Frag)(G:Gr)(dl:List Slot)(n:Nat)(w:Own):TE:=fun st H Q=>∃ Hf a,dO K G st Hf H dl/\st[n]?=some (some (.ref a))/\Hf a=none/\gW K Hf H a w/\Q (.ref a) H
theorem vL (n:Nat)(hd:dl[n]?=some (.own w))(hN:X.N[n]?=some x)(hv:vn X.env.scope x)(hb:(x == ("__debug__":Str))=false)(ml:(x == ("__classdict__":Str))=false):PE X (.Name x p) (tOv X.K G dl n w):=
 gc (jv hN hv hb ml) fun st H Q ⟨Hf,a,S,h1,_,_,q⟩=>⟨_,h1,q⟩
theorem sx (n:Nat)(hb:EE X G dl b (.int i))(h:oU ds i=some d)(hd:dl[n]?=some (.own (.lst ds)):=by rfl)(hN:X.N[n]?=some x:=by rfl)(hv:vn X.env.scope x:=by first | exact aaG rfl | exact aaD (aaG rfl) | exact aaD (aaD rfl))(mQ:(x == ("__debug__":Str))=false:=by decide)(ml:(x == ("__classdict__":Str))=false:=by decide)(hs:kG b:=by intro _ _;rfl):EE X G dl (.Subscript (.Name x p) b pos) d:=
 gc (vz yR (vL (p:=p) n hd hN hv mQ ml) hb hs) fun st H Q zq=>Bn zq fun Hf zq=>have S:=zq.1;have k:=zq.2;by
   obtain⟨q,h1,h2,h3,h4⟩:=S.own n _ hd
   refine⟨Hf,q,S,h1,h2,h4,Hf,S,fun z Hf1 H1 g1 r1=>?_⟩
   cases r1
   obtain⟨vs,hq,rp⟩:=h4
   obtain⟨v,hv1,hv2⟩:=rp.oU h
   exact⟨q,vs,i,v,rfl,rfl,.of (g1.big _ _ hq),hv1,k v Hf1 H1 g1 (hv2.mono g1.bF)⟩
theorem mv (n:Nat){m:Nat}{ps pn:Pos}(he:EE X G dl e d)(hb:EE X G dl b (.int i))(h:CM ds.length i=some m)(hd:dl[n]?=some (.own (.lst ds)):=by rfl)(hN:X.N[n]?=some x:=by rfl)
   (hv:vn X.env.scope x:=by first | exact aaG rfl | exact aaD (aaG rfl) | exact aaD (aaD rfl)) (mQ:(x == ("__debug__":Str))=false:=by decide) (ml:(x == ("__classdict__":Str))=false:=by decide)
   (ha:∀ v,assign (.Subscript (.Name x pn) b ps) X.env v=(do
     let ov <- holding [v] (eval (.Name x pn) X.env)
     let iv <- holding [v,ov] (eval b X.env)
     standAt ps
     holding [v,ov,iv] (setItem ov iv v)
     release [v,ov,iv] []):=by intro _;rfl)
   (hs:swapsWithSole [.Subscript (.Name x pn) b ps] e pos.line X.env=pure false:=by rfl) (hw:swappedStores [.Subscript (.Name x pn) b ps] e X.env=pure none:=by rfl)
   (h1:(assignEach [.Subscript (.Name x pn) b ps] X.env).map (·.2)=[assign (.Subscript (.Name x pn) b ps) X.env]:=by rfl) :
   ES X G E dl (.Assign [.Subscript (.Name x pn) b ps] e pos) (.nx (dl.set n (.own (.lst (ds.set m d))))):=
 tL (CA he (P7 (vL (p:=pn) n hd hN hv mQ ml) hb set_list ha) hs hw h1) fun D st H zq=>Bn zq fun Hf zq=>have S:=zq.1;have k:=zq.2;⟨Hf,S,fun v Hf1 H1 g1 r1=>by
   have S1:=S.grow g1
   obtain⟨q,z1,z2,z3,z4⟩:=S1.own n _ hd
   refine⟨Hf1,q,S1,z1,z2,z4,Hf1,S1,fun iv bV H2 g2 r2=>?_⟩
   cases r2
   have S2:=S1.grow g2
   obtain⟨q',y1,y2,y3,vs,hq,rp⟩:=S2.own n _ hd
   rw[z1] at y1;cases y1
   refine⟨q,vs,i,m,rfl,rfl,hq,by rw[rp.length];exact h,?_⟩
   exact k st bV _ (g1.bF.trans g2.bF) (S2.Gn hd z1 ⟨_,ak,rp.set (r1.mono g2.bF) m⟩)⟩
end
section
variable {X:Cx}{G:Gr}{E:XK}{dl:List Slot}{a b e:Expr}{es:List Expr}{i j:Int}{d d1 d2:Dt}{ds Ym:List Dt}{pos p apos bH:Pos}{x:Str}{v:Bool}{s:Stmt}
theorem ql (h:EA X G dl es ds)(hl:ds.length<=sizeLine:=by decide):EO X G dl (.List es pos) (.lst ds):=
 gc (vy h) fun st H Q zq=>Bn zq fun Hf zq=>have S:=zq.1;have k:=zq.2;⟨Hf,S,fun vs Hf1 H1 g1 r1=>⟨by rw[r1.length];exact hl,fun p hp=>k p Hf1 _ (g1.trans (.eX g1.sub hp)) (g1.big.free hp) (g1.sub.free hp) ⟨vs,ak,r1⟩⟩⟩
theorem OH {op:Operator}{r:R2}(ho:n9 X (binaryOp op) r)(ha:EE X G dl a d1)(hb:EE X G dl b d2)(h:∀ v z Hf H Q,aG Hf H->Rep X.K Hf v d1->Rep X.K Hf z d2->(∀ p vs,H p=none->bB X.K Hf vs ds->Q (.ref p) (upd H p (.lst vs)))->r v z H Q):EO X G dl (.BinOp a op b pos) (.lst ds):=
 gc (Ox ho ha hb) fun st H Q zq=>Bn zq fun Hf zq=>have S:=zq.1;have k:=zq.2;⟨Hf,S,fun v Hf1 H1 g1 r1=>⟨Hf1,S.grow g1,fun z bV H2 g2 r2=>h v z bV H2 Q g2.sub (r1.mono g2.bF) r2 fun p vs hp rv=>
   k p bV _ ((g1.trans g2).trans (.eX g2.sub hp)) ((g1.trans g2).big.free hp) (g2.sub.free hp) ⟨vs,ak,rv⟩⟩⟩
theorem CZ (ha:EE X G dl a (.lst ds))(hb:EE X G dl b (.lst Ym))(hl:ds.length+Ym.length<=sizeLine):EO X G dl (.BinOp a .Add b pos) (.lst (ds ++ Ym)):=
 OH Qw ha hb fun v z Hf H Q s r1 r2 k=>by
   cases r1 with
   | lst h1 q1=>cases r2 with
     | lst h2 q2=>exact⟨_,_,_,_,rfl,rfl,s _ _ h1,s _ _ h2,by rw[q1.length,q2.length];exact hl,fun p hp=>k p _ hp (q1.append q2)⟩
theorem Bc {K:W.Frag}{H:Hp}{vs:List V}{ds:List Dt}(r:bB K H vs ds):∀ n:Nat,bB K H (aak n vs).flatten (aak n ds).flatten
 | 0=>.nil
 | n+1=>by
   rw[aba,aba,aaU,aaU]
   exact r.append (Bc r n)
theorem IF (ha:EE X G dl a (.lst ds))(hb:EE X G dl b (.int i))(h1:-(2 ^ 63)<=i)(h2:i < 2 ^ 63)(hl:ds.length * i.toNat<=sizeLine):EO X G dl (.BinOp a .Mult b pos) (.lst (aak i.toNat ds).flatten):=
 OH Qx ha hb fun v z Hf H Q s r1 r2 k=>by
   cases r1 with
   | lst q1 r1=>cases r2;exact⟨_,i,_,rfl,rfl,s _ _ q1,h1,h2,by rw[r1.length];exact hl,fun p hp=>k p _ hp (Bc r1 _)⟩
theorem My (hm:X.mg "list"=none)(ha:EE X G dl a (.lst ds))(hg:Gl X "list":=by rfl)(he:starEach [a] X.env=[(false,eval a X.env)]:=by rfl):EO X G dl (.Call (.Name "list" p) [a] [] pos) (.lst ds):=
 gc (lp qO hg hm boot_list (ae ha ai he) (he:=he)) fun st H Q zq=>Bn zq fun Hf zq=>have S:=zq.1;have k:=zq.2;⟨Hf,S,fun vs Hf1 H1 g1 r1=>by
   cases r1 with
   | cons r t=>cases t;cases r with
     | @lst q vs _ z r=>exact⟨q,vs,rfl,.inl (.of (g1.sub _ _ z)),fun l hl=>k l Hf1 _ (g1.trans (.eX g1.sub hl)) (g1.big.free hl) (g1.sub.free hl) ⟨vs,ak,r⟩⟩⟩
theorem Gv:bootBuiltins "max"=some (.builtin "max"):=by decide +kernel
theorem Gw:bootBuiltins "min"=some (.builtin "min"):=by decide +kernel
theorem QV (hm:X.mg "max"=none)(hc:X.calm=true)(ha:EA X G dl [a,b] [.int i,.int j])(hg:Gl X "max":=by rfl)(he:starEach [a,b] X.env=(false,eval a X.env)::starEach [b] X.env:=by rfl)(nZ:(backTo pos (starEach [b] X.env)).any (·.1)=false:=by rfl) :
   EE X G dl (.Call (.Name "max" p) [a,b] [] pos) (.int (if j > i then j else i)):=
 gc (dY (F4 hc) hg hm Gv ha (by decide) (by decide) he nZ) fun st H Q zq=>Bn zq fun Hf zq=>have S:=zq.1;have k:=zq.2;⟨Hf,S,fun vs Hf1 H1 g1 r1=>by
   cases r1 with
   | cons r1 t1=>cases t1 with
     | cons r2 t2=>cases t2;cases r1;cases r2;exact⟨i,j,rfl,k _ Hf1 H1 g1 (.int _)⟩⟩
theorem IG (hm:X.mg "min"=none)(hc:X.calm=true)(ha:EA X G dl [a,b] [.int i,.int j])(hg:Gl X "min":=by rfl)(he:starEach [a,b] X.env=(false,eval a X.env)::starEach [b] X.env:=by rfl)(nZ:(backTo pos (starEach [b] X.env)).any (·.1)=false:=by rfl) :
   EE X G dl (.Call (.Name "min" p) [a,b] [] pos) (.int (if j < i then j else i)):=
 gc (dY (F5 hc) hg hm Gw ha (by decide) (by decide) he nZ) fun st H Q zq=>Bn zq fun Hf zq=>have S:=zq.1;have k:=zq.2;⟨Hf,S,fun vs Hf1 H1 g1 r1=>by
   cases r1 with
   | cons r1 t1=>cases t1 with
     | cons r2 t2=>cases t2;cases r1;cases r2;exact⟨i,j,rfl,k _ Hf1 H1 g1 (.int _)⟩⟩
theorem sy (n:Nat){pn:Pos}(he:EE X G dl e d)(hl:ds.length < sizeLine)(hd:dl[n]?=some (.own (.lst ds)):=by rfl)(hN:X.N[n]?=some x:=by rfl)(hv:vn X.env.scope x:=by first | exact aaG rfl | exact aaD (aaG rfl) | exact aaD (aaD rfl))
   (mQ:(x == ("__debug__":Str))=false:=by decide) (ml:(x == ("__classdict__":Str))=false:=by decide)
   (iS:attributeBase (.Name x pn) "append" X.env (eval (.Name x pn) X.env)=eval (.Name x pn) X.env:=by rfl)
   (r6:((backTo bH (starEach [e] X.env)).all (fun x=>!x.1) && (backToKw bH (keywordEach [] X.env)).all (fun x=>x.1.isSome) && decide ([e].length+([]:List Keyword).length+(if ([]:List Keyword).isEmpty then 0 else 1) < 30))=true:=by rfl)
   (iU:(apos.endLine == bH.line)=true:=by rfl) (nL:starEach [e] X.env=(false,eval e X.env)::starEach [] X.env:=by rfl) (hs:swapsWith (.Call (.Attribute (.Name x pn) "append" apos) [e] [] bH) none pos.line X.env=pure false:=by rfl) :
   ES X G E dl (.Expr (.Call (.Attribute (.Name x pn) "append" apos) [e] [] bH) pos) (.nx (dl.set n (.own (.lst (ds ++ [d]))))):=
 tL (lR (tG PySem.F.plainAttrs_list PySem.F.slot_list_append PySem.F.type_list_append oV (vL (p:=pn) n hd hN hv mQ ml) (ae he ai nL) iS r6 iU nL rfl) hs) fun D st H zq=>Bn zq fun Hf zq=>have S:=zq.1;have k:=zq.2;by
   obtain⟨q,z1,z2,z3,vs,hq,rp⟩:=S.own n _ hd
   refine⟨Hf,q,S,z1,z2,⟨vs,hq,rp⟩,.inl ⟨rfl,vs,.of hq⟩,Hf,S,fun us Hf1 H1 g1 r1=>?_⟩
   cases r1 with
   | cons r1 t1=>
     cases t1
     refine⟨q,vs,_,rfl,rfl,g1.big _ _ hq,by rw[rp.length];exact hl,?_⟩
     exact k st Hf1 _ g1.bF ((S.grow g1).Gn hd z1 ⟨_,ak,(rp.mono g1.bF).append (.cons r1 .nil)⟩)
theorem o3 {K:W.Frag}{H:Hp}:∀ {vs:List V} {xs:List Str},bB K H vs (xs.map Dt.str)->vs=xs.map V.str
 | _,[],.nil=>rfl
 | _,x::xs,.cons r t=>by cases r;rw[o3 t];rfl
end
noncomputable def Bd:Option Slot->Slot
 | some (.val d)=>.val d
 | _=>.aJ
theorem yk {o:Option Slot}{w:Own}(h:Bd o=.own w):False:=by
 unfold Bd at h
 split at h <;> cases h
theorem yl {o:Option Slot}{d:Dt}(h:Bd o=.val d):o=some (.val d):=by
 unfold Bd at h
 split at h
 . cases h;rfl
 . cases h
noncomputable def jt (dl:List Slot)(ix:List Nat):List Slot:=ix.map fun j=>Bd dl[j]?
section
variable {K:W.Frag}{G:Gr}{st:L2.St}{Hf H Hf1 H1:Hp}{dl:List Slot}{ix:List Nat}
theorem Mz (S:dO K G st Hf H dl)(s1:aG Hf Hf1)(sb:aG Hf1 H1){v:V}{d:Dt}(r:Rep K Hf1 v d):dO K ⟨Hf1,H1⟩ (some v::frees ix st) Hf1 H1 (.val d::jt dl ix):=by
 have no:∀ (i:Nat) o,(Slot.val d::jt dl ix)[i]?≠some (.own o):=fun i o h=>by
   cases i with
   | zero=>cases h
   | succ i=>
     rw[aa2] at h
     unfold jt at h
     rw[YL] at h
     cases q:ix[i]? with
     | none=>rw[q] at h;cases h
     | some j=>
       rw[q] at h
       exact yk (Option.some.inj h)
 refine⟨.refl sb,by simp[frees,jt],fun i x h=>?_,fun i o h=>absurd h (no i o),fun i j o o' a h=>absurd h (no i o)⟩
 cases i with
 | zero=>cases h;exact⟨v,rfl,r⟩
 | succ i=>
   rw[aa2] at h ⊢
   unfold jt at h
   unfold frees
   rw[YL] at h ⊢
   cases q:ix[i]? with
   | none=>rw[q] at h;cases h
   | some j=>
     rw[q] at h
     have hd:=yl (Option.some.inj h)
     obtain⟨v',z1,z2⟩:=S.val j x hd
     exact⟨v',by rw[Option.map_some,z1];rfl,z2.mono s1⟩
end
section
variable {X:Cx}{G:Gr}{E:XK}{dl:List Slot}{a b elt iter:Expr}{i j:Int}{ys:List Dt}{zs:Nat->Dt}{pos p px py qW:Pos}{o:Out}{x y:Str}{N:List Str}{ix:List Nat}{sc:Scope}{n:Nat}
def IH (X:Cx)(N:List Str)(sc:Scope)(dl:List Slot)(ix:List Nat)(elt:Expr)(n:Nat)(zs:Nat->Dt)(ys:List Dt):Prop:=
 ∀ k,k < n->∀ C fp s H G',EE (a5 X N sc C fp s H) G' (.val (zs k)::jt dl ix) elt (ys.getD k .cW)
def QW (K:W.Frag)(dl:List Slot)(ix:List Nat)(n:Nat)(zs:Nat->Dt)(ys:List Dt):TE:=fun st H Q=>∃ k G',k < n/\tD K G' (.val (zs k)::jt dl ix) (ys.getD k .cW) st H Q
theorem II (h:IH X N sc dl ix elt n zs ys):∀ C fp s H,PE (a5 X N sc C fp s H) elt (QW X.K dl ix n zs ys):=fun C fp s H pins s' st H' Q I ⟨k,G',hk,q⟩=>h k hk C fp s H G' pins s' st H' Q I q
theorem IJ {st:L2.St}{Hf H:Hp}{J:It}{Q:VK}(S:dO X.K G st Hf H dl)(Tw:ys.length=n)(hn:n<=sizeLine)(go:∀ Hf1 H1,bo Hf H Hf1 H1->∀ i,(i < n->J.go i H1/\∀ v H2,J.HJ i H1 v H2->H2=H1/\Rep X.K Hf1 v (zs i))/\(i=n->J.stop i H1))(k:∀ p aI H',bo Hf H aI H'->H p=none->aI p=none->gW X.K aI H' p (.lst ys)->Q (.ref p) H'):∀ D,H D=none->QU (QW X.K dl ix n zs ys) (frees ix st) J D (fun _ H'=>Q (.ref D) H') H:=by
 intro D hD
 refine⟨fun i m vs H1=>m=n - i/\i<=n/\∃ Hf1,bo Hf H Hf1 H1/\Hf1 D=none/\H1 D=some (.lst vs)/\bB X.K Hf1 vs (ys.take i),⟨n,rfl,aa1 _,Hf,.eX S.sub hD,S.sub.free hD,ak,.nil⟩,?_⟩
 rintro i m vs H1 ⟨rfl,hi,Hf1,g1,UZ,Tx,rp⟩
 have hlen:=rp.length
 rw[aax] at hlen
 by_cases dg:i < n
 . obtain⟨U0,hy⟩:=(go Hf1 H1 g1 i).1 dg
   refine .inr ⟨U0,by omega,fun v H2 y=>?_⟩
   obtain⟨e,rv⟩:=hy v H2 y
   subst e
   refine⟨i,⟨Hf1,H2⟩,dg,Hf1,Mz S g1.bF g1.sub rv,fun z bV H3 g2 r2=>?_⟩
   have hD3:H3 D=some (.lst vs):=g2.big _ _ Tx
   have hD4:bV D=none:=by
     cases q:bV D with
     | none=>rfl
     | some u=>
       obtain⟨o,z⟩:=g2.yW Tx (fun z=>z) q
       rw[UZ] at z;cases z
   have g:=g1.trans g2
   refine⟨hD3,n - (i+1),by omega,rfl,dg,bV,⟨fun a o h=>?_,g.bF,fun a o h=>?_,g.new⟩,hD4,ak,?_⟩
   . rw[ah (aw h hD)];exact g.big _ _ h
   . rw[ah (aw h hD4)];exact g2.sub _ _ h
   . have:ys.take (i+1)=ys.take i ++ [ys.getD i .cW]:=by
       rw[aa6,WW,k3 (by omega)];rfl
     rw[this]
     exact(rp.mono g2.bF).append (.cons r2 .nil)
 . have e:i=n:=by omega
   subst e
   refine .inl ⟨(go Hf1 H1 g1 i).2 rfl,k D Hf1 H1 g1 hD UZ ⟨vs,Tx,?_⟩⟩
   rw[abj (by omega)] at rp
   exact rp
def Yn (wi:TI)(ix:List Nat)(te:TE):TE:=fun st H Q=>wi st H fun J H1=>∀ D,H1 D=none->QU te (frees ix st) J D (fun _ H'=>Q (.ref D) H') H1
theorem U1 {wi:TI}{te:TE}(hc:X.calm=true)(B:gX X N ix x sc)(hi:PI X (.Name x px) iter wi)(iW:∀ C fp s H,PE (a5 X N sc C fp s H) elt te)(hs:∀ z,foldedSetIterable iter X.env z=pure z):PE X (.ListComp elt [⟨.Name x px,iter,[],0⟩] sc pos) (Yn wi ix te):=by
 intro pins s st H Q I h
 rw[eval_ListComp]
 refine wpAny_comprehension_free (use:=none) rfl hs (Iz B I.ok) B.kind B.names (b7 (hi pins s st H _ I h) fun v s1 h1=>b7 h1 fun Ow s2 h2=>?_)
 obtain⟨it,fp,tn,J,H2,e,I2,T,D6,f2,hq⟩:=h2
 subst e
 refine Er (RR:=fun acc C=>compPost (model X.prog X.w) X.A X.xe none (EP X pins st Q) acc C) hc B iW I2 T D6 f2 hq ?_
 intro D C ws H' s' I' ⟨m,hn⟩ mw q
 exact⟨m,hn,fun h' IK=>⟨.ref D,H',I'.turned (t':=s'.toks) (it:=C) (fun b o hb e=>(IK.2 b hb).trans e) mw.1 mw.2.1 mw.2.2.2.1 mw.2.2.2.2.1 mw.2.2.2.2.2,rfl,q⟩⟩
theorem U2 {wi:TI}{te:TE}{nN:Nat}(hc:X.calm=true)(B:gX X N ix x sc)(hi:PI X (.Name x px) iter wi)(iW:∀ C fp s H,PE (a5 X N sc C fp s H) elt te)(hs:∀ z,foldedSetIterable iter X.env z=pure z)(IL:swapsWith (.ListComp elt [⟨.Name x px,iter,[],0⟩] sc pos) (some (.Name y py)) qW.line X.env=pure true)(hN:X.N.Nodup)(hy:X.N[nN]?=some y)(hl:Loc X.env.scope y)(hf:X.fn y=true\/X.env.scope.names.lookup y=some .local):PS X (.Assign [.Name y py] (.ListComp elt [⟨.Name x px,iter,[],0⟩] sc pos) qW) (fun D st H=>Yn wi ix te st H fun v H'=>D.nx (st.set nN (some v)) H'):=by
 intro pins s st H D0 I h
 rw[exec_Assign_Name_used _ _ _ _ IL]
 refine wpAny_bind (wpAny_standAt (wpAny_bind ?_))
 show wpAny _ X.A (do let _ <- comprehension (.ListComp elt [⟨.Name x px,iter,[],0⟩] sc pos) sc X.env _ (newList []) false (eval iter X.env) (some (assign (.Name y py) X.env))) _ _ s
 refine wpAny_bind (wpAny_mono (wpAny_comprehension_free (use:=some (assign (.Name y py) X.env)) (Q:=fun _ s'=>SP X pins D0 .next s') rfl hs (Iz B I.ok) B.kind B.names (b7 (hi pins s st H _ I h) fun v s1 h1=>b7 h1 fun Ow s2 h2=>?_)) (fun _ s' hq=>wpAny_pure (wpAny_pure hq)) fun _ _ z=>z)
 obtain⟨it,fp,tn,J,H2,e,I2,T,D6,f2,hq⟩:=h2
 subst e
 refine Er (RR:=fun acc C=>compPost (model X.prog X.w) X.A X.xe (some (assign (.Name y py) X.env)) (fun _ s'=>SP X pins D0 .next s') acc C) hc B iW I2 T D6 f2 hq ?_
 intro D C ws H' s' I' ⟨m,hn⟩ mw q
 refine wpAny_assign_Name (oR I' hN hy hl (v:=.ref D) rfl (fun Mc U3 ⟨ad,CY,ha⟩=>?_) hf)
 have ne:C≠ad:=by
   rcases ha with z | z
   . rw[z];exact mw.2.1
   . exact Ne.symm (mw.2.2.2.2.1 _ _ z)
 exact⟨m,hn.sameBut CY ne,fun h' IK=>⟨_,H',U3.turned (t':=Mc.toks) (it:=C) (fun b o hb e=>(IK.2 b hb).trans e) mw.1 mw.2.1 mw.2.2.2.1 mw.2.2.2.2.1 mw.2.2.2.2.2,q⟩⟩
def IM (X:Cx)(G:Gr)(dl:List Slot)(n:Nat)(zs:Nat->Dt)(wi:TI):Prop:=∀ st H (R:It->Hp->Prop),(∃ Hf,dO X.K G st Hf H dl/\∀ J IP H0,bo Hf H IP H0 ->
 (∀ Hf1 H1,bo IP H0 Hf1 H1->∀ i,(i < n->J.go i H1/\∀ v H2,J.HJ i H1 v H2->H2=H1/\Rep X.K Hf1 v (zs i))/\(i=n->J.stop i H1))->R J H0)->wi st H R
theorem vM (hn:-(2 ^ 62)<=j/\j < 2 ^ 62):IM X G dl j.toNat (fun k=>.int k) (HM (Tv X.K G dl [.int j])):=fun st H R zq=>Bn zq fun Hf zq=>have S:=zq.1;have k:=zq.2;⟨Hf,S,fun vs Hf1 H1 g1 r1=>by
 cases r1 with
 | cons r t=>
   cases t;cases r
   refine⟨j,rfl,hn.1,hn.2,k _ Hf1 H1 g1 fun bV H2 g2 i=>⟨fun hi=>⟨hi,fun v H3 hy=>?_⟩,fun hi=>by rw[hi];exact aae _⟩⟩
   obtain⟨e1,e2⟩:=hy
   subst e2
   rw[Int.zero_add]
   exact⟨e1,.int _⟩⟩
theorem Be {wi:TI}(hs:IM X G dl n zs wi)(Tw:ys.length=n)(hn:n<=sizeLine):∀ st H Q,W3 X.K G dl (.lst ys) st H Q->Yn wi ix (QW X.K dl ix n zs ys) st H Q:=fun st H Q zq=>Bn zq fun Hf zq=>have S:=zq.1;have k:=zq.2;
 hs st H _ ⟨Hf,S,fun J IP H0 g0 src=>IJ (S.grow g0) Tw hn src fun p aI H' g n1 n2 r=>k p aI H' (g0.trans g) (g0.big.free n1) n2 r⟩
theorem U4 {wi:TI}(hc:X.calm=true)(B:gX X N ix x sc)(hi:PI X (.Name x px) iter wi)(sA:IM X G dl n zs wi)(iW:IH X N sc dl ix elt n zs ys)(Tw:ys.length=n)(hn:n<=sizeLine)(hs:∀ z,foldedSetIterable iter X.env z=pure z:=by intro _;rfl):EO X G dl (.ListComp elt [⟨.Name x px,iter,[],0⟩] sc pos) (.lst ys):=gc (U1 hc B hi (II iW) hs) (Be sA Tw hn)
theorem OI (nN:Nat){wi:TI}(hc:X.calm=true)(hN:X.N.Nodup)(B:gX X N ix x sc)(hi:PI X (.Name x px) iter wi)(sA:IM X G dl n zs wi)(iW:IH X N sc dl ix elt n zs ys)(Tw:ys.length=n)(hn:n<=sizeLine)(hs:∀ z,foldedSetIterable iter X.env z=pure z:=by intro _;rfl)(IL:swapsWith (.ListComp elt [⟨.Name x px,iter,[],0⟩] sc pos) (some (.Name y py)) qW.line X.env=pure true:=by rfl)(hy:X.N[nN]?=some y:=by rfl)(hl:Loc X.env.scope y:=by first | exact aaG rfl | exact aaD rfl)(hf:X.fn y=true\/X.env.scope.names.lookup y=some .local:=by first | exact .inl rfl | exact .inr rfl | assumption):ES X G E dl (.Assign [.Name y py] (.ListComp elt [⟨.Name x px,iter,[],0⟩] sc pos) qW) (.nx (dl.set nN (.own (.lst ys)))):=
 tL (U2 hc B hi (II iW) hs IL hN hy hl hf) fun D st H zq=>Bn zq fun Hf zq=>have S:=zq.1;have k:=zq.2;Be sA Tw hn st H _ ⟨Hf,S,fun p aI H' g n1 n2 r=>k _ aI H' g.bF (S.Mv g n1 n2 r)⟩
end
theorem C0 {α:Type}{us:List α}{d:α}(h:(us ++ [d]).length=2):∃ a,us=[a]:=by
 match us,h with
 | [a],_=>exact⟨a,rfl⟩
 | [],h=>simp at h
 | _::_::r,h=>simp at h
theorem zi {α:Type}{us:List α}(h:(us ++ []).length=2):∃ a b,us=[a,b]:=by
 rw[aaZ] at h
 match us,h with
 | [a,b],_=>exact⟨a,b,rfl⟩
structure Bf (K:W.Frag)(x qual:Str)(st:Stmt)(f:Addr)(fd:FuncData):Prop where
 ex:∃ (oc:Value) (od:Option Addr) (dV kV doc pm:Value) (an:Option Addr) (bj ct:Value) (yf:Array (Option Value)),
   fd=W.fnOf x qual (cf st) (aA st) (af st) dV kV doc pm an bj ct/\K.lookup f=some ⟨oc,od,.func fd,yf⟩/\W.codeIn K bj qual=true
theorem qX {K:W.Frag}{x qual:Str}{st:Stmt}{f:Addr}{oc:Value}{od an:Option Addr}{yf:Array (Option Value)}{dV kV doc pm bj ct:Value}(l:K.lookup f=some ⟨oc,od,.func (W.fnOf x qual (cf st) (aA st) (af st) dV kV doc pm an bj ct),yf⟩)(c:W.codeIn K bj qual=true):Bf K x qual st f (W.fnOf x qual (cf st) (aA st) (af st) dV kV doc pm an bj ct):=⟨⟨oc,od,dV,kV,doc,pm,an,bj,ct,yf,rfl,l,c⟩⟩
section
variable {P:Program}{w:World}{K:W.Frag}{mg:Str->Option Value}{base:Heap}{CX:r0}{x qual:Str}{st:Stmt}{f:Addr}{fd:FuncData}{N ps:List Str}{k n:Nat}
theorem W4 {R:List Dt->Res->Prop}(F:Bf K x qual st f fd)(S:aq N ps (af st))(hn:ps.length=n)(qK:∀ (bj:Value) (A:Around) (outer:List Env) (s:Shared) (H:Hp) (E:XK) (G:Gr) (ds:List Dt) (r:Res),eQ k (A.deeper (envOfC qual (af st) s.heap.objs.size f bj))->ds.length=n->R ds r->∃ o,Comes o r/\nM (AQ CX P w K mg base N qual (af st) f bj A outer s H E) G E (slots N ds) (aA st) o):j4 P w K mg base CX (k+1) f fd ps (En K n R):=by
 obtain⟨oc,od,dV,kV,doc,pm,an,bj,ct,yf,rfl,lk,ml⟩:=F.ex
 refine HV lk ml S (fun vs H Q E ⟨Hf,ds,r,s,rp,hl,_⟩=>by rw[rp.length,hl,hn]) fun A outer s H vs Q E hr ⟨Hf,ds,r,sm,rp,hl,hR,hk⟩=>?_
 obtain⟨o,hc,hb⟩:=qK bj A outer s H E ⟨Hf,H⟩ ds r hr hl hR
 exact⟨_,hb,Hf,yj sm rp,hc.ends hk⟩
def Yo (K:W.Frag)(C:Addr)(Hf H:Hp)(x:Addr)(Q:VK)(E:XK):Res->Prop
 | .own w=>((∃ fs,w=.obj C fs)\/∃ fs gs nm n,w=.se C fs gs nm n)/\∀ aI H',bo Hf H aI H'->aI x=none->gW K aI H' x w->Q .cW H'
 | .exc c fs=>∀ od aI H',bo Hf H aI H'->ExcAt K aI od fs->E c od H'
 | .ret _=>False
def spI (K:W.Frag)(C:Addr)(n:Nat)(R:List Dt->Res->Prop):Sp:=fun vs H Q E=>∃ Hf H1 x dx args ds r,vs=.ref x::args/\H=upd H1 x (.ins C dx [])/\H1 x=none/\aG Hf H1/\bB K Hf args ds/\ds.length+1=n/\R ds r/\Yo K C Hf H1 x Q E r
inductive zj (C x:Addr):Out->Res->Prop
 | nx {dl:List Slot} {fs:List (Str×Dt)} (h:dl[0]?=some (.own (.A6 x C fs))):zj C x (.nx dl) (.own (.obj C fs))
 | ex (c:Value) (fs:List (Str×Dt)):zj C x (.ex c fs) (.exc c fs)
 | Yp {dl:List Slot} {fs:List (Str×Dt)} {gs:List (Nat->List (Key×FD))} {nm:List Str} {n:Nat} (h:dl[0]?=some (.own (.yX x C fs gs nm n))):zj C x (.nx dl) (.own (.se C fs gs nm n))
noncomputable def sC (N:List Str)(x C:Addr)(ds:List Dt):List Slot:=.own (.A6 x C [])::(ds.map Slot.val ++ aak (N.length - (ds.length+1)) .aJ)
theorem C1 {Hf H:Hp}{vs:List V}{ds:List Dt}{x dx C:Addr}(s:aG Hf H)(n:H x=none)(r:bB K Hf vs ds):dO K ⟨Hf,H⟩ (start N (.ref x::vs)) Hf (upd H x (.ins C dx [])) (sC N x C ds):=by
 have hl:=r.length
 have es:start N (V.ref x::vs)=some (.ref x)::(vs.map some ++ aak (N.length - (vs.length+1)) none):=by
   unfold L2.start
   simp
 have yL:∀ (i:Nat) o,(sC N x C ds)[i+1]?≠some (.own o):=fun i o h=>by
   unfold sC at h
   rw[aa2] at h
   by_cases hi:i < ds.length
   . rw[aaA (by simpa using hi),YL] at h
     cases e:ds[i]? with
     | none=>rw[e] at h;cases h
     | some a=>rw[e] at h;cases h
   . rw[aaB (by simpa using hi),aaR] at h
     split at h <;> cases h
 rw[es]
 refine⟨.eX s n,?_,fun i d h=>?_,fun i o h=>?_,fun i j o o' a h h' _ _=>?_⟩
 . unfold sC
   simp[hl]
 . cases i with
   | zero=>cases h
   | succ i=>
     unfold sC at h
     rw[aa2] at h ⊢
     by_cases hi:i < ds.length
     . rw[aaA (by simpa using hi),YL] at h
       cases e:ds[i]? with
       | none=>rw[e] at h;cases h
       | some a=>
         rw[e] at h;cases h
         obtain⟨v,h1,h2⟩:=r.get e
         refine⟨v,?_,h2⟩
         rw[aaA (by simp;omega),YL,h1];rfl
     . rw[aaB (by simpa using hi),aaR] at h
       split at h <;> cases h
 . cases i with
   | zero=>
     cases h
     exact⟨x,rfl,s.free n,n,rfl,dx,[],ak,.nil⟩
   | succ i=>exact absurd h (yL i o)
 . cases i with
   | zero=>cases j with
     | zero=>rfl
     | succ j=>exact absurd h' (yL j _)
   | succ i=>exact absurd h (yL i _)
theorem W5 {C:Addr}{R:List Dt->Res->Prop}(F:Bf K x qual st f fd)(S:aq N ps (af st))(hn:ps.length=n)(qK:∀ (bj:Value) (A:Around) (outer:List Env) (s:Shared) (H:Hp) (E:XK) (G:Gr) (z:Addr) (ds:List Dt) (r:Res),eQ k (A.deeper (envOfC qual (af st) s.heap.objs.size f bj))->ds.length+1=n->R ds r->∃ o,zj C z o r/\nM (AQ CX P w K mg base N qual (af st) f bj A outer s H E) G E (sC N z C ds) (aA st) o):j4 P w K mg base CX (k+1) f fd ps (spI K C n R):=by
 obtain⟨oc,od,dV,kV,doc,pm,an,bj,ct,yf,rfl,lk,ml⟩:=F.ex
 refine HV lk ml S (fun vs H Q E ⟨Hf,H1,z,dx,args,ds,r,e,_,_,_,rp,hl,_⟩=>by rw[e,aaI,rp.length,hl,hn]) fun A outer s H vs Q E hr ⟨Hf,H1,z,dx,args,ds,r,e1,e2,hz,sm,rp,hl,hR,hk⟩=>?_
 subst e1 e2
 obtain⟨o,hc,hb⟩:=qK bj A outer s _ E ⟨Hf,H1⟩ z ds r hr hl hR
 refine⟨_,hb,Hf,C1 sm hz rp,?_⟩
 cases hc with
 | nx h=>
   obtain⟨_,kk⟩:=hk
   intro jZ aI H' s' S'
   obtain⟨a,_,q2,_,q4⟩:=S'.own 0 _ h
   obtain⟨rfl,dx',fs',q5,q6⟩:=q4
   exact kk aI H' S'.gr q2 ⟨dx',fs',q5,q6⟩
 | Yp h=>
   obtain⟨_,kk⟩:=hk
   intro jZ aI H' s' S'
   obtain⟨a,_,q2,_,q4⟩:=S'.own 0 _ h
   obtain⟨rfl,q5⟩:=q4
   exact kk aI H' S'.gr q2 q5
 | ex c fs=>exact hk
end
noncomputable def putD (f:Str)(v:Dt):List (Str×Dt)->List (Str×Dt)
 | []=>[(f,v)]
 | (g,x)::r=>if g=f then (g,v)::r else (g,x)::putD f v r
theorem bb.put {K:W.Frag}{H:Hp}{f:Str}{v:V}{d:Dt}(q:Rep K H v d):∀ {vs:List (Str×V)} {ds:List (Str×Dt)},bb K H vs ds->bb K H (fq f v vs) (putD f d ds)
 | _,_,.nil=>.cons q .nil
 | (k,x)::vs,(_,y)::ds,.cons h r=>by
   unfold fq putD
   by_cases e:k=f
   . rw[if_pos e,if_pos e];exact .cons q r
   . rw[if_neg e,if_neg e];exact .cons h (bb.put q r)
section
variable {X:Cx}{G:Gr}{E:XK}{dl:List Slot}{e c:Expr}{es:List Expr}{d:Dt}{ds:List Dt}{pos p apos:Pos}{x m:Str}{C z:Addr}{fs:List (Str×Dt)}{CX:r0}{k k' n:Nat}{R:List Dt->Res->Prop}{ob:Expr}{wo:Own}{dvs:List Dt}{body:List Stmt}
theorem ki {fn:Str}{pn:Pos}(he:EE X G dl e d)(cl:uE X.K C)(na:bG X.K C fn)(hd:dl[0]?=some (.own (.A6 z C fs)):=by rfl)(hl:Nat.ble fs.length 999=true:=by rfl)(hN:X.N[0]?=some x:=by rfl)(hv:vn X.env.scope x:=by first | exact aaG rfl | exact aaD (aaG rfl) | exact aaD (aaD rfl))(mQ:(x == ("__debug__":Str))=false:=by decide)(ml:(x == ("__classdict__":Str))=false:=by decide)(hs:swapsWith e (some (.Attribute (.Name x pn) fn apos)) pos.line X.env=pure false:=by rfl):ES X G E dl (.Assign [.Attribute (.Name x pn) fn apos] e pos) (.nx (dl.set 0 (.own (.A6 z C (putD fn d fs))))):=
 tL (vx (vL (p:=pn) 0 hd hN hv mQ ml) he hs) fun D st H zq=>Bn zq fun Hf zq=>have S:=zq.1;have k:=zq.2;⟨Hf,S,fun v Hf1 H1 g1 r1=>by
   have S1:=S.grow g1
   obtain⟨a,q1,q2,q3,q4⟩:=S1.own 0 _ hd
   obtain⟨e1,dx,fv,q5,q6⟩:=id q4
   refine⟨Hf1,a,S1,q1,q2,q4,a,C,dx,fv,rfl,q5,cl,na,by rw[q6.length];exact Nat.lt_succ_of_le (aaJ hl),?_⟩
   exact k st Hf1 _ g1.bF (S1.Gn hd q1 ⟨e1,dx,_,ak,q6.put r1⟩)⟩
structure Tz (P:Program)(w:World)(K:W.Frag)(mg:Str->Option Value)(base:Heap)(CX:r0)(k:Nat)(x:Str)(C:Addr)(n:Nat)(R:List Dt->Res->Prop):Prop where
 ex:∃ f fd ps,j4 P w K mg base CX k f fd ps (spI K C n R)/\L2.Mk K C f/\mg x=some (.ref C)/\Binds K fd ps []
theorem uH (F:Tz X.prog X.w X.K X.mg X.base CX k x C n R)(nx:Ct CX)(hr:eQ k' X.A)(ha:EA X G dl (e::es) ds)(h:R ds (.own (.obj C fs)))(zd:k+1<=k':=by decide)(hl:ds.length+1=n:=by rfl)(hg:Gl X x:=by rfl)(mQ:(x == ("__debug__":Str))=false:=by decide)(he:starEach (e::es) X.env=(false,eval e X.env)::starEach es X.env:=by rfl)(nZ:(backTo pos (starEach es X.env)).any (·.1)=false:=by rfl):EO X G dl (.Call (.Name x p) (e::es) [] pos) (.obj C fs):=by
 obtain⟨f,fd,ps,Fo,M,hm,hb⟩:=F.ex
 refine gc (Eb (E:=E0) M Fo (hr.mono zd) hg hm hb .nil nx.passes ha mQ he nZ) fun st H Q zq=>Bn zq fun Hf zq=>have S:=zq.1;have kk:=zq.2;⟨Hf,S,fun vs Hf1 H1 g1 r1 y dx hy U5 ne=>?_⟩
 have Uz:(upd H1 dx (.own y)) y=none:=by rw[ah (Ne.symm ne)];exact hy
 have g2:bo Hf1 H1 Hf1 (upd H1 dx (.own y)):=.eX g1.sub U5
 refine⟨Hf1,upd H1 dx (.own y),y,dx,vs ++ [],ds,.own (.obj C fs),rfl,rfl,Uz,g2.sub,by rw[aaZ];exact r1,hl,h,.inl ⟨fs,rfl⟩,fun aI H' g n1 r=>⟨rfl,?_⟩⟩
 exact kk y aI H' ((g1.trans g2).trans g) (g1.big.free hy) n1 r
theorem Bg {gs:List (Nat->List (Key×FD))}{nm:List Str}{j:Nat}(F:Tz X.prog X.w X.K X.mg X.base CX k x C n R)(nx:Ct CX)(hr:eQ k' X.A)(ha:EA X G dl (e::es) ds)(h:R ds (.own (.se C fs gs nm j)))(zd:k+1<=k':=by decide)(hl:ds.length+1=n:=by rfl)(hg:Gl X x:=by rfl)(mQ:(x == ("__debug__":Str))=false:=by decide)(he:starEach (e::es) X.env=(false,eval e X.env)::starEach es X.env:=by rfl)(nZ:(backTo pos (starEach es X.env)).any (·.1)=false:=by rfl):EO X G dl (.Call (.Name x p) (e::es) [] pos) (.se C fs gs nm j):=by
 obtain⟨f,fd,ps,Fo,M,hm,hb⟩:=F.ex
 refine gc (Eb (E:=E0) M Fo (hr.mono zd) hg hm hb .nil nx.passes ha mQ he nZ) fun st H Q zq=>Bn zq fun Hf zq=>have S:=zq.1;have kk:=zq.2;⟨Hf,S,fun vs Hf1 H1 g1 r1 y dx hy U5 ne=>?_⟩
 have Uz:(upd H1 dx (.own y)) y=none:=by rw[ah (Ne.symm ne)];exact hy
 have g2:bo Hf1 H1 Hf1 (upd H1 dx (.own y)):=.eX g1.sub U5
 refine⟨Hf1,upd H1 dx (.own y),y,dx,vs ++ [],ds,.own (.se C fs gs nm j),rfl,rfl,Uz,g2.sub,by rw[aaZ];exact r1,hl,h,.inr ⟨fs,gs,nm,j,rfl⟩,fun aI H' g n1 r=>⟨rfl,?_⟩⟩
 exact kk y aI H' ((g1.trans g2).trans g) (g1.big.free hy) n1 r
theorem Bh (F:GF X.prog X.w X.K X.mg X.base CX k x n R)(nx:Ct CX)(hr:eQ k' X.A)(ha:EA X G dl (e::es) ds)(h:R ds (.own wo))(zd:k<=k':=by decide)(hl:ds.length=n:=by rfl)(hg:Gl X x:=by rfl)(mQ:(x == ("__debug__":Str))=false:=by decide)(he:starEach (e::es) X.env=(false,eval e X.env)::starEach es X.env:=by rfl)(nZ:(backTo pos (starEach es X.env)).any (·.1)=false:=by rfl):EO X G dl (.Call (.Name x p) (e::es) [] pos) wo:=by
 obtain⟨f,fd,ps,F,hm,hk,hb⟩:=F.ex
 exact gc (D9 (E:=E0) F (hr.mono zd) hg hm hk hb .nil nx.passes ha mQ he nZ) fun st H Q zq=>Bn zq fun Hf zq=>have S:=zq.1;have k:=zq.2;⟨Hf,S,fun vs Hf1 H1 g1 r1=>⟨Hf1,ds,.own wo,g1.sub,by rw[aaZ];exact r1,hl,h,fun p bV H2 g2 n1 n2 r2=>k p bV H2 (g1.trans g2) (g1.big.free n1) n2 r2⟩⟩
structure Hs (P:Program)(w:World)(K:W.Frag)(mg:Str->Option Value)(base:Heap)(CX:r0)(k:Nat)(C:Addr)(m:Str)(n:Nat)(dvs:List Dt)(R:List Dt->Res->Prop):Prop where
 cl:uE K C
 ex:∃ f fd ps Gq vds,j4 P w K mg base CX k f fd ps (En K n R)/\Meth K C m f/\Binds K fd ps Gq/\Vals vds Gq/\∀ H,bB K H vds dvs
theorem MA {P:Program}{w:World}{K:W.Frag}{mg:Str->Option Value}{base:Heap}(F:MF P w K mg base CX k C m n R):Hs P w K mg base CX k C m n [] R:=by
 obtain⟨f,fd,ps,Fo,hm,hb⟩:=F.ex
 exact⟨F.cl,f,fd,ps,[],[],Fo,hm,hb,.nil,fun _=>.nil⟩
theorem ym {pl:Sem Bool}(he:EE X G dl ob (.obj C fs))(F:Hs X.prog X.w X.K X.mg X.base CX k C m n dvs R)(nx:Ct CX)(hr:eQ k' X.A)(ha:EA X G dl (e::es) ds)(h:R (.obj C fs::(ds ++ dvs)) (.own wo))(zd:k<=k':=by decide)(hl:(Dt.obj C fs::(ds ++ dvs)).length=n:=by rfl)(tN:fs.lookup m=none:=by rfl)
   (nL:starEach (e::es) X.env=(false,eval e X.env)::starEach es X.env:=by rfl) (nZ:(backTo pos (starEach es X.env)).any (·.1)=false:=by rfl)
   (ht:eval (.Call (.Attribute ob m apos) (e::es) [] pos) X.env=(do
     let ov <- eval ob X.env
     standAt apos.atName
     let (f,first) <- holding [ov] (getMethod ov m pl)
     callWith pos f first (backTo pos (starEach (e::es) X.env)) (backToKw pos (keywordEach [] X.env))):=by rfl):EO X G dl (.Call (.Attribute ob m apos) (e::es) [] pos) wo:=by
 obtain⟨f,fd,ps,Gq,vds,Fo,hm,hb,hd,CW⟩:=F.ex
 exact gc (Ea (pl:=pl) (E:=E0) he F.cl hm Fo (hr.mono zd) hb hd nx.passes ha nL nZ ht) fun st H Q zq=>Bn zq fun Hf zq=>have S:=zq.1;have k:=zq.2;⟨Hf,S,fun v Hf1 H1 g1 r1=>by
   cases r1 with
   | @obj a _ dx fv _ q r=>
     exact⟨a,dx,fv,rfl,gd g1.sub q,r.none_of tN,Hf1,S.grow g1,fun vs bV H2 g2 r2=>⟨bV,_,.own wo,g2.sub,.cons (.obj (gd g2.bF q) (r.mono g2.bF)) (r2.append (CW _)),hl,h,fun p jq H3 g3 n1 n2 r3=>k p jq H3 ((g1.trans g2).trans g3) ((g1.trans g2).big.free n1) n2 r3⟩⟩⟩
theorem IQ {pl:Sem Bool}(he:EE X G dl ob (.obj C fs))(F:Hs X.prog X.w X.K X.mg X.base CX k C m n dvs R)(nx:Ct CX)(hr:eQ k' X.A)(h:R (.obj C fs::dvs) (.own wo))(zd:k<=k':=by decide)(hl:(Dt.obj C fs::dvs).length=n:=by rfl)(tN:fs.lookup m=none:=by rfl)
   (ht:eval (.Call (.Attribute ob m apos) [] [] pos) X.env=(do
     let ov <- eval ob X.env
     standAt apos.atName
     let (f,first) <- holding [ov] (getMethod ov m pl)
     callWith pos f first (backTo pos (starEach [] X.env)) (backToKw pos (keywordEach [] X.env))):=by rfl):EO X G dl (.Call (.Attribute ob m apos) [] [] pos) wo:=by
 obtain⟨f,fd,ps,Gq,vds,Fo,hm,hb,hd,CW⟩:=F.ex
 exact gc (AO (pl:=pl) (E:=E0) he F.cl hm Fo (hr.mono zd) hb hd nx.passes ht) fun st H Q zq=>Bn zq fun Hf zq=>have S:=zq.1;have k:=zq.2;⟨Hf,S,fun v Hf1 H1 g1 r1=>by
   cases r1 with
   | @obj a _ dx fv _ q r=>
     exact⟨a,dx,fv,rfl,gd g1.sub q,r.none_of tN,Hf1,_,.own wo,g1.sub,.cons (.obj q r) (CW _),hl,h,fun p jq H3 g3 n1 n2 r3=>k p jq H3 (g1.trans g3) (g1.big.free n1) n2 r3⟩⟩
theorem C3 {pl:Sem Bool}(he:EE X G dl ob (.obj C fs))(F:Hs X.prog X.w X.K X.mg X.base CX k C m n dvs R)(nx:Ct CX)(hr:eQ k' X.A)(ha:EA X G dl (e::es) ds)(h:R (.obj C fs::(ds ++ dvs)) (.ret d))(zd:k<=k':=by decide)(hl:(Dt.obj C fs::(ds ++ dvs)).length=n:=by rfl)(tN:fs.lookup m=none:=by rfl)
   (nL:starEach (e::es) X.env=(false,eval e X.env)::starEach es X.env:=by rfl) (nZ:(backTo pos (starEach es X.env)).any (·.1)=false:=by rfl)
   (ht:eval (.Call (.Attribute ob m apos) (e::es) [] pos) X.env=(do
     let ov <- eval ob X.env
     standAt apos.atName
     let (f,first) <- holding [ov] (getMethod ov m pl)
     callWith pos f first (backTo pos (starEach (e::es) X.env)) (backToKw pos (keywordEach [] X.env))):=by rfl):EE X G dl (.Call (.Attribute ob m apos) (e::es) [] pos) d:=by
 obtain⟨f,fd,ps,Gq,vds,Fo,hm,hb,hd,CW⟩:=F.ex
 exact Eo (pl:=pl) he F.cl hm Fo nx (hr.mono zd) hb hd CW ha hl h tN nL nZ ht
theorem MB {pl:Sem Bool}(he:EE X G dl ob (.obj C fs))(F:Hs X.prog X.w X.K X.mg X.base CX k C m n dvs R)(nx:Ct CX)(hr:eQ k' X.A)(h:R (.obj C fs::dvs) (.ret d))(zd:k<=k':=by decide)(hl:(Dt.obj C fs::dvs).length=n:=by rfl)(tN:fs.lookup m=none:=by rfl)
   (ht:eval (.Call (.Attribute ob m apos) [] [] pos) X.env=(do
     let ov <- eval ob X.env
     standAt apos.atName
     let (f,first) <- holding [ov] (getMethod ov m pl)
     callWith pos f first (backTo pos (starEach [] X.env)) (backToKw pos (keywordEach [] X.env))):=by rfl):EE X G dl (.Call (.Attribute ob m apos) [] [] pos) d:=by
 obtain⟨f,fd,ps,Gq,vds,Fo,hm,hb,hd,CW⟩:=F.ex
 exact A8 (pl:=pl) he F.cl hm Fo nx (hr.mono zd) hb hd CW hl h tN ht
def U6 (X:Cx)(G:Gr)(c:Expr):TT:=fun st H Q=>∃ dl b,EB X G dl c b/\UL X.K G dl b st H Q
theorem MC:PT X c (U6 X G c):=fun pins s st H Q I ⟨dl,b,h,q⟩=>h pins s st H Q I q
theorem IS (S:Nat->List Slot)(n:Nat)(hp:PassesOwn (model X.prog X.w) X.A X.env X.xe)(h0:Le (S 0) dl)(hc:∀ k,k < n->EB X G (S k) c true)(hn:EB X G (S n) c false)(hb:∀ k,k < n->Goes X G E body (S k) (S (k+1))):ES X G E dl (.While c body [] pos) (.nx (S n)):=by
 refine tL (AJ hp (MC (G:=G)) (qT (G:=G) (E:=E))) fun D st H ⟨Hf,S0,k⟩=>?_
 refine⟨fun m st H=>∃ i,m=n - i/\i<=n/\∃ Hf1,aG Hf Hf1/\dO X.K G st Hf1 H (S i),⟨n,0,rfl,aa1 _,Hf,aG.refl _,S0.weak h0⟩,?_⟩
 rintro m W6 H1 ⟨i,rfl,hi,Hf1,s1,S1⟩
 by_cases dg:i < n
 . refine⟨S i,true,hc i dg,Hf1,S1,fun bV H2 g2=>A4 ⟨fun jZ H'=>∃ jq,aG Hf jq/\dO X.K G jZ jq H' (S (i+1)),fun jZ H' h'=>⟨n - (i+1),by omega,i+1,rfl,dg,h'⟩,?_⟩⟩
   exact oZ (hb i dg) (S1.grow g2) (fun WO jq H3 s3 S3=>⟨jq,(s1.trans g2.bF).trans s3,S3⟩) (fun WO jq H3 s3 S3=>⟨jq,(s1.trans g2.bF).trans s3,S3⟩)
 . have e:i=n:=by omega
   subst e
   exact⟨S i,false,hn,Hf1,S1,fun bV H2 g2=>A3 (k _ bV H2 (s1.trans g2.bF) (S1.grow g2))⟩
end
noncomputable def vN (sc Bi:Scope)(XN N:List Str)(ix:List Nat)(x:Str):Bool:=
 decide N.Nodup && (decide (N=x::ix.map (fun j=>XN.getD j "")) && (decide (sc.kind=.function) && (sc.names.all (fun y=>decide (y.2≠.cell)) && (sc.names.all (fun y=>decide (y.2=.local->sc.names.lookup y.1=some .local)) && (decide (sc.names.lookup x=some .local) &&
   (sc.names.all (fun y=>decide (y.2=.free->Bi.names.lookup y.1=some .cell\/Bi.names.lookup y.1=some .free)) && ix.all (fun j=>decide (sc.names.lookup (XN.getD j "")=some .free) && decide (j < XN.length))))))))
theorem C4 {X:Cx}{sc Bi:Scope}{XN N:List Str}{ix:List Nat}{x:Str}(h:vN sc Bi XN N ix x=true)(e1:X.env.scope=Bi:=by rfl)(e2:X.N=XN:=by rfl):gX X N ix x sc:=by
 subst e1 e2
 unfold vN at h
 simp only[aaP,abK,decide_eq_true_eq] at h
 obtain⟨h1,h2,h3,h4,h5,h6,h7,h8⟩:=h
 refine⟨h1,h2,h3,h4,h5,h6,h7,fun j hj=>?_⟩
 obtain⟨q1,q2⟩:=h8 j hj
 refine⟨X.N.getD j "",?_,q1⟩
 rw[WW,k3 q2];rfl
noncomputable def eLc:Expr->Scope
 | .ListComp _ _ sc _=>sc
 | .Call _ (.ListComp _ _ sc _::_) _ _=>sc
 | _=>{ kind:=.function,names:=[],isGenerator:=false,isCoroutine:=false}
noncomputable def OJ:Stmt->Scope
 | .Assign _ e _=>eLc e
 | .Return (some e) _=>eLc e
 | _=>{ kind:=.function,names:=[],isGenerator:=false,isCoroutine:=false}
theorem vO (k:Str):∀ xs:List Str,Uw (.str k) (xs.map V.str)=decide (k∈xs)
 | []=>by simp[Uw]
 | x::xs=>by
   have ih:=vO k xs
   unfold Uw at ih ⊢
   rw[aaq,abl,ih]
   by_cases e:x=k
   . subst e;simp[LG]
   . have:¬ (k=x):=fun z=>e z.symm
     simp[LG,e,this]
theorem yn (xs:List Str):(xs.map V.str).all qL=true:=by
 induction xs with
 | nil=>rfl
 | cons x xs ih=>rw[aaq,abL,ih];rfl
section
variable {X:Cx}{G:Gr}{dl:List Slot}{a b:Expr}{pos:Pos}{k:Str}{xs:List Str}
theorem OK {neg:Bool}:Ek X.K (WR X.K neg) (.str k) (.tup (xs.map .str)) (.bl (if neg then !decide (k∈xs) else decide (k∈xs))):=fun v w Hf H Q s r1 r2 kk=>by
 cases r1
 cases r2 with
 | @tup q vs _ hq rp=>
   have ev:=o3 rp
   subst ev
   refine⟨q,_,rfl,.inr (bU s hq),rfl,yn xs,?_⟩
   rw[vO]
   exact kk _ Hf H (.refl s) (.bl _)
theorem C5 (ha:EE X G dl a (.str k))(hb:EE X G dl b (.tup (xs.map .str)))(hm:behindInMarks .In b=false:=by rfl):EB X G dl (.Compare a [.In] [b] pos) (decide (k∈xs)):=lx yg (OK (neg:=false)) hm ha hb
theorem Ew (ha:EE X G dl a (.str k))(hb:EE X G dl b (.tup (xs.map .str)))(hm:behindInMarks .NotIn b=false:=by rfl):EB X G dl (.Compare a [.NotIn] [b] pos) (!decide (k∈xs)):=lx qN (OK (neg:=true)) hm ha hb
end
theorem Bj {P:Program}{w:World}{A:Around}{R:Result->Shared->Prop}{s:Shared}{elt tg iter:Expr}{ifs:List Expr}{sc:Scope}{pos:Pos}{it acc:Value}{env:Env}(J:Nat->Shared->Prop)
   (turn:∀ n s,J n s->wpAny (model P w) A (pyNext it) (fun r s1=>match r with
     | none=>R (.ok .next) s1
     | some v=>wpAny (model P w) A (letOwnedTupleGo tg it v) (fun _ s2=>wpAny (model P w) A (assign tg env v) (fun _ s3=>
         wpAny (model P w) A (forIn ifs true fun c r=>if r=true then do let ok <- isTrue c env (eval c env);pure (ForInStep.yield ok) else pure (ForInStep.yield r)) (fun ok Yq=>
         if ok=true then wpAny (model P w) A (eval elt env) (fun x s4=>wpAny (model P w) A (call (.builtin "list.append") [acc,x]) (fun _ s5=>∃ m,m < n/\J m s5) xC s4) xC Yq
         else ∃ m,m < n/\J m Yq) xC s3) xC s2) xC s1) xC s)
   (n:Nat) (h:J n s):codeAny (model P w) A (.compLoop (.ListComp elt [⟨tg,iter,ifs,0⟩] sc pos) 0 it acc env) R s:=by
 have off:∀ {B:Value->Shared->Prop} (x:Value) (s':Shared),xC x s'->B x s':=fun _ _ z=>z.elim
 refine codeAny_loop rfl J (fun n s hJ=>?_) n h
 show wpAny _ A ((compTurn (.ListComp elt [⟨tg,iter,ifs,0⟩] sc pos) 0 it acc env).onRaise (fun x=>(do noteFrame x env;theTreesLotGoes x))) _ _ s
 refine wpAny_noted ?_
 rw[compTurn_list]
 refine wpAny_bind (wpAny_standAt (wpAny_bind (wpAny_mono (turn n s hJ) (fun r s1 h1=>?_) off)))
 cases r with
 | none=>exact wpAny_pure h1
 | some v=>
   refine wpAny_bind (wpAny_mono h1 (fun _ s2 h2=>wpAny_bind (wpAny_mono h2 (fun _ s3 h3=>wpAny_bind (wpAny_mono h3 (fun ok Yq h3'=>?_) off)) off)) off)
   cases ok with
   | false=>exact wpAny_pure ⟨rfl,h3'⟩
   | true=>exact wpAny_bind (wpAny_bind (wpAny_mono h3' (fun x s4 h4=>wpAny_bind (wpAny_mono h4 (fun _ s5 h5=>wpAny_pure (wpAny_pure ⟨rfl,h5⟩)) off)) off))
structure t8 (X:Cx)(N tn:List Str)(ix:List Nat)(sc:Scope):Prop where
 nd:N.Nodup
 nm:N=tn ++ ix.map (fun j=>X.N.getD j "")
 kind:sc.kind=.function
 vJ:∀ y∈sc.names,y.2≠.cell
 names:∀ y∈sc.names,y.2=.local->sc.names.lookup y.1=some .local
 hx:∀ x∈tn,sc.names.lookup x=some .local
 fr:∀ y∈sc.names,y.2=.free->X.env.kindOf y.1=some .cell\/X.env.kindOf y.1=some .free
 UO:∀ j∈ix,∃ y,X.N[j]?=some y/\sc.names.lookup y=some .free
section
variable {X:Cx}{N tn:List Str}{ix:List Nat}{sc:Scope}{pins:List (Addr×Obj)}{st:L2.St}{H H':Hp}{s s':Shared}{C D:Addr}{fp:List Addr}{h1:Heap}
theorem Ex (B:t8 X N tn ix sc)(ok:X.Ok):closureFor sc X.env=pure (lQ sc X.env):=zg fun y hy hk=>ok.has y.1 (B.fr y hy hk)
theorem qY (B:t8 X N tn ix sc)(ok:X.Ok){y:Str}{c:Addr}(h:(lQ sc X.env).lookup y=some c):X.env.cells.lookup y=some c/\(y,NameKind.free)∈sc.names:=by
 rcases qV _ _ h with⟨h1,h2⟩ | h1
 . obtain⟨c',h3⟩:=ok.has y (B.fr _ h1 rfl)
   rw[h3] at h2
   cases h2
   exact⟨h3,h1⟩
 . cases h1
theorem uI (B:t8 X N tn ix sc)(I:L2.Inv X pins st H s)(hC:s.heap.objs.size<=C)(hf:∀ b∈fp,lu X pins H b)(dg:∀ b∈fp,b < s.heap.objs.size):(a5 X N sc C fp s H).Ok where
 mod:=I.ok.mod
 kind:=B.kind
 glob:=I.ok.glob
 blt:=I.ok.blt
 above:=hC
 inj:=fun y z c h1 h2=>I.ok.inj y z c (qY B I.ok h1).1 (qY B I.ok h2).1
 has:=fun y hy=>by
   have hy:(relabel sc X.env).names.lookup y=some .cell\/(relabel sc X.env).names.lookup y=some .free:=hy
   have:(y,NameKind.free)∈sc.names:=by
     rcases hy with hy | hy
     . obtain⟨k',h1,h2⟩:=fT hy
       rcases h2 with h2 | h2
       . subst h2;exact absurd rfl (B.vJ _ h1)
       . subst h2;exact h1
     . obtain⟨k',h1,h2⟩:=fT hy
       rcases h2 with h2 | h2 <;> subst h2 <;> exact h1
   exact j5 _ _ (.inl this)
 Tn:=fun y c h=>by cases h
 hd:=I.ok.hd
 frames:=I.ok.frames
 TV:=.inl rfl
 LV:=fun b hb=>⟨aat (aao (dg b hb) hC),fun y c h=>(hf b hb).2.2.2.2.1 y c (qY B I.ok h).1⟩
 bs:=I.bs
 D2:=aav I.ok.D2 I.sz
 AD:=fun b o e hb=>by
   rcases (hf b hb).2.2.2.1 with z | z
   . exact I.ok.AD b o e z
   . exact absurd (aao (aal e) (aav I.ok.D2 z)) (aa3 _)
 AE:=fun b hb z=>by
   rcases aaE.mp (I.vo b z) with z | z
   . exact(hf b hb).2.1 z
   . exact(hf b hb).2.2.1 z
 rV:=I.stack
 Ot:=I.uB
theorem C6 (B:t8 X N tn ix sc)(I:L2.Inv X pins st H s)(hf:∀ b∈fp,lu X pins H b)(dg:∀ b∈fp,b < s.heap.objs.size)(hC:C=s.heap.objs.size+1)(k:∀ b o,s.heap.get? b=some o->h1.get? b=some o)(hn:h1.Ns C fun _=>none)(hD:h1.get? s.heap.objs.size=some { cls:=.type "list",data:=.seq ([]:List Value).toArray 0}){t':Nat}:L2.Inv (a5 X N sc C fp s H) [] (aak tn.length none ++ frees ix st) (upd H s.heap.objs.size (.lst [])) { s with heap:=h1,toks:=t'}:=by
 have OF:s.heap.objs.size<=C:=by rw[hC];exact abc _
 have fr:∀ a,s.heap.objs.size<=a->H a=none:=fun a ha=>I.bh.fresh ha
 have ok:=uI B I OF hf dg
 have Cq:∀ y c,(lQ sc X.env).lookup y=some c->H c=none/\c < s.heap.objs.size/\∃ v,s.heap.IsCell c v:=fun y c h=>by
   have h:=(qY B I.ok h).1
   obtain⟨v,q⟩:=I.cell y c h
   exact⟨I.pV y c h,q.lt,v,q⟩
 refine⟨ok,rfl,I.bare,Un.laid k (aae _) (fr _ (aae _)),⟨_,hn,fun i y v e1 e2 e3=>?_⟩,fun y c h=>?_,?_,fun y c h=>?_,fun p hp=>absurd (show p∈([]:List (Addr×Obj)) from hp) (by simp),?_,?_⟩
 . have e1:N[i]?=some y:=e1
   by_cases hi:i < tn.length
   . rw[aaA (by simpa using hi),aaR,if_pos hi] at e2
     cases e2
   . have hi:tn.length<=i:=abJ hi
     rw[B.nm,aaB hi,YL] at e1
     rw[aaB (by simpa using hi),List.length_replicate] at e2
     unfold frees at e2
     rw[YL] at e2
     cases q:ix[i - tn.length]? with
     | none=>rw[q] at e1;cases e1
     | some j=>
       rw[q] at e1 e2
       obtain⟨y',LI,IA⟩:=B.UO j (abg q)
       have Mu:=PySem.mem_of_lookup IA
       have ey:y=y':=by
         have e1:X.N.getD j ""=y:=Option.some.inj e1
         rw[WW,LI] at e1
         exact e1.symm
       subst ey
       have e2:(st[j]?).join=some v:=Option.some.inj e2
       have UP:st[j]?=some (some v):=by
         cases q2:st[j]? with
         | none=>rw[q2] at e2;cases e2
         | some z=>rw[q2] at e2;rw[show z=some v from e2]
       have kd:=B.fr _ Mu rfl
       have UQ:vn X.env.scope y:=by
         rcases kd with z | z
         . exact .inr (.inl z)
         . exact .inr (.inr z)
       obtain⟨m,_,hl⟩:=I.loc
       obtain⟨u,r,l⟩:=hl j y v LI UP UQ
       refine⟨u,r,.inr ?_⟩
       rcases l with⟨z,_⟩ | ⟨_,c,hc,ic⟩
       . rcases kd with z' | z' <;> rw[z] at z' <;> cases z'
       . obtain⟨c',Cr⟩:=j5 (cells:=X.env.cells) sc.names [] (.inl Mu)
         have:=(qY B I.ok Cr).1
         rw[hc] at this;cases this
         obtain⟨oc,D4,hd⟩:=ic
         refine⟨?_,c,Cr,oc,k _ _ D4,hd⟩
         rcases e3 with e3 | e3 | e3
         . have e3:(relabel sc X.env).names.lookup y=some .local:=e3
           rcases mW (env:=X.env) IA with z | z
           . exact absurd (e3.symm.trans z) (by decide)
           . exact absurd (e3.symm.trans z) (by decide)
         . exact .inl e3
         . exact .inr e3
 . obtain⟨_,_,v,oc,D4,hd⟩:=Cq y c h
   exact⟨v,oc,k _ _ D4,hd⟩
 . show upd H s.heap.objs.size (.lst []) C=none
   rw[ah (by rw[hC];exact abv _)]
   exact fr _ OF
 . show upd H s.heap.objs.size (.lst []) c=none
   obtain⟨q1,q2,_⟩:=Cq y c h
   rw[ah (aat q2)]
   exact q1
 . exact I.bh.laid k (aae _) ⟨aa1 _,[],0,.nil,hD⟩
 . show(aak tn.length none ++ frees ix st).length=N.length
   rw[B.nm]
   unfold frees
   simp
def MD (X:Cx)(ifs:List Expr)(tt:TT):Prop:=∀ (pins:List (Addr×Obj)) (s:Shared) (st:L2.St) (H:Hp) (Q:Bool->Hp->Prop),L2.Inv X pins st H s->tt st H Q ->
 wpAny (model X.prog X.w) X.A (forIn ifs true fun c r=>if r=true then do let ok <- isTrue c X.env (eval c X.env);pure (ForInStep.yield ok) else pure (ForInStep.yield r)) (fun b s'=>∃ H',L2.Inv X pins st H' s'/\Q b H') X.xe s
theorem Ey {c:Expr}{tt:TT}(h:PT X c tt):MD X [c] tt:=fun pins s st H Q I q=>wpAny_tests_one (b7 (h pins s st H _ I q) fun b s' z=>z)
def Ez (nt:Nat)(g:TG)(tt:TT)(te:TE)(fs:L2.St)(J:It)(D:Addr)(Q:List V->Hp->Prop)(H:Hp):Prop:=
 ∃ W:Nat->Nat->List V->Hp->Prop,(∃ m,W 0 m [] (upd H D (.lst [])))/\∀ i m ys H1,W i m ys H1 ->
   (J.stop i H1/\Q ys H1)\/(J.go i H1/\ys.length < sizeLine/\∀ σ:L2.St,σ.length=nt->∀ v H2,J.HJ i H1 v H2->g v (σ ++ fs) H2 fun σ2 H3=>∃ σ':L2.St,σ2=σ' ++ fs/\σ'.length=nt /\
     tt σ2 H3 fun b H4=>if b=true then te σ2 H4 fun y H5=>H5 D=some (.lst ys)/\∃ m',m' < m/\W (i+1) m' (ys ++ [y]) (upd H5 D (.lst (ys ++ [y]))) else ∃ m',m' < m/\W (i+1) m' ys H4)
theorem Bk {elt iter tg:Expr}{ifs:List Expr}{pos:Pos}{g:TG}{tt:TT}{te:TE}{J:It}{it:Addr}{tj:Nat->Heap->Prop}{Q:Addr->List V->Hp->Prop}{RR:Value->Addr->Result->Shared->Prop}{E:Value->Shared->Prop}(hc:X.calm=true)(B:t8 X N tn ix sc)(hg:∀ C fp s H,PG (a5 X N sc C fp s H) tg g)(ht:∀ C fp s H,MD (a5 X N sc C fp s H) ifs tt)(iW:∀ C fp s H,PE (a5 X N sc C fp s H) elt te)(I:L2.Inv X pins st H s)(T:Turn X.prog X.w X.K tg J fp it tj)(h0:tj 0 s.heap)(hf:∀ b∈fp,lu X pins H b)(hq:∀ D,H D=none->Ez tn.length g tt te (frees ix st) J D (Q D) H)(UR:∀ D C ys H' s',L2.Inv X pins st H' s'->(∃ m,s'.heap.Ns C m)->lu X pins H' C->Q D ys H'->RR (.ref D) C (.ok .next) s'):wpAny (model X.prog X.w) X.A (newList []) (fun acc s3=>wpAny (model X.prog X.w) X.A (newFunctionEnv sc X.env.globals (lQ sc X.env) [] X.env.qual none .none (some X.env)) (fun Bb s4=>codeAny (model X.prog X.w) X.A (.compStart (.ListComp elt [⟨tg,iter,ifs,0⟩] sc pos) 0 (.ref it) acc { Bb with scope:=relabel sc X.env}) (RR acc Bb.locals) s4) E s3) E s:=by
 have dg:∀ b∈fp,b < s.heap.objs.size:=fun b hb=>by
   obtain⟨o,e,_⟩:=T.obj _ _ h0 b hb
   exact aal e
 refine wpAny_newObj_type (wpAny_newFunctionEnv B.vJ (fun y hy=>absurd hy (by simp)) (fun h1 Hq CY=>?_) B.kind)
 dsimp only at Hq CY ⊢
 generalize hG:s.heap.push { cls:=.type "list",dict:=none,data:=.seq ([]:List Value).toArray}=g' at Hq CY ⊢
 have hC:g'.objs.size=s.heap.objs.size+1:=by rw[<- hG,aa9]
 have W2:s.heap.objs.size≠g'.objs.size:=by rw[hC];exact aat (abe _)
 have old:∀ b o,s.heap.get? b=some o->h1.get? b=some o:=fun b o e=>
   CY.extBut b o (by rw[hC];exact aat (abF (aal e))) (aaf _ (hG ▸ aaf _ e))
 have IB:h1.get? s.heap.objs.size=some { cls:=.type "list",data:=.seq ([]:List Value).toArray 0}:=CY.extBut _ _ W2 (aaf _ (hG ▸ aar _ rfl))
 have hD:H s.heap.objs.size=none:=I.bh.fresh (aae _)
 obtain⟨W,⟨m0,w0⟩,turn⟩:=hq _ hD
 have I0:=C6 (t':=s.toks+([]:List (Str×Value)).length) B I hf dg hC old (by simpa using Hq) IB
 have OG:tj 0 h1:=T.keep _ _ _ h0 fun b _ o e=>old b o e
 have oo:s.heap.objs.size<=g'.objs.size:=by rw[hC];exact abc _
 have qg:∀ {H':Hp},(∀ b∈fp,H' b=none)->∀ b∈fp,lu (a5 X N sc g'.objs.size fp s H) [] H' b:=fun {H'} hn b hb=>
   ⟨hn b hb,((uI B I oo hf dg).LV b hb).1,(uI B I oo hf dg).AE b hb,.inl hb,((uI B I oo hf dg).LV b hb).2,fun p hp=>absurd (show p∈([]:List (Addr×Obj)) from hp) (by simp)⟩
 have loop:∀ s3:Shared,s3={ s with heap:=h1,toks:=s.toks+([]:List (Str×Value)).length} ->
     codeAny (model X.prog X.w) X.A (.compLoop (.ListComp elt [⟨tg,iter,ifs,0⟩] sc pos) 0 (.ref it) (.ref s.heap.objs.size) (compEnvC sc (lQ sc X.env) g'.objs.size X.env)) (RR (.ref s.heap.objs.size) g'.objs.size) s3:=by
   rintro s3 rfl
   refine Bj (fun n s'=>∃ i ys σ H',σ.length=tn.length/\L2.Inv (a5 X N sc g'.objs.size fp s H) [] (σ ++ frees ix st) H' s'/\tj i s'.heap/\(∀ b∈fp,H' b=none)/\W i n ys H') ?_ m0
     ⟨0,[],aak tn.length none,_,by simp,I0,OG,fun b hb=>?_,w0⟩
   . rintro n s5 ⟨i,ys,σ,H5,hσ,I5,Ho,LD,w5⟩
     rcases turn i n ys H5 w5 with⟨stop,qn⟩ | ⟨go,hz,step⟩
     . refine b7 (T.done (a5 X N sc g'.objs.size fp s H) rfl rfl rfl hc i [] s5 _ H5 xC I5 (qg LD) Ho stop) fun r s6 ⟨hr,I6⟩=>?_
       subst hr
       refine UR _ _ ys H5 s6 ?_ ?_ (I.vt oo I6.free) qn
       . exact I.HG I6.os I6.base I6.bh I6.bare fun b hb=>⟨(hf b hb).2.2.2.1,(hf b hb).2.1,(hf b hb).2.2.2.2.1,(hf b hb).2.2.2.2.2⟩
       . obtain⟨m,hm,_⟩:=I6.loc
         exact⟨m,hm⟩
     . refine b7 (T.item (a5 X N sc g'.objs.size fp s H) rfl rfl rfl hc i [] s5 _ H5 xC I5 (qg LD) Ho go) fun r s6 ⟨u,hr,h6⟩=>?_
       subst hr
       refine b7 h6 fun _ s7 ⟨v,H7,I7,r7,y7,IC,US⟩=>?_
       have UT:=I7.pinned (qg US) (T.obj _ _ IC)
       refine b7 (hg g'.objs.size fp s H _ s7 _ H7 v u _ UT r7 (step σ hσ v H7 y7)) fun _ s8 h8=>?_
       obtain⟨σ8,H8,I8,σ',e8,U7,h8⟩:=h8
       subst e8
       have pinned:∀ {σ9:L2.St} {H9:Hp} {s9:Shared},L2.Inv (a5 X N sc g'.objs.size fp s H) ([] ++ rX fp s7.heap) σ9 H9 s9->tj (i+1) s9.heap/\∀ b∈fp,H9 b=none:=fun {σ9 H9 s9} I9=>by
         refine⟨T.keep _ _ _ IC fun b hb o e=>(I9.pin (b,o) (aaw _ (aaw _ (fS hb e)))).1,fun b hb=>?_⟩
         obtain⟨o,e,d⟩:=T.obj _ _ IC b hb
         exact(I9.pin (b,o) (aaw _ (aaw _ (fS hb e)))).2.1
       refine b7 (ht g'.objs.size fp s H _ s8 _ H8 _ I8 h8) fun ok Yr ME=>?_
       obtain⟨Ys,MG,ME⟩:=ME
       cases ok with
       | false=>
         obtain⟨m',hm,w8⟩:=ME
         exact⟨m',hm,i+1,ys,σ',_,U7,MG.j0 (pins:=[]),(pinned MG).1,(pinned MG).2,w8⟩
       | true=>
         refine b7 (iW g'.objs.size fp s H _ Yr _ Ys _ MG ME) fun z s9 ⟨y,H9,I9,r9,UU,m',hm,w9⟩=>?_
         refine b7 (oV _ s9 _ H9 (.ref s.heap.objs.size) [y] (.ref s.heap.objs.size) [z] (fun _ H'=>H'=upd H9 s.heap.objs.size (.lst (ys ++ [y]))) I9 rfl (.cons r9 .nil) ⟨_,ys,y,rfl,rfl,UU,hz,rfl⟩) fun _ s10 UW=>?_
         obtain⟨_,H10,ID,_,rfl⟩:=UW
         exact⟨m',hm,i+1,ys ++ [y],σ',_,U7,ID.j0 (pins:=[]),(pinned ID).1,(pinned ID).2,w9⟩
   . rw[ah (aat (dg b hb))]
     exact(hf b hb).1
 exact codeAny_compStart_list (loop _ rfl) (T.self _ 0 _ _ _ OG (loop _ rfl))
end
section
variable {K:W.Frag}{G:Gr}{st:L2.St}{Hf H Hf1 H1:Hp}{dl:List Slot}{ix:List Nat}
structure U8 (K:W.Frag)(Hf:Hp)(σ:L2.St)(sl:List Slot):Prop where
 len:σ.length=sl.length
 val:∀ (i:Nat) d,sl[i]?=some (.val d)->∃ v,σ[i]?=some (some v)/\Rep K Hf v d
 no:∀ (i:Nat) o,sl[i]?≠some (.own o)
theorem U8.mono {σ:L2.St}{sl:List Slot}(h:U8 K Hf σ sl)(s:aG Hf Hf1):U8 K Hf1 σ sl:=⟨h.len,fun i d e=>let ⟨v,h1,h2⟩:=h.val i d e;⟨v,h1,h2.mono s⟩,h.no⟩
theorem Bl {σ:L2.St}{sl:List Slot}(S:dO K G st Hf H dl)(s1:aG Hf Hf1)(sb:aG Hf1 H1)(r:U8 K Hf1 σ sl):dO K ⟨Hf1,H1⟩ (σ ++ frees ix st) Hf1 H1 (sl ++ jt dl ix):=by
 have no:∀ (i:Nat) o,(sl ++ jt dl ix)[i]?≠some (.own o):=fun i o h=>by
   by_cases hi:i < sl.length
   . rw[aaA hi] at h
     exact r.no i o h
   . rw[aaB (abJ hi)] at h
     unfold jt at h
     rw[YL] at h
     cases q:ix[i - sl.length]? with
     | none=>rw[q] at h;cases h
     | some j=>
       rw[q] at h
       exact yk (Option.some.inj h)
 refine⟨.refl sb,by simp[frees,jt,r.len],fun i x h=>?_,fun i o h=>absurd h (no i o),fun i j o o' a h=>absurd h (no i o)⟩
 by_cases hi:i < sl.length
 . rw[aaA hi] at h
   rw[aaA (by rw[r.len];exact hi)]
   exact r.val i x h
 . have hi:=abJ hi
   rw[aaB hi] at h
   rw[aaB (by rw[r.len];exact hi),r.len]
   unfold jt at h
   unfold frees
   rw[YL] at h ⊢
   cases q:ix[i - sl.length]? with
   | none=>rw[q] at h;cases h
   | some j=>
     rw[q] at h
     have hd:=yl (Option.some.inj h)
     obtain⟨v',z1,z2⟩:=S.val j x hd
     exact⟨v',by rw[Option.map_some,z1];rfl,z2.mono s1⟩
def OL (K:W.Frag)(nt:Nat)(g:TG)(z:Dt)(sl:List Slot):Prop:=∀ (σ fs:L2.St) (Hf H:Hp) (v:V) (Q:L2.St->Hp->Prop),σ.length=nt->aG Hf H->Rep K Hf v z ->
 (∀ σ':L2.St,σ'.length=nt->U8 K Hf σ' sl->Q (σ' ++ fs) H)->g v (σ ++ fs) H Q
theorem bC {z:Dt}:OL K 1 (pW 0) z [.val z]:=fun σ fs Hf H v Q hl s r k=>by
 cases σ with
 | nil=>cases hl
 | cons a σ=>
   have:σ=[]:=aaV (by simpa using hl)
   subst this
   refine k [some v] rfl ⟨rfl,fun i d h=>?_,fun i o h=>?_⟩
   . cases i with
     | zero=>cases h;exact⟨v,rfl,r⟩
     | succ i=>cases h
   . cases i with
     | zero=>cases h
     | succ i=>cases h
abbrev OM (K:W.Frag):TG:=P6 K 2 (AI (pW 0) (AI (pW 1) P5))
theorem EC {a b:Dt}:OL K 2 (OM K) (.tup [a,b]) [.val a,.val b]:=fun σ fs Hf H v Q hl s r k=>by
 cases σ with
 | nil=>cases hl
 | cons x σ=>cases σ with
   | nil=>cases hl
   | cons y σ=>
     have:σ=[]:=aaV (by simpa using hl)
     subst this
     cases r with
     | @tup q vs _ hq rp=>
       cases rp with
       | cons r1 t1=>cases t1 with
         | cons r2 t2=>
           cases t2
           refine⟨q,_,rfl,bU s hq,rfl,_,_,rfl,_,_,rfl,rfl,k [some _,some _] rfl ⟨rfl,fun i d h=>?_,fun i o h=>?_⟩⟩
           . cases i with
             | zero=>cases h;exact⟨_,rfl,r1⟩
             | succ i=>cases i with
               | zero=>cases h;exact⟨_,rfl,r2⟩
               | succ i=>cases h
           . cases i with
             | zero=>cases h
             | succ i=>cases i with
               | zero=>cases h
               | succ i=>cases h
end
section
variable {X:Cx}{G:Gr}{E:XK}{dl:List Slot}{a b c elt iter tg:Expr}{ifs:List Expr}{i j:Int}{pos p px py qW:Pos}{o:Out}{x y:Str}{N tn:List Str}{ix:List Nat}{sc:Scope}{n:Nat}
def qm (X:Cx)(G:Gr)(dl:List Slot)(zs:List Dt)(wi:TI):Prop:=∀ st H (R:It->Hp->Prop),(∃ Hf,dO X.K G st Hf H dl/\∀ J IP H0,bo Hf H IP H0 ->
 (∀ Hf1 H1,aG IP Hf1->aG Hf1 H1->∀ i,(∀ z,zs[i]?=some z->J.go i H1/\∀ v H2,J.HJ i H1 v H2->∃ bV,bo Hf1 H1 bV H2/\Rep X.K bV v z)/\(i=zs.length->J.stop i H1))->R J H0)->wi st H R
theorem dZ {xs:List Dt}:qm X G dl xs (HK X.K (tD X.K G dl (.lst xs))):=fun st H R zq=>Bn zq fun Hf zq=>have S:=zq.1;have k:=zq.2;⟨Hf,S,fun v Hf1 H1 g1 r1=>by
 cases r1 with
 | @lst q vs _ hq rp=>
   have hl:=rp.length
   refine⟨q,rfl,⟨vs,.of (g1.sub _ _ hq)⟩,k _ Hf1 H1 g1 fun bV H2 s1 s2 i=>⟨fun z hz=>?_,fun hi=>⟨vs,.of (s2 _ _ (s1 _ _ hq)),by omega⟩⟩⟩
   obtain⟨u,z1,z2⟩:=rp.get hz
   have hs:mP X.K H2 q vs:=.of (s2 _ _ (s1 _ _ hq))
   refine⟨⟨vs,u,hs,z1⟩,fun v H3 hy=>?_⟩
   obtain⟨e1,e2⟩:=hy
   have e2:=e2 vs hs
   rw[z1] at e2;cases e2
   subst e1
   exact⟨bV,.refl s2,z2.mono s1⟩⟩
theorem IT {xs:List Dt}:qm X G dl xs (Ua X.K (tD X.K G dl (.tup xs))):=fun st H R zq=>Bn zq fun Hf zq=>have S:=zq.1;have k:=zq.2;⟨Hf,S,fun v Hf1 H1 g1 r1=>by
 cases r1 with
 | @tup q vs _ hq rp=>
   have hl:=rp.length
   refine⟨q,rfl,⟨vs,bU g1.sub hq⟩,k _ Hf1 H1 g1 fun bV H2 s1 s2 i=>⟨fun z hz=>?_,fun hi=>⟨vs,bU s2 (bU s1 hq),by omega⟩⟩⟩
   obtain⟨u,z1,z2⟩:=rp.get hz
   have hs:vp X.K H2 q vs:=bU s2 (bU s1 hq)
   refine⟨⟨vs,u,hs,z1⟩,fun v H3 hy=>?_⟩
   obtain⟨e1,e2⟩:=hy
   have e2:=e2 vs hs
   rw[z1] at e2;cases e2
   subst e1
   exact⟨bV,.refl s2,z2.mono s1⟩⟩
theorem IU {lo:Int}{n:Nat}{Hf1 H1 bV H2:Hp}(s2:aG bV H2)(i:Nat):(∀ z,((aaj n).map fun(k:Nat)=>Dt.int (lo+k))[i]?=some z->(LC lo n).go i H2/\∀ v H3,(LC lo n).HJ i H2 v H3->∃ jq,bo bV H2 jq H3/\Rep X.K jq v z)/\(i=((aaj n).map fun(k:Nat)=>Dt.int (lo+k)).length->(LC lo n).stop i H2):=by
 refine⟨fun z hz=>?_,fun e=>(by have:i=n:=(by simpa using e);exact Nat.le_of_eq this.symm)⟩
 have hi:i < n:=by
   have:=(aag.mp hz).1
   simpa using this
 rw[YL,aaL hi] at hz
 cases hz
 refine⟨hi,fun v H3 hy=>?_⟩
 obtain⟨e1,e2⟩:=hy
 subst e1 e2
 exact⟨bV,.refl s2,.int _⟩
theorem tQ (hn:-(2 ^ 62)<=j/\j < 2 ^ 62):qm X G dl ((aaj j.toNat).map fun(k:Nat)=>.int k) (HM (Tv X.K G dl [.int j])):=fun st H R zq=>Bn zq fun Hf zq=>have S:=zq.1;have k:=zq.2;⟨Hf,S,fun vs Hf1 H1 g1 r1=>by
 cases r1 with
 | cons r t=>
   cases t;cases r
   refine⟨j,rfl,hn.1,hn.2,k _ Hf1 H1 g1 fun bV H2 s1 s2 i=>?_⟩
   have h:=IU (X:=X) (lo:=0) (n:=j.toNat) (Hf1:=Hf1) (H1:=H1) s2 i
   simp only[Int.zero_add] at h
   exact h⟩
variable {α:Type}{as:List α}{z f:α->Dt}{sl:α->List Slot}{keep:α->Bool}{g:TG}{wi:TI}
def MH (K:W.Frag)(dl:List Slot)(ix:List Nat)(as:List α)(sl:α->List Slot)(keep:α->Bool):TT:=fun st H Q=>∃ a G',a∈as/\UL K G' (sl a ++ jt dl ix) (keep a) st H Q
def MI (K:W.Frag)(dl:List Slot)(ix:List Nat)(as:List α)(sl:α->List Slot)(keep:α->Bool)(f:α->Dt):TE:=fun st H Q=>∃ a G',a∈as/\keep a=true/\tD K G' (sl a ++ jt dl ix) (f a) st H Q
inductive Bm (X:Cx)(N:List Str)(sc:Scope)(dl:List Slot)(ix:List Nat)(as:List α)(sl:α->List Slot)(keep:α->Bool):List Expr->Prop
 | nil:(∀ a∈as,keep a=true)->Bm X N sc dl ix as sl keep []
 | one {c:Expr}:(∀ a∈as,∀ C fp s H G',EB (a5 X N sc C fp s H) G' (sl a ++ jt dl ix) c (keep a))->Bm X N sc dl ix as sl keep [c]
theorem IV (h:Bm X N sc dl ix as sl keep ifs):∀ C fp s H,MD (a5 X N sc C fp s H) ifs (MH X.K dl ix as sl keep):=fun C fp s H=>by
 cases h with
 | nil h=>exact fun pins s' st H' Q I ⟨a,G',ha,Hf,S,k⟩=>wpAny_tests_nil ⟨H',I,by have:=k Hf H' (.refl S.sub);rw[h a ha] at this;exact this⟩
 | one h=>exact Ey fun pins s' st H' Q I ⟨a,G',ha,q⟩=>h a ha C fp s H G' pins s' st H' Q I q
def QX (X:Cx)(N:List Str)(sc:Scope)(dl:List Slot)(ix:List Nat)(as:List α)(sl:α->List Slot)(keep:α->Bool)(f:α->Dt)(elt:Expr):Prop:=∀ a∈as,keep a=true->∀ C fp s H G',EE (a5 X N sc C fp s H) G' (sl a ++ jt dl ix) elt (f a)
theorem IW (h:QX X N sc dl ix as sl keep f elt):∀ C fp s H,PE (a5 X N sc C fp s H) elt (MI X.K dl ix as sl keep f):=fun C fp s H pins s' st H' Q I ⟨a,G',ha,hk,q⟩=>h a ha hk C fp s H G' pins s' st H' Q I q
theorem Gx {nt:Nat}{st:L2.St}{Hf H:Hp}{J:It}{Q:VK}(S:dO X.K G st Hf H dl)(hn:as.length<=sizeLine)(Gy:∀ a∈as,OL X.K nt g (z a) (sl a))(go:∀ Hf1 H1,bo Hf H Hf1 H1->∀ i,(∀ y,(as.map z)[i]?=some y->J.go i H1/\∀ v H2,J.HJ i H1 v H2->∃ bV,bo Hf1 H1 bV H2/\Rep X.K bV v y)/\(i=(as.map z).length->J.stop i H1))(k:∀ p aI H',bo Hf H aI H'->H p=none->aI p=none->gW X.K aI H' p (.lst ((as.filter keep).map f))->Q (.ref p) H'):∀ D,H D=none->Ez nt g (MH X.K dl ix as sl keep) (MI X.K dl ix as sl keep f) (frees ix st) J D (fun _ H'=>Q (.ref D) H') H:=by
 intro D hD
 refine⟨fun i m vs H1=>m=as.length - i/\i<=as.length/\∃ Hf1,bo Hf H Hf1 H1/\Hf1 D=none/\H1 D=some (.lst vs)/\bB X.K Hf1 vs (((as.take i).filter keep).map f),⟨as.length,rfl,aa1 _,Hf,.eX S.sub hD,S.sub.free hD,ak,.nil⟩,?_⟩
 rintro i m vs H1 ⟨rfl,hi,Hf1,g1,UZ,Tx,rp⟩
 have hlen:=rp.length
 rw[k5] at hlen
 have Yt:((as.take i).filter keep).length<=i:=aav (List.length_filter_le _ _) (by rw[aax];omega)
 have C7:∀ {Yu Ha W7 Hb:Hp},bo Yu Ha W7 Hb->Yu D=none->Ha D=some (.lst vs)->W7 D=none/\Hb D=some (.lst vs):=fun {Yu Ha W7 Hb} gg e1 e2=>by
   refine⟨?_,gg.big _ _ e2⟩
   cases q:W7 D with
   | none=>rfl
   | some u=>
     obtain⟨o,z⟩:=gg.yW e2 (fun z=>z) q
     rw[e1] at z;cases z
 by_cases dg:i < as.length
 . have QY:as[i]∈as:=aaN dg
   have et:as.take (i+1)=as.take i ++ [as[i]]:=by rw[aa6,k3 dg];rfl
   obtain⟨U0,hy⟩:=(go Hf1 H1 g1 i).1 (z as[i]) (by rw[YL,k3 dg];rfl)
   refine .inr ⟨U0,by omega,fun σ hσ v H2 y=>?_⟩
   obtain⟨bV,g2,rv⟩:=hy v H2 y
   obtain⟨d2,d2'⟩:=C7 g2 UZ Tx
   refine Gy as[i] QY σ _ bV H2 v _ hσ g2.sub rv fun σ' hl' tv=>⟨σ',rfl,hl',as[i],⟨bV,H2⟩,QY,bV,Bl S (g1.bF.trans g2.bF) g2.sub tv,fun jq H3 g3=>?_⟩
   obtain⟨d3,d3'⟩:=C7 g3 d2 d2'
   cases hk:keep as[i] with
   | false=>
     refine⟨as.length - (i+1),by omega,rfl,dg,jq,(g1.trans g2).trans g3,d3,d3',?_⟩
     rw[et,List.filter_append,abB (by simp[hk]),List.filter_nil,aaZ]
     exact rp.mono (g2.bF.trans g3.bF)
   | true=>
     refine⟨as[i],⟨jq,H3⟩,QY,hk,jq,Bl S ((g1.bF.trans g2.bF).trans g3.bF) g3.sub (tv.mono g3.bF),fun y LJ H4 g4 r4=>?_⟩
     obtain⟨d4,d4'⟩:=C7 g4 d3 d3'
     have gg:=((g1.trans g2).trans g3).trans g4
     refine⟨d4',as.length - (i+1),by omega,rfl,dg,LJ,⟨fun a o h=>?_,gg.bF,fun a o h=>?_,gg.new⟩,d4,ak,?_⟩
     . rw[ah (aw h hD)];exact gg.big _ _ h
     . rw[ah (aw h d4)];exact g4.sub _ _ h
     . rw[et,List.filter_append,abC (by simpa using hk),List.filter_nil,aa4]
       exact(rp.mono ((g2.bF.trans g3.bF).trans g4.bF)).append (.cons r4 .nil)
 . have e:i=as.length:=by omega
   subst e
   refine .inl ⟨(go Hf1 H1 g1 _).2 (by simp),k D Hf1 H1 g1 hD UZ ⟨vs,Tx,?_⟩⟩
   rw[aa8] at rp
   exact rp
def IY (wi:TI)(nt:Nat)(ix:List Nat)(g:TG)(tt:TT)(te:TE):TE:=fun st H Q=>wi st H fun J H1=>∀ D,H1 D=none->Ez nt g tt te (frees ix st) J D (fun _ H'=>Q (.ref D) H') H1
theorem QZ {tt:TT}{te:TE}(hc:X.calm=true)(B:t8 X N tn ix sc)(hi:PI X tg iter wi)(hg:∀ C fp s H,PG (a5 X N sc C fp s H) tg g)(ht:∀ C fp s H,MD (a5 X N sc C fp s H) ifs tt)(iW:∀ C fp s H,PE (a5 X N sc C fp s H) elt te)(hs:∀ z,foldedSetIterable iter X.env z=pure z):PE X (.ListComp elt [⟨tg,iter,ifs,0⟩] sc pos) (IY wi tn.length ix g tt te):=by
 intro pins s st H Q I h
 rw[eval_ListComp]
 refine wpAny_comprehension_free (use:=none) rfl hs (Ex B I.ok) B.kind B.names (b7 (hi pins s st H _ I h) fun v s1 h1=>b7 h1 fun Ow s2 h2=>?_)
 obtain⟨it,fp,tj,J,H2,e,I2,T,D6,f2,hq⟩:=h2
 subst e
 refine Bk (RR:=fun acc C=>compPost (model X.prog X.w) X.A X.xe none (EP X pins st Q) acc C) hc B hg ht iW I2 T D6 f2 hq ?_
 intro D C ws H' s' I' ⟨m,hn⟩ mw q
 exact⟨m,hn,fun h' IK=>⟨.ref D,H',I'.turned (t':=s'.toks) (it:=C) (fun b o hb e=>(IK.2 b hb).trans e) mw.1 mw.2.1 mw.2.2.2.1 mw.2.2.2.2.1 mw.2.2.2.2.2,rfl,q⟩⟩
theorem Q0 {tt:TT}{te:TE}{nN:Nat}(hc:X.calm=true)(B:t8 X N tn ix sc)(hi:PI X tg iter wi)(hg:∀ C fp s H,PG (a5 X N sc C fp s H) tg g)(ht:∀ C fp s H,MD (a5 X N sc C fp s H) ifs tt)(iW:∀ C fp s H,PE (a5 X N sc C fp s H) elt te)(hs:∀ z,foldedSetIterable iter X.env z=pure z)(IL:swapsWith (.ListComp elt [⟨tg,iter,ifs,0⟩] sc pos) (some (.Name y py)) qW.line X.env=pure true)(hN:X.N.Nodup)(hy:X.N[nN]?=some y)(hl:Loc X.env.scope y)(hf:X.fn y=true\/X.env.scope.names.lookup y=some .local):PS X (.Assign [.Name y py] (.ListComp elt [⟨tg,iter,ifs,0⟩] sc pos) qW) (fun D st H=>IY wi tn.length ix g tt te st H fun v H'=>D.nx (st.set nN (some v)) H'):=by
 intro pins s st H D0 I h
 rw[exec_Assign_Name_used _ _ _ _ IL]
 refine wpAny_bind (wpAny_standAt (wpAny_bind ?_))
 show wpAny _ X.A (do let _ <- comprehension (.ListComp elt [⟨tg,iter,ifs,0⟩] sc pos) sc X.env _ (newList []) false (eval iter X.env) (some (assign (.Name y py) X.env))) _ _ s
 refine wpAny_bind (wpAny_mono (wpAny_comprehension_free (use:=some (assign (.Name y py) X.env)) (Q:=fun _ s'=>SP X pins D0 .next s') rfl hs (Ex B I.ok) B.kind B.names (b7 (hi pins s st H _ I h) fun v s1 h1=>b7 h1 fun Ow s2 h2=>?_)) (fun _ s' hq=>wpAny_pure (wpAny_pure hq)) fun _ _ z=>z)
 obtain⟨it,fp,tj,J,H2,e,I2,T,D6,f2,hq⟩:=h2
 subst e
 refine Bk (RR:=fun acc C=>compPost (model X.prog X.w) X.A X.xe (some (assign (.Name y py) X.env)) (fun _ s'=>SP X pins D0 .next s') acc C) hc B hg ht iW I2 T D6 f2 hq ?_
 intro D C ws H' s' I' ⟨m,hn⟩ mw q
 refine wpAny_assign_Name (oR I' hN hy hl (v:=.ref D) rfl (fun Mc U3 ⟨ad,CY,ha⟩=>?_) hf)
 have ne:C≠ad:=by
   rcases ha with z | z
   . rw[z];exact mw.2.1
   . exact Ne.symm (mw.2.2.2.2.1 _ _ z)
 exact⟨m,hn.sameBut CY ne,fun h' IK=>⟨_,H',U3.turned (t':=Mc.toks) (it:=C) (fun b o hb e=>(IK.2 b hb).trans e) mw.1 mw.2.1 mw.2.2.2.1 mw.2.2.2.2.1 mw.2.2.2.2.2,q⟩⟩
theorem o4 (hs:qm X G dl (as.map z) wi)(Gy:∀ a∈as,OL X.K n g (z a) (sl a))(hn:as.length<=sizeLine):∀ st H Q,W3 X.K G dl (.lst ((as.filter keep).map f)) st H Q->IY wi n ix g (MH X.K dl ix as sl keep) (MI X.K dl ix as sl keep f) st H Q:=fun st H Q zq=>Bn zq fun Hf zq=>have S:=zq.1;have k:=zq.2;
 hs st H _ ⟨Hf,S,fun J IP H0 g0 src=>Gx (S.grow g0) hn Gy (fun Hf1 H1 g1 i=>src Hf1 H1 g1.bF g1.sub i) fun p aI H' g n1 n2 r=>k p aI H' (g0.trans g) (g0.big.free n1) n2 r⟩
theorem de (as:List α)(z f:α->Dt)(sl:α->List Slot)(keep:α->Bool)(hc:X.calm=true)(B:t8 X N tn ix sc)(hi:PI X tg iter wi)(hg:∀ C fp s H,PG (a5 X N sc C fp s H) tg g)(sA:qm X G dl (as.map z) wi)(Gy:∀ a∈as,OL X.K tn.length g (z a) (sl a))(C8:Bm X N sc dl ix as sl keep ifs)(iW:QX X N sc dl ix as sl keep f elt)(hn:as.length<=sizeLine)(hs:∀ z,foldedSetIterable iter X.env z=pure z:=by intro _;rfl):EO X G dl (.ListComp elt [⟨tg,iter,ifs,0⟩] sc pos) (.lst ((as.filter keep).map f)):=gc (QZ hc B hi hg (IV C8) (IW iW) hs) (o4 sA Gy hn)
theorem IZ (nN:Nat)(as:List α)(z f:α->Dt)(sl:α->List Slot)(keep:α->Bool)(hc:X.calm=true)(hN:X.N.Nodup)(B:t8 X N tn ix sc)(hi:PI X tg iter wi)(hg:∀ C fp s H,PG (a5 X N sc C fp s H) tg g)(sA:qm X G dl (as.map z) wi)(Gy:∀ a∈as,OL X.K tn.length g (z a) (sl a))(C8:Bm X N sc dl ix as sl keep ifs)(iW:QX X N sc dl ix as sl keep f elt)(hn:as.length<=sizeLine)(hs:∀ z,foldedSetIterable iter X.env z=pure z:=by intro _;rfl)(IL:swapsWith (.ListComp elt [⟨tg,iter,ifs,0⟩] sc pos) (some (.Name y py)) qW.line X.env=pure true:=by rfl)(hy:X.N[nN]?=some y:=by rfl)(hl:Loc X.env.scope y:=by first | exact aaG rfl | exact aaD rfl)(hf:X.fn y=true\/X.env.scope.names.lookup y=some .local:=by first | exact .inl rfl | exact .inr rfl | assumption):ES X G E dl (.Assign [.Name y py] (.ListComp elt [⟨tg,iter,ifs,0⟩] sc pos) qW) (.nx (dl.set nN (.own (.lst ((as.filter keep).map f))))):=
 tL (Q0 hc B hi hg (IV C8) (IW iW) hs IL hN hy hl hf) fun D st H zq=>Bn zq fun Hf zq=>have S:=zq.1;have k:=zq.2;o4 sA Gy hn st H _ ⟨Hf,S,fun p aI H' g n1 n2 r=>k _ aI H' g.bF (S.Mv g n1 n2 r)⟩
def Yv (K:W.Frag)(g:TG)(z:Dt)(up:List Slot->List Slot):Prop:=∀ (G:Gr) (st:L2.St) (Hf H:Hp) (v:V) (dl:List Slot) (Q:L2.St->Hp->Prop),dO K G st Hf H dl->Rep K Hf v z->(∀ jZ,dO K G jZ Hf H (up dl)->Q jZ H)->g v st H Q
theorem qZ {K:W.Frag}{n:Nat}{z:Dt}:Yv K (pW n) z (fun dl=>dl.set n (.val z)):=fun G st Hf H v dl Q S r k=>k _ (S.set r)
theorem ED {K:W.Frag}{n m:Nat}{z1 z2:Dt}:Yv K (P6 K 2 (AI (pW n) (AI (pW m) P5))) (.tup [z1,z2]) (fun dl=>(dl.set n (.val z1)).set m (.val z2)):=fun G st Hf H v dl Q S r k=>by
 cases r with
 | @tup q vs _ hq rp=>
   cases rp with
   | cons r1 t1=>cases t1 with
     | cons r2 t2=>
       cases t2
       exact⟨q,_,rfl,bU S.sub hq,rfl,_,_,rfl,_,_,rfl,rfl,k _ ((S.set r1).set r2)⟩
theorem mX {body:List Stmt}{m:Nat}(as:List α)(z:α->Dt)(up:α->List Slot->List Slot)(S:Nat->List Slot)(qU:X.calm=true)(hp:PassesOwn (model X.prog X.w) X.A X.env X.xe)(hI:PI X tg iter wi)(sA:qm X G dl (as.map z) wi)(hg:PG X tg g)(Gy:∀ a∈as,Yv X.K g (z a) (up a))(h0:Le (S 0) dl)(WY:m<=as.length)(hb:∀ (k:Nat) (a:α),k < m->as[k]?=some a->Goes X G E body (up a (S k)) (S (k+1)))(he:pX X G E body S (fun k=>(as[k]?).elim (S k) fun a=>up a (S k)) as.length m o)(hs:∀ z,foldedSetIterable iter X.env z=pure z:=by intro _;rfl):ES X G E dl (.For tg iter body [] pos) o:=by
 refine tL (yO hp qU hI hg (qT (G:=G) (E:=E)) hs) fun D st H ⟨Hf,S0,k⟩=>sA st H _ ⟨Hf,S0,fun J IP H0 g0 src=>?_⟩
 refine⟨fun i q st H=>q=as.length - i/\i<=m/\∃ Hf1,aG IP Hf1/\dO X.K G st Hf1 H (S i),⟨as.length,rfl,aa1 _,IP,aG.refl _,(S0.grow g0).weak h0⟩,?_⟩
 rintro i q W6 H1 ⟨rfl,him,Hf1,s1,S1⟩
 have sr:=src Hf1 H1 s1 S1.sub i
 by_cases dg:i < as.length
 . have hz:as[i]?=some as[i]:=k3 dg
   obtain⟨U0,hy⟩:=sr.1 (z as[i]) (by rw[YL,hz];rfl)
   refine .inr ⟨U0,fun jZ H'=>i < m/\∃ bV,aG IP bV/\dO X.K G jZ bV H' (S (i+1)),fun jZ H' ⟨h1,h2⟩=>⟨as.length - (i+1),by omega,rfl,by omega,h2⟩,fun x H' y=>?_⟩
   obtain⟨bV,g2,rv⟩:=hy x H' y
   refine Gy as[i] (aaN dg) G W6 bV H' x (S i) _ (S1.grow g2) rv fun D6 S2=>?_
   by_cases Q1:i < m
   . exact oZ (hb i as[i] Q1 hz) S2 (fun st jq H s3 S'=>⟨Q1,jq,(s1.trans g2.bF).trans s3,S'⟩) (fun st jq H s3 S'=>⟨Q1,jq,(s1.trans g2.bF).trans s3,S'⟩)
   . have e:i=m:=by omega
     subst e
     refine sk he dg ?_ (k.mono ((g0.bF.trans s1).trans g2.bF)) rfl rfl
     show dO _ _ _ _ _ ((as[i]?).elim (S i) fun a=>up a (S i))
     rw[hz];exact S2
 . have e:i=as.length:=by omega
   subst e
   have e2:m=as.length:=by omega
   subst e2
   refine .inl ⟨sr.2 (by simp),?_⟩
   cases he with
   | all _=>exact k W6 Hf1 H1 (g0.bF.trans s1) S1
   | rt h _=>omega
   | ro h _=>omega
   | bk h _=>omega
   | ex h _=>omega
theorem bg (B:t8 X N tn ix sc)(h:tn=[x]):∀ C fp s H,PG (a5 X N sc C fp s H) (.Name x px) (pW 0):=fun C fp s H=>by
 have hN:(a5 X N sc C fp s H).N[0]?=some x:=by
   show N[0]?=some x
   rw[B.nm,h];rfl
 have Es:(a5 X N sc C fp s H).env.scope.names.lookup x=some .local:=lookup_relabel_local (B.hx x (by rw[h];simp))
 exact bT (X:=a5 X N sc C fp s H) B.nd hN (.inl Es) (.inr Es)
theorem Bo {k:Nat}(hc:X.calm=true)(B:t8 X N tn ix sc)(h:tn=[x,y]):∀ C fp s H,PG (a5 X N sc C fp s H) (.Tuple [.Name x px,.Name y py] k p) (OM X.K):=fun C fp s H=>by
 have h0:(a5 X N sc C fp s H).N[0]?=some x:=by
   show N[0]?=some x
   rw[B.nm,h];rfl
 have h1:(a5 X N sc C fp s H).N[1]?=some y:=by
   show N[1]?=some y
   rw[B.nm,h];rfl
 have Es:(a5 X N sc C fp s H).env.scope.names.lookup x=some .local:=lookup_relabel_local (B.hx x (by rw[h];simp))
 have IA:(a5 X N sc C fp s H).env.scope.names.lookup y=some .local:=lookup_relabel_local (B.hx y (by rw[h];simp))
 exact vq (X:=a5 X N sc C fp s H) hc (fo (bT B.nd h0 (.inl Es) (.inr Es)) (fo (bT B.nd h1 (.inl IA) (.inr IA)) qJ rfl) rfl) rfl rfl
end
noncomputable def eU (sc Bi:Scope)(XN N tn:List Str)(ix:List Nat):Bool:=
 decide N.Nodup && (decide (N=tn ++ ix.map (fun j=>XN.getD j "")) && (decide (sc.kind=.function) && (sc.names.all (fun y=>decide (y.2≠.cell)) && (sc.names.all (fun y=>decide (y.2=.local->sc.names.lookup y.1=some .local)) && (tn.all (fun x=>decide (sc.names.lookup x=some .local)) &&
   (sc.names.all (fun y=>decide (y.2=.free->Bi.names.lookup y.1=some .cell\/Bi.names.lookup y.1=some .free)) && ix.all (fun j=>decide (sc.names.lookup (XN.getD j "")=some .free) && decide (j < XN.length))))))))
theorem aW {X:Cx}{sc Bi:Scope}{XN N tn:List Str}{ix:List Nat}(h:eU sc Bi XN N tn ix=true)(e1:X.env.scope=Bi:=by rfl)(e2:X.N=XN:=by rfl):t8 X N tn ix sc:=by
 subst e1 e2
 unfold eU at h
 simp only[aaP,abK,decide_eq_true_eq] at h
 obtain⟨h1,h2,h3,h4,h5,h6,h7,h8⟩:=h
 refine⟨h1,h2,h3,h4,h5,h6,h7,fun j hj=>?_⟩
 obtain⟨q1,q2⟩:=h8 j hj
 refine⟨X.N.getD j "",?_,q1⟩
 rw[WW,k3 q2];rfl
section
variable {X:Cx}{G:Gr}{E:XK}{dl:List Slot}{a b:Expr}{d1 d2:Dt}{pos:Pos}{x y:Str}
theorem Ja (n1 n2:Nat){px py pt P9:Pos}{kt k2}(hN:X.N.Nodup)(hc:X.calm=true)(ha:EA X G dl [a,b] [d1,d2])(hi:X.N[n1]?=some x:=by rfl)(hj:X.N[n2]?=some y:=by rfl)(T8:n1≠n2:=by decide)(hx:X.env.scope.names.lookup x=some .local:=by rfl)(hy:X.env.scope.names.lookup y=some .local:=by rfl)(hw:swappedStores [.Tuple [.Name x px,.Name y py] kt pt] (.Tuple [a,b] k2 P9) X.env=pure (some [x,y]):=by rfl)(hs:swapsWithSole [.Tuple [.Name x px,.Name y py] kt pt] (.Tuple [a,b] k2 P9) pos.line X.env=pure false:=by rfl):ES X G E dl (.Assign [.Tuple [.Name x px,.Name y py] kt pt] (.Tuple [a,b] k2 P9) pos) (.nx ((dl.set n1 (.val d1)).set n2 (.val d2))):=
 tL (P8 hc hN hi hj T8 hx hy ha hw hs) fun D st H zq=>Bn zq fun Hf zq=>have S:=zq.1;have k:=zq.2;⟨Hf,S,fun vs Hf1 H1 g1 r1=>by
   cases r1 with
   | cons r1 t1=>cases t1 with
     | cons r2 t2=>
       cases t2
       exact⟨_,_,rfl,k _ Hf1 H1 g1.bF (((S.grow g1).set r1).set r2)⟩⟩
end
section
variable {X:Cx}{G:Gr}{E:XK}{dl:List Slot}{e:Expr}{d1 d2:Dt}{pos:Pos}
theorem zk (n1 n2:Nat){a b:Str}{pa pb tp:Pos}{cx:Nat}(hN:X.N.Nodup)(hc:X.calm=true)(he:EE X G dl e (.tup [d1,d2]))(Yw:X.N[n1]?=some a:=by rfl)(Yx:X.N[n2]?=some b:=by rfl)(Yy:Loc X.env.scope a:=by first | exact aaG rfl | exact aaD rfl)(UI:Loc X.env.scope b:=by first | exact aaG rfl | exact aaD rfl)(Yz:X.fn a=true\/X.env.scope.names.lookup a=some .local:=by first | exact .inl rfl | exact .inr rfl)(YA:X.fn b=true\/X.env.scope.names.lookup b=some .local:=by first | exact .inl rfl | exact .inr rfl)(hn:(assignEach [.Name a pa,.Name b pb] X.env).length=2:=by rfl)(nL:(assignEach [.Name a pa,.Name b pb] X.env).findIdx? (·.1)=none:=by rfl)(q1:(assignEach [.Name a pa,.Name b pb] X.env).map (·.2)=assign (.Name a pa) X.env::(assignEach [.Name b pb] X.env).map (·.2):=by rfl)(q2:(assignEach [.Name b pb] X.env).map (·.2)=assign (.Name b pb) X.env::(assignEach [] X.env).map (·.2):=by rfl)(hs:swapsWithSole [.Tuple [.Name a pa,.Name b pb] cx tp] e pos.line X.env=pure false:=by rfl)(hw:swappedStores [.Tuple [.Name a pa,.Name b pb] cx tp] e X.env=pure none:=by rfl)(h1:(assignEach [.Tuple [.Name a pa,.Name b pb] cx tp] X.env).map (·.2)=[assign (.Tuple [.Name a pa,.Name b pb] cx tp) X.env]:=by rfl):ES X G E dl (.Assign [.Tuple [.Name a pa,.Name b pb] cx tp] e pos) (.nx ((dl.set n1 (.val d1)).set n2 (.val d2))):=
 tL (CA he (vq hc (fo (bT (pos:=pa) hN Yw Yy Yz) (fo (bT (pos:=pb) hN Yx UI YA) qJ q2) q1) hn nL) hs hw h1) fun D st H zq=>Bn zq fun Hf zq=>have S:=zq.1;have k:=zq.2;⟨Hf,S,fun v Hf1 H1 g1 r1=>by
   cases r1 with
   | @tup q vs _ hq rp=>
     cases rp with
     | cons r1 t1=>cases t1 with
       | cons r2 t2=>
         cases t2
         exact⟨q,_,rfl,bU g1.sub hq,rfl,_,_,rfl,_,_,rfl,rfl,k _ Hf1 H1 g1.bF (((S.grow g1).set r1).set r2)⟩⟩
end
section
variable {X:Cx}{pins:List (Addr×Obj)}{σ:List (Option V)}{H:Hp}{s:Shared}{h':Heap}
theorem Bp {ch:List Addr}{a:Addr}{o:HO}{t':Nat}(I:L2.Inv X pins σ H s)(As:∀ b∈ch,lu X pins H b)(k:∀ b u,b ∉ ch->s.heap.get? b=some u->h'.get? b=some u)(hp:s.heap.objs.size<=a)(new:aL X.prog X.w (upd H a o) h' a o):L2.Inv X pins σ (upd H a o) { s with heap:=h',toks:=t'}:=by
 have hn:=I.bh.fresh hp
 have TY:∀ b u,H b=some u->b ∉ ch:=fun b u e z=>by rw[(As b z).1] at e;cases e
 have nea:∀ b o,s.heap.get? b=some o->b≠a:=fun b o e=>aat (aao (aal e) hp)
 refine I.step (g':=s.gens) (d':=s.drawn) (ch:=ch) (fun b hb=>⟨(As b hb).2.2.2.1,(As b hb).2.1,(As b hb).2.2.2.2.1,(As b hb).2.2.2.2.2⟩) (fun b o _ _ hc e _=>k b o hc e) (fun b o _ _ hc e _=>⟨o.slots,k b o hc e⟩) (fun b o _ e n=>by rw[ah (nea b o e)];exact n)
   (fun b o hc e=>⟨o,k b o hc e⟩) (fun b xs e=>by rw[ah (aw e hn)];exact e) (fun b o u e=>by rw[ah (aw e hn)];exact e) (fun b ps e=>⟨#[],by rw[ah (aw e hn),e];simp⟩) (fun m hm=>?_) (fun b u e=>?_) I.bare
 . obtain⟨o,es,ep,ho,r⟩:=hm
   exact⟨o,es,ep,k _ o (fun z=>(As _ z).2.1 rfl) ho,r⟩
 . by_cases hb:b=a
   . subst hb;rw[ak] at e;cases e;exact new
   . rw[ah hb] at e
     refine(I.bh b u e).yK (fun c v hc q=>k c v ?_ q) (fun c q=>by rw[ah (aw q hn)];exact q) (fun c xs q=>by rw[ah (aw q hn)];exact q) (.of fun c u q=>by rw[ah (aw q hn)];exact q)
     rcases hc with z | z | z
     . rw[z];exact TY b u e
     . exact TY c _ z
     . exact fun z'=>by rw[(As c z').1] at z;exact z
end
noncomputable def Ite (K:PySem.W.Frag)(a:Addr):It:=
 ⟨fun i H=>∃ xs x,mP K H a xs/\xs[i]?=some x,fun i H v H'=>∃ p x,v=.ref p/\H p=none/\H'=upd H p (.tup [.int i,x])/\∀ xs,mP K H a xs->xs[i]?=some x,fun i H=>∃ xs,mP K H a xs/\xs.length<=i⟩
theorem Gz {P:Program}{w:World}{K:W.Frag}{elts:List Expr}{kt:Nat}{yP:Pos}(a e it:Addr)(TB:e≠it):Turn P w K (.Tuple elts kt yP) (Ite K a) [e,it] e (fun i h=>(∃ old,IsEnum h e it i old)/\h.IsListIter it a i) where
 mem:=by simp
 obj:=fun i h st b hb=>by
   obtain⟨⟨old,he⟩,o,e2,c,d⟩:=st
   rcases aaE.mp hb with rfl | hb
   . exact⟨_,he,fun v z=>by cases z⟩
   . have:b=it:=by simpa using hb
     subst this
     exact⟨o,e2,fun v z=>by rw[d] at z;cases z⟩
 keep:=fun i h h' st k=>by
   obtain⟨⟨old,he⟩,hit⟩:=st
   exact⟨⟨old,k e (by simp) _ he⟩,hit.at fun o x=>k it (by simp) o x⟩
 item:=by
   intro X hP hw hK hc i pins s σ H E I hf st hg
   subst hP hw hK
   obtain⟨xs,x,hq,hx⟩:=hg
   obtain⟨aE,rv,p,hz⟩:=I.list hq
   obtain⟨u,hu,ru⟩:=rv.get hx
   obtain⟨⟨old,he⟩,hit⟩:=st
   have U9:e < s.heap.objs.size:=aal he
   have W8:it < s.heap.objs.size:=by obtain⟨_,z,_⟩:=hit;exact aal z
   refine wpAny_pyNext_enum_item he hit p.isList (x:=u) (by simpa using hu) TB fun h1 ho Q2 hT hsz hk=>?_
   refine⟨_,rfl,wpAny_letOwnedTupleGo_enum ho fun h2 QO AM=>?_⟩
   have YB:h2.get? s.heap.objs.size=some { cls:=.type "tuple",data:=.seq #[.int i s.toks,u]}:=(AM.2 _ (abD U9)).trans hT
   have k2:∀ b o,b ∉ [e,it]->s.heap.get? b=some o->h2.get? b=some o:=fun b o hb q=>(AM.2 b fun z=>hb (by simp[z])).trans (hk b o (fun z=>hb (by simp[z])) (fun z=>hb (by simp[z])) q)
   have hp:H s.heap.objs.size=none:=I.bh.fresh (aae _)
   have I2:L2.Inv X pins σ (upd H s.heap.objs.size (.tup [.int i,x])) { s with heap:=h2,toks:=s.toks+1}:=Bp I hf k2 (aae _) ⟨aaJ rfl,[.int i s.toks,u],.cons ⟨_,rfl⟩ (.cons ru .nil),_,YB,rfl,_,rfl⟩
   refine⟨.ref s.heap.objs.size,_,I2,rfl,⟨_,x,rfl,hp,rfl,fun ys hy=>by rw[I.AH hy hq];exact hx⟩,⟨⟨u,by simpa using QO⟩,Q2.at fun o z=>(AM.2 it (Ne.symm TB)).trans z⟩,fun b hb=>?_⟩
   have:b≠s.heap.objs.size:=by
     rcases aaE.mp hb with rfl | hb
     . exact aat U9
     . have:b=it:=by simpa using hb
       subst this
       exact aat W8
   rw[ah this]
   exact(hf b hb).1
 done:=by
   intro X hP hw hK hc i pins s σ H E I hf st hg
   subst hP hw hK
   obtain⟨xs,hq,hx⟩:=hg
   obtain⟨aE,rv,p,hz⟩:=I.list hq
   obtain⟨⟨old,he⟩,hit⟩:=st
   obtain⟨f0,f1,f2,f3,f4,f5⟩:=hf it (by simp)
   have hl:=rv.length
   exact wpAny_pyNext_enum_end (I.ok.hd hc) he hit p.isList (by simp;omega) fun h' eb=>⟨rfl,I.turned (t':=s.toks) (fun b o hb q=>eb b o hb q) f0 f1 f3 f4 f5⟩
 self:=fun _ i s Q E st h=>by
   obtain⟨⟨old,he⟩,_⟩:=st
   exact wpAny_pyIter_enum he h
theorem boot_enumerate:bootBuiltins "enumerate"=some (.type "enumerate"):=by decide +kernel
section
variable {X:Cx}{G:Gr}{dl:List Slot}{a:Expr}{xs:List Dt}{p pos:Pos}
def ON (K:W.Frag)(ta:TA):TI:=fun σ H R=>ta σ H fun vs H1=>∃ a,vs=[.ref a]/\(∃ xs,mP K H1 a xs)/\R (Ite K a) H1
theorem MJ {elts:List Expr}{kt:Nat}{yP:Pos}{ta:TA}(hg:Gl X "enumerate")(hm:X.mg "enumerate"=none)(ha:PA X [a] ta)(hs:starEach [a] X.env=[(false,eval a X.env)]:=by rfl):PI X (.Tuple elts kt yP) (.Call (.Name "enumerate" p) [a] [] pos) (ON X.K ta):=by
 intro pins s σ H R I h
 refine Call_ (qf I hg hm boot_enumerate (PyProof.Rows.callWith_type1 (b7 (ha pos pins s σ H _ I h) fun us s1 ⟨vs,H1,I1,r1,q1⟩=>?_) hs rfl))
 obtain⟨l,e,⟨xs,hq⟩,q⟩:=q1
 subst e
 cases r1 with
 | cons r rr=>
   cases rr
   cases r
   obtain⟨aE,rv,pl,hz⟩:=I1.list hq
   refine call_enumerate_list pl.isList fun h' he hit hsz k=>wpAny_pyIter_enum he ?_
   have I2:L2.Inv X pins σ H1 { s1 with heap:=h'}:=I1.kept (t':=s1.toks) k
   refine⟨s1.heap.objs.size+1,[s1.heap.objs.size+1,s1.heap.objs.size],_,_,H1,rfl,I2,Gz l _ s1.heap.objs.size (abv _),⟨⟨_,he⟩,hit⟩,fun b hb=>?_,q⟩
   have QK:s1.heap.objs.size<=b:=by
     rcases aaE.mp hb with rfl | hb
     . exact abc _
     . have:b=s1.heap.objs.size:=by simpa using hb
       rw[this];exact aae _
   exact I1.vt QK (I1.bh.fresh QK)
noncomputable def tR (xs:List Dt):List Dt:=(aaj xs.length).map fun(k:Nat)=>.tup [.int k,xs.getD k .cW]
theorem GA:qm X G dl (tR xs) (ON X.K (Tv X.K G dl [.lst xs])):=fun st H R zq=>Bn zq fun Hf zq=>have S:=zq.1;have k:=zq.2;⟨Hf,S,fun vs Hf1 H1 g1 r1=>by
 cases r1 with
 | cons r t=>
   cases t
   cases r with
   | @lst q vs _ hq rp=>
     have hl:=rp.length
     refine⟨q,rfl,⟨vs,.of (g1.sub _ _ hq)⟩,k _ Hf1 H1 g1 fun bV H2 s1 s2 i=>⟨fun z hz=>?_,fun hi=>⟨vs,.of (s2 _ _ (s1 _ _ hq)),by unfold tR at hi;rw[k5,aaH] at hi;omega⟩⟩⟩
     have hi:i < xs.length:=by
       have:=(aag.mp hz).1
       unfold tR at this
       simpa using this
     unfold tR at hz
     rw[YL,aaL hi] at hz
     cases hz
     have hx:xs[i]?=some (xs.getD i .cW):=by rw[WW,k3 hi];rfl
     obtain⟨u,z1,z2⟩:=rp.get hx
     have hs:mP X.K H2 q vs:=.of (s2 _ _ (s1 _ _ hq))
     refine⟨⟨vs,u,hs,z1⟩,fun v H3 hy=>?_⟩
     obtain⟨pt,x,rfl,hn,rfl,e2⟩:=hy
     have e2:=e2 vs hs
     rw[z1] at e2;cases e2
     have g3:bo bV H2 (upd bV pt (.tup [.int i,u])) (upd H2 pt (.tup [.int i,u])):=.alloc s2 hn
     exact⟨_,g3,.tup (.inl ak) (.cons (.int _) (.cons ((z2.mono s1).mono g3.bF) .nil))⟩⟩
end
section
noncomputable def noOwn:List Slot->Bool
 | []=>true
 | .own _::_=>false
 | _::r=>noOwn r
theorem aY:∀ {dl:List Slot},noOwn dl=true->∀ (j:Nat) o,dl[j]?≠some (.own o)
 | [],_,j,o,h=>by simp at h
 | .val d::r,q,0,o,h=>by simp at h
 | .aJ::r,q,0,o,h=>by simp at h
 | .val d::r,q,j+1,o,h=>aY (dl:=r) q j o (by simpa using h)
 | .aJ::r,q,j+1,o,h=>aY (dl:=r) q j o (by simpa using h)
end
section
variable {X:Cx}{G:Gr}{dl:List Slot}{e:Expr}{x:Str}{i j:Int}{pos p2:Pos}{lo hi:Option Expr}{l u:Option Int}
theorem Q3:X3 X (fun x lo hi H Q=>∃ z:Str,x=.str z/\z.length<=sizeLine/\Q (.str (Txt.slice z lo hi)) H):=by
 intro pins s σ H x v vl vu lo hi sl Q I rx hs pl pu h
 obtain⟨z,rfl,hz,q⟩:=h
 obtain⟨t,rfl⟩:=(show ∃ t,v=Value.str z t from rx)
 obtain⟨o,h1,h2,h3⟩:=hs
 refine⟨"str",_,F.slot_str_getitem.lookup,typeIs_str _ _ _,?_⟩
 cases pl with
 | none=>
   cases pu with
   | none=>exact wpAny_getItem_str_slice (l:=none) (u:=none) (st:=none) ⟨o,h1,h2,h3⟩ rfl (post_val_or_str ⟨aav (Txt.slice_le z _ _) hz,fun t' k=>⟨.str (Txt.slice z _ _),H,I.tok _,⟨t',rfl⟩,q⟩⟩)
   | int j uj=>exact wpAny_getItem_str_slice (l:=none) (u:=some (j,uj)) (st:=none) ⟨o,h1,h2,h3⟩ rfl (post_val_or_str ⟨aav (Txt.slice_le z _ _) hz,fun t' k=>⟨.str (Txt.slice z _ _),H,I.tok _,⟨t',rfl⟩,q⟩⟩)
 | int i ui=>
   cases pu with
   | none=>exact wpAny_getItem_str_slice (l:=some (i,ui)) (u:=none) (st:=none) ⟨o,h1,h2,h3⟩ rfl (post_val_or_str ⟨aav (Txt.slice_le z _ _) hz,fun t' k=>⟨.str (Txt.slice z _ _),H,I.tok _,⟨t',rfl⟩,q⟩⟩)
   | int j uj=>exact wpAny_getItem_str_slice (l:=some (i,ui)) (u:=some (j,uj)) (st:=none) ⟨o,h1,h2,h3⟩ rfl (post_val_or_str ⟨aav (Txt.slice_le z _ _) hz,fun t' k=>⟨.str (Txt.slice z _ _),H,I.tok _,⟨t',rfl⟩,q⟩⟩)
def YC (K:W.Frag)(G:Gr)(dl:List Slot)(o:Option Int):TO:=fun st H Q=>∃ Hf,dO K G st Hf H dl/\∀ aI H',bo Hf H aI H'->Q o H'
abbrev W9 (X:Cx)(G:Gr)(dl:List Slot)(e:Option Expr)(o:Option Int):Prop:=PO X e (YC X.K G dl o)
theorem poI {e:Option Expr}{t t':TO}(h:PO X e t)(i:∀ st H Q,t' st H Q->t st H Q):PO X e t':=fun pins s st H Q I q=>h pins s st H Q I (i st H Q q)
theorem Jb:W9 X G dl none none:=poI Ec fun st H Q zq=>Bn zq fun Hf zq=>have S:=zq.1;have k:=zq.2;k Hf H (.refl S.sub)
theorem EF (h:EE X G dl e (.int i)):W9 X G dl (some e) (some i):=poI (Ed h) fun st H Q zq=>Bn zq fun Hf zq=>have S:=zq.1;have k:=zq.2;⟨Hf,S,fun v Hf1 H1 g1 r1=>by cases r1;exact⟨i,rfl,k Hf1 H1 g1⟩⟩
theorem Jc (he:EE X G dl e (.str x))(hl:W9 X G dl lo l)(hu:W9 X G dl hi u)(hx:x.length<=sizeLine):EE X G dl (.Subscript e (.Slice lo hi none p2) pos) (.str (Txt.slice x l u)):=
 gc (AU Q3 he hl hu) fun st H Q zq=>Bn zq fun Hf zq=>have S:=zq.1;have k:=zq.2;⟨Hf,S,fun v Hf1 H1 g1 r1=>⟨Hf1,S.grow g1,fun bV H2 g2=>⟨bV,(S.grow g1).grow g2,fun jq H3 g3=>by
   cases r1
   exact⟨x,rfl,hx,k _ jq H3 ((g1.trans g2).trans g3) (.str _)⟩⟩⟩⟩
end
noncomputable def Itx (x:Str):It:=⟨fun i H=>∃ c,x.cps[i]?=some c,fun i H v H'=>H'=H/\∃ c,x.cps[i]?=some c/\v=.str ⟨#[c]⟩,fun i H=>x.cps[i]?=none⟩
theorem Jd {P:Program}{w:World}{K:W.Frag}{tg:Expr}(x:Str)(t:Tok)(it:Addr):Turn P w K tg (Itx x) [it] it (fun i h=>h.IsStrIter it "str_ascii_iterator" x t i) where
 mem:=by simp
 obj:=fun i h st b hb=>by
   have e:b=it:=by simpa using hb
   subst e
   obtain⟨o,e,c,d⟩:=st
   exact⟨o,e,fun v z=>by rw[d] at z;cases z⟩
 keep:=fun i h h' st k=>let ⟨o,e,c,d⟩:=st;⟨o,k it (by simp) o e,c,d⟩
 item:=by
   intro X hP hw hK hc i pins s σ H E I hf st hg
   subst hP hw hK
   obtain⟨c,hx⟩:=hg
   obtain⟨f0,f1,f2,f3,f4,f5⟩:=hf it (by simp)
   refine wpAny_pyNext_ascii_item st hx fun h' jZ sb=>?_
   have I1:L2.Inv X pins σ H { s with heap:=h',toks:=s.toks+1}:=I.turned (t':=s.toks+1) (fun b o hb e=>(sb.2 b hb).trans e) f0 f1 f3 f4 f5
   obtain⟨o,e,cc,d⟩:=id jZ
   exact⟨_,rfl,AK (s:={ s with heap:=h',toks:=s.toks+1}) e cc d (by decide) ⟨.str ⟨#[c]⟩,H,I1,⟨_,rfl⟩,⟨rfl,c,hx,rfl⟩,jZ,fun b hb=>(hf b hb).1⟩⟩
 done:=by
   intro X hP hw hK hc i pins s σ H E I hf st hg
   subst hP hw hK
   obtain⟨f0,f1,f2,f3,f4,f5⟩:=hf it (by simp)
   exact wpAny_pyNext_ascii_end (I.ok.hd hc) st hg fun h' eb=>⟨rfl,I.turned (t':=s.toks) (fun b o hb e=>eb b o hb e) f0 f1 f3 f4 f5⟩
 self:=fun _ _ _ _ _ st h=>wpAny_pyIter_striter_ascii st h
noncomputable def kj (x:Str):Bool:=x.cps.all (· < 128)
noncomputable def signs (x:Str):List Dt:=x.cps.toList.map fun c=>.str ⟨#[c]⟩
section
variable {X:Cx}{G:Gr}{dl:List Slot}{a b c e:Expr}{x y z:Str}{pos:Pos}{i j k:Int}{u v:Bool}
def Va (ta:TE):TI:=fun σ H R=>ta σ H fun v H1=>∃ x,v=.str x/\kj x=true/\R (Itx x) H1
theorem fU {tg:Expr}{ta:TE}(ha:PE X a ta):PI X tg a (Va ta):=by
 intro pins s σ H R I h
 refine b7 (ha pins s σ H _ I h) fun v s1 ⟨w,H1,I1,r1,q1⟩=>?_
 obtain⟨x,e,hx,q⟩:=q1
 subst e
 obtain⟨t,rfl⟩:=(show ∃ t,v=Value.str x t from r1)
 refine wpAny_pyIter_ascii hx ?_
 refine⟨s1.heap.objs.size,[s1.heap.objs.size],_,_,H1,rfl,I1.kept (t':=s1.toks) fun b o e=>aaf _ e,Jd x t _,⟨_,aar _ rfl,rfl,rfl⟩,fun b hb=>?_,q⟩
 have e:b=s1.heap.objs.size:=by simpa using hb
 subst e
 exact I1.vt (aae _) (I1.bh.fresh (aae _))
theorem signs_get (x:Str)(i:Nat):(signs x)[i]?=(x.cps[i]?).map fun c=>.str ⟨#[c]⟩:=by
 unfold signs
 rw[YL,abI]
theorem o5 (x:Str):(signs x).length=x.length:=by
 unfold signs
 rw[k5,abn];rfl
theorem cB (hx:kj x=true):qm X G dl (signs x) (Va (tD X.K G dl (.str x))):=fun st H R zq=>Bn zq fun Hf zq=>have S:=zq.1;have k:=zq.2;⟨Hf,S,fun v Hf1 H1 g1 r1=>by
 cases r1
 refine⟨x,rfl,hx,k _ Hf1 H1 g1 fun bV H2 s1 s2 i=>⟨fun z hz=>?_,fun hi=>?_⟩⟩
 . rw[signs_get] at hz
   cases q:x.cps[i]? with
   | none=>rw[q] at hz;cases hz
   | some c=>
     rw[q] at hz
     cases hz
     refine⟨⟨c,q⟩,fun v H3 ⟨e1,c',e2,e3⟩=>?_⟩
     rw[q] at e2;cases e2
     subst e1 e3
     exact⟨bV,.refl s2,.str _⟩
 . show x.cps[i]?=none
   rw[hi,o5]
   exact Array.getElem?_size_le (aae _)⟩
theorem yo:n9 X (compareOp .LtE) (fun x y H Q=>∃ i j,x=.str i/\y=.str j/\Q (.bl (!decide (j.cps.toList < i.cps.toList))) H):=by
 intro pins s σ H x y v u Q I rx ry h
 obtain⟨i,j,rfl,rfl,q⟩:=h
 obtain⟨t,rfl⟩:=rx
 obtain⟨t',rfl⟩:=ry
 exact P.le_str (bA I q rfl)
noncomputable def Q4 (x y:Str):Bool:=!decide (y.cps.toList < x.cps.toList)
theorem Je {K:W.Frag}:Ek K (fun x y H Q=>∃ i j,x=.str i/\y=.str j/\Q (.bl (!decide (j.cps.toList < i.cps.toList))) H) (.str x) (.str y) (.bl (Q4 x y)):=fun v w Hf H Q s r1 r2 k=>by
 cases r1;cases r2;exact⟨x,y,rfl,rfl,k _ Hf H (.refl s) (.bl _)⟩
variable {d1 d2 d3:Dt}
theorem Bq {op Qj:CmpOp}{r r':R2}(ho:n9 X (compareOp op) r)(HD:n9 X (compareOp Qj) r')(h1:Ek X.K r d1 d2 (.bl u))(h2:Ek X.K r' d2 d3 (.bl v))(ha:EE X G dl a d1)(hb:EE X G dl b d2)(hc:EE X G dl c d3)(hm:lastMarks [op,Qj] [b,c]=false:=by with_unfolding_all rfl):EE X G dl (.Compare a [op,Qj] [b,c] pos) (.bl (u && v)):=
 gc (HQ ho HD ha hb hc hm) fun st H Q zq=>Bn zq fun Hf zq=>have S:=zq.1;have k:=zq.2;⟨Hf,S,fun x Hf1 H1 g1 r1=>⟨Hf1,S.grow g1,fun y bV H2 g2 r2=>h1 x y bV H2 _ g2.sub (r1.mono g2.bF) r2 fun z jq H3 g3 r3=>by
   cases r3
   refine⟨u,rfl,?_⟩
   cases u with
   | false=>exact A3 (k _ jq H3 ((g1.trans g2).trans g3) (.bl _))
   | true=>exact A4 ⟨jq,((S.grow g1).grow g2).grow g3,fun w LJ H4 g4 r4=>h2 y w LJ H4 Q g4.sub (r2.mono (g3.bF.trans g4.bF)) r4 fun q xx H5 g5 r5=>k q xx H5 ((((g1.trans g2).trans g3).trans g4).trans g5) r5⟩⟩⟩
theorem Jf (ha:EE X G dl a (.str x))(hb:EE X G dl b (.str y))(hc:EE X G dl c (.str z))(hm:lastMarks [.LtE,.LtE] [b,c]=false:=by with_unfolding_all rfl):EE X G dl (.Compare a [.LtE,.LtE] [b,c] pos) (.bl (Q4 x y && Q4 y z)):=Bq yo yo Je Je ha hb hc hm
theorem Jg (ha:EE X G dl a (.int i))(hb:EE X G dl b (.int j))(hc:EE X G dl c (.int k))(hm:lastMarks [.LtE,.LtE] [b,c]=false:=by with_unfolding_all rfl):EE X G dl (.Compare a [.LtE,.LtE] [b,c] pos) (.bl (decide (i<=j) && decide (j<=k))):=
 Bq HP HP (tM (g':=fun i j=>.bl (decide (i<=j))) fun _ _ _ _=>.bl _) (tM (g':=fun i j=>.bl (decide (i<=j))) fun _ _ _ _=>.bl _) ha hb hc hm
end
section
variable {X:Cx}{G:Gr}{dl:List Slot}{a b e:Expr}{pos p apos bH:Pos}{k x:Str}{xs:List Str}{bs:List Bool}{ns:List Int}{hi:Option Expr}{l u:Option Int}
theorem Jh {neg:Bool}:Ek X.K (WR X.K neg) (.str k) (.lst (xs.map .str)) (.bl (if neg then !decide (k∈xs) else decide (k∈xs))):=fun v w Hf H Q s r1 r2 kk=>by
 cases r1
 cases r2 with
 | @lst q vs _ hq rp=>
   have ev:=o3 rp
   subst ev
   refine⟨q,_,rfl,.inl (.of (s _ _ hq)),rfl,yn xs,?_⟩
   rw[vO]
   exact kk _ Hf H (.refl s) (.bl _)
theorem Q5 (ha:EE X G dl a (.str k))(hb:EE X G dl b (.lst (xs.map .str)))(hm:behindInMarks .In b=false:=by rfl):EE X G dl (.Compare a [.In] [b] pos) (.bl (decide (k∈xs))):=sh yg (Jh (neg:=false)) hm ha hb
theorem MK (ha:EE X G dl a (.str k))(hb:EE X G dl b (.lst (xs.map .str)))(hm:behindInMarks .NotIn b=false:=by rfl):EE X G dl (.Compare a [.NotIn] [b] pos) (.bl (!decide (k∈xs))):=sh qN (Jh (neg:=true)) hm ha hb
theorem range_all (bs:List Bool):(aaj bs.length).all (fun i=>bs.getD i true)=bs.all id:=by
 induction bs with
 | nil=>rfl
 | cons b r ih=>
   rw[aaI,abG,abL,List.all_map,abL]
   show(b && (aaj r.length).all (fun i=>r.getD i true))=(b && r.all id)
   rw[ih]
theorem GB (hc:X.calm=true):jr X (.builtin "all") (fun xs H Q=>∃ (p:Addr) (bs:List Bool),xs=[.ref p]/\mP X.K H p (bs.map V.bl)/\Q (.bl (bs.all id)) H):=by
 intro pins s σ H xs us Q I r h
 obtain⟨p,bs,rfl,hq,q⟩:=h
 obtain⟨u,rfl,rx⟩:=vals1 r
 cases rx
 obtain⟨aE,rv,pl,hz⟩:=I.list hq
 have hlen:=rv.length
 rw[k5] at hlen
 obtain⟨o,n,ho,_⟩:=id pl
 have hp:p < s.heap.objs.size:=aal ho
 refine call_all_walk (wpAny_pyIter_list pl.isList ?_)
 refine⟨s.heap.objs.size,_,_,_,_,_,fun i=>bs.getD i true,rfl,Walks.list (A:=X.A.in1) (I.ok.hd hc) s.heap.objs.size p (aat hp) aE.toArray,⟨⟨_,aar _ rfl,rfl,rfl⟩,?_⟩,fun i v s' Q' E' hv hQ=>?_,fun h' tk hk=>?_⟩
 . exact pl.isList.at fun o e=>aaf _ e
 . have hv:aE[i]?=some v:=by simpa using hv
   have hi:i < aE.length:=(aag.mp hv).1
   have OO:i < bs.length:=by omega
   obtain⟨u',h1,h2⟩:=rv.get (i:=i) (x:=V.bl bs[i]) (by rw[YL,k3 OO];rfl)
   rw[hv] at h1;cases h1
   cases h2
   have e:bs.getD i true=bs[i]:=by rw[WW,k3 OO];rfl
   have hQ:Q' (bs.getD i true) s':=hQ
   rw[e] at hQ
   exact wpAny_truthy_bool hQ
 . have ea:(aaj aE.toArray.size).all (fun i=>bs.getD i true)=bs.all id:=by rw[aan,<- hlen];exact range_all bs
   rw[ea]
   refine⟨.bl _,H,I.kept (t':=tk) fun b o e=>hk b o (fun hm=>?_) (aaf _ e),rfl,q⟩
   have:b=s.heap.objs.size:=by simpa using hm
   subst this
   exact aa3 _ (aal e)
theorem boot_all:bootBuiltins "all"=some (.builtin "all"):=by decide +kernel
theorem vP {K:W.Frag}{H:Hp}:∀ {bs:List Bool} {vs:List V},bB K H vs (bs.map Dt.bl)->vs=bs.map V.bl
 | [],_,.nil=>rfl
 | b::r,_,.cons h t=>by cases h;rw[vP t];rfl
theorem Ji (hm:X.mg "all"=none)(hc:X.calm=true)(ha:EE X G dl a (.lst (bs.map .bl)))(hg:Gl X "all":=by rfl)(he:starEach [a] X.env=[(false,eval a X.env)]:=by rfl):EE X G dl (.Call (.Name "all" p) [a] [] pos) (.bl (bs.all id)):=
 gc (dY (GB hc) hg hm boot_all (ae ha ai he) (by decide) (by decide) he rfl) fun st H Q zq=>Bn zq fun Hf zq=>have S:=zq.1;have k:=zq.2;⟨Hf,S,fun vs Hf1 H1 g1 r1=>by
   cases r1 with
   | cons r t=>cases t;cases r with
     | @lst q vs _ z r=>
       have ev:=vP r
       subst ev
       exact⟨q,bs,rfl,.of (g1.sub _ _ z),k _ Hf1 H1 g1 (.bl _)⟩⟩
theorem sD (ns:List Int):∀ k,k<=ns.length->preSum (fun i=>ns.getD i 0) k=(ns.take k).sum
 | 0,_=>by simp[preSum]
 | k+1,h=>by
   have hk:k < ns.length:=h
   rw[preSum,sD ns k (aa5 hk),aa6,k3 hk,List.sum_append,WW,k3 hk]
   simp
theorem GC (hc:X.calm=true):jr X (.builtin "sum") (fun xs H Q=>∃ (p:Addr) (ns:List Int),xs=[.ref p]/\mP X.K H p (ns.map V.int)/\Q (.int ns.sum) H):=by
 intro pins s σ H xs us Q I r h
 obtain⟨p,ns,rfl,hq,q⟩:=h
 obtain⟨u,rfl,rx⟩:=vals1 r
 cases rx
 obtain⟨aE,rv,pl,hz⟩:=I.list hq
 have hlen:=rv.length
 rw[k5] at hlen
 obtain⟨o,n,ho,_⟩:=id pl
 have hp:p < s.heap.objs.size:=aal ho
 refine call_sum_walkAnyS (wpAny_pyIter_list pl.isList ?_)
 refine⟨s.heap.objs.size,_,_,_,_,_,_,fun i=>ns.getD i 0,rfl,(Walks.list (A:=X.A.in1) (I.ok.hd hc) s.heap.objs.size p (aat hp) aE.toArray).toS,⟨⟨_,aar _ rfl,rfl,rfl⟩,?_⟩,fun b hb=>?_,fun i v hv=>?_,fun s' t' hm=>?_⟩
 . exact pl.isList.at fun o e=>aaf _ e
 . have hsz:(s.heap.push { cls:=.type "list_iterator",data:=.fields #[.ref p,.int 0 0]}).objs.size=s.heap.objs.size+1:=aa9 ..
   show b < (s.heap.push { cls:=.type "list_iterator",data:=.fields #[.ref p,.int 0 0]}).objs.size
   rw[hsz]
   rcases aaE.mp hb with e | hb
   . rw[e];exact abe _
   . have:b=p:=by simpa using hb
     rw[this];exact abF hp
 . have hv:aE[i]?=some v:=by simpa using hv
   have hi:i < aE.length:=(aag.mp hv).1
   have OO:i < ns.length:=by omega
   obtain⟨u',h1,h2⟩:=rv.get (i:=i) (x:=V.int ns[i]) (by rw[YL,k3 OO];rfl)
   rw[hv] at h1;cases h1
   obtain⟨t,rfl⟩:=h2
   refine⟨t,?_⟩
   show _=Value.int (ns.getD i 0) t
   rw[WW,k3 OO];rfl
 . have ea:preSum (fun i=>ns.getD i 0) aE.toArray.size=ns.sum:=by
     rw[aan,<- hlen,sD ns _ (aae _),aa8]
   rw[ea]
   refine⟨.int _,H,?_,⟨t',rfl⟩,q⟩
   obtain⟨h',g',d',tk,X1⟩:=s'
   have e1:g'=s.gens:=hm.gens
   have e2:d'=s.drawn:=hm.drawn
   have e3:X1=s.os:=hm.os
   subst e1 e2 e3
   refine I.kept (t':=tk) fun b o e=>hm.heap b o (fun z=>?_) (aaf _ e)
   have:b=s.heap.objs.size:=by simpa using z
   subst this
   exact aa3 _ (aal e)
theorem boot_sum:bootBuiltins "sum"=some (.builtin "sum"):=by decide +kernel
theorem mY {K:W.Frag}{H:Hp}:∀ {ns:List Int} {vs:List V},bB K H vs (ns.map Dt.int)->vs=ns.map V.int
 | [],_,.nil=>rfl
 | b::r,_,.cons h t=>by cases h;rw[mY t];rfl
theorem Jj (hm:X.mg "sum"=none)(hc:X.calm=true)(ha:EE X G dl a (.lst (ns.map .int)))(hg:Gl X "sum":=by rfl)(he:starEach [a] X.env=[(false,eval a X.env)]:=by rfl):EE X G dl (.Call (.Name "sum" p) [a] [] pos) (.int ns.sum):=
 gc (dY (GC hc) hg hm boot_sum (ae ha ai he) (by decide) (by decide) he rfl) fun st H Q zq=>Bn zq fun Hf zq=>have S:=zq.1;have k:=zq.2;⟨Hf,S,fun vs Hf1 H1 g1 r1=>by
   cases r1 with
   | cons r t=>cases t;cases r with
     | @lst q vs _ z r=>
       have ev:=mY r
       subst ev
       exact⟨q,ns,rfl,.of (g1.sub _ _ z),k _ Hf1 H1 g1 (.int _)⟩⟩
theorem yp:∀ {xs:List Str} {us:List Value},Vals (xs.map V.str) us->∃ l:List (Str×Tok),us=strValues l/\l.map (·.1)=xs
 | [],_,.nil=>⟨[],rfl,rfl⟩
 | x::r,_,.cons h t=>by
   obtain⟨tk,rfl⟩:=h
   obtain⟨l,rfl,e⟩:=yp t
   exact⟨(x,tk)::l,rfl,by rw[aaq,e]⟩
theorem ML:Qn X "str.join" (fun x xs H Q=>∃ (z:Str) (p:Addr) (ys:List Str),x=.str z/\xs=[.ref p]/\mP X.K H p (ys.map V.str)/\JoinOk z ys=true/\Q (.str (Txt.join z ys)) H):=by
 intro pins s σ H x xs v us Q I rx rv ⟨z,p,ys,e1,e2,hq,bh,q⟩
 subst e1 e2
 obtain⟨t,rfl⟩:=(show ∃ t,v=Value.str z t from rx)
 obtain⟨u,rfl,ru⟩:=vals1 rv
 cases ru
 obtain⟨aE,r,pl,hz⟩:=I.list hq
 obtain⟨l,rfl,el⟩:=yp r
 exact SC.join pl.isList el bh fun t' k=>⟨.str (Txt.join z ys),H,I.tok _,⟨t',rfl⟩,q⟩
theorem MN (ha:EE X G dl a (.str x))(he:EE X G dl e (.lst (xs.map .str)))(bh:JoinOk x xs=true)(iS:attributeBase a "join" X.env (eval a X.env)=eval a X.env:=by rfl)
   (r6:((backTo bH (starEach [e] X.env)).all (fun x=>!x.1) && (backToKw bH (keywordEach [] X.env)).all (fun x=>x.1.isSome) && decide ([e].length+([]:List Keyword).length+(if ([]:List Keyword).isEmpty then 0 else 1) < 30))=true:=by rfl)
   (iU:(apos.endLine == bH.line)=true:=by rfl) (nL:starEach [e] X.env=(false,eval e X.env)::starEach [] X.env:=by rfl):EE X G dl (.Call (.Attribute a "join" apos) [e] [] bH) (.str (Txt.join x xs)):=
 gc (tG PySem.F.plainAttrs_str PySem.F.slot_str_join PySem.F.type_str_join ML ha (ae he ai nL) iS r6 iU nL rfl) fun st H Q zq=>Bn zq fun Hf zq=>have S:=zq.1;have k:=zq.2;⟨Hf,S,fun v Hf1 H1 g1 r1=>by
   cases r1
   refine⟨rfl,Hf1,S.grow g1,fun us bV H2 g2 r2=>?_⟩
   cases r2 with
   | cons r2 t2=>cases t2;cases r2 with
     | @lst q vs _ hq rp=>
       have ev:=o3 rp
       subst ev
       exact⟨x,q,xs,rfl,rfl,.of (g2.sub _ _ hq),bh,k _ bV H2 (g1.trans g2) (.str _)⟩⟩
end
noncomputable def mx (kds:List (Key×Dt))(k:Key):Option Dt:=(kds.find? fun kv=>decide (kv.1=k)).map (·.2)
theorem q8 {p:Key×Dt}{r:List (Key×Dt)}{k:Key}(e:p.1=k):mx (p::r) k=some p.2:=by simp[mx,abi,e]
theorem ow {p:Key×Dt}{r:List (Key×Dt)}{k:Key}(e:¬ p.1=k):mx (p::r) k=mx r k:=by simp[mx,abi,e]
theorem cM.val {K:W.Frag}{H:Hp}{k:Key}:∀ {kvs:List (Key×V)} {kds:List (Key×Dt)} {d:Dt},cM K H kvs kds->mx kds k=some d->∃ v,oi kvs k=some v/\Rep K H v d
 | _,_,_,.nil,e=>by cases e
 | (k1,v1)::r,(_,d1)::s,d,.cons h t,e=>by
   by_cases q:k1=k
   . rw[q8 (p:=(k1,d1)) q] at e;cases e
     exact⟨v1,oj (p:=(k1,v1)) q,h⟩
   . rw[ow (p:=(k1,d1)) q] at e
     obtain⟨v,z1,z2⟩:=cM.val t e
     exact⟨v,by rw[mq (p:=(k1,v1)) q];exact z1,z2⟩
theorem cM.Br {K:W.Frag}{H:Hp}{k:Key}:∀ {kvs:List (Key×V)} {kds:List (Key×Dt)},cM K H kvs kds->(oi kvs k).isSome=(mx kds k).isSome
 | _,_,.nil=>rfl
 | (k1,v1)::r,(_,d1)::s,.cons h t=>by
   by_cases q:k1=k
   . rw[oj (p:=(k1,v1)) q,q8 (p:=(k1,d1)) q];rfl
   . rw[mq (p:=(k1,v1)) q,ow (p:=(k1,d1)) q]
     exact cM.Br t
theorem cM.snoc {K:W.Frag}{H:Hp}{k:Key}{v:V}{d:Dt}(q:Rep K H v d):∀ {kvs:List (Key×V)} {kds:List (Key×Dt)},cM K H kvs kds->cM K H (kvs ++ [(k,v)]) (kds ++ [(k,d)])
 | _,_,.nil=>.cons q .nil
 | _,_,.cons h t=>.cons h (cM.snoc q t)
theorem EG {kvs:List (Key×V)}{k:Key}{v:V}(h:(oi kvs k).isSome=false):putK kvs k v=kvs ++ [(k,v)]:=by
 unfold putK
 rw[qP,h]
 exact if_neg (by simp)
section
variable {X:Cx}{G:Gr}{E:XK}{dl:List Slot}{a b e i o:Expr}{d:Dt}{pos p:Pos}{k x:Str}{kds:List (Key×Dt)}
theorem MO (hu:X.A.units+1 < cLine)(ho:EE X G dl o (.eP kds))(hi:EE X G dl i (.str k))(h:mx kds (.inr k)=some d)(hs:Mj i):EE X G dl (.Subscript o i pos) d:=
 gc (Eh hu ho hi hs) fun st H Q zq=>Bn zq fun Hf zq=>have S:=zq.1;have kk:=zq.2;⟨Hf,S,fun v Hf1 H1 g1 r1=>⟨Hf1,S.grow g1,fun w bV H2 g2 r2=>by
   cases r2
   cases r1 with
   | @eP q kvs _ hq rp=>
     obtain⟨y,z1,z2⟩:=rp.val h
     have e:=t6.k (H:=H2) (k:=.inr k) (g2.big _ _ (g1.sub _ _ hq))
     rw[z1] at e
     exact⟨q,y,rfl,e,kk y bV H2 (g1.trans g2) (z2.mono g2.bF)⟩⟩⟩
theorem YD {neg:Bool}:∀ st H Q,tD X.K G dl (.bl (if neg then !(mx kds (.inr k)).isSome else (mx kds (.inr k)).isSome)) st H Q->(if neg then Eg (tD X.K G dl (.str k)) (tD X.K G dl (.eP kds)) else Ye (tD X.K G dl (.str k)) (tD X.K G dl (.eP kds))) st H Q:=fun st H Q zq=>Bn zq fun Hf zq=>have S:=zq.1;have kk:=zq.2;by
 cases neg with
 | false=>exact⟨Hf,S,fun v Hf1 H1 g1 r1=>⟨Hf1,S.grow g1,fun w bV H2 g2 r2=>by
     cases r1
     cases r2 with
     | @eP q kvs _ hq rp=>exact⟨q,_,rfl,t6.k (k:=.inr k) (g2.sub _ _ hq),by rw[rp.Br];exact kk _ bV H2 (g1.trans g2) (.bl _)⟩⟩⟩
 | true=>exact⟨Hf,S,fun v Hf1 H1 g1 r1=>⟨Hf1,S.grow g1,fun w bV H2 g2 r2=>by
     cases r1
     cases r2 with
     | @eP q kvs _ hq rp=>exact⟨q,_,rfl,t6.k (k:=.inr k) (g2.sub _ _ hq),by rw[rp.Br];exact kk _ bV H2 (g1.trans g2) (.bl _)⟩⟩⟩
theorem EH (hu:X.A.units+1 < cLine)(hi:EE X G dl i (.str k))(ho:EE X G dl o (.eP kds))(hm:behindInMarks .NotIn o=false:=by rfl):EB X G dl (.Compare i [.NotIn] [o] pos) (!(mx kds (.inr k)).isSome):=
 WV (PV (Gi hu hi ho) hm) fun st H Q zq=>Bn zq fun Hf zq=>have S:=zq.1;have kk:=zq.2;YD (neg:=true) st H _ ⟨Hf,S,fun v aI H' g r=>by cases r;exact⟨_,rfl,kk aI H' g⟩⟩
theorem Bs:bootBuiltins "tuple"=some (.type "tuple"):=by decide +kernel
theorem MP {ds:List Dt}(hm:X.mg "tuple"=none)(ha:EE X G dl a (.tup ds))(hg:Gl X "tuple":=by rfl)(he:starEach [a] X.env=[(false,eval a X.env)]:=by rfl):EE X G dl (.Call (.Name "tuple" p) [a] [] pos) (.tup ds):=
 gc (lp AW hg hm Bs (ae ha ai he) (he:=he)) fun st H Q zq=>Bn zq fun Hf zq=>have S:=zq.1;have k:=zq.2;⟨Hf,S,fun vs Hf1 H1 g1 r1=>by
   cases r1 with
   | cons r t=>cases t;cases r with
     | @tup q vs _ z r=>exact⟨q,vs,rfl,bU g1.sub z,k _ Hf1 H1 g1 (.tup z r)⟩⟩
theorem EI:EO X G dl (.Dict [] [] pos) (.eP []):=gc A1 fun st H Q zq=>Bn zq fun Hf zq=>have S:=zq.1;have k:=zq.2;fun p hp=>k p Hf _ (.eX S.sub hp) hp (S.sub.free hp) ⟨[],ak,.nil⟩
noncomputable def vQ (kds:List (Key×Dt))(k:Key)(v:Dt):List (Key×Dt):=
 if (mx kds k).isSome=true then kds.map (fun kv=>if kv.1=k then (kv.1,v) else kv) else kds ++ [(k,v)]
theorem cM.map_put {K:W.Frag}{H:Hp}{k:Key}{v:V}{d:Dt}(q:Rep K H v d):∀ {kvs:List (Key×V)} {kds:List (Key×Dt)},cM K H kvs kds ->
   cM K H (kvs.map fun kv=>if kv.1=k then (kv.1,v) else kv) (kds.map fun kv=>if kv.1=k then (kv.1,d) else kv)
 | _,_,.nil=>.nil
 | (k1,v1)::r,(_,d1)::s,.cons h t=>by
   rw[aaq,aaq]
   by_cases e:k1=k
   . rw[if_pos e,if_pos e];exact .cons q (cM.map_put q t)
   . rw[if_neg e,if_neg e];exact .cons h (cM.map_put q t)
theorem cM.put {K:W.Frag}{H:Hp}{k:Key}{v:V}{d:Dt}{kvs:List (Key×V)}{kds:List (Key×Dt)}(q:Rep K H v d)(r:cM K H kvs kds):cM K H (putK kvs k v) (vQ kds k d):=by
 unfold putK vQ
 rw[qP,r.Br]
 by_cases h:(mx kds k).isSome=true
 . rw[if_pos h,if_pos h];exact cM.map_put q r
 . rw[if_neg h,if_neg h];exact cM.snoc q r
theorem EJ (n:Nat){ps pn:Pos}(hu:X.A.units+1 < cLine)(he:EE X G dl e d)(hb:EE X G dl b (.str k))(hl:kds.length < sizeLine)(hd:dl[n]?=some (.own (.eP kds)):=by rfl)(hN:X.N[n]?=some x:=by rfl)(hv:vn X.env.scope x:=by first | exact aaG rfl | exact aaD (aaG rfl) | exact aaD (aaD rfl))(mQ:(x == ("__debug__":Str))=false:=by decide)(ml:(x == ("__classdict__":Str))=false:=by decide)(hs:swapsWith e (some (.Subscript (.Name x pn) b ps)) pos.line X.env=pure false:=by rfl):ES X G E dl (.Assign [.Subscript (.Name x pn) b ps] e pos) (.nx (dl.set n (.own (.eP (vQ kds (.inr k) d))))):=
 tL (Ei hu (vL (p:=pn) n hd hN hv mQ ml) hb he hs) fun D st H zq=>Bn zq fun Hf zq=>have S:=zq.1;have kk:=zq.2;⟨Hf,S,fun v Hf1 H1 g1 r1=>by
   have S1:=S.grow g1
   obtain⟨q,z1,z2,z3,z4⟩:=S1.own n _ hd
   refine⟨Hf1,q,S1,z1,z2,z4,Hf1,S1,fun iv bV H2 g2 r2=>?_⟩
   cases r2
   have S2:=S1.grow g2
   obtain⟨q',y1,y2,y3,kvs,y4,y5⟩:=S2.own n _ hd
   rw[z1] at y1;cases y1
   have hll:kvs.length < sizeLine:=by rw[y5.length];exact hl
   exact⟨q,_,rfl,Gf.k (k:=.inr k) y4 hll,kk st bV _ (g1.bF.trans g2.bF) (S2.Gn hd z1 ⟨_,ak,y5.put (r1.mono g2.bF)⟩)⟩⟩
noncomputable def pY (rows:List (Str×List Dt)):List (Key×Dt):=rows.map fun r=>(.inr r.1,.tup (.str r.1::r.2))
noncomputable def vR (r:Str×List Dt):Dt:=.tup (.str r.1::r.2)
theorem sE {k:Key}:∀ {kds:List (Key×Dt)},(∀ kv∈kds,kv.1≠k)->mx kds k=none
 | [],_=>rfl
 | kv::r,h=>by
   rw[ow (h kv (aaX ..))]
   exact sE fun z hz=>h z (aaF _ hz)
theorem Jl {rows:List (Str×List Dt)}(nd:(rows.map (·.1)).Nodup){j:Nat}(hj:j < rows.length):mx (pY (rows.take j)) (.inr rows[j].1)=none:=by
 refine sE fun kv YE=>?_
 obtain⟨r,hr,rfl⟩:=aaM.mp YE
 intro z
 have z:r.1=rows[j].1:=Sum.inr.inj z
 obtain⟨i,hi,e⟩:=aaT.mp hr
 have WU:i < j:=by
   rw[aax] at hi;omega
 rw[abt] at e
 have T8:i < rows.length:=by omega
 have h:=aaW.mp nd i j (by rw[k5];exact T8) (by rw[k5];exact hj) WU
 rw[aaO,aaO] at h
 exact h (by rw[e];exact z)
theorem C9 (rows:List (Str×List Dt)){j:Nat}(hj:j < rows.length):pY (rows.take (j+1))=pY (rows.take j) ++ [(.inr rows[j].1,vR rows[j])]:=by
 unfold pY
 rw[aa6,k3 hj,aa4];rfl
theorem bo.lC {Hf H aI H':Hp}{a:Addr}{u:HO}(g:bo Hf H aI H')(n:Hf a=none)(h:H a=some u)(nk:¬ Kept u:=by exact fun z=>z):aI a=none:=by
 cases q:aI a with
 | none=>rfl
 | some o=>
   obtain⟨o',z⟩:=g.yW h nk q
   rw[n] at z;cases z
theorem o6 {K:W.Frag}{st:L2.St}{Hf H:Hp}{dlu:List Slot}{p:Addr}{o:HO}(S:dO K G st Hf H dlu)(tN:noOwn dlu=true)(fp:Hf p=none)(gp:G.H p=none):dO K G st Hf (upd H p o) dlu:=
 ⟨⟨fun b u e=>by rw[ah (aw e gp)];exact S.gr.big _ _ e,S.gr.bF,fun b u e=>by rw[ah (aw e fp)];exact S.sub _ _ e,S.gr.new⟩,S.len,S.val,fun j o h=>absurd h (aY tN j o),fun j _ o _ _ h=>absurd h (aY tN j o)⟩
theorem Jm (nR nN:Nat){C z:Addr}{fs:List (Str×Dt)}{rows:List (Str×List Dt)}{f self rw_ rn:Str}{px pr pa pn p1 p3 p4 p5 p6 pi:Pos}{ie ve:Expr}{dlu:List Slot}(hu:X.A.units+1 < cLine)(hN:X.N.Nodup)(qU:X.calm=true)(hp:PassesOwn (model X.prog X.w) X.A X.env X.xe)(cl:uE X.K C)(na:bG X.K C f)(hd:dl[0]?=some (.own (.A6 z C fs)))(edl:dl.set 0 .aJ=dlu)(tN:noOwn dlu=true)(hr:dlu[nR]?=some (.val (.lst (rows.map vR))))(hn0:nN≠0)(hnR:nN≠nR)(hun:dlu[nN]?=some .aJ)(nd:(rows.map (·.1)).Nodup)(hlen:rows.length < sizeLine)(hi:∀ r:Str×List Dt,EE X G (dlu.set nN (.val (vR r))) ie (.str r.1))(hv:∀ r:Str×List Dt,EE X G (dlu.set nN (.val (vR r))) ve (vR r))(hl:Nat.ble fs.length 999=true:=by rfl)(TC:X.N[0]?=some self:=by rfl)(hNr:X.N[nR]?=some rn:=by rfl)(YF:X.N[nN]?=some rw_:=by rfl)(hvs:vn X.env.scope self:=by first | exact aaG rfl | exact aaD (aaG rfl) | exact aaD (aaD rfl))(hvr:vn X.env.scope rn:=by first | exact aaG rfl | exact aaD (aaG rfl) | exact aaD (aaD rfl))(mQ:(self == ("__debug__":Str))=false:=by decide)(ml:(self == ("__classdict__":Str))=false:=by decide)(YG:(rn == ("__debug__":Str))=false:=by decide)(YH:(rn == ("__classdict__":Str))=false:=by decide)(hx:Loc X.env.scope rw_:=by first | exact aaG rfl | exact aaD rfl)(hf:X.fn rw_=true\/X.env.scope.names.lookup rw_=some .local:=by first | exact .inl rfl | exact .inr rfl | assumption)(Hr:swapsWith (.Dict [] [] p1) (some (.Attribute (.Name self pn) f pa)) pos.line X.env=pure false:=by rfl)(AM:swapsWith ve (some (.Subscript (.Attribute (.Name self p3) f p4) ie p5)) p6.line X.env=pure false:=by rfl)(hb:attributeBase (.Name self p3) f X.env (eval (.Name self p3) X.env)=eval (.Name self p3) X.env:=by rfl)(hfs:∀ z,foldedSetIterable (.Name rn pr) X.env z=pure z:=by intro _;rfl):nM X G E dl [.Assign [.Attribute (.Name self pn) f pa] (.Dict [] [] p1) pos,.For (.Name rw_ px) (.Name rn pr) [.Assign [.Subscript (.Attribute (.Name self p3) f p4) ie p5] ve p6] [] pi] (.nx (dlu.set 0 (.own (.A6 z C (putD f (.eP (pY rows)) fs))))):=by
 have OP:∀ {p:Pos},PE X (.Name self p) fun st H Q=>∃ v,st[0]?=some (some v)/\Q v H:=fun {p}=>jv TC hvs mQ ml
 have qK:=mS (Ei (pos:=p6) (pos':=p5) hu (vw (pos:=p4) (OP (p:=p3)) hb) (fun pins s st H Q I (q:∃ r,tD X.K G (dlu.set nN (.val (vR r))) (.str r.1) st H Q)=>let ⟨r,q⟩:=q;hi r pins s st H Q I q) (fun pins s st H Q I (q:∃ r,tD X.K G (dlu.set nN (.val (vR r))) (vR r) st H Q)=>let ⟨r,q⟩:=q;hv r pins s st H Q I q) AM)
 refine A7 (n8 (vx (pos:=pos) (pos':=pa) (OP (p:=pn)) A1 Hr) (mS (yO hp qU (fN (jv (pos:=pr) hNr hvr YG YH)) (bT hN YF hx hf) qK hfs))) fun D st H zq=>Bn zq fun Hf zq=>have S:=zq.1;have k:=zq.2;?_
 obtain⟨a,sa,fa,ga,ea,dx,fv,ha,rf⟩:=S.own 0 _ hd
 intro p Bt
 have Xa:a≠p:=aw ha Bt
 have fp:Hf p=none:=S.sub.free Bt
 have gp:G.H p=none:=S.gr.big.free Bt
 have Q6:(upd H p (.dK [])) a=some (.ins C dx fv):=by rw[ah Xa];exact ha
 refine⟨.ref a,sa,a,C,dx,fv,rfl,Q6,cl,na,by rw[rf.length];exact Nat.lt_succ_of_le (aaJ hl),?_⟩
 have S0:dO X.K G st Hf H dlu:=by
   subst edl
   refine⟨S.gr,by simp[S.len],fun j d h=>?_,fun j o h=>absurd h (aY tN j o),fun j _ o _ _ h=>absurd h (aY tN j o)⟩
   by_cases e:0=j
   . subst e
     by_cases TF:0 < dl.length
     . rw[aah TF] at h;cases h
     . exact absurd (aag.mp hd).1 TF
   . rw[aai e] at h;exact S.val j d h
 have Su:dO X.K G st Hf (upd (upd H p (.dK [])) a (.ins C dx (fq f (.ref p) fv))) dlu:=o6 (o6 S0 tN fp gp) tN fa ga
 obtain⟨lv,Jn,Qu⟩:=Su.val nR _ hr
 cases Qu with
 | @lst la vs _ hq rp=>
   have hvl:vs.length=rows.length:=by rw[rp.length,k5]
   refine⟨.ref la,Jn,la,rfl,⟨vs,.of (Su.sub _ _ hq)⟩,AL (xs:=vs) (fun j jZ H'=>∃ aI kvs,dO X.K G jZ aI H' dlu/\aG Hf aI/\jZ[0]?=some (some (.ref a))/\aI a=none/\aI p=none/\H' a=some (.ins C dx (fq f (.ref p) fv))/\H' p=some (.dK kvs)/\cM X.K aI kvs (pY (rows.take j)))
     ⟨Hf,[],Su,aG.refl _,sa,fa,fp,ak,by rw[ah (Ne.symm Xa)];exact ak,by rw[List.take_zero];exact .nil⟩ ?_ ?_ ?_⟩
   . rintro j jZ H' _ ⟨aI,kvs,S',sm,_⟩
     exact .of (S'.sub _ _ (sm _ _ hq))
   . rintro j v jZ H' Oz ⟨aI,kvs,S',sm,s0,YI,YJ,Vb,Xb,rk⟩
     obtain⟨dz,hz,rz⟩:=rp.get' Oz
     have hj:j < rows.length:=by
       have:=(aag.mp Oz).1
       omega
     rw[YL,k3 hj] at hz
     cases hz
     have Sp:dO X.K G (jZ.set nN (some v)) aI H' (dlu.set nN (.val (vR rows[j]))):=S'.set (rz.mono sm)
     have s0':(jZ.set nN (some v))[0]?=some (some (.ref a)):=by rw[aai hn0];exact s0
     refine⟨rows[j],aI,Sp,fun w Hf1 H1 g1 r1=>⟨.ref a,s0',a,C,dx,_,.ref p,rfl,.of (g1.big _ _ Vb),cl,na,by rw[oe,if_pos rfl],rows[j],Hf1,Sp.grow g1,fun y bV H2 g2 r2=>?_⟩⟩
     cases r2
     have g:=g1.trans g2
     have yV:H2 p=some (.dK kvs):=g.big _ _ Xb
     have MQ:H2 a=some (.ins C dx (fq f (.ref p) fv)):=g.big _ _ Vb
     have Vc:bV p=none:=g.lC YJ Xb
     have fa2:bV a=none:=g.lC YI Vb
     have Vd:=rk.mono g.bF
     have Ve:kvs.length < sizeLine:=by
       rw[rk.length]
       unfold pY
       rw[k5,aax];omega
     have Ge:(oi kvs (.inr rows[j].1)).isSome=false:=by rw[rk.Br,Jl nd hj];rfl
     have Sw:dO X.K G (jZ.set nN (some v)) bV H2 dlu:=(Sp.grow g).weak ⟨by simp,fun i s e n=>by
       by_cases hi:nN=i
       . subst hi;rw[hun] at e;cases e;exact absurd rfl n
       . rw[aai hi];exact e⟩
     refine⟨p,_,rfl,Gf.k (k:=.inr rows[j].1) yV Ve,bV,_,o6 Sw tN Vc gp,sm.trans g.bF,s0',fa2,Vc,by rw[ah Xa];exact MQ,ak,?_⟩
     rw[EG Ge,C9 rows hj]
     exact Vd.snoc (r1.mono g2.bF)
   . rintro jZ H' ⟨aI,kvs,S',sm,s0,YI,YJ,Vb,Xb,rk⟩
     rw[hvl,aa8] at rk
     have Vf:aG aI (upd aI p (.dK kvs)):=bN YJ
     have l0:0 < dlu.length:=by
       rw[<- S'.len]
       exact(aag.mp s0).1
     refine k jZ (upd aI p (.dK kvs)) H' (sm.trans Vf) ⟨⟨S'.gr.big,S'.gr.bF.trans Vf,fun b u e=>?_,fun b u e=>?_⟩,by simp[S'.len],fun j d h=>?_,fun j o h=>?_,fun i j o o' q h1 h2 h3 h4=>?_⟩
     . by_cases hb:b=p
       . subst hb;rw[ak] at e;cases e;exact Xb
       . rw[ah hb] at e;exact S'.sub _ _ e
     . by_cases hb:b=p
       . subst hb;exact .inr (.inl gp)
       . rw[ah hb] at e;exact S'.gr.new b u e
     . by_cases e:0=j
       . subst e;rw[aah l0] at h;cases h
       . rw[aai e] at h
         obtain⟨v,z1,z2⟩:=S'.val j d h
         exact⟨v,z1,z2.mono Vf⟩
     . by_cases e:0=j
       . subst e
         rw[aah l0] at h;cases h
         exact⟨a,s0,by rw[ah Xa];exact YI,ga,ea,dx,_,Vb,(rf.mono (sm.trans Vf)).put (.eP ak (rk.mono Vf))⟩
       . rw[aai e] at h;exact absurd h (aY tN j o)
     . have z:∀ (i:Nat) o,(dlu.set 0 (.own (.A6 z C (putD f (.eP (pY rows)) fs))))[i]?=some (.own o)->0=i:=fun i o h=>by
         by_cases e:0=i
         . exact e
         . rw[aai e] at h;exact absurd h (aY tN i o)
       rw[<- z i o h1,<- z j o' h2]
end
theorem EK:∀ {xs:List V} {us:List Value},xs.length=us.length->(∀ (j:Nat) x u,xs[j]?=some x->us[j]?=some u->RelV x u)->Vals xs us
 | [],[],_,_=>.nil
 | [],_::_,h,_=>by cases h
 | _::_,[],h,_=>by cases h
 | x::xs,u::us,h,f=>.cons (f 0 x u rfl rfl) (EK (Nat.succ.inj h) fun j a b h1 h2=>f (j+1) a b (by simpa using h1) (by simpa using h2))
theorem Jo:∀ {kvs:List (Key×V)} {vs:List (Key×Value)},KV kvs vs->∀ {j:Nat} {q:Key×Value},vs[j]?=some q->∃ p,kvs[j]?=some p/\p.1=q.1/\RelV p.2 q.2
 | _,_,.nil,j,q,h=>by simp at h
 | _,_,.cons r t,0,q,h=>by simp at h;subst h;exact⟨_,rfl,r⟩
 | _,_,.cons r t,j+1,q,h=>by
   obtain⟨p,h1,h2⟩:=Jo t (j:=j) (q:=q) (by simpa using h)
   exact⟨p,by simpa using h1,h2⟩
theorem Dc:∀ {kvs:List (Key×V)} {vs:List (Key×Value)},KV kvs vs->kvs.length=vs.length
 | _,_,.nil=>rfl
 | _,_,.cons r t=>congrArg (·+1) (Dc t)
section
variable {X:Cx}{G:Gr}{dl:List Slot}{a o:Expr}{kds:List (Key×Dt)}{pos p:Pos}
theorem Dd (hc:X.calm=true):jr X (.type "list") (fun xs H Q=>∃ (d:Addr) (kvs:List (Key×V)),xs=[.ref d]/\H d=some (.dK kvs)/\∀ l,H l=none->Q (.ref l) (upd H l (.lst (kvs.map fun kv=>kV kv.1)))):=by
 intro pins s σ H xs us Q I r h
 obtain⟨d,kvs,rfl,hq,q⟩:=h
 obtain⟨u,rfl,rx⟩:=vals1 r
 cases rx
 obtain⟨hz,lo,vs,kv,o,es,ep,ho,hr⟩:=I.bh d _ hq
 have hl:=Dc kv
 refine W.kdl_call (W.kdl_dict (knd:=cL X.prog X.w) (kvs:=vs) (ep:=ep) lo) (I.ok.hd hc) ⟨o,es,ho,hr⟩ (by omega) fun h' tk Vg c' kp e it=>?_
 refine⟨.ref s.heap.objs.size,_,I.laid (t':=tk) kp (aae _) (show aL X.prog X.w _ h' _ (.lst _) from⟨by rw[k5];exact hz,Vg.toList,c',EK ?_ fun j x u h1 h2=>?_,e⟩),rfl,q _ (I.bh.fresh (aae _))⟩
 . have e1:Vg.toList.length=vs.length:=by rw[abn];exact it.1
   rw[k5,e1,hl]
 . rw[abI] at h2
   obtain⟨k,y,z1,z2⟩:=it.2 j u h2
   obtain⟨p,z3,z4,_⟩:=Jo kv z1
   rw[YL,z3] at h1
   cases h1
   have z4:p.1=k:=z4
   show RelV (kV p.1) u
   rw[z4]
   rcases cV z2 with⟨i,t,rfl,rfl⟩ | ⟨i,t,rfl,rfl⟩
   . exact⟨t,rfl⟩
   . exact⟨t,rfl⟩
noncomputable def kD:Key->Dt
 | .inl i=>.int i
 | .inr x=>.str x
theorem sF {K:W.Frag}{H:Hp}:∀ {kvs:List (Key×V)} {kds:List (Key×Dt)},cM K H kvs kds->bB K H (kvs.map fun kv=>kV kv.1) (kds.map fun kd=>kD kd.1)
 | _,_,.nil=>.nil
 | (.inl i,_)::_,_,.cons _ t=>.cons (.int i) (sF t)
 | (.inr i,_)::_,_,.cons _ t=>.cons (.str i) (sF t)
theorem Jp (hm:X.mg "list"=none)(hc:X.calm=true)(ha:EE X G dl a (.eP kds))(hg:Gl X "list":=by rfl)(he:starEach [a] X.env=[(false,eval a X.env)]:=by rfl):EO X G dl (.Call (.Name "list" p) [a] [] pos) (.lst (kds.map fun kd=>kD kd.1)):=
 gc (lp (Dd hc) hg hm boot_list (ae ha ai he) (he:=he)) fun st H Q zq=>Bn zq fun Hf zq=>have S:=zq.1;have k:=zq.2;⟨Hf,S,fun vs Hf1 H1 g1 r1=>by
   cases r1 with
   | cons r t=>cases t;cases r with
     | @eP q kvs _ z r=>exact⟨q,kvs,rfl,g1.sub _ _ z,fun l hl=>k l Hf1 _ (g1.trans (.eX g1.sub hl)) (g1.big.free hl) (g1.sub.free hl) ⟨_,ak,sF r⟩⟩⟩
end
section
variable {X:Cx}{G:Gr}{dl:List Slot}{a:Expr}{pos p:Pos}{u:Bool}
theorem MR (hm:X.mg "int"=none)(ha:EE X G dl a (.bl u))(hg:Gl X "int":=by rfl)(he:starEach [a] X.env=[(false,eval a X.env)]:=by rfl):EE X G dl (.Call (.Name "int" p) [a] [] pos) (.int (if u then 1 else 0)):=
 gc (lp F6 hg hm boot_int (ae ha ai he) (he:=he)) fun st H Q zq=>Bn zq fun Hf zq=>have S:=zq.1;have k:=zq.2;⟨Hf,S,fun vs Hf1 H1 g1 r1=>by
   cases r1 with
   | cons r t=>cases t;cases r;exact .inr ⟨u,rfl,k _ Hf1 H1 g1 (.int _)⟩⟩
end
noncomputable def Vh (x:Str):It:=
 ⟨fun i H=>∃ c,x.cps[i]?=some c,fun i H v H'=>∃ p c,v=.ref p/\H p=none/\H'=upd H p (.tup [.int i,.str ⟨#[c]⟩])/\x.cps[i]?=some c,fun i H=>i=x.cps.size⟩
theorem De {P:Program}{w:World}{K:W.Frag}{elts:List Expr}{kt:Nat}{yP:Pos}(x:Str)(t:Tok)(e it:Addr)(TB:e≠it):Turn P w K (.Tuple elts kt yP) (Vh x) [e,it] e (fun i h=>(∃ old,IsEnum h e it i old)/\h.IsStrIter it "str_ascii_iterator" x t i) where
 mem:=by simp
 obj:=fun i h st b hb=>by
   obtain⟨⟨old,he⟩,o,e2,c,d⟩:=st
   rcases aaE.mp hb with rfl | hb
   . exact⟨_,he,fun v z=>by cases z⟩
   . have:b=it:=by simpa using hb
     subst this
     exact⟨o,e2,fun v z=>by rw[d] at z;cases z⟩
 keep:=fun i h h' st k=>by
   obtain⟨⟨old,he⟩,o,e2,r⟩:=st
   exact⟨⟨old,k e (by simp) _ he⟩,o,k it (by simp) o e2,r⟩
 item:=by
   intro X hP hw hK hc i pins s σ H E I hf st hg
   subst hP hw hK
   obtain⟨c,hx⟩:=hg
   obtain⟨⟨old,he⟩,hit⟩:=st
   have U9:e < s.heap.objs.size:=aal he
   have W8:it < s.heap.objs.size:=by obtain⟨_,z,_⟩:=hit;exact aal z
   have dg:i < x.cps.size:=(Array.getElem?_eq_some_iff.mp hx).1
   refine wpAny_pyNext_enum_itemD (Draws.strAscii (A:=X.A.in1) (I.ok.hd hc) it x t) he hit dg TB (by simpa using TB) fun u h1 tk hP ho Q2 hT hsz hk=>?_
   obtain⟨c',u',Cr,rfl⟩:=hP
   rw[hx] at Cr;cases Cr
   refine⟨_,rfl,wpAny_letOwnedTupleGo_enum ho fun h2 QO AM=>?_⟩
   have YB:h2.get? s.heap.objs.size=some { cls:=.type "tuple",data:=.seq #[.int i tk,.str ⟨#[c]⟩ u']}:=(AM.2 _ (abD U9)).trans hT
   have k2:∀ b o,b ∉ [e,it]->s.heap.get? b=some o->h2.get? b=some o:=fun b o hb q=>(AM.2 b fun z=>hb (by simp[z])).trans (hk b o (fun z=>hb (by simp[z])) (fun z=>hb (by simp[z])) q)
   have hp:H s.heap.objs.size=none:=I.bh.fresh (aae _)
   have I2:L2.Inv X pins σ (upd H s.heap.objs.size (.tup [.int i,.str ⟨#[c]⟩])) { s with heap:=h2,toks:=tk+1}:=Bp I hf k2 (aae _) ⟨aaJ rfl,[.int i tk,.str ⟨#[c]⟩ u'],.cons ⟨_,rfl⟩ (.cons ⟨_,rfl⟩ .nil),_,YB,rfl,_,rfl⟩
   refine⟨.ref s.heap.objs.size,_,I2,rfl,⟨_,c,rfl,hp,rfl,hx⟩,⟨⟨_,by simpa using QO⟩,let ⟨o,z1,z2⟩:=Q2;⟨o,(AM.2 it (Ne.symm TB)).trans z1,z2⟩⟩,fun b hb=>?_⟩
   have:b≠s.heap.objs.size:=by
     rcases aaE.mp hb with rfl | hb
     . exact aat U9
     . have:b=it:=by simpa using hb
       subst this
       exact aat W8
   rw[ah this]
   exact(hf b hb).1
 done:=by
   intro X hP hw hK hc i pins s σ H E I hf st hg
   subst hP hw hK
   have hg:i=x.cps.size:=hg
   subst hg
   obtain⟨⟨old,he⟩,hit⟩:=st
   obtain⟨f0,f1,f2,f3,f4,f5⟩:=hf it (by simp)
   exact wpAny_pyNext_enum_endD (Draws.strAscii (A:=X.A.in1) (I.ok.hd hc) it x t) he hit fun h' eb=>⟨rfl,I.turned (t':=s.toks) (fun b o hb q=>eb b o hb q) f0 f1 f3 f4 f5⟩
 self:=fun _ i s Q E st h=>by
   obtain⟨⟨old,he⟩,_⟩:=st
   exact wpAny_pyIter_enum he h
section
variable {X:Cx}{G:Gr}{dl:List Slot}{a:Expr}{x:Str}{p pos:Pos}
def Jq (ta:TA):TI:=fun σ H R=>ta σ H fun vs H1=>∃ x,vs=[.str x]/\kj x=true/\R (Vh x) H1
theorem Jr {elts:List Expr}{kt:Nat}{yP:Pos}{ta:TA}(hg:Gl X "enumerate")(hm:X.mg "enumerate"=none)(ha:PA X [a] ta)(hs:starEach [a] X.env=[(false,eval a X.env)]:=by rfl):PI X (.Tuple elts kt yP) (.Call (.Name "enumerate" p) [a] [] pos) (Jq ta):=by
 intro pins s σ H R I h
 refine Call_ (qf I hg hm boot_enumerate (PyProof.Rows.callWith_type1 (b7 (ha pos pins s σ H _ I h) fun us s1 ⟨vs,H1,I1,r1,q1⟩=>?_) hs rfl))
 obtain⟨x,e,Q7,q⟩:=q1
 subst e
 cases r1 with
 | cons r rr=>
   cases rr
   obtain⟨t,rfl⟩:=r
   refine call_enumerate_str fun h' he hit hsz k=>wpAny_pyIter_enum he ?_
   have Ux:strIterType x="str_ascii_iterator":=by unfold strIterType;rw[show x.cps.all (· < 128)=true from Q7];rfl
   rw[Ux] at hit
   have I2:L2.Inv X pins σ H1 { s1 with heap:=h'}:=I1.kept (t':=s1.toks) k
   refine⟨s1.heap.objs.size+1,[s1.heap.objs.size+1,s1.heap.objs.size],_,_,H1,rfl,I2,De x t _ s1.heap.objs.size (abv _),⟨⟨_,he⟩,hit⟩,fun b hb=>?_,q⟩
   have QK:s1.heap.objs.size<=b:=by
     rcases aaE.mp hb with rfl | hb
     . exact abc _
     . have:b=s1.heap.objs.size:=by simpa using hb
       rw[this];exact aae _
   exact I1.vt QK (I1.bh.fresh QK)
theorem Df (hx:kj x=true):qm X G dl (tR (Sg.signs x)) (Jq (Tv X.K G dl [.str x])):=fun st H R zq=>Bn zq fun Hf zq=>have S:=zq.1;have k:=zq.2;⟨Hf,S,fun vs Hf1 H1 g1 r1=>by
 cases r1 with
 | cons r t=>
   cases t
   cases r
   refine⟨x,rfl,hx,k _ Hf1 H1 g1 fun bV H2 s1 s2 i=>⟨fun z hz=>?_,fun hi=>?_⟩⟩
   . have hi:i < (Sg.signs x).length:=by
       have:=(aag.mp hz).1
       unfold tR at this
       simpa using this
     unfold tR at hz
     rw[YL,aaL hi] at hz
     cases hz
     have D5:(Sg.signs x)[i]?=some ((Sg.signs x).getD i .cW):=by rw[WW,k3 hi];rfl
     rw[signs_get] at D5
     cases q:x.cps[i]? with
     | none=>rw[q] at D5;cases D5
     | some c=>
       rw[q] at D5
       have D5:Dt.str ⟨#[c]⟩=(Sg.signs x).getD i .cW:=Option.some.inj D5
       refine⟨⟨c,q⟩,fun v H3 ⟨p,c',e1,e2,e3,e4⟩=>?_⟩
       rw[q] at e4;cases e4
       subst e1 e3
       show ∃ jq,bo bV H2 jq _/\Rep X.K jq (V.ref p) (Dt.tup [Dt.int i,(Sg.signs x).getD i Dt.cW])
       rw[<- D5]
       exact⟨upd bV p (.tup [.int i,.str ⟨#[c]⟩]),.alloc s2 e2,.tup (.of ak) (.cons (.int _) (.cons (.str _) .nil))⟩
   . show i=x.cps.size
     unfold tR at hi
     rw[k5,aaH,o5] at hi
     exact hi⟩
end
theorem Q8 {us:List Value}{d:Value}(h:(us ++ [d]).length=3):∃ a b,us=[a,b]:=by
 rw[aau] at h
 have h:us.length=2:=Nat.succ.inj h
 match us,h with
 | [a,b],_=>exact⟨a,b,rfl⟩
end Sg
namespace Sg
open PySem PySem.Spec PyProof.Rows L2
open Sem (wp)
structure YK (z tI tO j1 j2:Addr)(f1 f2:List Addr):Prop where
 tz:tI≠z
 oz:tO≠z
 az:j1≠z
 bz:j2≠z
 to:tI≠tO
 ta:tI≠j1
 tb:tI≠j2
 oa:tO≠j1
 ob:tO≠j2
 ab:j1≠j2
 z1:z ∉ f1
 o1:tO ∉ f1
 b1:j2 ∉ f1
 z2:z ∉ f2
 o2:tO ∉ f2
 a2:j1 ∉ f2
inductive ZS where
 | txt (x:Str) (t:Tok)
 | lst (l:Addr)
noncomputable def ZS.val:ZS->Value
 | .txt x t=>.str x t
 | .lst l=>.ref l
noncomputable def ZS.obj:ZS->Obj
 | .txt x t=>{ cls:=.type (strIterType x),data:=.fields #[.str x t,.int 0 0]}
 | .lst l=>{ cls:=.type "list_iterator",data:=.fields #[.ref l,.int 0 0]}
def ZS.ok (h:Heap):ZS->Prop
 | .txt x _=>kj x=true
 | .lst l=>∃ xs,h.IsList l xs
def ZS.at (it:Addr)(i:Nat)(h:Heap):ZS->Prop
 | .txt x t=>h.IsStrIter it "str_ascii_iterator" x t i
 | .lst l=>h.IsListIter it l i
noncomputable def ZS.v:ZS->V
 | .txt x _=>.str x
 | .lst l=>.ref l
section
inductive ZD:Dt->List Dt->Prop
 | lst (xs:List Dt):ZD (.lst xs) xs
 | str (x:Str):kj x=true->ZD (.str x) (Sg.signs x)
end
noncomputable def exO (C t:Addr)(od:Option Addr):Obj:={ cls:=.ref C,dict:=od,data:=.fields #[.ref t,.none,.none,.none,.bool false,.none]}
def ExB (h:Heap)(e C:Addr)(od:Option Addr):Prop:=∃ t:Addr,h.get? e=some (exO C t od)
section
variable {C:Addr}
structure StX (K:W.Frag)(C:Addr)(f:Str):Prop where
 sa:W.findIn K (.ref C) "__setattr__"=some (some (.builtin "object.__setattr__"))
 na:W.findIn K (.ref C) f=some none
 ob:W.mroIn K C (.type "object")=some true
 mr:∃ G,(W.clsIn K C).map (·.mro)=some [.ref C,.ref G,.type "ValueError",.type "Exception",.type "BaseException",.type "object"]
 hd:(W.clsIn K C).map (·.hasDict)=some true
end
noncomputable def Q9 (K:PySem.W.Frag)(C:Addr)(bmB:List Value)(nw:String)(fI:Addr):Bool:=match K.lookup C with
 | some ⟨.type "type",_,.cls cd,sl⟩=>(match cd.mro,sl.toList with
   | .ref D::tl,[_,_,_,_,some (.builtin n),_]=>D == C && (n == nw && (!cd.hasDel && (PySem.W.tailIn K bmB tl && (PySem.W.nsOkIn K cd.ns && (PySem.W.nsIn K cd.ns "__init__" == some (some (.ref fI)))))))
   | _,_=>false)
 | _=>false
structure XcI (K:W.Frag)(C fI:Addr):Prop where
 ex:Q9 K C bmV "ValueError.__new__" fI=true
 fn:W.typeIn K (.ref fI)=some (.type "function")
 kp:W.keepIn K (.ref C)=true
structure XcB (K:W.Frag)(G:Addr):Prop where
 sp:W.specialIn K (.ref G) "__getattribute__"=some (some (.builtin "type.__getattribute__"))
 rd:W.readsIn K G (.type "type")=true
 fc:W.findCls K (.ref G) (.type "type") "__init__"=some (.val (.builtin "ValueError.__init__"))
noncomputable abbrev xT (z C:Addr)(od:Option Addr):HO:=.ext fun h=>ExB h z C od
def spX (K:W.Frag)(C:Addr)(f:Str)(ok:Dt->Prop):Sp:=fun vs H Q E=>∃ Hf H1 z v d,vs=[.ref z,v]/\H=upd H1 z (xT z C none)/\H1 z=none/\aG Hf H1/\Rep K Hf v d/\ok d /\
 ∀ bV H2 dx,bo Hf H bV H2->H2 dx=none->dx≠z->Q .cW (upd (upd H2 dx (.xd [(f,v)])) z (xT z C (some dx)))
structure XF (P:Program)(w:World)(K:W.Frag)(mg:Str->Option Value)(base:Heap)(CX:r0)(k:Nat)(x:Str)(C:Addr)(f:Str)(ok:Dt->Prop):Prop where
 ex:∃ fI fd ps,j4 P w K mg base CX k fI fd ps (spX K C f ok)/\XcI K C fI/\mg x=some (.ref C)/\Binds K fd ps []
section
variable {X:Cx}{G:Gr}{E:XK}{dl:List Slot}{e:Expr}{p pos apos bH:Pos}{x:Str}{ds LK:List Dt}
theorem GD (n:Nat){pn:Pos}(he:EE X G dl e (.lst LK))(hl:ds.length+LK.length<=sizeLine)(hd:dl[n]?=some (.own (.lst ds)):=by rfl)(hN:X.N[n]?=some x:=by rfl)(hv:vn X.env.scope x:=by first | exact aaG rfl | exact aaD (aaG rfl) | exact aaD (aaD rfl))
   (mQ:(x == ("__debug__":Str))=false:=by decide) (ml:(x == ("__classdict__":Str))=false:=by decide)
   (iS:attributeBase (.Name x pn) "extend" X.env (eval (.Name x pn) X.env)=eval (.Name x pn) X.env:=by rfl)
   (r6:((backTo bH (starEach [e] X.env)).all (fun x=>!x.1) && (backToKw bH (keywordEach [] X.env)).all (fun x=>x.1.isSome) && decide ([e].length+([]:List Keyword).length+(if ([]:List Keyword).isEmpty then 0 else 1) < 30))=true:=by rfl)
   (iU:(apos.endLine == bH.line)=true:=by rfl) (nL:starEach [e] X.env=(false,eval e X.env)::starEach [] X.env:=by rfl) (hs:swapsWith (.Call (.Attribute (.Name x pn) "extend" apos) [e] [] bH) none pos.line X.env=pure false:=by rfl) :
   ES X G E dl (.Expr (.Call (.Attribute (.Name x pn) "extend" apos) [e] [] bH) pos) (.nx (dl.set n (.own (.lst (ds ++ LK))))):=
 tL (lR (tG PySem.F.plainAttrs_list PySem.F.slot_list_extend PySem.F.type_list_extend Gd (vL (p:=pn) n hd hN hv mQ ml) (ae he ai nL) iS r6 iU nL rfl) hs) fun D st H zq=>Bn zq fun Hf zq=>have S:=zq.1;have k:=zq.2;by
   obtain⟨q,z1,z2,z3,vs,hq,rp⟩:=S.own n _ hd
   refine⟨Hf,q,S,z1,z2,⟨vs,hq,rp⟩,.inl ⟨rfl,vs,.of hq⟩,Hf,S,fun us Hf1 H1 g1 r1=>?_⟩
   cases r1 with
   | cons r1 t1=>
     cases t1
     cases r1 with
     | @lst b zs _ hb rz=>
       refine⟨q,b,vs,zs,rfl,rfl,g1.big _ _ hq,g1.sub _ _ hb,by rw[rp.length,rz.length];exact hl,?_⟩
       exact k st Hf1 _ g1.bF ((S.grow g1).Gn hd z1 ⟨_,ak,(rp.mono g1.bF).append rz⟩)
end
mutual
noncomputable def YM:Dt->Bool
 | .lst _=>false
 | .oX _=>false
 | .tup ds=>Vi ds
 | .eP kds=>Vj kds
 | .obj _ fs=>Vk fs
 | .qh _=>false
 | .xo _=>false
 | .Cs _ _=>false
 | .dM _=>false
 | .memo _ _ _ _=>false
 | .dJ _ _ _ _=>false
 | .uF _ _ _=>false
 | .vC _ _ _ _ _=>false
 | .l8 _=>false
 | _=>true
noncomputable def Vi:List Dt->Bool
 | []=>true
 | d::r=>YM d && Vi r
noncomputable def Vj:List (Key×Dt)->Bool
 | []=>true
 | (_,d)::r=>YM d && Vj r
noncomputable def Vk:List (Str×Dt)->Bool
 | []=>true
 | (_,d)::r=>YM d && Vk r
end
structure Vl (k:Nat)(A:Around):Prop where
 dp:A.depth+3 * k+5 < recursionLimit
 un:A.units+16 * k+200 < cLine
structure Vm (P:Program)(w:World)(K:W.Frag)(mg:Str->Option Value)(base:Heap)(CX:r0)(k:Nat)(f:Addr)(fd:FuncData)(ps:List Str)(sp:Sp):Prop where
 len:∀ vs H Q E,sp vs H Q E->vs.length=ps.length
 run:∀ (A:Around) (outer:List Env) (s:Shared) (H:Hp) (args:Args) (us:List Value) (vs:List V) (Q:VK) (E:XK),Vl k A->AN P w K mg base A outer s H->BindsTo s fd args (ps.zip us)->Vals vs us->sp vs H Q E ->
   codeAny (model P w) A (.call (.ref f) args) (CR CX outer P w H s Q E) s
structure GFH (P:Program)(w:World)(K:W.Frag)(mg:Str->Option Value)(base:Heap)(CX:r0)(k:Nat)(x:Str)(n:Nat)(R:List Dt->Res->Prop):Prop where
 ex:∃ f fd ps,Vm P w K mg base CX k f fd ps (En K n R)/\mg x=some (.ref f)/\W.keepIn K (.ref f)=true/\Binds K fd ps []
theorem vS:typeLookup (.type "list") "keys"=pure none:=am_miss_of_fast (by decide +kernel)
theorem GG {prog:Program}{w:World}{A:Around}{E:Value->Shared->Prop}{s:Shared}{a:Addr}{o:Obj}{xs:Array Value}{k:Nat}{Q:Option Value->Shared->Prop}(hx:s.heap.get? a=some o)(hc:o.cls=.type "list")(Vn:o.data=.seq xs k)(hd:o.dict=none)(hA:A.handled=none)(h:∀ h' tk,(∀ b u,s.heap.get? b=some u->h'.get? b=some u)->Q none { s with heap:=h',toks:=tk}):wpAny (model prog w) A (getAttr? (.ref a) "keys") Q E s:=by
 obtain⟨c,dct,dat,sl⟩:=o
 simp only at hc Vn hd
 subst hc Vn hd
 obtain⟨hp,g,d,tk,os⟩:=s
 have hT:∀ tk',(⟨hp,g,d,tk',os⟩:Shared).TypeIs (.ref a) "list":=fun _=>⟨_,hx,rfl⟩
 have f1:=sub_AttributeError
 have f3:=F.slot_list_getattribute.lookup
 have f4:=F.slot_list_getattribute.bind (.ref a)
 have f5:=am_list_getattr_none
 unfold getAttr? getAttrBy? getAttrBy
 repeat (any_goals (first | assumption | exact hT _ | ((with_reducible show wpAny _ _ (call (Value.builtin "list.__getattribute__") _ _) _ _ _);refine call_meets F.slot_list_getattribute (hT _) am_entry_list_getattribute (F.args_list_getattribute_2 _ _) (meets_getattribute_miss_list a xs k sl "keys" _ vS (by decide +kernel)) ⟨hx,hA,fun h' tk' e D5=>?_⟩) | wp_step))
 obtain⟨t',u',he⟩:=D5.there
 show wpAny _ _ (getattributeRaised _ _ _ _ _ _ _) _ _ _
 unfold getattributeRaised
 repeat (any_goals (first | assumption | wp_step))
 exact h _ _ D5.keeps
theorem jJ:plainId "dict.update.loop"=true:=by decide +kernel
theorem pZ:entryFor table "dict.update.loop"=some Builtin.«dict.update.loop»:=entryFor_of_fast (by kernel_rfl)
inductive Ht (K:W.Frag)(H:Hp):List V->List (Key×V)->Prop
 | nil:Ht K H [] []
 | cons {t:Addr} {k:Key} {v:V} {xs:List V} {kvs:List (Key×V)}:vp K H t [kV k,v]->Ht K H xs kvs->Ht K H (.ref t::xs) ((k,v)::kvs)
theorem Ht.length {K:W.Frag}{H:Hp}:∀ {xs:List V} {kvs:List (Key×V)},Ht K H xs kvs->xs.length=kvs.length
 | _,_,.nil=>rfl
 | _,_,.cons _ r=>congrArg (·+1) (Ht.length r)
theorem Ht.get {K:W.Frag}{H:Hp}:∀ {xs:List V} {kvs:List (Key×V)} {i:Nat} {kv:Key×V},Ht K H xs kvs->kvs[i]?=some kv->∃ t,xs[i]?=some (.ref t)/\vp K H t [kV kv.1,kv.2]
 | _,_,_,_,.nil,e=>by simp at e
 | _,_,0,_,.cons h _,e=>by simp at e;subst e;exact⟨_,rfl,h⟩
 | _,_,i+1,_,.cons _ r,e=>by
   obtain⟨t,h1,h2⟩:=Ht.get (i:=i) r (by simpa using e)
   exact⟨t,by simpa using h1,h2⟩
theorem Bu {kvs:List (Key×V)}{k:Key}(h:k ∉ kvs.map (·.1)):(oi kvs k).isSome=false:=by
 induction kvs with
 | nil=>rfl
 | cons p r ih=>
   have h1:¬ p.1=k:=fun e=>h (by simp[e])
   rw[mq h1]
   exact ih fun z=>h (by simp at z ⊢;exact .inr z)
section
variable {X:Cx}{pins:List (Addr×Obj)}{σ:L2.St}{H:Hp}{A:Around}{R:Result->Shared->Prop}{L d it:Addr}{xs:List V}{kvs:List (Key×V)}
theorem Js (hA:A.handled=none)(hL:mP X.K H L xs)(hp:Ht X.K H xs kvs)(nd:(kvs.map (·.1)).Nodup)(hd:H d=none)(hf:lu X pins H it)(YN:d≠it)(hz:kvs.length<=sizeLine)(hR:∀ s',L2.Inv X pins σ (upd H d (.dK kvs)) s'->R (.ok (.ret .none)) s'):∀ (k i:Nat) (s:Shared) (tk:Tok),kvs.length - i=k->i<=kvs.length->L2.Inv X pins σ (upd H d (.dK (kvs.take i))) s->s.heap.IsListIter it L i->codeAny (model X.prog X.w) A (.builtin "dict.update.loop" ⟨[.ref d,.ref it,.int i tk,.none],[]⟩) R s:=by
 have hlen:=hp.length
 have sm:∀ o,aG H (upd H d o):=fun o=>bN hd
 obtain⟨f0,f1,f2,f3,f4,f5⟩:=hf
 intro k
 induction k with
 | zero=>
   intro i s tk hk hi I st
   have Ra:i=kvs.length:=by omega
   subst Ra
   obtain⟨aE,rv,p,hz'⟩:=I.list ((sm _).seq hL)
   have hl:=rv.length
   refine codeAny_builtin pZ ?_
   rw[Around.under_plainId jJ _]
   show wpAny _ A.in1 (pyNext (.ref it) >>= _) _ _ s
   refine wpAny_bind (wpAny_pyNext_list_end (show A.in1.handled=none from hA) st p.isList (by simp;omega) fun h' eb=>?_)
   have I1:L2.Inv X pins σ (upd H d (.dK (kvs.take kvs.length))) { s with heap:=h'}:=I.turned (t':=s.toks) (fun b o hb e=>eb b o hb e) (by rw[ah (Ne.symm YN)];exact f0) f1 f3 f4 f5
   rw[aa8] at I1
   show wpAny _ A.in1 (Builtin.Dict.addKeywords d [] >>= _) _ _ _
   exact wpAny_bind (wpAny_pure (wpAny_pure (hR _ I1)))
 | succ k ih=>
   intro i s tk hk hi I st
   have dg:i < kvs.length:=by omega
   obtain⟨t,ht1,ht2⟩:=hp.get (k3 dg)
   obtain⟨aE,rv,p,hz'⟩:=I.list ((sm _).seq hL)
   obtain⟨u,hu,ru⟩:=rv.get ht1
   cases (show u=Value.ref t from ru)
   refine codeAny_builtin pZ ?_
   rw[Around.under_plainId jJ _]
   show wpAny _ A.in1 (pyNext (.ref it) >>= _) _ _ s
   refine wpAny_bind (wpAny_pyNext_list_item st p.isList (x:=.ref t) (by simpa using hu) fun h' jZ sb=>?_)
   have I1:L2.Inv X pins σ (upd H d (.dK (kvs.take i))) { s with heap:=h'}:=I.turned (t':=s.toks) (fun b o hb e=>(sb.2 b hb).trans e) (by rw[ah (Ne.symm YN)];exact f0) f1 f3 f4 f5
   obtain⟨pit,rp,pt,hzt⟩:=I1.tuple (bU (sm _) ht2)
   cases rp with
   | cons rk rp=>cases rp with
     | cons rv' rp=>
       cases rp
       rename_i ku vu
       obtain⟨ot,eo,TH,nn,hdt⟩:=pt
       refine wpAny_bind (wpAny_holding (wpAny_bind (wpAny_tryCatch ?_)))
       unfold Builtin.Dict.pairItems
       refine wpAny_bind (wpAny_typeOf (T:="tuple") ⟨_,eo,TH⟩ ?_)
       simp only[show((Value.type "tuple" == Value.type "list") || (Value.type "tuple" == Value.type "tuple"))=true by decide,if_true]
       refine wpAny_bind (wpAny_seqItems eo hdt (wpAny_pure ?_))
       show wpAny _ A.in1 (holding [ku,vu] (dictSet d ku vu)) _ _ _
       refine wpAny_holding ?_
       have ed:(upd H d (HO.dK (kvs.take i))) d=some (.dK (kvs.take i)):=ak
       obtain⟨z,hdm,vs,rel,dd⟩:=OC I1.bh ed
       have hzv:vs.length<=sizeLine:=by rw[<- rel.length];exact z
       have Vo:putK (kvs.take i) kvs[i].1 kvs[i].2=kvs.take (i+1):=by
         rw[EG (Bu ?_),List.take_succ,k3 dg];rfl
         rw[List.map_take]
         intro hm
         obtain⟨j,hj,e⟩:=aaT.mp hm
         rw[aax,k5] at hj
         rw[abt,aaO] at e
         have:=aaW.mp nd j i (by rw[k5];omega) (by rw[k5];omega) (by omega)
         rw[aaO,aaO] at this
         exact this e
       refine wpAny_dictSet_pairs (hsz:=hzv) (AY rk) dd fun h2 Qz hs=>?_
       have he:∃ q,h2.get? d=some q:=let ⟨q,_,_,hq,_⟩:=Qz;⟨q,hq⟩
       have I2:L2.Inv X pins σ (upd (upd H d (.dK (kvs.take i))) d (.dK (putK (kvs.take i) kvs[i].1 kvs[i].2))) { s with heap:=h2,toks:=s.toks+1}:=mU (s:={ s with heap:=h'}) (t':=s.toks+1) I1 (by rw[ed];exact True.intro) hs he (Ib (by rw[Vo,aax];omega) hdm (rel.put _ rv') Qz)
       rw[uA,Vo] at I2
       exact wpAny_pure ⟨plainId_quiet jJ _,ih (i+1) _ _ (by omega) (by omega) I2 (jZ.at fun o e=>(hs.2 it (Ne.symm YN)).trans e)⟩
theorem zl (hc:X.calm=true):jr X (.type "dict") (fun xs H Q=>∃ L ys kvs,xs=[.ref L]/\H L=some (.lst ys)/\Ht X.K H ys kvs/\(kvs.map (·.1)).Nodup/\kvs.length<=sizeLine/\∀ l,H l=none->Q (.ref l) (upd H l (.dK kvs))):=by
 intro pins s σ H xs us Q I r h
 obtain⟨L,ys,kvs,rfl,hL,hp,nd,hz,q⟩:=h
 obtain⟨u,rfl,rx⟩:=vals1 r
 cases rx
 refine callType_codes (Q₁:=fun obj s₁=>obj=.ref s.heap.objs.size/\s₁={ s with heap:=s.heap.push { cls:=.type "dict",data:=.dict #[]}}) F.kt_called_dict (F.kt_typeCall_dict_1 _) F.entry_dict_init (kt_code_dict_new _ ⟨rfl,rfl⟩) ?_
 rintro obj s₁ ⟨rfl,rfl⟩
 have Ge:(s.heap.push { cls:=.type "dict",data:=.dict #[]}).DictOf (cL X.prog X.w) s.heap.objs.size []:=Heap.DictOf.new s.heap
 have hn:=I.bh.fresh (aae _)
 have I1:L2.Inv X pins σ (upd H s.heap.objs.size (.dK [])) { s with heap:=s.heap.push { cls:=.type "dict",data:=.dict #[]}}:=I.laid (a:=s.heap.objs.size) (o:=.dK []) (t':=s.toks) (fun _ _ q=>aaf _ q) (aae _) (A0 s.heap I.big)
 refine⟨Ge.typeIs,F.args_dict_init_2 _ _,?_⟩
 unfold Builtin.«dict.__init__»
 refine wpAny_bind ?_
 unfold Builtin.Dict.selfAndRest
 refine wpAny_bind (wpAny_notOrdered_dict Ge.typeIs ?_)
 show wpAny _ _ (pure (s.heap.objs.size,[Value.ref L])) _ _ _
 refine wpAny_pure ?_
 show wpAny _ _ (Builtin.Dict.updateFrom "dict.__init__" s.heap.objs.size (.ref L) [] .none) _ _ _
 unfold Builtin.Dict.updateFrom
 have hdL:s.heap.objs.size≠L:=fun e=>by rw[<- e,hn] at hL;cases hL
 have hL1:(upd H s.heap.objs.size (HO.dK [])) L=some (.lst ys):=by rw[ah (Ne.symm hdL)];exact hL
 obtain⟨hz',aE,n,rv,eL⟩:=(show aL X.prog X.w _ _ L (.lst ys) from I1.bh L _ hL1)
 have hA:X.A.handled=none:=I.ok.hd hc
 refine wpAny_bind (wpAny_typeOf (T:="list") ⟨_,eL,rfl⟩ ?_)
 rw[if_pos (by decide)]
 refine wpAny_bind (GG eL rfl rfl rfl (by exact hA) fun h1 Vp kp1=>?_)
 rw[if_pos (by rfl)]
 have I2:L2.Inv X pins σ (upd H s.heap.objs.size (.dK [])) { s with heap:=h1,toks:=Vp}:=I1.kept (t':=Vp) kp1
 have eL2:h1.get? L=some { cls:=.type "list",data:=.seq aE.toArray n}:=kp1 _ _ eL
 refine wpAny_bind (wpAny_rule (wpAny_bind (wpAny_pyIter_list (s:={ s with heap:=h1,toks:=Vp}) (items:=aE.toArray) ⟨_,eL2,rfl,n,rfl⟩ ?_)))
 have I3:L2.Inv X pins σ (upd H s.heap.objs.size (.dK [])) { s with heap:=h1.push { cls:=.type "list_iterator",data:=.fields #[.ref L,.int 0 0]},toks:=Vp}:=I2.kept (t':=Vp) fun b o e=>aaf _ e
 have hsz:s.heap.objs.size < h1.objs.size:=I2.bh.lt ak
 have hlo:s.heap.objs.size<=h1.objs.size:=aa5 hsz
 have YO:H h1.objs.size=none:=by
   have:=I2.bh.fresh (aae h1.objs.size)
   rw[ah (abD hsz)] at this
   exact this
 refine wpAny_pure ⟨plainId_quiet jJ _,Js (kvs:=kvs) (by exact hA) (.of hL) hp nd hn (I2.vt (b:=h1.objs.size) (aae _) YO) (aat hsz) hz (fun s' I'=>⟨rfl,.ref _,_,I',rfl,q _ hn⟩) kvs.length 0 _ _ (by omega) (by omega) I3 ⟨_,aar _ rfl,rfl,rfl⟩⟩
end
section
variable {X:Cx}{G:Gr}{dl:List Slot}{a:Expr}{pos p:Pos}{kds:List (Key×Dt)}
noncomputable def LL (kd:Key×Dt):Dt:=.tup [kD kd.1,kd.2]
theorem Jt {K:W.Frag}{Hf H:Hp}(sm:aG Hf H):∀ {ys:List V} {kds:List (Key×Dt)},bB K Hf ys (kds.map LL)->∃ kvs,Ht K H ys kvs/\cM K Hf kvs kds
 | _,[],.nil=>⟨[],.nil,.nil⟩
 | _,(k,d)::kds,.cons r t=>by
   obtain⟨kvs,h1,h2⟩:=Jt sm t
   cases r with
   | @tup a vs _ hs rp=>
     cases rp with
     | @cons v1 _ _ _ r1 r2=>cases r2 with
       | @cons v2 _ _ _ r2 r3=>
         cases r3
         have e1:v1=kV k:=by
           cases k with
           | inl i=>cases r1;rfl
           | inr x=>cases r1;rfl
         subst e1
         exact⟨(k,v2)::kvs,.cons (bU sm hs) h1,.cons r2 h2⟩
theorem cM.keys {K:W.Frag}{H:Hp}:∀ {v:List (Key×V)} {d:List (Key×Dt)},cM K H v d->v.map (·.1)=d.map (·.1)
 | _,_,.nil=>rfl
 | _,_,.cons _ r=>by rw[aaq,aaq,cM.keys r]
theorem my (hm:X.mg "dict"=none)(hc:X.calm=true)(ha:EE X G dl a (.lst (kds.map LL)))(nd:(kds.map (·.1)).Nodup)(hz:kds.length<=sizeLine)(hg:Gl X "dict":=by rfl)(he:starEach [a] X.env=[(false,eval a X.env)]:=by rfl):EO X G dl (.Call (.Name "dict" p) [a] [] pos) (.eP kds):=
 gc (lp (zl hc) hg hm boot_dict (ae ha ai he) (he:=he)) fun st H Q zq=>Bn zq fun Hf zq=>have S:=zq.1;have k:=zq.2;⟨Hf,S,fun vs Hf1 H1 g1 r1=>by
   cases r1 with
   | cons r t=>cases t;cases r with
     | @lst q vs _ z r=>
       obtain⟨kvs,h1,h2⟩:=Jt g1.sub r
       exact⟨q,vs,kvs,rfl,g1.sub _ _ z,h1,by rw[h2.keys];exact nd,by rw[h2.length];exact hz,fun l hl=>k l Hf1 _ (g1.trans (.eX g1.sub hl)) (g1.big.free hl) (g1.sub.free hl) ⟨kvs,ak,h2⟩⟩⟩
theorem GH:Qn X "str.count" (fun x vs H Q=>∃ z y:Str,x=.str z/\vs=[.str y]/\Q (.int (Txt.count z y)) H):=by
 intro pins s σ H x vs v us Q I rx rv ⟨z,y,e1,e2,q⟩
 subst e1 e2
 obtain⟨t,rfl⟩:=(show ∃ t,v=Value.str z t from rx)
 obtain⟨u,rfl,ru⟩:=vals1 rv
 obtain⟨t',rfl⟩:=(show ∃ t,u=Value.str y t from ru)
 exact PySem.SC.count ⟨.int (Txt.count z y),H,I.tok _,⟨_,rfl⟩,q⟩
end
section
inductive Ju:List (Key×Value)->List (Key×Value)->Prop
 | nil:Ju [] []
 | cons {k:Key} {i:Int} {t u:Tok} {xs ys:List (Key×Value)}:Ju xs ys->Ju ((k,.int i t)::xs) ((k,.int i u)::ys)
end
theorem vT {H:Hp}{q:Addr}{o:HO}(h:H q=some o):upd H q o=H:=by
 funext b
 by_cases e:b=q
 . subst e;rw[ak,h]
 . rw[ah e]
section
variable {X:Cx}{G:Gr}{dl:List Slot}{a b:Expr}{x:Str}{apos bH:Pos}{kds:List (Key×Dt)}
noncomputable def dI (kds:List (Key×Int)):List (Key×Dt):=kds.map fun kd=>(kd.1,Dt.int kd.2)
theorem MS {K:W.Frag}{H:Hp}:∀ {kds:List (Key×Int)} {kvs:List (Key×V)},cM K H kvs (dI kds)->kvs=kds.map fun kd=>(kd.1,V.int kd.2)
 | [],_,.nil=>rfl
 | (k,i)::kds,_,.cons r t=>by
   cases r
   rw[MS (kds:=kds) t];rfl
theorem GI {z w:Str}(ha:EE X G dl a (.str z))(hb:EE X G dl b (.str w))(iS:attributeBase a "count" X.env (eval a X.env)=eval a X.env:=by rfl)
   (r6:((backTo bH (starEach [b] X.env)).all (fun x=>!x.1) && (backToKw bH (keywordEach [] X.env)).all (fun x=>x.1.isSome) && decide ([b].length+([]:List Keyword).length+(if ([]:List Keyword).isEmpty then 0 else 1) < 30))=true:=by rfl)
   (iU:(apos.endLine == bH.line)=true:=by rfl) (nL:starEach [b] X.env=(false,eval b X.env)::starEach [] X.env:=by rfl):EE X G dl (.Call (.Attribute a "count" apos) [b] [] bH) (.int (Txt.count z w)):=
 gc (tG PySem.F.plainAttrs_str PySem.F.slot_str_count PySem.F.type_str_count GH ha (ae hb ai nL) iS r6 iU nL rfl) fun st H Q zq=>Bn zq fun Hf zq=>have S:=zq.1;have k:=zq.2;⟨Hf,S,fun v Hf1 H1 g1 r1=>by
   cases r1
   exact⟨rfl,Hf1,S.grow g1,fun vs bV H2 g2 r2=>by
     cases r2 with
     | cons r t=>cases t;cases r;exact⟨z,w,rfl,rfl,k _ bV H2 (g1.trans g2) (.int _)⟩⟩⟩
end
structure vU (X:Cx)(N:List Str)(xt:Str)(ix:List Nat)(sc:Scope):Prop where
 nd:N.Nodup
 nm:N=xt::ix.map (fun j=>X.N.getD j "")
 kind:sc.kind=.function
 one:sc.names.filter (fun y=>y.2 == .cell)=[(xt,.cell)]
 names:∀ y∈sc.names,y.2=.local->sc.names.lookup y.1=some .local
 hx:sc.names.lookup xt=some .cell
 PQ:∀ y∈sc.names,y.2=.free->y.1≠xt
 fr:∀ y∈sc.names,y.2=.free->X.env.kindOf y.1=some .cell\/X.env.kindOf y.1=some .free
 UO:∀ j∈ix,∃ y,X.N[j]?=some y/\sc.names.lookup y=some .free
noncomputable def j6 (X:Cx)(N:List Str)(sc:Scope)(xt:Str)(c C:Addr)(fp:List Addr)(s:Shared)(H:Hp):Cx:=
 { X with N:=N,s₀:=s,H₀:=H,env:=compEnvC sc ((xt,c)::lQ sc X.env) C X.env,outer:=X.stack,stack:=X.stack,ex:=fp,fn:=fun y=>y == xt,pn:=[],xe:=xC}
theorem EL:∀ {names:List (Str×NameKind)} {acc:List (Str×Addr)} {n:Nat} {h:Heap},names.filter (fun y=>y.2 == .cell)=[]->cellsFrom n names acc=acc/\pushCells h names=h
 | [],_,_,_,_=>⟨rfl,rfl⟩
 | (y,k)::r,acc,n,h,e=>by
   by_cases hk:(k == NameKind.cell)=true
   . rw[abC (by exact hk)] at e;cases e
   . rw[abB (by exact hk)] at e
     unfold cellsFrom pushCells
     rw[if_neg hk,if_neg hk]
     exact EL e
theorem Bv {x:Str}:∀ {names:List (Str×NameKind)} {acc:List (Str×Addr)} {n:Nat} {h:Heap},names.filter (fun y=>y.2 == .cell)=[(x,.cell)]->cellsFrom n names acc=(x,n)::acc/\pushCells h names=h.push { cls:=.type "cell",data:=.cell none}
 | [],_,_,_,e=>by cases e
 | (y,k)::r,acc,n,h,e=>by
   by_cases hk:(k == NameKind.cell)=true
   . rw[abC (by exact hk)] at e
     injection e with e1 e2
     cases e1
     unfold cellsFrom pushCells
     rw[if_pos hk,if_pos hk]
     exact EL e2
   . rw[abB (by exact hk)] at e
     unfold cellsFrom pushCells
     rw[if_neg hk,if_neg hk]
     exact Bv e
theorem MT {M:Model}{A:Around}{E:Value->Shared->Prop}{s:Shared}{sc:Scope}{globals:Addr}{cl:List (Str×Addr)}{qual:Str}{around:Env}{x:Str}{Q:Env->Shared->Prop}(h1:sc.names.filter (fun y=>y.2 == .cell)=[(x,.cell)])(hQ:Q { scope:=sc,locals:=s.heap.objs.size,globals:=globals,cells:=(x,s.heap.objs.size+1)::cl,qual:=qual,func:=none,code:=around.code,frame:=around.frame,builtins:=around.builtins} { s with heap:=(s.heap.push { cls:=.type "dict",data:=.dict #[]}).push { cls:=.type "cell",data:=.cell none}}):wpAny M A (newFunctionEnv sc globals cl [] qual none .none (some around)) Q E s:=by
 simp only[newFunctionEnv,Option.isSome_some,if_true]
 refine wpAny_bind (wpAny_alloc ?_)
 refine wpAny_bind (wpAny_layCells _ (fun name kind cells=>by cases hkc:kind == NameKind.cell <;> simp[hkc]) _ _ _ _ ?_)
 obtain⟨e1,e2⟩:=Bv (acc:=cl) (n:=(s.heap.push { cls:=.type "dict",data:=.dict #[]}).objs.size) (h:=s.heap.push { cls:=.type "dict",data:=.dict #[]}) h1
 show wpAny M A (forIn [] PUnit.unit _ >>= _) Q E _
 rw[List.forIn_nil]
 refine wpAny_bind (wpAny_pure (wpAny_pure ?_))
 dsimp only
 rw[e1,e2,aa9]
 exact hQ
section
variable {X:Cx}{N:List Str}{xt:Str}{ix:List Nat}{sc:Scope}{pins:List (Addr×Obj)}{st:L2.St}{H H':Hp}{s s':Shared}{c C D:Addr}{fp:List Addr}{h1:Heap}
theorem EM (B:vU X N xt ix sc)(ok:X.Ok):closureFor sc X.env=pure (lQ sc X.env):=zg fun y hy hk=>ok.has y.1 (B.fr y hy hk)
theorem o7 (B:vU X N xt ix sc)(ok:X.Ok){y:Str}{c:Addr}(h:(lQ sc X.env).lookup y=some c):X.env.cells.lookup y=some c/\(y,NameKind.free)∈sc.names:=by
 rcases qV _ _ h with⟨h1,h2⟩ | h1
 . obtain⟨c',h3⟩:=ok.has y (B.fr _ h1 rfl)
   rw[h3] at h2
   cases h2
   exact⟨h3,h1⟩
 . cases h1
theorem jx {y xt:Str}{c d:Addr}{cl:List (Str×Addr)}(h:((xt,c)::cl).lookup y=some d):(y=xt/\d=c)\/(y≠xt/\cl.lookup y=some d):=by
 rw[aaQ] at h
 cases q:(y == xt) with
 | true=>rw[q] at h;exact .inl ⟨by simpa using q,(Option.some.inj h).symm⟩
 | false=>rw[q] at h;exact .inr ⟨by simpa using q,h⟩
theorem uJ (B:vU X N xt ix sc)(I:L2.Inv X pins st H s)(hC:s.heap.objs.size<=C)(hc:s.heap.objs.size<=c)(hf:∀ b∈fp,lu X pins H b)(dg:∀ b∈fp,b < s.heap.objs.size):(j6 X N sc xt c C fp s H).Ok where
 mod:=I.ok.mod
 kind:=B.kind
 glob:=I.ok.glob
 blt:=I.ok.blt
 above:=hC
 inj:=fun y z d h1 h2=>by
   have old:∀ {y:Str},(lQ sc X.env).lookup y=some c->False:=fun {y} h=>by
     obtain⟨v,q⟩:=I.cell y c (o7 B I.ok h).1
     exact absurd (aao q.lt hc) (aa3 _)
   rcases jx h1 with⟨e1,e2⟩ | ⟨e1,e2⟩ <;> rcases jx h2 with⟨e3,e4⟩ | ⟨e3,e4⟩
   . rw[e1,e3]
   . rw[e2] at e4;exact(old e4).elim
   . rw[e4] at e2;exact(old e2).elim
   . exact I.ok.inj y z d (o7 B I.ok e2).1 (o7 B I.ok e4).1
 has:=fun y hy=>by
   have hy:(relabel sc X.env).names.lookup y=some .cell\/(relabel sc X.env).names.lookup y=some .free:=hy
   show ∃ d,((xt,c)::lQ sc X.env).lookup y=some d
   by_cases e:y=xt
   . subst e;exact⟨c,by simp[aaQ]⟩
   . have nc:(y,NameKind.cell) ∉ sc.names:=fun hm=>by
       have:(y,NameKind.cell)∈sc.names.filter (fun y=>y.2 == .cell):=List.mem_filter.mpr ⟨hm,rfl⟩
       rw[B.one] at this
       have:=List.mem_singleton.mp this
       exact e (congrArg Prod.fst this)
     have:(y,NameKind.free)∈sc.names:=by
       rcases hy with hy | hy
       . obtain⟨k',h1,h2⟩:=fT hy
         rcases h2 with h2 | h2
         . subst h2;exact absurd h1 nc
         . subst h2;exact h1
       . obtain⟨k',h1,h2⟩:=fT hy
         rcases h2 with h2 | h2 <;> subst h2 <;> exact h1
     obtain⟨d,hd⟩:=j5 (cells:=X.env.cells) sc.names [] (.inl this)
     refine⟨d,?_⟩
     rw[aaQ,show(y == xt)=false by simpa using e]
     exact hd
 Tn:=fun y d h1 h2=>by
   rcases jx h2 with⟨_,e⟩ | ⟨e,_⟩
   . rw[e];exact hc
   . exact absurd (by have h1:(y == xt)=true:=h1;simpa using h1) e
 hd:=I.ok.hd
 frames:=I.ok.frames
 TV:=.inl rfl
 LV:=fun b hb=>⟨aat (aao (dg b hb) hC),fun y d h=>by
   rcases jx h with⟨_,e⟩ | ⟨_,e⟩
   . rw[e];exact abD (aao (dg b hb) hc)
   . exact(hf b hb).2.2.2.2.1 y d (o7 B I.ok e).1⟩
 bs:=I.bs
 D2:=aav I.ok.D2 I.sz
 AD:=fun b o e hb=>by
   rcases (hf b hb).2.2.2.1 with z | z
   . exact I.ok.AD b o e z
   . exact absurd (aao (aal e) (aav I.ok.D2 z)) (aa3 _)
 AE:=fun b hb z=>by
   rcases aaE.mp (I.vo b z) with z | z
   . exact(hf b hb).2.1 z
   . exact(hf b hb).2.2.1 z
 rV:=I.stack
 Ot:=I.uB
theorem Dg (B:vU X N xt ix sc)(I:L2.Inv X pins st H s)(hf:∀ b∈fp,lu X pins H b)(dg:∀ b∈fp,b < s.heap.objs.size)(hC:C=s.heap.objs.size+1)(TZ:c=s.heap.objs.size+2)(k:∀ b o,s.heap.get? b=some o->h1.get? b=some o)(hn:h1.Ns C fun _=>none)(YQ:h1.IsCell c none)(hD:h1.get? s.heap.objs.size=some { cls:=.type "list",data:=.seq ([]:List Value).toArray 0}){t':Nat}:L2.Inv (j6 X N sc xt c C fp s H) [] (aak 1 none ++ frees ix st) (upd H s.heap.objs.size (.lst [])) { s with heap:=h1,toks:=t'}:=by
 have OF:s.heap.objs.size<=C:=by rw[hC];exact abc _
 have Cr:s.heap.objs.size<=c:=by rw[TZ];exact abw _ _
 have fr:∀ a,s.heap.objs.size<=a->H a=none:=fun a ha=>I.bh.fresh ha
 have ok:=uJ (c:=c) B I OF Cr hf dg
 have Cq:∀ y c,(lQ sc X.env).lookup y=some c->H c=none/\c < s.heap.objs.size/\∃ v,s.heap.IsCell c v:=fun y c h=>by
   have h:=(o7 B I.ok h).1
   obtain⟨v,q⟩:=I.cell y c h
   exact⟨I.pV y c h,q.lt,v,q⟩
 refine⟨ok,rfl,I.bare,Un.laid k (aae _) (fr _ (aae _)),⟨_,hn,fun i y v e1 e2 e3=>?_⟩,fun y d h=>?_,?_,fun y d h=>?_,fun p hp=>absurd (show p∈([]:List (Addr×Obj)) from hp) (by simp),?_,?_⟩
 . have e1:N[i]?=some y:=e1
   cases i with
   | zero=>cases e2
   | succ i=>
     rw[B.nm,aa2,YL] at e1
     have e2:(frees ix st)[i]?=some (some v):=e2
     unfold frees at e2
     rw[YL] at e2
     cases q:ix[i]? with
     | none=>rw[q] at e1;cases e1
     | some j=>
       rw[q] at e1 e2
       obtain⟨y',LI,IA⟩:=B.UO j (abg q)
       have Mu:=PySem.mem_of_lookup IA
       have ey:y=y':=by
         have e1:X.N.getD j ""=y:=Option.some.inj e1
         rw[WW,LI] at e1
         exact e1.symm
       subst ey
       have e2:(st[j]?).join=some v:=Option.some.inj e2
       have UP:st[j]?=some (some v):=by
         cases q2:st[j]? with
         | none=>rw[q2] at e2;cases e2
         | some z=>rw[q2] at e2;rw[show z=some v from e2]
       have kd:=B.fr _ Mu rfl
       have nx:y≠xt:=B.PQ _ Mu rfl
       have UQ:vn X.env.scope y:=by
         rcases kd with z | z
         . exact .inr (.inl z)
         . exact .inr (.inr z)
       obtain⟨m,_,hl⟩:=I.loc
       obtain⟨u,r,l⟩:=hl j y v LI UP UQ
       refine⟨u,r,.inr ?_⟩
       rcases l with⟨z,_⟩ | ⟨_,d,hd,ic⟩
       . rcases kd with z' | z' <;> rw[z] at z' <;> cases z'
       . obtain⟨d',To⟩:=j5 (cells:=X.env.cells) sc.names [] (.inl Mu)
         have:=(o7 B I.ok To).1
         rw[hd] at this;cases this
         obtain⟨oc,D4,CW⟩:=ic
         refine⟨?_,d,?_,oc,k _ _ D4,CW⟩
         . rcases e3 with e3 | e3 | e3
           . have e3:(relabel sc X.env).names.lookup y=some .local:=e3
             rcases mW (env:=X.env) IA with z | z
             . exact absurd (e3.symm.trans z) (by decide)
             . exact absurd (e3.symm.trans z) (by decide)
           . exact .inl e3
           . exact .inr e3
         . show((xt,c)::lQ sc X.env).lookup y=some d
           rw[aaQ,show(y == xt)=false by simpa using nx]
           exact To
 . rcases jx h with⟨_,e⟩ | ⟨_,e⟩
   . rw[e];exact⟨none,YQ⟩
   . obtain⟨_,_,v,oc,D4,hd⟩:=Cq y d e
     exact⟨v,oc,k _ _ D4,hd⟩
 . show upd H s.heap.objs.size (.lst []) C=none
   rw[ah (by rw[hC];exact abv _)]
   exact fr _ OF
 . show upd H s.heap.objs.size (.lst []) d=none
   rcases jx h with⟨_,e⟩ | ⟨_,e⟩
   . rw[e,ah (by rw[TZ];exact abD (Nat.lt_add_of_pos_right (by decide)))]
     exact fr _ Cr
   . obtain⟨q1,q2,_⟩:=Cq y d e
     rw[ah (aat q2)]
     exact q1
 . exact I.bh.laid k (aae _) ⟨aa1 _,[],0,.nil,hD⟩
 . show(aak 1 none ++ frees ix st).length=N.length
   rw[B.nm]
   unfold frees
   simp
theorem Bw {elt iter tg:Expr}{ifs:List Expr}{pos:Pos}{g:TG}{tt:TT}{te:TE}{J:It}{it:Addr}{tj:Nat->Heap->Prop}{Q:Addr->List V->Hp->Prop}{RR:Value->Addr->Result->Shared->Prop}{E:Value->Shared->Prop}(hc:X.calm=true)(B:vU X N xt ix sc)(hg:∀ c C fp s H,PG (j6 X N sc xt c C fp s H) tg g)(ht:∀ c C fp s H,MD (j6 X N sc xt c C fp s H) ifs tt)(iW:∀ c C fp s H,PE (j6 X N sc xt c C fp s H) elt te)(I:L2.Inv X pins st H s)(T:Turn X.prog X.w X.K tg J fp it tj)(h0:tj 0 s.heap)(hf:∀ b∈fp,lu X pins H b)(hq:∀ D,H D=none->Ez 1 g tt te (frees ix st) J D (Q D) H)(UR:∀ D C ys H' s',L2.Inv X pins st H' s'->(∃ m,s'.heap.Ns C m)->lu X pins H' C->Q D ys H'->RR (.ref D) C (.ok .next) s'):wpAny (model X.prog X.w) X.A (newList []) (fun acc s3=>wpAny (model X.prog X.w) X.A (newFunctionEnv sc X.env.globals (lQ sc X.env) [] X.env.qual none .none (some X.env)) (fun Bb s4=>codeAny (model X.prog X.w) X.A (.compStart (.ListComp elt [⟨tg,iter,ifs,0⟩] sc pos) 0 (.ref it) acc { Bb with scope:=relabel sc X.env}) (RR acc Bb.locals) s4) E s3) E s:=by
 have dg:∀ b∈fp,b < s.heap.objs.size:=fun b hb=>by
   obtain⟨o,e,_⟩:=T.obj _ _ h0 b hb
   exact aal e
 refine wpAny_newObj_type (MT B.one ?_)
 dsimp only
 generalize hG:s.heap.push { cls:=.type "list",dict:=none,data:=.seq ([]:List Value).toArray}=g'
 generalize Xc:(g'.push { cls:=.type "dict",data:=.dict #[]}).push { cls:=.type "cell",data:=.cell none}=h1
 have hC:g'.objs.size=s.heap.objs.size+1:=by rw[<- hG,aa9]
 have W2:s.heap.objs.size≠g'.objs.size:=by rw[hC];exact aat (abe _)
 have old:∀ b o,s.heap.get? b=some o->h1.get? b=some o:=fun b o e=>by
   rw[<- Xc,<- hG]
   exact aaf _ (aaf _ (aaf _ e))
 have IB:h1.get? s.heap.objs.size=some { cls:=.type "list",data:=.seq ([]:List Value).toArray 0}:=by
   rw[<- Xc,<- hG]
   exact aaf _ (aaf _ (aar _ rfl))
 have Hq:h1.Ns g'.objs.size fun _=>none:=by
   rw[<- Xc]
   exact(Heap.Ns.new g' (.type "dict")).keeps fun b o e=>aaf _ e
 have YQ:h1.IsCell (g'.objs.size+1) none:=by
   rw[<- Xc]
   have e:g'.objs.size+1=(g'.push { cls:=.type "dict",data:=.dict #[]}).objs.size:=by rw[aa9]
   rw[e]
   exact⟨_,aar _ rfl,rfl⟩
 have hD:H s.heap.objs.size=none:=I.bh.fresh (aae _)
 obtain⟨W,⟨m0,w0⟩,turn⟩:=hq _ hD
 have I0:=Dg (t':=s.toks) B I hf dg hC (show g'.objs.size+1=s.heap.objs.size+2 by rw[hC]) old Hq YQ IB
 have OG:tj 0 h1:=T.keep _ _ _ h0 fun b _ o e=>old b o e
 have oo:s.heap.objs.size<=g'.objs.size:=by rw[hC];exact abc _
 have qg:∀ {H':Hp},(∀ b∈fp,H' b=none)->∀ b∈fp,lu (j6 X N sc xt (g'.objs.size+1) g'.objs.size fp s H) [] H' b:=fun {H'} hn b hb=>
   ⟨hn b hb,((uJ B I oo (aav oo (abc _)) hf dg).LV b hb).1,(uJ B I oo (aav oo (abc _)) hf dg).AE b hb,.inl hb,((uJ B I oo (aav oo (abc _)) hf dg).LV b hb).2,fun p hp=>absurd (show p∈([]:List (Addr×Obj)) from hp) (by simp)⟩
 have loop:∀ s3:Shared,s3={ s with heap:=h1} ->
     codeAny (model X.prog X.w) X.A (.compLoop (.ListComp elt [⟨tg,iter,ifs,0⟩] sc pos) 0 (.ref it) (.ref s.heap.objs.size) (compEnvC sc ((xt,g'.objs.size+1)::lQ sc X.env) g'.objs.size X.env)) (RR (.ref s.heap.objs.size) g'.objs.size) s3:=by
   rintro s3 rfl
   refine Bj (fun n s'=>∃ i ys σ H',σ.length=1/\L2.Inv (j6 X N sc xt (g'.objs.size+1) g'.objs.size fp s H) [] (σ ++ frees ix st) H' s'/\tj i s'.heap/\(∀ b∈fp,H' b=none)/\W i n ys H') ?_ m0
     ⟨0,[],aak 1 none,_,by simp,I0,OG,fun b hb=>?_,w0⟩
   . rintro n s5 ⟨i,ys,σ,H5,hσ,I5,Ho,LD,w5⟩
     rcases turn i n ys H5 w5 with⟨stop,qn⟩ | ⟨go,hz,step⟩
     . refine b7 (T.done (j6 X N sc xt (g'.objs.size+1) g'.objs.size fp s H) rfl rfl rfl hc i [] s5 _ H5 xC I5 (qg LD) Ho stop) fun r s6 ⟨hr,I6⟩=>?_
       subst hr
       refine UR _ _ ys H5 s6 ?_ ?_ (I.vt oo I6.free) qn
       . exact I.HG I6.os I6.base I6.bh I6.bare fun b hb=>⟨(hf b hb).2.2.2.1,(hf b hb).2.1,(hf b hb).2.2.2.2.1,(hf b hb).2.2.2.2.2⟩
       . obtain⟨m,hm,_⟩:=I6.loc
         exact⟨m,hm⟩
     . refine b7 (T.item (j6 X N sc xt (g'.objs.size+1) g'.objs.size fp s H) rfl rfl rfl hc i [] s5 _ H5 xC I5 (qg LD) Ho go) fun r s6 ⟨u,hr,h6⟩=>?_
       subst hr
       refine b7 h6 fun _ s7 ⟨v,H7,I7,r7,y7,IC,US⟩=>?_
       have UT:=I7.pinned (qg US) (T.obj _ _ IC)
       refine b7 (hg (g'.objs.size+1) g'.objs.size fp s H _ s7 _ H7 v u _ UT r7 (step σ hσ v H7 y7)) fun _ s8 h8=>?_
       obtain⟨σ8,H8,I8,σ',e8,U7,h8⟩:=h8
       subst e8
       have pinned:∀ {σ9:L2.St} {H9:Hp} {s9:Shared},L2.Inv (j6 X N sc xt (g'.objs.size+1) g'.objs.size fp s H) ([] ++ rX fp s7.heap) σ9 H9 s9->tj (i+1) s9.heap/\∀ b∈fp,H9 b=none:=fun {σ9 H9 s9} I9=>by
         refine⟨T.keep _ _ _ IC fun b hb o e=>(I9.pin (b,o) (aaw _ (aaw _ (fS hb e)))).1,fun b hb=>?_⟩
         obtain⟨o,e,d⟩:=T.obj _ _ IC b hb
         exact(I9.pin (b,o) (aaw _ (aaw _ (fS hb e)))).2.1
       refine b7 (ht (g'.objs.size+1) g'.objs.size fp s H _ s8 _ H8 _ I8 h8) fun ok Yr ME=>?_
       obtain⟨Ys,MG,ME⟩:=ME
       cases ok with
       | false=>
         obtain⟨m',hm,w8⟩:=ME
         exact⟨m',hm,i+1,ys,σ',_,U7,MG.j0 (pins:=[]),(pinned MG).1,(pinned MG).2,w8⟩
       | true=>
         refine b7 (iW (g'.objs.size+1) g'.objs.size fp s H _ Yr _ Ys _ MG ME) fun z s9 ⟨y,H9,I9,r9,UU,m',hm,w9⟩=>?_
         refine b7 (oV _ s9 _ H9 (.ref s.heap.objs.size) [y] (.ref s.heap.objs.size) [z] (fun _ H'=>H'=upd H9 s.heap.objs.size (.lst (ys ++ [y]))) I9 rfl (.cons r9 .nil) ⟨_,ys,y,rfl,rfl,UU,hz,rfl⟩) fun _ s10 UW=>?_
         obtain⟨_,H10,ID,_,rfl⟩:=UW
         exact⟨m',hm,i+1,ys ++ [y],σ',_,U7,ID.j0 (pins:=[]),(pinned ID).1,(pinned ID).2,w9⟩
   . rw[ah (aat (dg b hb))]
     exact(hf b hb).1
 exact codeAny_compStart_list (loop _ rfl) (T.self _ 0 _ _ _ OG (loop _ rfl))
theorem vV {env:Env}{y:Str}:∀ {names:List (Str×NameKind)},names.lookup y=some .cell->(names.map fun(n,k)=>if (k == NameKind.free && env.scope.kind == .function && env.kindOf n == some .cell) then (n,NameKind.cell) else (n,k)).lookup y=some .cell
 | [],h=>by simp at h
 | (n,kk)::r,h=>by
   rw[aaq,aaQ]
   rw[aaQ] at h
   cases q:(y == n) with
   | true=>
     rw[q] at h
     have:kk=.cell:=Option.some.inj h
     subst this
     simp[q]
   | false=>
     rw[q] at h
     have ih:=vV (env:=env) h
     by_cases hc:(kk == NameKind.free && env.scope.kind == .function && env.kindOf n == some .cell)=true
     . simp only[hc,if_true,q];exact ih
     . simp only[hc,aaY,if_false,q];exact ih
end
section
variable {X:Cx}{G:Gr}{E:XK}{dl:List Slot}{a b elt iter tg:Expr}{ifs:List Expr}{pos p px py qW:Pos}{o:Out}{xt y:Str}{N:List Str}{ix:List Nat}{sc:Scope}
variable {α:Type}{as:List α}{z f:α->Dt}{sl:α->List Slot}{keep:α->Bool}{g:TG}{wi:TI}
inductive vW (X:Cx)(N:List Str)(xt:Str)(sc:Scope)(dl:List Slot)(ix:List Nat)(as:List α)(sl:α->List Slot)(keep:α->Bool):List Expr->Prop
 | nil:(∀ a∈as,keep a=true)->vW X N xt sc dl ix as sl keep []
 | one {ce:Expr}:(∀ a∈as,∀ c C fp s H G',EB (j6 X N sc xt c C fp s H) G' (sl a ++ jt dl ix) ce (keep a))->vW X N xt sc dl ix as sl keep [ce]
theorem EN (h:vW X N xt sc dl ix as sl keep ifs):∀ c C fp s H,MD (j6 X N sc xt c C fp s H) ifs (MH X.K dl ix as sl keep):=fun c C fp s H=>by
 cases h with
 | nil h=>exact fun pins s' st H' Q I ⟨a,G',ha,Hf,S,k⟩=>wpAny_tests_nil ⟨H',I,by have:=k Hf H' (.refl S.sub);rw[h a ha] at this;exact this⟩
 | one h=>exact Ey fun pins s' st H' Q I ⟨a,G',ha,q⟩=>h a ha c C fp s H G' pins s' st H' Q I q
def Rb (X:Cx)(N:List Str)(xt:Str)(sc:Scope)(dl:List Slot)(ix:List Nat)(as:List α)(sl:α->List Slot)(keep:α->Bool)(f:α->Dt)(elt:Expr):Prop:=∀ a∈as,keep a=true->∀ c C fp s H G',EE (j6 X N sc xt c C fp s H) G' (sl a ++ jt dl ix) elt (f a)
theorem Jv (h:Rb X N xt sc dl ix as sl keep f elt):∀ c C fp s H,PE (j6 X N sc xt c C fp s H) elt (MI X.K dl ix as sl keep f):=fun c C fp s H pins s' st H' Q I ⟨a,G',ha,hk,q⟩=>h a ha hk c C fp s H G' pins s' st H' Q I q
theorem Rc {tt:TT}{te:TE}(hc:X.calm=true)(B:vU X N xt ix sc)(hi:PI X tg iter wi)(hg:∀ c C fp s H,PG (j6 X N sc xt c C fp s H) tg g)(ht:∀ c C fp s H,MD (j6 X N sc xt c C fp s H) ifs tt)(iW:∀ c C fp s H,PE (j6 X N sc xt c C fp s H) elt te)(hs:∀ z,foldedSetIterable iter X.env z=pure z):PE X (.ListComp elt [⟨tg,iter,ifs,0⟩] sc pos) (IY wi 1 ix g tt te):=by
 intro pins s st H Q I h
 rw[eval_ListComp]
 refine wpAny_comprehension_free (use:=none) rfl hs (EM B I.ok) B.kind B.names (b7 (hi pins s st H _ I h) fun v s1 h1=>b7 h1 fun Ow s2 h2=>?_)
 obtain⟨it,fp,tj,J,H2,e,I2,T,D6,f2,hq⟩:=h2
 subst e
 refine Bw (RR:=fun acc C=>compPost (model X.prog X.w) X.A X.xe none (EP X pins st Q) acc C) hc B hg ht iW I2 T D6 f2 hq ?_
 intro D C ws H' s' I' ⟨m,hn⟩ mw q
 exact⟨m,hn,fun h' IK=>⟨.ref D,H',I'.turned (t':=s'.toks) (it:=C) (fun b o hb e=>(IK.2 b hb).trans e) mw.1 mw.2.1 mw.2.2.2.1 mw.2.2.2.2.1 mw.2.2.2.2.2,rfl,q⟩⟩
theorem Rf {tt:TT}{te:TE}{nN:Nat}(hc:X.calm=true)(B:vU X N xt ix sc)(hi:PI X tg iter wi)(hg:∀ c C fp s H,PG (j6 X N sc xt c C fp s H) tg g)(ht:∀ c C fp s H,MD (j6 X N sc xt c C fp s H) ifs tt)(iW:∀ c C fp s H,PE (j6 X N sc xt c C fp s H) elt te)(hs:∀ z,foldedSetIterable iter X.env z=pure z)(IL:swapsWith (.ListComp elt [⟨tg,iter,ifs,0⟩] sc pos) (some (.Name y py)) qW.line X.env=pure true)(hN:X.N.Nodup)(hy:X.N[nN]?=some y)(hl:Loc X.env.scope y)(hf:X.fn y=true\/X.env.scope.names.lookup y=some .local):PS X (.Assign [.Name y py] (.ListComp elt [⟨tg,iter,ifs,0⟩] sc pos) qW) (fun D st H=>IY wi 1 ix g tt te st H fun v H'=>D.nx (st.set nN (some v)) H'):=by
 intro pins s st H D0 I h
 rw[exec_Assign_Name_used _ _ _ _ IL]
 refine wpAny_bind (wpAny_standAt (wpAny_bind ?_))
 show wpAny _ X.A (do let _ <- comprehension (.ListComp elt [⟨tg,iter,ifs,0⟩] sc pos) sc X.env _ (newList []) false (eval iter X.env) (some (assign (.Name y py) X.env))) _ _ s
 refine wpAny_bind (wpAny_mono (wpAny_comprehension_free (use:=some (assign (.Name y py) X.env)) (Q:=fun _ s'=>SP X pins D0 .next s') rfl hs (EM B I.ok) B.kind B.names (b7 (hi pins s st H _ I h) fun v s1 h1=>b7 h1 fun Ow s2 h2=>?_)) (fun _ s' hq=>wpAny_pure (wpAny_pure hq)) fun _ _ z=>z)
 obtain⟨it,fp,tj,J,H2,e,I2,T,D6,f2,hq⟩:=h2
 subst e
 refine Bw (RR:=fun acc C=>compPost (model X.prog X.w) X.A X.xe (some (assign (.Name y py) X.env)) (fun _ s'=>SP X pins D0 .next s') acc C) hc B hg ht iW I2 T D6 f2 hq ?_
 intro D C ws H' s' I' ⟨m,hn⟩ mw q
 refine wpAny_assign_Name (oR I' hN hy hl (v:=.ref D) rfl (fun Mc U3 ⟨ad,CY,ha⟩=>?_) hf)
 have ne:C≠ad:=by
   rcases ha with z | z
   . rw[z];exact mw.2.1
   . exact Ne.symm (mw.2.2.2.2.1 _ _ z)
 exact⟨m,hn.sameBut CY ne,fun h' IK=>⟨_,H',U3.turned (t':=Mc.toks) (it:=C) (fun b o hb e=>(IK.2 b hb).trans e) mw.1 mw.2.1 mw.2.2.2.1 mw.2.2.2.2.1 mw.2.2.2.2.2,q⟩⟩
theorem Jw (as:List α)(z f:α->Dt)(sl:α->List Slot)(keep:α->Bool)(hc:X.calm=true)(B:vU X N xt ix sc)(hi:PI X tg iter wi)(hg:∀ c C fp s H,PG (j6 X N sc xt c C fp s H) tg g)(sA:qm X G dl (as.map z) wi)(Gy:∀ a∈as,OL X.K 1 g (z a) (sl a))(C8:vW X N xt sc dl ix as sl keep ifs)(iW:Rb X N xt sc dl ix as sl keep f elt)(hn:as.length<=sizeLine)(hs:∀ z,foldedSetIterable iter X.env z=pure z:=by intro _;rfl):EO X G dl (.ListComp elt [⟨tg,iter,ifs,0⟩] sc pos) (.lst ((as.filter keep).map f)):=gc (Rc hc B hi hg (EN C8) (Jv iW) hs) (o4 sA Gy hn)
theorem Rg (nN:Nat)(as:List α)(z f:α->Dt)(sl:α->List Slot)(keep:α->Bool)(hc:X.calm=true)(hN:X.N.Nodup)(B:vU X N xt ix sc)(hi:PI X tg iter wi)(hg:∀ c C fp s H,PG (j6 X N sc xt c C fp s H) tg g)(sA:qm X G dl (as.map z) wi)(Gy:∀ a∈as,OL X.K 1 g (z a) (sl a))(C8:vW X N xt sc dl ix as sl keep ifs)(iW:Rb X N xt sc dl ix as sl keep f elt)(hn:as.length<=sizeLine)(hs:∀ z,foldedSetIterable iter X.env z=pure z:=by intro _;rfl)(IL:swapsWith (.ListComp elt [⟨tg,iter,ifs,0⟩] sc pos) (some (.Name y py)) qW.line X.env=pure true:=by rfl)(hy:X.N[nN]?=some y:=by rfl)(hl:Loc X.env.scope y:=by first | exact aaG rfl | exact aaD rfl)(hf:X.fn y=true\/X.env.scope.names.lookup y=some .local:=by first | exact .inl rfl | exact .inr rfl | assumption):ES X G E dl (.Assign [.Name y py] (.ListComp elt [⟨tg,iter,ifs,0⟩] sc pos) qW) (.nx (dl.set nN (.own (.lst ((as.filter keep).map f))))):=
 tL (Rf hc B hi hg (EN C8) (Jv iW) hs IL hN hy hl hf) fun D st H zq=>Bn zq fun Hf zq=>have S:=zq.1;have k:=zq.2;o4 sA Gy hn st H _ ⟨Hf,S,fun p aI H' g n1 n2 r=>k _ aI H' g.bF (S.Mv g n1 n2 r)⟩
theorem vX {px:Pos}(B:vU X N xt ix sc):∀ c C fp s H,PG (j6 X N sc xt c C fp s H) (.Name xt px) (pW 0):=fun c C fp s H=>by
 have hN:(j6 X N sc xt c C fp s H).N[0]?=some xt:=by
   show N[0]?=some xt
   rw[B.nm];rfl
 have Es:(j6 X N sc xt c C fp s H).env.scope.names.lookup xt=some .cell:=vV B.hx
 exact bT (X:=j6 X N sc xt c C fp s H) B.nd hN (.inr Es) (.inl (by show(xt == xt)=true;simp))
end
noncomputable def Bx (sc Bi:Scope)(XN N:List Str)(xt:Str)(ix:List Nat):Bool:=
 decide N.Nodup && (decide (N=xt::ix.map (fun j=>XN.getD j "")) && (decide (sc.kind=.function) && (decide (sc.names.filter (fun y=>y.2 == .cell)=[(xt,.cell)]) && (sc.names.all (fun y=>decide (y.2=.local->sc.names.lookup y.1=some .local)) && (decide (sc.names.lookup xt=some .cell) && (sc.names.all (fun y=>decide (y.2=.free->y.1≠xt)) &&
   (sc.names.all (fun y=>decide (y.2=.free->Bi.names.lookup y.1=some .cell\/Bi.names.lookup y.1=some .free)) && ix.all (fun j=>decide (sc.names.lookup (XN.getD j "")=some .free) && decide (j < XN.length)))))))))
theorem yq {X:Cx}{sc Bi:Scope}{XN N:List Str}{xt:Str}{ix:List Nat}(h:Bx sc Bi XN N xt ix=true)(e1:X.env.scope=Bi:=by rfl)(e2:X.N=XN:=by rfl):vU X N xt ix sc:=by
 subst e1 e2
 unfold Bx at h
 simp only[aaP,abK,decide_eq_true_eq] at h
 obtain⟨h1,h2,h3,h4,h5,h6,h6',h7,h8⟩:=h
 refine⟨h1,h2,h3,h4,h5,h6,h6',h7,fun j hj=>?_⟩
 obtain⟨q1,q2⟩:=h8 j hj
 refine⟨X.N.getD j "",?_,q1⟩
 rw[WW,k3 q2];rfl
noncomputable def mk:HO->Bool
 | .memo _=>true
 | .bD _ _=>true
 | _=>false
theorem Rd.ex {H:Hp}{a C dx:Addr}{fs:List (Str×V)}(h:Rd H a (.ins C dx fs)):∃ o,H a=some o/\mk o=false/\(∀ x,o≠.dK x)/\∀ H':Hp,H' a=some o->Rd H' a (.ins C dx fs):=by
 rcases h with h | ⟨o,h⟩ | ⟨tg,o,kvs,h,z⟩ | ⟨o,h⟩
 . exact⟨_,h,rfl,(fun _ z=>nomatch z),fun H' e=>.inl e⟩
 . exact⟨_,h,rfl,(fun _ z=>nomatch z),fun H' e=>.inr (.inl ⟨o,e⟩)⟩
 . cases z
 . exact⟨_,h,rfl,(fun _ z=>nomatch z),fun H' e=>.inr (.inr (.inr ⟨o,e⟩))⟩
theorem b9.mkd {H:Hp}{a:Addr}{ls:kg}(h:b9 H a ls):∃ o,H a=some o/\mk o=true:=by
 rcases h with h | ⟨ns,h⟩
 . exact⟨_,h,rfl⟩
 . exact⟨_,h,rfl⟩
theorem b9.inj {H:Hp}{a:Addr}{ls ls':kg}(h:b9 H a ls)(h':b9 H a ls'):ls=ls':=by
 rcases h with h | ⟨ns,h⟩ <;> rcases h' with h' | ⟨ns',h'⟩ <;> rw[h] at h' <;> cases h' <;> rfl
section
variable {K:W.Frag}{Hf H:Hp}{a:Addr}{ls:kg}{u:HO}
theorem MU (hm:b9 Hf a ls){b:Addr}{o:HO}(h:Hf b=some o)(n:mk o=false):b≠a:=fun e=>by
 obtain⟨o',h1,h2⟩:=hm.mkd
 rw[e,h1] at h;cases h
 rw[h2] at n;cases n
theorem bc (hm:b9 Hf a ls){b:Addr}{o:HO}(h:Hf b=some o)(n:mk o=false):(upd Hf a u) b=some o:=by rw[ah (MU hm h n)];exact h
theorem q9 (hm:b9 Hf a ls)(hu:mk u=true):Kp Hf (upd Hf a u):=⟨fun b o e kq=>bc hm e (by cases o <;> first | rfl | exact(show False from kq).elim),fun b e=>by
 by_cases q:b=a
 . rw[q,ak]
   cases u <;> first | trivial | cases hu
 . rw[ah q];exact e,fun b x e=>bc hm e rfl⟩
def mz (ls:kg)(u:HO):Prop:=u=.memo ls\/∃ ns,u=.bD ls ns
theorem mz.mk {ls:kg}{u:HO}(h:mz ls u):mk u=true:=by rcases h with rfl | ⟨ns,rfl⟩ <;> rfl
theorem GJ (hm:b9 Hf a ls)(hu:mz ls u){b:Addr}{ls':kg}(h:b9 Hf b ls'):b9 (upd Hf a u) b ls':=by
 by_cases e:b=a
 . subst e
   rw[h.inj hm]
   rcases hu with rfl | ⟨ns,rfl⟩
   . exact .inl ak
   . exact .inr ⟨ns,ak⟩
 . rcases h with h | ⟨ns,h⟩
   . exact .inl (by rw[ah e];exact h)
   . exact .inr ⟨ns,by rw[ah e];exact h⟩
theorem mZ (hm:b9 Hf a ls)(hu:mz ls u){p:Addr}{f:Nat->List (Key×FD)}{n:Nat}(h:Known Hf p f n):Known (upd Hf a u) p f n:=fun i hi=>let ⟨q,o,kvs,h1,h2⟩:=h i hi;⟨q,o,kvs,bc hm h1 rfl,h2.kp (q9 hm hu.mk)⟩
theorem Rh (hm:b9 Hf a ls){b:Addr}{vs:List V}(s:vp K Hf b vs):vp K (upd Hf a u) b vs:=by
 rcases s with s | s
 . exact .inl (bc hm s rfl)
 . exact .inr s
theorem Jx (hm:b9 Hf a ls){b C dx:Addr}{fs:List (Str×V)}(s:Rd Hf b (.ins C dx fs)):Rd (upd Hf a u) b (.ins C dx fs):=by
 rcases s with s | ⟨o,s⟩ | ⟨_,_,_,_,s⟩ | ⟨o,s⟩
 . exact .inl (bc hm s rfl)
 . exact .inr (.inl ⟨o,bc hm s rfl⟩)
 . cases s
 . exact .inr (.inr (.inr ⟨o,bc hm s rfl⟩))
theorem Ri (hm:b9 Hf a ls){b:Addr}{vs:List V}(s:mP K Hf b vs):mP K (upd Hf a u) b vs:=by
 rcases s with(s | ⟨o,s⟩ | ⟨_,_,_,_,s⟩ | ⟨o,s⟩) | s
 . exact .inl (.inl (bc hm s rfl))
 . exact .inl (.inr (.inl ⟨o,bc hm s rfl⟩))
 . cases s
 . exact .inl (.inr (.inr (.inr ⟨o,bc hm s rfl⟩)))
 . exact .inr s
mutual
noncomputable def sG (a:Addr):Dt->Bool
 | .tup ds=>Jy a ds
 | .lst ds=>Jy a ds
 | .eP kds=>zm a kds
 | .qh kds=>zm a kds
 | .dM kds=>zm a kds
 | .obj _ fs=>kH a fs
 | .Cs _ fs=>kH a fs
 | .memo b _ _ _=>decide (b≠a)
 | .vC _ _ _ _ _=>false
 | _=>true
noncomputable def Jy (a:Addr):List Dt->Bool
 | []=>true
 | d::r=>sG a d && Jy a r
noncomputable def zm (a:Addr):List (Key×Dt)->Bool
 | []=>true
 | (_,d)::r=>sG a d && zm a r
noncomputable def kH (a:Addr):List (Str×Dt)->Bool
 | []=>true
 | (_,d)::r=>sG a d && kH a r
end
mutual
theorem iX (hm:b9 Hf a ls)(hu:mz ls u):∀ {v:V} {d:Dt},sG a d=true->Rep K Hf v d->Rep K (upd Hf a u) v d
 | _,_,_,.cW=>.cW
 | _,_,_,.bl b=>.bl b
 | _,_,_,.int i=>.int i
 | _,_,_,.str x=>.str x
 | _,.tup ds,h,.tup s r=>.tup (Rh hm s) (sH hm hu (by rw[sG] at h;exact h) r)
 | _,.lst ds,h,.lst s r=>.lst (bc hm s rfl) (sH hm hu (by rw[sG] at h;exact h) r)
 | _,_,_,.oX s=>.oX (Ri hm s)
 | _,.eP _,h,.eP s r=>.eP (bc hm s rfl) (o8 hm hu (by rw[sG] at h;exact h) r)
 | _,.obj _ _,h,.obj s r=>.obj (Jx hm s) (jy hm hu (by rw[sG] at h;exact h) r)
 | _,_,_,.ty n=>.ty n
 | _,_,_,.cls C=>.cls C
 | _,_,_,.xo s r=>.xo (bc hm s rfl) r
 | _,.qh _,h,.qh s r=>.qh (bc hm s rfl) (o8 hm hu (by rw[sG] at h;exact h) r)
 | _,.Cs _ _,h,.Cs s q g r=>.Cs (bc hm s rfl) q (bc hm g rfl) (jy hm hu (by rw[sG] at h;exact h) r)
 | _,.dM _,h,.dM s r=>.dM (bc hm s rfl) (o8 hm hu (by rw[sG] at h;exact h) r)
 | _,.memo b _ _ _,h,.memo h1 h2 h3 h4=>.memo h1 (by rw[sG] at h;rw[ah (of_decide_eq_true h)];exact h2) (h3.imp id fun z=>bc hm z rfl) (mZ hm hu h4)
 | _,_,_,.dJ h1 h2 h3 h4=>.dJ h1 (GJ hm hu h2) (h3.imp id fun z=>bc hm z rfl) (mZ hm hu h4)
 | _,_,_,.uF h=>.uF fun j p f z=>mZ hm hu (h j p f z)
 | _,.vC _ _ _ _ _,h,.vC _ _ _=>by rw[sG] at h;cases h
 | _,_,_,.iQ s=>.iQ (s.st (q9 hm hu.mk).st)
 | _,_,_,.l8 s=>.l8 (bc hm s rfl)
theorem sH (hm:b9 Hf a ls)(hu:mz ls u):∀ {v:List V} {d:List Dt},Jy a d=true->bB K Hf v d->bB K (upd Hf a u) v d
 | _,_,_,.nil=>.nil
 | _,d::ds,h,.cons r t=>by
   rw[Jy,aaP] at h
   exact .cons (iX hm hu h.1 r) (sH hm hu h.2 t)
theorem o8 (hm:b9 Hf a ls)(hu:mz ls u):∀ {v:List (Key×V)} {d:List (Key×Dt)},zm a d=true->cM K Hf v d->cM K (upd Hf a u) v d
 | _,_,_,.nil=>.nil
 | _,(k,d)::ds,h,.cons r t=>by
   rw[zm,aaP] at h
   exact .cons (iX hm hu h.1 r) (o8 hm hu h.2 t)
theorem jy (hm:b9 Hf a ls)(hu:mz ls u):∀ {v:List (Str×V)} {d:List (Str×Dt)},kH a d=true->bb K Hf v d->bb K (upd Hf a u) v d
 | _,_,_,.nil=>.nil
 | _,(k,d)::ds,h,.cons r t=>by
   rw[kH,aaP] at h
   exact .cons (iX hm hu h.1 r) (jy hm hu h.2 t)
end
noncomputable def jz (Hf H:Hp):Hp:=fun b=>match H b with
 | some (.kd tg o kvs)=>some (.kd tg o kvs)
 | some (.kx o u)=>some (.kx o u)
 | some (.tup xs)=>some (.tup xs)
 | _=>Hf b
theorem zo {b:Addr}{u:HO}(h:H b=some u)(k:Kept u):jz Hf H b=some u:=by
 unfold jz;rw[h]
 cases u <;> first | rfl | exact(show False from k).elim
theorem ER {b:Addr}{tg:Option (Addr×Nat)}{o:Obj}{kvs:List (Key×V)}(h:H b=some (.kd tg o kvs)):jz Hf H b=some (.kd tg o kvs):=by unfold jz;rw[h]
theorem o9 (b:Addr):(∃ u,H b=some u/\Kept u/\jz Hf H b=some u)\/jz Hf H b=Hf b:=by
 unfold jz
 cases h:H b with
 | none=>exact .inr rfl
 | some u=>cases u <;> first | exact .inr rfl | exact .inl ⟨_,rfl,trivial,rfl⟩
theorem gf (s:aG Hf H):aG Hf (jz Hf H):=fun b u e=>by
 rcases o9 (Hf:=Hf) (H:=H) b with⟨u',h1,_,h3⟩ | h
 . rw[s _ _ e] at h1;cases h1;exact h3
 . rw[h];exact e
theorem oy (s:aG Hf H):aG (jz Hf H) H:=fun b u e=>by
 rcases o9 (Hf:=Hf) (H:=H) b with⟨u',h1,_,h3⟩ | h
 . rw[h3] at e;cases e;exact h1
 . rw[h] at e;exact s _ _ e
theorem pk (s:aG Hf H):bo Hf H (jz Hf H) H:=⟨aG.refl _,gf s,oy s,fun b u e=>by
 rcases o9 (Hf:=Hf) (H:=H) b with⟨u',h1,h2,h3⟩ | h
 . rw[h3] at e;cases e;exact .inr (.inr h2)
 . rw[h] at e;exact .inl ⟨u,e⟩⟩
end
noncomputable def Xd:FD->Dt
 | .int i=>.int i
 | .eP kds=>.dM (dI kds)
 | d=>.iQ d
noncomputable def nW (fd:List (Key×FD)):List (Key×Dt):=fd.map fun kd=>(kd.1,Xd kd.2)
theorem yr {K:W.Frag}{H:Hp}:∀ (kds:List (Key×Int)),cM K H (kds.map fun kd=>(kd.1,V.int kd.2)) (dI kds)
 | []=>.nil
 | (k,i)::r=>.cons (.int i) (yr r)
theorem Jz {K:W.Frag}{H:Hp}:∀ {v:V} {d:FD},Fz H v d->Rep K H v (Xd d)
 | _,_,.int i=>.int i
 | _,_,.eP e=>.dM e (yr _)
 | _,_,.lst e=>.iQ (.lst e)
 | _,_,.tup e=>.iQ (.tup e)
 | _,_,.obj e f=>.iQ (.obj e f)
theorem uK {K:W.Frag}{H:Hp}:∀ {kvs:List (Key×V)} {fd:List (Key×FD)},rT H kvs fd->cM K H kvs (nW fd)
 | _,_,.nil=>.nil
 | _,_,.cons h t=>.cons (Jz h) (uK t)
theorem OQ {K:W.Frag}{H:Hp}:∀ {v:V} {d:FD},Rep K H v (Xd d)->Fz H v d
 | _,.int i,r=>by cases r;exact .int i
 | _,.lst ns,r=>by cases r with | iQ h=>exact h
 | _,.tup K ns,r=>by cases r with | iQ h=>exact h
 | _,.obj C fs,r=>by cases r with | iQ h=>exact h
 | _,.eP kds,r=>by
   cases r with
   | @dM a tg ob kvs _ h r=>
     rw[MS r] at h
     exact .eP h
theorem qo {K:W.Frag}{H:Hp}:∀ {kvs:List (Key×V)} {fd:List (Key×FD)},cM K H kvs (nW fd)->rT H kvs fd
 | _,[],.nil=>.nil
 | _,(k,d)::fd,.cons h t=>.cons (OQ h) (qo t)
theorem Rj {H H':Hp}(k:∀ b u,H b=some u->Kept u->H' b=some u){v:V}{d:FD}(h:Fz H v d):Fz H' v d:=h.st k
theorem gh {H H':Hp}(k:∀ b u,H b=some u->Kept u->H' b=some u):∀ {kvs:List (Key×V)} {kds:List (Key×FD)},rT H kvs kds->rT H' kvs kds
 | _,_,.nil=>.nil
 | _,_,.cons h t=>.cons (Rj k h) (gh k t)
section
variable {X:Cx}{G:Gr}{dl:List Slot}{a b e i:Expr}{pos p:Pos}{ls:kg}{j n:Nat}{l:Addr}{f:Nat->List (Key×FD)}{ns:List Nat}
theorem MV:Ts X (fun x y H Q=>∃ (p:Addr) (k:Nat) (q:Addr) (o:Obj) (kvs:List (Key×V)),x=.ref p/\y=.int (k:Int)/\H q=some (.kd (some (p,k)) o kvs)/\k < 10000/\Q (.ref q) H):=by
 intro value slice pins s σ H x y v u Q I rx ry h hs
 obtain⟨p,k,q,o,kvs,rfl,rfl,hq,hk,kk⟩:=h
 cases rx
 obtain⟨t,rfl⟩:=ry
 obtain⟨_,_,hm⟩:=(show aL X.prog X.w H s.heap q (.kd (some (p,k)) o kvs) from I.bh q _ hq)
 obtain⟨_,aE,c,e1,e2⟩:=hm p k rfl
 have hn:=l7
 exact item_listR (items:=aE.toArray) ⟨_,e1,rfl,c,rfl⟩ (by omega) (by omega) (by rw[aaS];simpa using e2) ⟨.ref q,H,I,rfl,kk⟩ hs
theorem Dh {k:Nat}(hb:EE X G dl b (.memo l ls j n))(hi:EE X G dl i (.int (k:Int)))(hf:(ls.map (·.2))[j]?=some f)(hk:k < n)(hn:n<=1000)(hs:kG i:=by intro _ _;rfl):EE X G dl (.Subscript b i pos) (.dM (nW (f k))):=
 gc (vz MV hb hi hs) fun st H Q zq=>Bn zq fun Hf zq=>have S:=zq.1;have kk:=zq.2;⟨Hf,S,fun v Hf1 H1 g1 r1=>⟨Hf1,S.grow g1,fun w bV H2 g2 r2=>by
   cases r2
   cases r1 with
   | @memo _ p _ _ _ f' h1 h2 h3 h4=>
     have e:f'=f:=by
       rw[YL,h1] at hf
       exact Option.some.inj hf
     subst e
     obtain⟨q,o,kvs,q1,q2⟩:=h4 k hk
     exact⟨p,k,q,o,kvs,rfl,rfl,g2.big _ _ (g1.sub _ _ q1),by omega,kk _ bV H2 (g1.trans g2) (.dM (g2.bF _ _ q1) (uK (q2.kp (.of g2.bF))))⟩⟩⟩
theorem JA:Ts X (fun x y H Q=>∃ (a:Addr) (ls:kg) (ns:List Nat) (j:Nat) (p:Addr) (f:Nat->List (Key×FD)) (N:Nat),x=.ref p/\y=.int (-1)/\H a=some (.bD ls ns)/\ls[j]?=some (p,f)/\ns[j]?=some N/\0 < N/\∀ q o kvs,H q=some (.kd (some (p,N - 1)) o kvs)->rT H kvs (f (N - 1))->Q (.ref q) H):=by
 intro value slice pins s σ H x y v u Q I rx ry h hs
 obtain⟨a,ls,ns,j,p,f,N,rfl,rfl,ha,hj,hN,h0,kk⟩:=h
 cases rx
 obtain⟨t,rfl⟩:=ry
 obtain⟨_,_,_,_,_,h5,h6⟩:=(show aL X.prog X.w H s.heap a (.bD ls ns) from I.bh a _ ha)
 obtain⟨aE,c,e1,e2,e3⟩:=h6 j p f N hj hN
 obtain⟨q,o,kvs,q1,q2,q3⟩:=e3 (N - 1) (by omega)
 have hn:=l7
 have hN':=h5 N (abg hN)
 have hl:Heap.IsList s.heap p aE.toArray:=⟨_,e1,rfl,c,rfl⟩
 exact subscriptTail_builtinR (x:=.ref q) hl.typeIs slot_list_getitem.lookup
     (wpAny_getItem_list_neg (Q:=fun r s'=>r=.ref q/\EP X pins σ Q r s') hl (by omega) (by rw[aan] <;> omega) (by omega) (by rw[aan,e2,show((-1:Int)+(N:Nat)).toNat=N - 1 by omega];simpa using q1) ⟨rfl,.ref q,H,I,rfl,kk q o kvs q2 q3⟩) hs
theorem By {N:Nat}(hx:G.Hf l=some (.bD ls ns))(hb:EE X G dl b (.dJ l ls j n))(hi:EE X G dl i (.int (-1)))(hf:(ls.map (·.2))[j]?=some f)(hN:ns[j]?=some N)(h0:0 < N)(hs:kG i:=by intro _ _;rfl):EE X G dl (.Subscript b i pos) (.dM (nW (f (N - 1)))):=
 gc (vz JA hb hi hs) fun st H Q zq=>Bn zq fun Hf zq=>have S:=zq.1;have kk:=zq.2;⟨Hf,S,fun v Hf1 H1 g1 r1=>⟨Hf1,S.grow g1,fun w bV H2 g2 r2=>by
   cases r2
   cases r1 with
   | @dJ _ p _ _ _ f' h1 h2 h3 h4=>
     have e:f'=f:=by
       rw[YL,h1] at hf
       exact Option.some.inj hf
     subst e
     have g:=g1.trans g2
     refine⟨l,ls,ns,j,p,f',N,rfl,rfl,g.sub _ _ (g.bF _ _ (S.gr.bF _ _ hx)),h1,hN,h0,fun q o kvs q1 q2=>?_⟩
     have ga:=pk g2.sub
     exact kk _ _ H2 (g.trans ga) (.dM (ER q1) (uK (gh (fun b u e kq=>zo e kq) q2)))⟩⟩
theorem GK:jr X (.builtin "len") (fun xs H Q=>∃ (a:Addr) (ls:kg) (ns:List Nat) (j:Nat) (p:Addr) (f:Nat->List (Key×FD)) (N:Nat),xs=[.ref p]/\H a=some (.bD ls ns)/\ls[j]?=some (p,f)/\ns[j]?=some N/\Q (.int (N:Nat)) H):=by
 intro pins s σ H xs us Q I r h
 obtain⟨a,ls,ns,j,p,f,N,rfl,ha,hj,hN,q⟩:=h
 obtain⟨u,rfl,rx⟩:=vals1 r
 cases rx
 obtain⟨_,_,_,_,_,h5,h6⟩:=(show aL X.prog X.w H s.heap a (.bD ls ns) from I.bh a _ ha)
 obtain⟨aE,c,e1,e2,e3⟩:=h6 j p f N hj hN
 have hn:=l7
 have hN':=h5 N (abg hN)
 have hl:Heap.IsList s.heap p aE.toArray:=⟨_,e1,rfl,c,rfl⟩
 exact Calls.call_len_list hl (by simp only[aan] <;> omega) ⟨.int (N:Nat),H,I.tok _,⟨s.toks+1,by rw[aan,e2]⟩,q⟩
theorem ET {N:Nat}(hm:X.mg "len"=none)(hx:G.Hf l=some (.bD ls ns))(hb:EE X G dl b (.dJ l ls j n))(hN:ns[j]?=some N)(hg:Gl X "len":=by rfl)(he:starEach [b] X.env=[(false,eval b X.env)]:=by rfl):EE X G dl (.Call (.Name "len" p) [b] [] pos) (.int (N:Nat)):=
 gc (dY GK hg hm PySem.boot_len (ae hb ai he) (he:=he)) fun st H Q zq=>Bn zq fun Hf zq=>have S:=zq.1;have kk:=zq.2;⟨Hf,S,fun vs Hf1 H1 g1 r1=>by
   cases r1 with
   | cons r t=>cases t;cases r with
     | @dJ _ p _ _ _ f' h1 h2 h3 h4=>exact⟨l,ls,ns,j,p,f',N,rfl,g1.sub _ _ (g1.bF _ _ (S.gr.bF _ _ hx)),h1,hN,kk _ Hf1 H1 g1 (.int _)⟩⟩
theorem lE {d:Dt}{k:Str}{kds:List (Key×Dt)}(hu:X.A.units+1 < cLine)(ho:EE X G dl b (.dM kds))(hi:EE X G dl i (.str k))(h:mx kds (.inr k)=some d)(hs:Mj i):EE X G dl (.Subscript b i pos) d:=
 gc (Eh hu ho hi hs) fun st H Q zq=>Bn zq fun Hf zq=>have S:=zq.1;have kk:=zq.2;⟨Hf,S,fun v Hf1 H1 g1 r1=>⟨Hf1,S.grow g1,fun w bV H2 g2 r2=>by
   cases r2
   cases r1 with
   | @dM q tg ob kvs _ hq rp=>
     obtain⟨y,z1,z2⟩:=rp.val h
     have e:t6 H2 q (kV (.inr k)) (oi kvs (.inr k)):=.inl ⟨kvs,.inr k,.inr (.inr (.inl ⟨tg,ob,kvs,g2.big _ _ (g1.sub _ _ hq),rfl⟩)),rfl,rfl⟩
     rw[z1] at e
     exact⟨q,y,rfl,e,kk y bV H2 (g1.trans g2) (z2.mono g2.bF)⟩⟩⟩
theorem OR {kds:List (Key×Dt)}(h:EO X G dl e (.eP kds)):EE X G dl e (.dM kds):=by
 intro pins s st H Q I ⟨Hf,S,kk⟩
 refine b7 (h pins s st H (fun v H'=>∃ p aI,v=.ref p/\bo Hf H aI H'/\H p=none/\aI p=none/\gW X.K aI H' p (.eP kds)) I ⟨Hf,S,fun p aI H' g n n' r=>⟨p,aI,rfl,g,n,n',r⟩⟩) fun u s1 ⟨v,H',I1,rv,q,aI,ev,g,n,n',kvs,hq,rp⟩=>?_
 subst ev
 obtain⟨hz,lo,vs,kv,ob,es,ep,ho,hr⟩:=(show aL X.prog X.w H' s1.heap q (.dK kvs) from I1.bh q _ hq)
 have I2:L2.Inv X pins st (upd H' q (.kd none ob kvs)) s1:=mU (h':=s1.heap) (t':=s1.toks) I1 (by rw[hq];trivial) ⟨rfl,fun _ _=>rfl⟩ ⟨ob,ho⟩ ⟨ho,⟨hz,lo,vs,kv,ob,es,ep,ho,hr⟩,fun p i z=>by cases z⟩
 have sm:aG aI (upd aI q (.kd none ob kvs)):=bN n'
 refine⟨.ref q,_,I2,rv,kk _ (upd aI q (.kd none ob kvs)) _ ⟨fun b o hb=>?_,g.bF.trans sm,cY g.sub,fun b o hb=>?_⟩ (.dM ak (rp.mono sm))⟩
 . rw[ah (aw hb n)];exact g.big _ _ hb
 . by_cases e:b=q
   . subst e;exact .inr (.inl n)
   . rw[ah e] at hb;exact g.new b o hb
theorem Di:Qn X "dict.values" (fun x xs H Q=>∃ (d:Addr) (kvs:List (Key×V)),x=.ref d/\xs=[]/\Rd H d (.dK kvs)/\∀ l,H l=none->Q (.ref l) (upd H l (.ext fun h=>h.IsValuesView l d))):=by
 intro pins s σ H x xs v us Q I rx rv ⟨d,kvs,e1,e2,hq,q⟩
 subst e1 e2
 cases rx
 cases rv
 obtain⟨hz,lo,vs,kv,hD⟩:=tJ I.bh hq
 refine call_meetsIn PySem.F.slot_dict_values hD.typeIs PySem.F.entry_dict_values (PySem.F.args_dict_values_1 _) (meets_dict_values (cL X.prog X.w) d lo) ⟨⟨vs,hD⟩,?_⟩
 refine⟨.ref s.heap.objs.size,_,I.laid (a:=s.heap.objs.size) (t':=s.toks) (o:=.ext fun h=>h.IsValuesView s.heap.objs.size d) (fun b o e=>aaf _ e) (aae _) ?_,rfl,q _ (I.bh.fresh (aae _))⟩
 exact⟨⟨_,aar _ rfl,rfl,rfl⟩,⟨_,aar _ rfl⟩,fun h1 h2 ⟨ox,z1,z2⟩ kk=>⟨ox,kk _ z1,z2⟩⟩
theorem JB:∀ {kds:List (Key×Int)} {vs:List (Key×Value)} {i:Nat} {k:Key} {v:Value},KV (kds.map fun kd=>(kd.1,V.int kd.2)) vs->vs[i]?=some (k,v)->∃ t,v=.int ((kds.map (·.2)).getD i 0) t
 | [],_,_,_,_,.nil,e=>by simp at e
 | (k0,z)::kds,_,0,_,_,.cons r _,e=>by
   simp at e
   subst e
   obtain⟨_,t,q⟩:=r
   exact⟨t,q⟩
 | (k0,z)::kds,_,i+1,_,_,.cons _ t,e=>by
   obtain⟨t',q⟩:=JB (i:=i) t (by simpa using e)
   exact⟨t',by simpa using q⟩
theorem GL (hc:X.calm=true):jr X (.builtin "sum") (fun xs H Q=>∃ (v d:Addr) (φ:Heap->Prop) (kds:List (Key×Int)),xs=[.ref v]/\H v=some (.ext φ)/\(∀ h,φ h->h.IsValuesView v d)/\Rd H d (.dK (kds.map fun kd=>(kd.1,V.int kd.2)))/\Q (.int (kds.map (·.2)).sum) H):=by
 intro pins s σ H xs us Q I r h
 obtain⟨v,d,φ,kds,rfl,hv,hφ,hq,q⟩:=h
 obtain⟨u,rfl,rx⟩:=vals1 r
 cases rx
 obtain⟨hz,lo,vs,kv,o,es,ep,ho,hr⟩:=tJ I.bh hq
 have hvv:=hφ _ (I.bh v _ hv).1
 have hl:=Dc kv
 rw[k5] at hl
 have hA:X.A.handled=none:=I.ok.hd hc
 refine call_sum_walkAnyS ?_
 have Ks:=PySem.W.kdl_values (prog:=X.prog) (w:=X.w) (knd:=cL X.prog X.w) (r:=v) (d:=d) (kvs:=vs) (ep:=ep)
 have bh:s.heap.IsValuesView v d/\s.heap.DictAt (cL X.prog X.w) d vs ep:=⟨hvv,o,es,ho,hr⟩
 obtain⟨oI,St,hit,W,st⟩:=Ks.iter X.A.in1 s hA bh
 refine hit _ _ ⟨s.heap.objs.size,_,_,_,vs.length,_,_,fun i=>(kds.map (·.2)).getD i 0,rfl,W.toS,st,fun b hb=>?_,fun i w ⟨k,hk⟩=>JB kv hk,fun s' t' hm=>?_⟩
 . show b < (s.heap.push oI).objs.size
   rw[aa9]
   rcases aaE.mp hb with e | hb
   . rw[e];exact abe _
   . rw[List.mem_singleton.mp hb];exact abF (Ks.there _ bh).2
 . have hk:∀ b o,s.heap.get? b=some o->s'.heap.get? b=some o:=fun b o e=>
     hm.heap b o (fun hI=>absurd (aal e) (by rw[List.mem_singleton.mp hI];exact aa3 _)) (aaf _ e)
   have es:preSum (fun i=>(kds.map (·.2)).getD i 0) vs.length=(kds.map (·.2)).sum:=by
     rw[sD _ _ (by rw[k5];omega),abj (by rw[k5];omega)]
   rw[es,Moved.eq_with hm]
   exact⟨.int _,H,I.kept (t':=s'.toks) hk,⟨t',rfl⟩,q⟩
def intsOf (d:Dt)(kds:List (Key×Int)):Prop:=d=.dM (dI kds)\/d=.eP (dI kds)
theorem MW {kds:List (Key×Int)}{d:Dt}{apos bH:Pos}(hm:X.mg "sum"=none)(hc:X.calm=true)(ha:EE X G dl a d)(hd:intsOf d kds)(hg:Gl X "sum":=by rfl)(iS:attributeBase a "values" X.env (eval a X.env)=eval a X.env:=by rfl)(iU:(apos.endLine == bH.line)=true:=by rfl)(he:starEach [.Call (.Attribute a "values" apos) [] [] bH] X.env=[(false,eval (.Call (.Attribute a "values" apos) [] [] bH) X.env)]:=by rfl):EE X G dl (.Call (.Name "sum" p) [.Call (.Attribute a "values" apos) [] [] bH] [] pos) (.int (kds.map (·.2)).sum):=
 gc (dY (GL hc) hg hm boot_sum (lS (HZ PySem.F.plainAttrs_dict PySem.F.slot_dict_values PySem.F.type_dict_values Di ha iS iU) og he) (he:=he)) fun st H Q zq=>Bn zq fun Hf zq=>have S:=zq.1;have k:=zq.2;⟨Hf,S,fun v Hf1 H1 g1 r1=>by
   have key:∃ q,v=.ref q/\Rd H1 q (.dK (kds.map fun kd=>(kd.1,V.int kd.2)))/\WS X.K "dict" v H1:=by
     rcases hd with rfl | rfl
     . cases r1 with
       | @dM q tg ob kvs _ hq rp=>
         rw[MS rp] at hq
         exact⟨q,rfl,.inr (.inr (.inl ⟨tg,ob,_,g1.sub _ _ hq,rfl⟩)),.inr (.inr (.inl ⟨rfl,.inr (.inr ⟨tg,ob,_,g1.sub _ _ hq⟩)⟩))⟩
     . cases r1 with
       | @eP q kvs _ hq rp=>
         rw[MS rp] at hq
         exact⟨q,rfl,.inl (g1.sub _ _ hq),.inr (.inr (.inl ⟨rfl,.inl ⟨_,g1.sub _ _ hq⟩⟩))⟩
   obtain⟨q,rfl,hq,ty⟩:=key
   refine⟨ty,q,_,rfl,rfl,hq,fun v hv=>⟨v,q,_,kds,rfl,ak,fun h x=>x,?_,k _ Hf1 _ (g1.trans (.eX g1.sub hv)) (.int _)⟩⟩
   exact gd (bN hv) hq⟩
variable {pins:List (Addr×Obj)}{σ:L2.St}{H:Hp}{s:Shared}
theorem Inv.flip {u:HO}(I:L2.Inv X pins σ H s)(hm:b9 H l ls)(hu:mz ls u)(new:aL X.prog X.w (upd H l u) s.heap l u):L2.Inv X pins σ (upd H l u) s:=by
 refine I.un (h':=s.heap) (t':=s.toks) ⟨fun b o e _ _ _=>e,fun b o e _ _ _=>⟨o.slots,e⟩,fun b o e n _=>?_,fun b o e _=>⟨o,e⟩,fun b xs e=>bc hm e rfl,fun b o u e=>bc hm e rfl,fun b ps e=>⟨#[],by rw[bc hm e rfl];simp⟩⟩ fun b o e=>?_
 . rw[ah (fun z=>by obtain⟨o',h1,_⟩:=hm.mkd;rw[z,h1] at n;cases n)];exact n
 . by_cases eb:b=l
   . subst eb;rw[ak] at e;cases e;exact new
   . rw[ah eb] at e
     exact(I.bh b o e).yK (fun _ _ _ q=>q) (fun c q=>bc hm q rfl) (fun c xs q=>bc hm q rfl) (q9 hm hu.mk)
theorem Inv.exact(I:L2.Inv X pins σ H s)(hm:H l=some (.memo ls)):∃ n,0 < n/\n<=10000/\L2.Inv X pins σ (upd H l (.bD ls (aak ls.length n))) s:=by
 obtain⟨ho,n,hn,q⟩:=(show aL X.prog X.w H s.heap l (.memo ls) from I.bh l _ hm)
 have hl:0 < ls.length:=by
   obtain⟨⟨f,hf⟩,_⟩:=q
   exact(aag.mp hf).1
 have h5:n<=10000:=q.2.2.2.2.1 n (by rw[List.mem_replicate];exact⟨by omega,rfl⟩)
 exact⟨n,hn,h5,Inv.flip I (.inl hm) (.inr ⟨_,rfl⟩) ⟨ho,q.kp (q9 (.inl hm) rfl) fun _ _ _ e=>e⟩⟩
theorem Inv.pack {n:Nat}(I:L2.Inv X pins σ H s)(hm:H l=some (.bD ls (aak ls.length n)))(hn:0 < n):L2.Inv X pins σ (upd H l (.memo ls)) s:=by
 obtain⟨ho,q⟩:=(show aL X.prog X.w H s.heap l (.bD ls _) from I.bh l _ hm)
 exact Inv.flip I (.inr ⟨_,hm⟩) (.inl rfl) ⟨ho,n,hn,q.kp (q9 (.inr ⟨_,hm⟩) rfl) fun _ _ _ e=>e⟩
theorem qp:Qn X "list.append" (fun x vs H Q=>∃ (a:Addr) (ls:kg) (ns:List Nat) (j:Nat) (p:Addr) (f:Nat->List (Key×FD)) (N:Nat) (q:Addr) (kvs:List (Key×V)),x=.ref p/\vs=[.ref q]/\H a=some (.bD ls ns)/\ls[j]?=some (p,f)/\ns[j]?=some N/\N < 9000/\H q=some (.dK kvs)/\rT H kvs (f N)/\∀ o,Q .cW (upd (upd H a (.bD ls (ns.set j (N+1)))) q (.kd (some (p,N)) o kvs))):=by
 intro pins s σ H x vs v us Q I rx rv ⟨a,ls,ns,j,p,f,N,q,kvs,e1,e2,ha,hj,hN,hN9,hq,hfz,kk⟩
 subst e1 e2
 cases (show v=Value.ref p from rx)
 obtain⟨u,rfl,ru⟩:=vals1 rv
 cases (show u=Value.ref q from ru)
 obtain⟨⟨oa,hoa⟩,⟨f0,h1⟩,h2,h3,h4,h5,h6⟩:=(show aL X.prog X.w H s.heap a (.bD ls ns) from I.bh a _ ha)
 obtain⟨aE,c,e,hlen,hit⟩:=h6 j p f N hj hN
 obtain⟨hz,lo,vs,kv,oq,es,ep,hoq,hr⟩:=(show aL X.prog X.w H s.heap q (.dK kvs) from I.bh q _ hq)
 have Hu:l6 (H p):=by
   rcases h3 j p f hj with z | z
   . rw[z,ha];trivial
   . rw[z];trivial
 have hpq:p≠q:=fun z=>by rw[z,hq] at Hu;exact Hu
 have haq:a≠q:=fun z=>by rw[z,hq] at ha;cases ha
 have hnm:=l7
 refine call_meets PySem.F.slot_list_append ⟨_,e,rfl⟩ PySem.F.entry_list_append (PySem.F.args_list_append_2 _ _) (PySem.list_append p aE.toArray c (.ref q) (by rw[aan];exact aav (show aE.length<=10000 by omega) (by decide))) ⟨e,?_⟩
 have e':=PySem.IsL.update e (fun x=>x.push (Value.ref q))
 rw[show aE.toArray.push (Value.ref q)=(aE ++ [Value.ref q]).toArray by simp] at e'
 generalize hh':s.heap.update p (Obj.mapSeq fun x=>x.push (Value.ref q))=h' at e'
 have Dj:∀ b o,b≠p->s.heap.get? b=some o->h'.get? b=some o:=fun b o hb z=>by rw[<- hh'];exact(abE s.heap _ (Ne.symm hb)).trans z
 let H':Hp:=upd (upd H a (.bD ls (ns.set j (N+1)))) q (.kd (some (p,N)) oq kvs)
 have t9:∀ b o,H b=some o->b≠a->b≠q->H' b=some o:=fun b o z n1 n2=>by show(upd (upd H a _) q _) b=_;rw[ah n2,ah n1];exact z
 have nk:∀ b o,H b=some o->mk o=false->b≠a:=fun b o z n z'=>by rw[z',ha] at z;cases z;cases n
 have nq:∀ b o,H b=some o->(∀ x,o≠.dK x)->b≠q:=fun b o z n z'=>by rw[z',hq] at z;exact n _ (Option.some.inj z).symm
 have kp:Kp H H':=⟨fun b o z kq=>t9 b _ z (nk b _ z (by cases o <;> first | rfl | exact(show False from kq).elim)) (nq b _ z fun x y=>by subst y;exact kq),fun b z=>by
   by_cases ba:b=a
   . rw[ba];show l6 ((upd (upd H a _) q _) a);rw[ah haq,ak];trivial
   . have bq:b≠q:=fun z'=>by rw[z',hq] at z;exact z
     show l6 ((upd (upd H a _) q _) b);rw[ah bq,ah ba];exact z,fun b x z=>t9 b _ z (nk b _ z rfl) (nq b _ z fun x y=>by cases y)⟩
 have hl:∀ p' i c',l6 (H p')->TR s.heap p' i c'->TR h' p' i c':=fun p' i c' _ ⟨its',n',z1,z2⟩=>by
   by_cases pp:p'=p
   . subst pp
     rw[e] at z1
     have z3:its'=aE:=by
       have:=congrArg (fun o:Option Obj=>o.map (·.data)) z1
       simp at this
       exact this.1.symm
     subst z3
     exact⟨_,_,e',by rw[aaA (aag.mp z2).1];exact z2⟩
   . exact⟨its',n',Dj _ _ pp z1,z2⟩
 have Jn:TR h' p N q:=⟨_,_,e',by rw[aaB (by omega),hlen,Nat.sub_self];rfl⟩
 have fz':rT H' kvs (f N):=hfz.kp kp
 have hqo:h'.get? q=some oq:=Dj _ _ (Ne.symm hpq) hoq
 have Vq:∀ b,H b=none->H' b=none:=fun b n=>by
   have n1:b≠a:=fun z=>by rw[z,ha] at n;cases n
   have n2:b≠q:=fun z=>by rw[z,hq] at n;cases n
   show(upd (upd H a _) q _) b=none
   rw[ah n2,ah n1];exact n
 have nop:∀ b,H b=none->b≠p:=fun b n z=>by rw[<- z,n] at Hu;exact Hu
 have ths:∀ b o,s.heap.get? b=some o->∃ o',h'.get? b=some o':=fun b o z=>by
   by_cases bp:b=p
   . rw[bp];exact⟨_,e'⟩
   . exact⟨o,Dj _ _ bp z⟩
 refine⟨.cW,H',I.un (h':=h') (t':=s.toks) ⟨fun b o z n _ _=>Dj b o (nop b n) z,fun b o z n _ _=>⟨o.slots,Dj b o (nop b n) z⟩,fun b o _ n _=>Vq b n,fun b o z _=>ths b o z,fun b xs z=>t9 b _ z (nk b _ z rfl) (nq b _ z fun x y=>by cases y),
   fun b o u z=>t9 b _ z (nk b _ z rfl) (nq b _ z fun x y=>by cases y),fun b ps z=>⟨#[],by rw[t9 b _ z (nk b _ z rfl) (nq b _ z fun x y=>by cases y)];simp⟩⟩ fun b u z=>?_,rfl,kk oq⟩
 by_cases bq:b=q
 . subst bq
   have z:(upd (upd H a _) b _) b=some u:=z
   rw[ak] at z;cases z
   refine⟨hqo,⟨hz,lo,vs,kv,oq,es,ep,hqo,hr⟩,fun p' i ht=>?_⟩
   cases ht
   exact⟨kp.mem _ Hu,Jn⟩
 . by_cases ba:b=a
   . subst ba
     have z:(upd (upd H b _) q _) b=some u:=z
     rw[ah bq,ak] at z;cases z
     refine⟨ths _ _ hoa,⟨f0,h1⟩,by rw[abR];exact h2,fun j' p' f' z=>(h3 j' p' f' z).imp id fun z=>kp.part _ _ z,h4,fun n hn=>?_,fun j' p' f' n z1 z2=>?_⟩
     . obtain⟨i,hi,ei⟩:=aaT.mp hn
       rw[List.getElem_set] at ei
       split at ei
       . omega
       . rw[<- ei];exact h5 _ (aaN _)
     . by_cases jj:j=j'
       . subst jj
         rw[hj] at z1;cases z1
         have hjl:j < ns.length:=(aag.mp hN).1
         rw[aah hjl] at z2;cases z2
         refine⟨_,_,e',by rw[aau,hlen];rfl,fun i hi=>?_⟩
         by_cases hiN:i < N
         . obtain⟨q',o',kv',w1,w2,w3⟩:=hit i hiN
           exact⟨q',o',kv',by rw[aaA (by omega)];exact w1,kp.kd _ _ _ _ w2,w3.kp kp⟩
         . have:i=N:=by omega
           subst this
           exact⟨q,oq,kvs,by rw[aaB (by omega),hlen,Nat.sub_self];rfl,ak,fz'⟩
       . rw[aai jj] at z2
         have pp:p'≠p:=fun z=>by
           subst z
           obtain⟨i1,e1⟩:=aag.mp hj
           obtain⟨i2,e2⟩:=aag.mp z1
           have pw:=aaW.mp h4
           rcases Nat.lt_or_gt_of_ne jj with lt | lt
           . have:=pw j j' (by rw[k5];exact i1) (by rw[k5];exact i2) lt
             rw[aaO,aaO,e1,e2] at this
             exact this rfl
           . have:=pw j' j (by rw[k5];exact i2) (by rw[k5];exact i1) lt
             rw[aaO,aaO,e1,e2] at this
             exact this rfl
         exact(h6 j' p' f' n z1 z2).kp kp fun u z=>Dj _ _ pp z
   . have z0:H b=some u:=by
       have z:(upd (upd H a _) q _) b=some u:=z
       rw[ah bq,ah ba] at z;exact z
     by_cases bp:b=p
     . subst bp
       rcases h3 j b f hj with z1 | z1
       . exact absurd z1 ba
       . rw[z1] at z0;cases z0
         exact⟨_,e'⟩
     . refine(I.bh b u z0).Oq (fun c' v' Cr z'=>Dj c' v' ?_ z') (fun c' z'=>t9 c' _ z' (nk c' _ z' rfl) (nq c' _ z' fun x y=>by cases y)) (fun c' xs z'=>t9 c' _ z' (nk c' _ z' rfl) (nq c' _ z' fun x y=>by cases y)) kp hl
       rcases Cr with rfl | z1 | z1
       . exact bp
       . exact fun z'=>by rw[z'] at z1;rw[z1] at Hu;exact Hu
       . intro z'
         rw[z'] at z1
         rcases h3 j p f hj with z2 | z2
         . rw[z2,ha] at z1;cases z1
         . rw[z2] at z1;cases z1;exact ba rfl
end
noncomputable def pR (fs:List (Str×Dt))(nm:List Str)(a:Addr)(ls:kg)(n:Nat):List (Str×Dt):=fs ++ (aaj nm.length).map fun j=>(nm.getD j "",.dJ a ls j n)
section
variable {K:W.Frag}{Hf H:Hp}
theorem bb.split:∀ {TJ LK:List (Str×Dt)} {fv:List (Str×V)},bb K H fv (TJ ++ LK)->∃ f1 f2,fv=f1 ++ f2/\bb K H f1 TJ/\bb K H f2 LK
 | [],_,fv,r=>⟨[],fv,rfl,.nil,r⟩
 | (k,d)::TJ,LK,_,.cons h t=>by
   obtain⟨f1,f2,e,r1,r2⟩:=bb.split t
   exact⟨(k,_)::f1,f2,by rw[e];rfl,.cons h r1,r2⟩
theorem bb.join:∀ {TJ LK:List (Str×Dt)} {f1 f2:List (Str×V)},bb K H f1 TJ->bb K H f2 LK->bb K H (f1 ++ f2) (TJ ++ LK)
 | _,_,_,_,.nil,r=>r
 | _,_,_,_,.cons h t,r=>.cons h (bb.join t r)
theorem pq {nm:Nat->Str}{d d':Nat->Dt}{H':Hp}(h:∀ j v,Rep K H v (d j)->Rep K H' v (d' j)):∀ {js:List Nat} {fv:List (Str×V)},bb K H fv (js.map fun j=>(nm j,d j))->bb K H' fv (js.map fun j=>(nm j,d' j))
 | [],_,.nil=>.nil
 | j::js,_,.cons r t=>.cons (h j _ r) (pq h t)
def uL (H:Hp)(ls:kg)(n:Nat):Prop:=∀ (j:Nat) (p:Addr) (f:Nat->List (Key×FD)),ls[j]?=some (p,f)->Known H p f n
variable {fs:List (Str×Dt)}{nm:List Str}{l:Addr}{ls:kg}{n m:Nat}{fv:List (Str×V)}{u:HO}
theorem vY (hn:0 < nm.length)(r:bb K Hf fv (tK fs nm l ls n)):Hf l=some (.memo ls):=by
 obtain⟨f1,f2,_,_,r2⟩:=bb.split r
 cases hk:nm.length with
 | zero=>omega
 | succ k=>
   rw[hk,abG,aaq] at r2
   cases r2 with
   | cons h t=>cases h with
     | memo _ h2 _ _=>exact h2
theorem Vr (hs:kH l fs=true)(hm:Hf l=some (.memo ls))(hu:mz ls u)(r:bb K Hf fv (tK fs nm l ls n)):bb K (upd Hf l u) fv (pR fs nm l ls n):=by
 obtain⟨f1,f2,e,r1,r2⟩:=bb.split r
 subst e
 refine bb.join (jy (.inl hm) hu hs r1) (pq (fun j v q=>?_) r2)
 cases q with
 | memo h1 h2 h3 h4=>exact iX (.inl hm) hu rfl (.dJ h1 (.inl h2) h3 h4)
theorem OS (hs:kH l fs=true)(hm:b9 Hf l ls)(r:bb K Hf fv (pR fs nm l ls n)):bb K (upd Hf l (.memo ls)) fv (tK fs nm l ls n):=by
 obtain⟨f1,f2,e,r1,r2⟩:=bb.split r
 subst e
 refine bb.join (jy hm (.inl rfl) hs r1) (pq (fun j v q=>?_) r2)
 cases q with
 | dJ h1 h2 h3 h4=>exact .memo h1 ak (h3.imp id fun z=>bc hm z rfl) (mZ hm (.inl rfl) h4)
theorem Bz (hk:uL Hf ls m)(r:bb K Hf fv (tK fs nm l ls n)):bb K Hf fv (tK fs nm l ls m):=by
 obtain⟨f1,f2,e,r1,r2⟩:=bb.split r
 subst e
 refine bb.join r1 (pq (fun j v q=>?_) r2)
 cases q with
 | memo h1 h2 h3 h4=>exact .memo h1 h2 h3 (hk _ _ _ h1)
theorem MX (hl:ls.length<=nm.length)(r:bb K Hf fv (tK fs nm l ls n)):uL Hf ls n:=fun j p f e=>by
 obtain⟨f1,f2,_,_,r2⟩:=bb.split r
 have hj:j < nm.length:=aao (aag.mp e).1 hl
 have key:∀ {js:List Nat} {fv:List (Str×V)},bb K Hf fv (js.map fun j=>(nm.getD j "",Dt.memo l ls j n))->j∈js->Known Hf p f n:=by
   intro js
   induction js with
   | nil=>intro fv _ h;cases h
   | cons i js ih=>
     intro fv r h
     cases r with
     | cons q t=>
       rcases aaE.mp h with z | z
       . subst z
         cases q with
         | memo h1 h2 h3 h4=>rw[e] at h1;cases h1;exact h4
       . exact ih t z
 exact key r2 (abo.mpr hj)
theorem Rk {A B bV H2:Hp}(hA:A l=some (.memo ls))(hB:B l=some (.memo ls))(g:bo (upd A l u) (upd B l u) bV H2):bo A B (upd bV l (.memo ls)) (upd H2 l (.memo ls)):=by
 refine⟨fun b o e=>?_,fun b o e=>?_,cY g.sub,fun b o e=>?_⟩
 . by_cases hb:b=l
   . subst hb;rw[hB] at e;cases e;exact ak
   . rw[ah hb];exact g.big _ _ (by rw[ah hb];exact e)
 . by_cases hb:b=l
   . subst hb;rw[hA] at e;cases e;exact ak
   . rw[ah hb];exact g.bF _ _ (by rw[ah hb];exact e)
 . by_cases hb:b=l
   . subst hb;exact .inl ⟨_,hA⟩
   . rw[ah hb] at e
     rcases g.new b o e with⟨o',z⟩ | z | z
     . rw[ah hb] at z;exact .inl ⟨o',z⟩
     . rw[ah hb] at z;exact .inr (.inl z)
     . exact .inr (.inr z)
variable {G G0:Gr}{st:L2.St}{dl:List Slot}
theorem dO.rebase (S:dO K G0 st Hf H dl)(no:noOwn dl=true)(g:bo G.Hf G.H G0.Hf G0.H):dO K G st Hf H dl:=⟨g.trans S.gr,S.len,S.val,fun i o h=>absurd h (aY no i o),fun i j o o' a h=>absurd h (aY no i o)⟩
noncomputable def rb (a:Addr):List Slot->Bool
 | []=>true
 | .aJ::r=>rb a r
 | .val d::r=>sG a d && rb a r
 | .own _::_=>false
theorem mB {l:Addr}:∀ {tl:List Slot} {i:Nat} {d:Dt},rb l tl=true->tl[i]?=some (.val d)->sG l d=true
 | [],_,_,_,e=>by simp at e
 | .aJ::r,0,_,_,e=>by simp at e
 | .aJ::r,i+1,_,h,e=>mB (tl:=r) (i:=i) h (by simpa using e)
 | .val d::r,0,_,h,e=>by
   rw[rb,aaP] at h
   simp at e
   subst e
   exact h.1
 | .val d::r,i+1,_,h,e=>by
   rw[rb,aaP] at h
   exact mB (tl:=r) (i:=i) h.2 (by simpa using e)
theorem gY {l:Addr}:∀ {tl:List Slot},rb l tl=true->noOwn tl=true
 | [],_=>rfl
 | .aJ::r,h=>gY (tl:=r) h
 | .val d::r,h=>by
   rw[rb,aaP] at h
   exact gY (tl:=r) h.2
variable {C:Addr}{tl:List Slot}
noncomputable abbrev Au (C:Addr)(fs:List (Str×Dt))(nm:List Str)(l:Addr)(ls:kg)(n:Nat)(tl:List Slot):List Slot:=.val (.obj C (tK fs nm l ls n))::tl
noncomputable abbrev YR (C:Addr)(fs:List (Str×Dt))(nm:List Str)(l:Addr)(ls:kg)(n:Nat)(tl:List Slot):List Slot:=.val (.obj C (pR fs nm l ls n))::tl
theorem dO.Vs {m:Nat}(S:dO K G st Hf H (Au C fs nm l ls n tl))(kn:uL Hf ls m):dO K G st Hf H (Au C fs nm l ls m tl):=by
 have own:∀ {i:Nat} {o:Own},(Au C fs nm l ls m tl)[i]?=some (.own o)->(Au C fs nm l ls n tl)[i]?=some (.own o):=fun {i o} h=>by
   cases i with
   | zero=>cases h
   | succ i=>exact h
 refine⟨S.gr,S.len,fun i d h=>?_,fun i o h=>S.own i o (own h),fun i j o o' a h1 h2=>S.Gm i j o o' a (own h1) (own h2)⟩
 cases i with
 | zero=>
   cases h
   obtain⟨v,hv,rv⟩:=S.val 0 _ rfl
   cases rv with
   | obj q r=>exact⟨_,hv,.obj q (Bz kn r)⟩
 | succ i=>exact S.val (i+1) d h
noncomputable def Vt (G0:Gr)(l:Addr)(u:HO):Gr:=⟨upd G0.Hf l u,upd G0.H l u⟩
theorem dO.YS (S:dO K G st Hf H (Au C fs nm l ls n tl))(hs:kH l fs=true)(ht:rb l tl=true)(hn:0 < nm.length)(hu:mz ls u):Hf l=some (.memo ls)/\dO K (Vt ⟨jz Hf H,H⟩ l u) st (upd (jz Hf H) l u) (upd H l u) (YR C fs nm l ls n tl):=by
 obtain⟨v,hv,rv⟩:=S.val 0 _ rfl
 have sm:=gf S.sub
 cases rv with
 | @obj a _ dx fv _ q r=>
   have hm:=vY hn r
   have YT:jz Hf H l=some (.memo ls):=sm _ _ hm
   refine⟨hm,⟨.refl (cY (oy S.sub)),S.len,fun i d h=>?_,fun i o h=>?_,fun i j o o' a h=>?_⟩⟩
   . cases i with
     | zero=>
       cases h
       exact⟨_,hv,.obj (Jx (.inl YT) (gd sm q)) (Vr hs YT hu (r.mono sm))⟩
     | succ i=>
       have h:tl[i]?=some (.val d):=h
       obtain⟨w,w1,w2⟩:=S.val (i+1) d h
       exact⟨w,w1,iX (.inl YT) hu (mB ht h) (w2.mono sm)⟩
   . cases i with
     | zero=>cases h
     | succ i=>exact absurd h (aY (gY ht) i o)
   . cases i with
     | zero=>cases h
     | succ i=>exact absurd h (aY (gY ht) i o)
end
section
variable {X:Cx}{G:Gr}{E:XK}{dl:List Slot}{c e:Expr}{body:List Stmt}{pos p:Pos}{fs:List (Str×Dt)}{nm:List Str}{l C:Addr}{ls:kg}{n m age:Nat}{tl:List Slot}
def Rm (X:Cx)(c:Expr):TT:=fun st H Q=>∃ G dl b,EB X G dl c b/\UL X.K G dl b st H Q
theorem JC:PT X c (Rm X c):=fun pins s st H Q I ⟨G,dl,b,h,q⟩=>h pins s st H Q I q
def Rn (X:Cx)(E:XK)(body:List Stmt):TS:=fun D st H=>∃ G pre o,nM X G E pre body o/\tO X.K G E pre o D st H
theorem GN {body:List Stmt}:Cy X body (Rn X E body):=fun pins s st H D J ⟨G,pre,o,h,q⟩=>h pins s st H D J q
def RM (K:W.Frag)(G0:Gr)(C:Addr)(fs:List (Str×Dt))(nm:List Str)(l:Addr)(ls:kg)(n:Nat)(tl:List Slot)(M:Nat):L2.St->Hp->Prop:=fun st H=>H l=some (.bD ls (aak ls.length M))/\∃ Hf,dO K G0 st Hf (upd H l (.memo ls)) (Au C fs nm l ls n tl)
theorem yt (hp:PassesOwn (model X.prog X.w) X.A X.env X.xe)(hs:kH l fs=true)(ht:rb l tl=true)(hn:0 < nm.length)(kl:age < 9000)(hc:∀ (N:Nat) (G:Gr),G.Hf l=some (.bD ls (aak ls.length N))->EB X G (YR C fs nm l ls n tl) c (decide (N<=age)))(hb:∀ N,0 < N->N<=age->∀ G0:Gr,G0.Hf l=some (.memo ls)->G0.H l=some (.memo ls)->nM X (Vt G0 l (.bD ls (aak ls.length N))) E (YR C fs nm l ls n tl) body (.raw (RM X.K G0 C fs nm l ls n tl (N+1)))):ES X G E (Au C fs nm l ls n tl) (.While c body [] pos) (.nx (Au C fs nm l ls (age+1) tl)):=by
 intro pins s st H D I ⟨Hf,S,k⟩
 have no:noOwn (Au C fs nm l ls n tl)=true:=show noOwn tl=true from gY ht
 have hm:Hf l=some (.memo ls):=(S.YS (u:=.memo ls) hs ht hn (.inl rfl)).1
 obtain⟨N0,h0,h1,IX⟩:=Inv.exact I (S.sub _ _ hm)
 let XX:Nat->HO:=fun N=>.bD ls (aak ls.length N)
 have mu:∀ N,mz ls (XX N):=fun N=>.inr ⟨_,rfl⟩
 let W:Nat->L2.St->Hp->Prop:=fun m st H=>∃ N,m=age+1 - N/\0 < N/\H l=some (XX N)/\∃ Hf1,aG Hf Hf1/\dO X.K G st Hf1 (upd H l (.memo ls)) (Au C fs nm l ls n tl)
 refine b7 (AJ (pos:=pos) hp (JC (X:=X) (c:=c)) (GN (E:=E)) pins s st _ { D with nx:=fun jZ H'=>∃ N,age < N/\H' l=some (XX N)/\∃ Hf1,aG Hf Hf1/\dO X.K G jZ Hf1 (upd H' l (.memo ls)) (Au C fs nm l ls n tl)} IX ?_) fun f s7 q7=>?_
 . refine⟨W,⟨_,N0,rfl,h0,ak,Hf,aG.refl _,by rw[uA,vT (S.sub _ _ hm)];exact S⟩,?_⟩
   rintro mm W6 H1 ⟨N,rfl,hN,Jn,Hf1,s1,S1⟩
   have eH:upd (upd H1 l (.memo ls)) l (XX N)=H1:=by rw[uA,vT Jn]
   obtain⟨hm1,SX⟩:=S1.YS (u:=XX N) hs ht hn (mu N)
   rw[eH] at SX
   have hA:jz Hf1 (upd H1 l (.memo ls)) l=some (.memo ls):=gf S1.sub _ _ hm1
   refine⟨_,_,decide (N<=age),hc N (Vt ⟨jz Hf1 (upd H1 l (.memo ls)),upd H1 l (.memo ls)⟩ l (XX N)) ak,_,SX,fun bV H2 g2=>?_⟩
   have g2':bo (upd (jz Hf1 (upd H1 l (.memo ls))) l (XX N)) (upd (upd H1 l (.memo ls)) l (XX N)) bV H2:=by rw[eH];exact g2
   have gp:=Rk (ls:=ls) hA ak g2'
   have gg:=(pk S1.sub).trans gp
   have S2:=S1.grow gg
   have Qu:H2 l=some (XX N):=g2.big _ _ Jn
   by_cases hle:N<=age
   . rw[decide_eq_true hle]
     have eH2:upd (upd H2 l (.memo ls)) l (XX N)=H2:=by rw[uA,vT Qu]
     obtain⟨hm2,SX2⟩:=S2.YS (u:=XX N) hs ht hn (mu N)
     rw[eH2] at SX2
     have hA2:jz (upd bV l (.memo ls)) (upd H2 l (.memo ls)) l=some (.memo ls):=gf S2.sub _ _ hm2
     refine A4 ⟨fun jZ H'=>H' l=some (XX (N+1))/\∃ Hf1,aG Hf Hf1/\dO X.K G jZ Hf1 (upd H' l (.memo ls)) (Au C fs nm l ls n tl),fun jZ H' ⟨z1,z2⟩=>⟨age+1 - (N+1),by omega,N+1,rfl,by omega,z1,z2⟩,?_⟩
     refine⟨_,_,_,hb N hN hle ⟨jz (upd bV l (.memo ls)) (upd H2 l (.memo ls)),upd H2 l (.memo ls)⟩ hA2 ak,_,SX2,fun jZ H' ⟨z1,aI,z2⟩=>⟨z1,aI,?_,?_⟩⟩
     . exact((s1.trans gg.bF).trans (gf S2.sub)).trans z2.gr.bF
     . exact z2.rebase no (S2.gr.trans (pk S2.sub))
   . rw[decide_eq_false hle]
     exact A3 ⟨N,by omega,Qu,_,s1.trans gg.bF,S2⟩
 . cases f with
   | next=>
     obtain⟨σ7,H7,I7,N,hN,YU,Hf7,s7',S7⟩:=q7
     have I8:=Inv.pack I7 YU (by omega)
     refine⟨σ7,_,I8,?_⟩
     obtain⟨_,_,hlen,_,_,_,h6⟩:=(show aL X.prog X.w H7 s7.heap l (XX N) from I7.bh l _ YU)
     have kn:uL (jz Hf7 (upd H7 l (.memo ls))) ls (age+1):=fun j p f e i hi=>by
       have hj:j < ls.length:=(aag.mp e).1
       obtain⟨aE,cc,e1,e2,e3⟩:=h6 j p f N e (by rw[aaR,if_pos hj])
       obtain⟨q,o,kvs,q1,q2,q3⟩:=e3 i (by omega)
       have key:∀ b u,H7 b=some u->Kept u->jz Hf7 (upd H7 l (.memo ls)) b=some u:=fun b u z kq=>zo (by rw[ah (fun zz=>by rw[zz,YU] at z;cases z;exact kq)];exact z) kq
       exact⟨q,o,kvs,key _ _ q2 trivial,gh key q3⟩
     have S8:=S7.grow (pk S7.sub)
     exact k σ7 _ _ (s7'.trans (gf S7.sub)) (S8.Vs kn)
   | cont=>exact q7
   | brk=>exact q7
   | ret v=>exact q7
theorem oA (he:EE X G (Au C fs nm l ls n tl) e (.uF l ls m))(hs:swapsWith e none pos.line X.env=pure false:=by rfl):ES X G E (Au C fs nm l ls n tl) (.Expr e pos) (.nx (Au C fs nm l ls m tl)):=
 tL (lR he hs) fun D st H zq=>Bn zq fun Hf zq=>have S:=zq.1;have k:=zq.2;⟨Hf,S,fun v Hf1 H1 g1 r1=>by
   have S1:=S.grow g1
   cases r1 with
   | uF kn=>
     exact k st Hf1 H1 g1.bF (S1.Vs kn)⟩
theorem pv (hl:ls.length<=nm.length):Comes (.nx (Au C fs nm l ls n tl)) (.ret (.uF l ls n)):=.kn fun K G st Hf H S=>by
 obtain⟨v,hv,rv⟩:=S.val 0 _ rfl
 cases rv with
 | obj q r=>exact .uF (MX hl r)
theorem BA (i:Nat){o:Out}{sts:List Stmt}{gs:List (Nat->List (Key×FD))}(h:∀ l ls,ls.map (·.2)=gs->nM X G E (dl.set i (.val (.obj C (tK fs nm l ls n)))) sts o)(hd:dl[i]?=some (.val (.vC C fs gs nm n)):=by rfl):nM X G E dl sts o:=by
 intro pins s st H D I ⟨Hf,S,k⟩
 obtain⟨v,hv,rv⟩:=S.val i _ hd
 cases rv with
 | @vC s' a _ dx fv _ _ _ _ ls' e q r=>
   refine h a ls' e pins s st H D I ⟨Hf,⟨S.gr,by simp[S.len],fun j d hj=>?_,fun j o' hj=>?_,fun j m o1 o2 c q1 q2 q3 q4=>?_⟩,k⟩
   . by_cases ej:i=j
     . subst ej
       have hl:i < dl.length:=(aag.mp hd).1
       rw[aah hl] at hj;cases hj
       exact⟨_,hv,.obj q r⟩
     . rw[aai ej] at hj;exact S.val j d hj
   . have ej:i≠j:=fun z=>by
       subst z
       rw[aah (aag.mp hd).1] at hj;cases hj
     rw[aai ej] at hj;exact S.own j o' hj
   . have ne:∀ {j:Nat} {o':Own},(dl.set i (.val (.obj C (tK fs nm a ls' n))))[j]?=some (.own o')->dl[j]?=some (.own o'):=fun {j o'} hj=>by
       have ej:i≠j:=fun z=>by
         subst z
         rw[aah (aag.mp hd).1] at hj;cases hj
       rw[aai ej] at hj;exact hj
     exact S.Gm j m o1 o2 c (ne q1) (ne q2) q3 q4
end
theorem BB {l:Addr}:∀ (a b:List (Str×Dt)),kH l (a ++ b)=(kH l a && kH l b)
 | [],b=>by rw[List.nil_append,kH];rfl
 | (k,d)::a,b=>by rw[List.cons_append,kH,kH,BB a b,Bool.and_assoc]
theorem JD (nm:Nat->Str)(l:Addr)(ls:kg)(n:Nat):∀ js:List Nat,kH l (js.map fun j=>(nm j,Dt.dJ l ls j n))=true
 | []=>rfl
 | j::js=>by rw[aaq,kH,JD nm l ls n js];rfl
theorem yu {fs:List (Str×Dt)}{nm:List Str}{l:Addr}{ls:kg}{n:Nat}(h:kH l fs=true):kH l (pR fs nm l ls n)=true:=by
 unfold pR
 rw[BB,h,JD];rfl
section
variable {X:Cx}{G0:Gr}{E:XK}{arg:Expr}{fs:List (Str×Dt)}{l C:Addr}{ls:kg}{n N:Nat}{tl:List Slot}{f g:Nat->List (Key×FD)}{n0 n1 x0 xg:Str}{p1 p2 p3 p4 p5 a1 a2 c1 c2 q1 q2:Pos}
theorem BC (ng:Nat)(hs:kH l fs=true)(ht:rb l tl=true)(hu:tl[ng]?=some .aJ)(n6:ls.map (·.2)=[f,g])(hN:N < 9000)(cl:uE X.K C)(Ro:bG X.K C n0)(YV:bG X.K C n1)(hA:G0.Hf l=some (.memo ls))(hB:G0.H l=some (.memo ls))
   (YW:∀ G2,EO X G2 (.val (.obj C (pR fs [n0,n1] l ls n))::tl.set ng (.val (.dM (nW (f N))))) arg (.eP (nW (g N))))
   (TF:(pR fs [n0,n1] l ls n).lookup n0=some (.dJ l ls 0 n):=by rfl) (Jn:(pR fs [n0,n1] l ls n).lookup n1=some (.dJ l ls 1 n):=by rfl)
   (TC:X.N[0]?=some x0:=by rfl) (Xe:vn X.env.scope x0:=by first | exact aaG rfl | exact aaD (aaG rfl) | exact aaD (aaD rfl)) (Xf:(x0 == ("__debug__":Str))=false:=by decide) (Xg:(x0 == ("__classdict__":Str))=false:=by decide)
   (YX:X.N[ng+1]?=some xg:=by rfl) (YY:vn X.env.scope xg:=by first | exact aaG rfl | exact aaD (aaG rfl) | exact aaD (aaD rfl)) (YZ:(xg == ("__debug__":Str))=false:=by decide) (Y0:(xg == ("__classdict__":Str))=false:=by decide)
   (Vu:attributeBase (.Name x0 p1) n0 X.env (eval (.Name x0 p1) X.env)=eval (.Name x0 p1) X.env:=by rfl) (Y1:attributeBase (.Name x0 p4) n1 X.env (eval (.Name x0 p4) X.env)=eval (.Name x0 p4) X.env:=by rfl)
   (Dl:attributeBase (.Attribute (.Name x0 p1) n0 p2) "append" X.env (eval (.Attribute (.Name x0 p1) n0 p2) X.env)=eval (.Attribute (.Name x0 p1) n0 p2) X.env:=by rfl)
   (Rp:attributeBase (.Attribute (.Name x0 p4) n1 p5) "append" X.env (eval (.Attribute (.Name x0 p4) n1 p5) X.env)=eval (.Attribute (.Name x0 p4) n1 p5) X.env:=by rfl)
   (JE:((backTo c1 (starEach [.Name xg p3] X.env)).all (fun x=>!x.1) && (backToKw c1 (keywordEach [] X.env)).all (fun x=>x.1.isSome) && decide ([Expr.Name xg p3].length+([]:List Keyword).length+(if ([]:List Keyword).isEmpty then 0 else 1) < 30))=true:=by rfl)
   (Vv:((backTo c2 (starEach [arg] X.env)).all (fun x=>!x.1) && (backToKw c2 (keywordEach [] X.env)).all (fun x=>x.1.isSome) && decide ([arg].length+([]:List Keyword).length+(if ([]:List Keyword).isEmpty then 0 else 1) < 30))=true:=by rfl)
   (Dm:(a1.endLine == c1.line)=true:=by rfl) (Rq:(a2.endLine == c2.line)=true:=by rfl) (zp:starEach [.Name xg p3] X.env=(false,eval (.Name xg p3) X.env)::starEach [] X.env:=by rfl) (MY:starEach [arg] X.env=(false,eval arg X.env)::starEach [] X.env:=by rfl)
   (Hr:swapsWith (.Call (.Attribute (.Attribute (.Name x0 p1) n0 p2) "append" a1) [.Name xg p3] [] c1) none q1.line X.env=pure false:=by rfl) (AM:swapsWith (.Call (.Attribute (.Attribute (.Name x0 p4) n1 p5) "append" a2) [arg] [] c2) none q2.line X.env=pure false:=by rfl) :
   nM X (Vt G0 l (.bD ls (aak ls.length N))) E (.val (.obj C (pR fs [n0,n1] l ls n))::tl.set ng (.own (.eP (nW (f N)))))
     [.Expr (.Call (.Attribute (.Attribute (.Name x0 p1) n0 p2) "append" a1) [.Name xg p3] [] c1) q1,.Expr (.Call (.Attribute (.Attribute (.Name x0 p4) n1 p5) "append" a2) [arg] [] c2) q2] (.raw (RM X.K G0 C fs [n0,n1] l ls n tl (N+1))):=by
 have Vw:PE X arg (fun st H Q=>∃ G2,W3 X.K G2 (.val (.obj C (pR fs [n0,n1] l ls n))::tl.set ng (.val (.dM (nW (f N))))) (.eP (nW (g N))) st H Q):=fun pins s st H Q I ⟨G2,q⟩=>YW G2 pins s st H Q I q
 refine A7 (n8 (lR (tG PySem.F.plainAttrs_list PySem.F.slot_list_append PySem.F.type_list_append qp (vw (jv (pos:=p1) TC Xe Xf Xg) Vu) (lS (jv (pos:=p3) YX YY YZ Y0) og zp) Dl JE Dm zp rfl) Hr)
   (mS (lR (tG PySem.F.plainAttrs_list PySem.F.slot_list_append PySem.F.type_list_append qp (vw (jv (pos:=p4) TC Xe Xf Xg) Y1) (lS Vw og MY) Rp Vv Rq MY rfl) AM))) fun D st H zq=>Bn zq fun Hf zq=>have S:=zq.1;have k:=zq.2;?_
 have e2:ls.length=2:=by have:=congrArg abd n6;simpa using this
 have eR:∀ M:Nat,aak ls.length M=[M,M]:=fun M=>by rw[e2];rfl
 rw[eR] at S
 have Vx:ng < tl.length:=(aag.mp hu).1
 obtain⟨v0,hv,rv⟩:=S.val 0 _ rfl
 cases rv with
 | @obj sa _ dx fv _ Rr rf=>
   obtain⟨oa,Dn,Xh,_,back⟩:=Rd.ex Rr
   have Rt:Hf l=some (.bD ls [N,N]):=S.gr.bF _ _ ak
   have OT:H l=some (.bD ls [N,N]):=S.sub _ _ Rt
   have hm:b9 Hf l ls:=.inr ⟨_,Rt⟩
   obtain⟨y0,Y2,Y3⟩:=rf.lookup TF
   obtain⟨y1,LI,ry1⟩:=rf.lookup Jn
   obtain⟨qa,hq,Vy,Y4,kvs,OU,rk⟩:=S.own (ng+1) (.eP (nW (f N))) (by show(tl.set ng _)[ng]?=_;rw[aah Vx])
   cases Y3 with
   | @dJ _ p _ _ _ f0 Bt _ Y5 _=>cases ry1 with
     | @dJ _ pp _ _ _ f1 Y6 _ ac7 _=>
       have Y7:f0=f:=by
         have:=congrArg (fun z=>z[0]?) n6
         simp only[YL,Bt] at this
         exact Option.some.inj this
       have ef1:f1=g:=by
         have:=congrArg (fun z=>z[1]?) n6
         simp only[YL,Y6] at this
         exact Option.some.inj this
       subst Y7 ef1
       have Xi:rT H kvs (f0 N):=gh (fun b u e _=>S.sub _ _ e) (qo rk)
       have Y8:qa≠l:=fun z=>by rw[z,OT] at OU;cases OU
       have Vz:sa≠l:=fun z=>by rw[z,Rt] at Dn;cases Dn;cases Xh
       have nsq:sa≠qa:=fun z=>by rw[z,Vy] at Dn;cases Dn
       refine⟨_,hv,sa,C,dx,fv,_,rfl,back _ (S.sub _ _ Dn),cl,Ro,Y2,.inr (.inr (.inr (.inr ⟨rfl,l,ls,[N,N],0,f0,N,OT,Bt,rfl⟩))),_,hq,l,ls,[N,N],0,p,f0,N,qa,kvs,rfl,rfl,OT,Bt,rfl,hN,OU,Xi,fun oq=>?_⟩
       let H4:Hp:=upd (upd H l (.bD ls ([N,N].set 0 (N+1)))) qa (.kd (some (p,N)) oq kvs)
       let u4:HO:=.bD ls [N+1,N]
       have Xj:H4 l=some u4:=by show(upd (upd H l _) qa _) l=_;rw[ah (Ne.symm Y8),ak];rfl
       have h4q:H4 qa=some (.kd (some (p,N)) oq kvs):=ak
       have Xk:∀ b o,H b=some o->b≠l->b≠qa->H4 b=some o:=fun b o e n1 n2=>by show(upd (upd H l _) qa _) b=_;rw[ah n2,ah n1];exact e
       have h4n:∀ b,H4 b=none->H b=none:=fun b e=>by
         have n1:b≠l:=fun z=>by rw[z,Xj] at e;cases e
         have n2:b≠qa:=fun z=>by rw[z,h4q] at e;cases e
         have e:(upd (upd H l _) qa _) b=none:=e
         rw[ah n2,ah n1] at e;exact e
       have hfq:∀ b o,Hf b=some o->b≠qa:=fun b o e z=>by rw[z,Vy] at e;cases e
       have zr:aG (upd Hf l u4) H4:=fun b o e=>by
         by_cases bl:b=l
         . rw[bl,ak] at e;cases e;rw[bl];exact Xj
         . rw[ah bl] at e;exact Xk b o (S.sub _ _ e) bl (hfq b o e)
       let LJ:Hp:=jz (upd Hf l u4) H4
       have VA:aG (upd Hf l u4) LJ:=gf zr
       have Xl:mz ls u4:=.inr ⟨_,rfl⟩
       have Y9:∀ b u,H b=some u->Kept u->LJ b=some u:=fun b u e kq=>zo (Xk b _ e (fun z=>by rw[z,OT] at e;cases e;exact kq) (fun z=>by rw[z,OU] at e;cases e;exact kq)) kq
       have S4:dO X.K ⟨LJ,H4⟩ st LJ H4 (.val (.obj C (pR fs [n0,n1] l ls n))::tl.set ng (.val (.dM (nW (f0 N))))):=by
         have no:∀ (i:Nat) o,(Slot.val (.obj C (pR fs [n0,n1] l ls n))::tl.set ng (.val (.dM (nW (f0 N)))))[i]?≠some (.own o):=fun i o h=>by
           cases i with
           | zero=>cases h
           | succ i=>
             have h:(tl.set ng (.val (.dM (nW (f0 N)))))[i]?=some (.own o):=h
             by_cases e:ng=i
             . subst e;rw[aah Vx] at h;cases h
             . rw[aai e] at h;exact aY (gY ht) i o h
         refine⟨.refl (oy zr),by have:=S.len;simpa using this,fun i d h=>?_,fun i o h=>absurd h (no i o),fun i j o o' a h=>absurd h (no i o)⟩
         cases i with
         | zero=>
           cases h
           exact⟨_,hv,.obj (back _ (VA _ _ (bc hm Dn Xh))) ((jy hm Xl (yu hs) rf).mono VA)⟩
         | succ i=>
           have h:(tl.set ng (.val (.dM (nW (f0 N)))))[i]?=some (.val d):=h
           by_cases e:ng=i
           . subst e
             rw[aah Vx] at h;cases h
             exact⟨_,hq,.dM (ER h4q) (uK (gh Y9 Xi))⟩
           . rw[aai e] at h
             obtain⟨w,w1,w2⟩:=S.val (i+1) d (by show(tl.set ng _)[i]?=_;rw[aai e];exact h)
             exact⟨w,w1,(iX hm Xl (mB ht h) w2).mono VA⟩
       refine⟨_,hv,sa,C,dx,fv,_,rfl,back _ (Xk _ _ (S.sub _ _ Dn) Vz nsq),cl,YV,LI,.inr (.inr (.inr (.inr ⟨rfl,l,ls,[N+1,N],1,f1,N,Xj,Y6,rfl⟩))),⟨LJ,H4⟩,LJ,S4,fun ra xx H5 g5 n5 n5' ⟨Ru,OD,Vd⟩=>?_⟩
       have h5l:H5 l=some u4:=g5.big _ _ Xj
       have nrl:ra≠l:=fun z=>by rw[z,h5l] at OD;have OD:=Option.some.inj OD;have OD:HO.bD ls [N+1,N]=.dK Ru:=OD;cases OD
       refine⟨l,ls,[N+1,N],1,pp,f1,N,ra,Ru,rfl,rfl,h5l,Y6,rfl,hN,OD,gh (fun b u e _=>g5.sub _ _ e) (qo Vd),fun or=>?_⟩
       let H6:Hp:=upd (upd H5 l (.bD ls ([N+1,N].set 1 (N+1)))) ra (.kd (some (pp,N)) or Ru)
       show D.nx st H6
       have Za:H6 l=some (.bD ls [N+1,N+1]):=by show(upd (upd H5 l _) ra _) l=_;rw[ah (Ne.symm nrl),ak];rfl
       have VB:∀ b o,H5 b=some o->b≠l->b≠ra->(upd H6 l (.memo ls)) b=some o:=fun b o e n1 n2=>by
         rw[ah n1]
         show(upd (upd H5 l _) ra _) b=_
         rw[ah n2,ah n1];exact e
       have Zb:∀ b o,xx b=some o->b≠ra:=fun b o e z=>by rw[z,n5'] at e;cases e
       have JF:aG (upd xx l (.memo ls)) (upd H6 l (.memo ls)):=fun b o e=>by
         by_cases bl:b=l
         . rw[bl,ak] at e ⊢;exact e
         . rw[ah bl] at e;exact VB b o (g5.sub _ _ e) bl (Zb b o e)
       have JG:=gf JF
       have f4:∀ b o,Hf b=some o->b≠l->xx b=some o:=fun b o e n1=>g5.bF _ _ (VA _ _ (by rw[ah n1];exact e))
       have g6:bo G0.Hf G0.H (jz (upd xx l (.memo ls)) (upd H6 l (.memo ls))) (upd H6 l (.memo ls)):=by
         refine⟨fun b o e=>?_,fun b o e=>?_,oy JF,fun b o e=>?_⟩
         . by_cases bl:b=l
           . rw[bl,hB] at e;cases e;rw[bl];exact ak
           . have h3:H b=some o:=S.gr.big _ _ (by show(upd G0.H l _) b=_;rw[ah bl];exact e)
             have Zc:b≠qa:=fun z=>by
               have:(upd G0.H l (.bD ls [N,N])) qa=none:=Y4
               rw[<- z,ah bl,e] at this;cases this
             have h4:=Xk b o h3 bl Zc
             exact VB b o (g5.big _ _ h4) bl (fun z=>by have n5:H4 ra=none:=n5;rw[z,n5] at h4;cases h4)
         . by_cases bl:b=l
           . rw[bl,hA] at e;cases e;rw[bl];exact JG _ _ ak
           . have h3:Hf b=some o:=S.gr.bF _ _ (by show(upd G0.Hf l _) b=_;rw[ah bl];exact e)
             exact JG _ _ (by rw[ah bl];exact f4 b o h3 bl)
         . rcases o9 (Hf:=upd xx l (.memo ls)) (H:=upd H6 l (.memo ls)) b with⟨u',z1,z2,z3⟩ | z
           . rw[z3] at e;cases e;exact .inr (.inr z2)
           . rw[z] at e
             by_cases bl:b=l
             . rw[bl];exact .inl ⟨_,hA⟩
             . rw[ah bl] at e
               rcases g5.new b o e with⟨o',w⟩ | w | w
               . have eo:o'=o:=by have:=g5.bF _ _ w;rw[e] at this;exact(Option.some.inj this).symm
                 subst eo
                 rcases o9 (Hf:=upd Hf l u4) (H:=H4) b with⟨u',z1,z2,z3⟩ | z'
                 . have w:jz (upd Hf l u4) H4 b=some o':=w
                   rw[z3] at w;cases w;exact .inr (.inr z2)
                 . have w:jz (upd Hf l u4) H4 b=some o':=w
                   rw[z',ah bl] at w
                   rcases S.gr.new b o' w with⟨QE,y⟩ | y | y
                   . have y:(upd G0.Hf l _) b=some QE:=y
                     rw[ah bl] at y;exact .inl ⟨QE,y⟩
                   . have y:(upd G0.H l _) b=none:=y
                     rw[ah bl] at y;exact .inr (.inl y)
                   . exact .inr (.inr y)
               . have y:(upd G0.H l (.bD ls [N,N])) b=none:=S.gr.big.free (h4n b w)
                 rw[ah bl] at y;exact .inr (.inl y)
               . exact .inr (.inr w)
       have Zd:aG (upd Hf l u4) xx:=VA.trans g5.bF
       have hm5:b9 xx l ls:=.inr ⟨_,Zd _ _ ak⟩
       have Rv:∀ {v:V} {d:Dt},sG l d=true->Rep X.K Hf v d->Rep X.K (jz (upd xx l (.memo ls)) (upd H6 l (.memo ls))) v d:=fun {v d} hn r=>(iX hm5 (.inl rfl) hn ((iX hm Xl hn r).mono Zd)).mono JG
       refine k st H6 ⟨by rw[eR];exact Za,_,⟨g6,by have:=S.len;simpa using this,fun i d h=>?_,fun i o h=>?_,fun i j o o' a h=>?_⟩⟩
       . cases i with
         | zero=>
           cases h
           refine⟨_,hv,.obj (back _ (JG _ _ (by rw[ah Vz];exact f4 _ _ Dn Vz))) ?_⟩
           have r5:=(jy hm Xl (yu hs) rf).mono Zd
           exact(OS hs hm5 r5).mono JG
         | succ i=>
           have h:tl[i]?=some (.val d):=h
           have e:ng≠i:=fun z=>by rw[<- z,hu] at h;cases h
           obtain⟨w,w1,w2⟩:=S.val (i+1) d (by show(tl.set ng _)[i]?=_;rw[aai e];exact h)
           exact⟨w,w1,Rv (mB ht h) w2⟩
       . cases i with
         | zero=>cases h
         | succ i=>exact absurd h (aY (gY ht) i o)
       . cases i with
         | zero=>cases h
         | succ i=>exact absurd h (aY (gY ht) i o)
end
noncomputable def ldk:HO->Bool
 | .lst _=>true
 | .dK _=>true
 | _=>false
noncomputable def conv (H:Hp)(p p2 q1 q2:Addr)(u1 u2 u3 u4:HO):Hp:=upd (upd (upd (upd H p u1) p2 u2) q1 u3) q2 u4
section
variable {X:Cx}{pins:List (Addr×Obj)}{σ:L2.St}{H:Hp}{s:Shared}{p p2 q1 q2:Addr}{nO Av:List (Key×V)}{f g:Nat->List (Key×FD)}
theorem Inv.Rw (I:L2.Inv X pins σ H s)(hp:H p=some (.lst [.ref q1]))(yV:H p2=some (.lst [.ref q2]))(LM:H q1=some (.dK nO))(VC:H q2=some (.dK Av))(f1:rT H nO (f 0))(f2:rT H Av (g 0))(n1:p≠p2)(n2:q1≠q2):∃ o1 o2,L2.Inv X pins σ (conv H p p2 q1 q2 (.memo [(p,f),(p2,g)]) (.part p) (.kd (some (p,0)) o1 nO) (.kd (some (p2,0)) o2 Av)) s:=by
 obtain⟨z1,i1,c1,r1,e1⟩:=(show aL X.prog X.w H s.heap p (.lst [.ref q1]) from I.bh p _ hp)
 obtain⟨z2,i2,c2,r2,e2⟩:=(show aL X.prog X.w H s.heap p2 (.lst [.ref q2]) from I.bh p2 _ yV)
 obtain⟨MZ,lo1,Ze,Zf,o1,Zg,Zh,VD,Zi⟩:=(show aL X.prog X.w H s.heap q1 (.dK nO) from I.bh q1 _ LM)
 obtain⟨hz2,lo2,vs2,kr2,o2,es2,ep2,Xm,hr2⟩:=(show aL X.prog X.w H s.heap q2 (.dK Av) from I.bh q2 _ VC)
 obtain⟨u1,rfl,w1⟩:=vals1 r1
 obtain⟨u2,rfl,w2⟩:=vals1 r2
 cases (show u1=Value.ref q1 from w1)
 cases (show u2=Value.ref q2 from w2)
 refine⟨o1,o2,?_⟩
 have m1:p≠q1:=fun z=>by rw[z,LM] at hp;cases hp
 have m2:p≠q2:=fun z=>by rw[z,VC] at hp;cases hp
 have m3:p2≠q1:=fun z=>by rw[z,LM] at yV;cases yV
 have m4:p2≠q2:=fun z=>by rw[z,VC] at yV;cases yV
 generalize M0:conv H p p2 q1 q2 (.memo [(p,f),(p2,g)]) (.part p) (.kd (some (p,0)) o1 nO) (.kd (some (p2,0)) o2 Av)=H'
 have VE:H' p=some (.memo [(p,f),(p2,g)]):=by rw[<- M0];unfold conv;rw[ah m2,ah m1,ah n1,ak]
 have Rx:H' p2=some (.part p):=by rw[<- M0];unfold conv;rw[ah m4,ah m3,ak]
 have JH:H' q1=some (.kd (some (p,0)) o1 nO):=by rw[<- M0];unfold conv;rw[ah n2,ak]
 have VF:H' q2=some (.kd (some (p2,0)) o2 Av):=by rw[<- M0];unfold conv;rw[ak]
 have Dj:∀ b,b≠p->b≠p2->b≠q1->b≠q2->H' b=H b:=fun b a1 a2 a3 a4=>by rw[<- M0];unfold conv;rw[ah a4,ah a3,ah a2,ah a1]
 have t9:∀ b o,H b=some o->ldk o=false->H' b=some o:=fun b o e n=>by
   rw[Dj b (fun z=>by rw[z,hp] at e;cases e;cases n) (fun z=>by rw[z,yV] at e;cases e;cases n) (fun z=>by rw[z,LM] at e;cases e;cases n) (fun z=>by rw[z,VC] at e;cases e;cases n)]
   exact e
 have kp:Kp H H':=⟨fun b o e kq=>t9 b _ e (by cases o <;> first | rfl | exact(show False from kq).elim),fun b e=>by
   cases q:H b with
   | none=>rw[q] at e;exact e.elim
   | some u=>
     rw[q] at e
     rw[t9 b u q (by cases u <;> first | rfl | exact e.elim)]
     exact e,fun b x e=>t9 b _ e rfl⟩
 refine I.un (h':=s.heap) (t':=s.toks) ⟨fun b o e _ _ _=>e,fun b o e _ _ _=>⟨o.slots,e⟩,fun b o e n _=>?_,fun b o e _=>⟨o,e⟩,fun b xs e=>t9 b _ e rfl,fun b o u e=>t9 b _ e rfl,fun b ps e=>⟨#[],by rw[t9 b _ e rfl];simp⟩⟩ fun b u e=>?_
 . rw[Dj b (fun z=>by rw[z,hp] at n;cases n) (fun z=>by rw[z,yV] at n;cases n) (fun z=>by rw[z,LM] at n;cases n) (fun z=>by rw[z,VC] at n;cases n)]
   exact n
 . by_cases b1:b=p
   . subst b1
     rw[VE] at e;cases e
     refine⟨⟨_,e1⟩,1,by decide,⟨f,rfl⟩,rfl,fun j a h hj=>?_,by simp[n1],fun n hn=>by rw[List.mem_replicate] at hn;omega,fun j a h n hj hn=>?_⟩
     . match j,hj with
       | 0,hj=>cases hj;exact .inl rfl
       | 1,hj=>cases hj;exact .inr Rx
     . match j,hj,hn with
       | 0,hj,hn=>
         cases hj;cases hn
         refine⟨_,_,e1,rfl,fun i hi=>?_⟩
         have:i=0:=by omega
         subst this
         exact⟨q1,o1,nO,rfl,JH,f1.kp kp⟩
       | 1,hj,hn=>
         cases hj;cases hn
         refine⟨_,_,e2,rfl,fun i hi=>?_⟩
         have:i=0:=by omega
         subst this
         exact⟨q2,o2,Av,rfl,VF,f2.kp kp⟩
   . by_cases b2:b=p2
     . subst b2;rw[Rx] at e;cases e;exact⟨_,e2⟩
     . by_cases b3:b=q1
       . subst b3;rw[JH] at e;cases e
         refine⟨VD,⟨MZ,lo1,Ze,Zf,o1,Zg,Zh,VD,Zi⟩,fun a i ht=>?_⟩
         cases ht
         exact⟨by rw[VE];trivial,_,_,e1,rfl⟩
       . by_cases b4:b=q2
         . subst b4;rw[VF] at e;cases e
           refine⟨Xm,⟨hz2,lo2,vs2,kr2,o2,es2,ep2,Xm,hr2⟩,fun a i ht=>?_⟩
           cases ht
           exact⟨by rw[Rx];trivial,_,_,e2,rfl⟩
         . rw[Dj b b1 b2 b3 b4] at e
           exact(I.bh b u e).yK (fun _ _ _ q=>q) (fun c q=>t9 c _ q rfl) (fun c xs q=>t9 c _ q rfl) kp
end
theorem EU (n0:Str)(v:V):∀ fv:List (Str×V),(fq n0 v fv).length<=fv.length+1
 | []=>aae _
 | (k,w)::r=>by
   have ih:=EU n0 v r
   unfold fq
   split
   . simp
   . simp only[aaI];omega
section
variable {X:Cx}{G:Gr}{E:XK}{e1 e2:Expr}{fs:List (Str×Dt)}{z C:Addr}{tl:List Slot}{f g:Nat->List (Key×FD)}{n0 n1 x0:Str}{Ry Zj Rz Zk RA Zl q1 q2:Pos}
theorem zt (no:noOwn tl=true)(cl:uE X.K C)(Ro:bG X.K C n0)(YV:bG X.K C n1)(Zm:EO X G (.own (.A6 z C fs)::tl) e1 (.eP (nW (f 0))))(QO:EO X G (.aJ::tl) e2 (.eP (nW (g 0))))(RB:∀ p ls,putD n1 (.memo p ls 1 1) (putD n0 (.memo p ls 0 1) fs)=tK fs [n0,n1] p ls 1:=by intro _ _;rfl)(hlen:Nat.ble fs.length 990=true:=by rfl)(hN:X.N[0]?=some x0:=by rfl)(hv:vn X.env.scope x0:=by first | exact aaG rfl | exact aaD (aaG rfl) | exact aaD (aaD rfl))(mQ:(x0 == ("__debug__":Str))=false:=by decide)(ml:(x0 == ("__classdict__":Str))=false:=by decide)(zp:starEach [e1] X.env=[(false,eval e1 X.env)]:=by rfl)(MY:starEach [e2] X.env=[(false,eval e2 X.env)]:=by rfl)(Hr:swapsWith (.List [e1] RA) (some (.Attribute (.Name x0 Ry) n0 Rz)) q1.line X.env=pure false:=by rfl)(AM:swapsWith (.List [e2] Zl) (some (.Attribute (.Name x0 Zj) n1 Zk)) q2.line X.env=pure false:=by rfl):nM X G E (.own (.A6 z C fs)::tl) [.Assign [.Attribute (.Name x0 Ry) n0 Rz] (.List [e1] RA) q1,.Assign [.Attribute (.Name x0 Zj) n1 Zk] (.List [e2] Zl) q2] (.nx (.own (.yX z C fs [f,g] [n0,n1] 1)::tl)):=by
 intro pins s st H D I ⟨Hf,S,k⟩
 have base:=n8 (vx (pos:=q1) (pos':=Rz) (jv (pos:=Ry) hN hv mQ ml) (vy (pos:=RA) (lS Zm og zp)) Hr) (mS (vx (pos:=q2) (pos':=Zk) (jv (pos:=Zj) hN hv mQ ml) (vy (pos:=Zl) (lS QO og MY)) AM))
 let RQ:L2.St->Hp->Prop:=fun jZ H'=>∃ p p2 a1 a2 nO Av,H' p=some (.lst [.ref a1])/\H' p2=some (.lst [.ref a2])/\H' a1=some (.dK nO)/\H' a2=some (.dK Av)/\rT H' nO (f 0)/\rT H' Av (g 0)/\p≠p2/\a1≠a2/\ ∀ o1 o2,D.nx jZ (conv H' p p2 a1 a2 (.memo [(p,f),(p2,g)]) (.part p) (.kd (some (p,0)) o1 nO) (.kd (some (p2,0)) o2 Av))
 refine b7 (base pins s st H { D with nx:=RQ} I ?_) fun fl s7 q7=>?_
 . obtain⟨za,hz,Zn,TK,ez,dx,fv,M3,rf⟩:=S.own 0 _ rfl
   subst ez
   refine⟨Hf,S,fun a1 Hf1 H1 g1 VG RC ⟨nO,Q6,Zo⟩=>⟨aaJ rfl,fun p hp=>?_⟩⟩
   have MZ:H1 za=some (.ins C dx fv):=g1.big _ _ M3
   have LN:za≠p:=aw MZ hp
   have VH:a1≠p:=aw Q6 hp
   have OV:za≠a1:=fun w=>by rw[w,VG] at M3;cases M3
   have Zp:(upd H1 p (.lst [.ref a1])) za=some (.ins C dx fv):=by rw[ah LN];exact MZ
   refine⟨_,hz,za,C,dx,fv,rfl,Zp,cl,Ro,by rw[rf.length];exact aaK (aaJ hlen) (by decide),?_⟩
   let H2:Hp:=upd (upd H1 p (.lst [.ref a1])) za (.ins C dx (fq n0 (.ref p) fv))
   have GO:Hf1 za=none:=g1.lC Zn M3
   have Zq:bo Hf1 H1 Hf1 (upd H1 p (.lst [.ref a1])):=.eX g1.sub hp
   have S0:dO X.K G st Hf H (.aJ::tl):=S.weak ⟨rfl,fun i s' e n=>by
     cases i with
     | zero=>cases e;exact absurd rfl n
     | succ i=>exact e⟩
   have Xn:noOwn (.aJ::tl)=true:=no
   have S2:dO X.K G st Hf1 H2 (.aJ::tl):=o6 ((S0.grow g1).grow Zq) Xn GO TK
   refine⟨Hf1,S2,fun a2 jq H3 g3 n3 n3' ⟨Av,MQ,Vd⟩=>⟨aaJ rfl,fun p2 yV=>?_⟩⟩
   have Zr:H2 a2=none:=n3
   have Xo:H2 za=some (.ins C dx (fq n0 (.ref p) fv)):=ak
   have Xp:H2 p=some (.lst [.ref a1]):=by show(upd (upd H1 p _) za _) p=_;rw[ah (Ne.symm LN),ak]
   have Xq:H2 a1=some (.dK nO):=by show(upd (upd H1 p _) za _) a1=_;rw[ah (Ne.symm OV),ah VH];exact Q6
   have h3z:=g3.big _ _ Xo
   have h3p:=g3.big _ _ Xp
   have h3a:=g3.big _ _ Xq
   have M4:za≠p2:=aw h3z yV
   have RD:p≠p2:=aw h3p yV
   have OW:a1≠p2:=aw h3a yV
   have OX:a2≠p2:=aw MQ yV
   have RE:za≠a2:=fun w=>by rw[w,Zr] at Xo;cases Xo
   have Zs:p≠a2:=fun w=>by rw[w,Zr] at Xp;cases Xp
   have VI:a1≠a2:=fun w=>by rw[w,Zr] at Xq;cases Xq
   have Zt:(upd H3 p2 (.lst [.ref a2])) za=some (.ins C dx (fq n0 (.ref p) fv)):=by rw[ah M4];exact h3z
   refine⟨_,hz,za,C,dx,_,rfl,Zt,cl,YV,?_,?_⟩
   . have:=EU n0 (.ref p) fv
     have h9:=aaJ hlen
     have:=rf.length
     omega
   let H4:Hp:=upd (upd H3 p2 (.lst [.ref a2])) za (.ins C dx (fq n1 (.ref p2) (fq n0 (.ref p) fv)))
   have Zu:H4 p=some (.lst [.ref a1]):=by show(upd (upd H3 p2 _) za _) p=_;rw[ah (Ne.symm LN),ah RD];exact h3p
   have Zv:H4 p2=some (.lst [.ref a2]):=by show(upd (upd H3 p2 _) za _) p2=_;rw[ah (Ne.symm M4),ak]
   have RF:H4 a1=some (.dK nO):=by show(upd (upd H3 p2 _) za _) a1=_;rw[ah (Ne.symm OV),ah OW];exact h3a
   have Zw:H4 a2=some (.dK Av):=by show(upd (upd H3 p2 _) za _) a2=_;rw[ah (Ne.symm RE),ah OX];exact MQ
   have Zx:H4 za=some (.ins C dx (fq n1 (.ref p2) (fq n0 (.ref p) fv))):=ak
   have Zy:jq za=none:=g3.lC GO Xo
   have Xr:jq p=none:=g3.lC (g1.sub.free hp) Xp
   have Zz:jq a1=none:=g3.lC RC Xq
   have VJ:jq p2=none:=g3.sub.free yV
   have zr:aG jq H4:=fun b o e=>by
     have b1:b≠za:=fun w=>by rw[w,Zy] at e;cases e
     have b2:b≠p2:=fun w=>by rw[w,VJ] at e;cases e
     show(upd (upd H3 p2 _) za _) b=_
     rw[ah b1,ah b2];exact g3.sub _ _ e
   have S4:dO X.K G st jq H4 (.aJ::tl):=o6 ((S2.grow g3).grow (.eX g3.sub yV)) Xn Zy TK
   have gp:G.H p=none:=S.gr.big.free (g1.big.free hp)
   have VL:G.H a1=none:=S.gr.big.free VG
   have gp2:G.H p2=none:=S2.gr.big.free (g3.big.free yV)
   have ga2:G.H a2=none:=S2.gr.big.free n3
   have VM:rT jq nO (f 0):=qo (Zo.mono g3.bF)
   have fz2:rT jq Av (g 0):=qo Vd
   refine⟨p,p2,a1,a2,nO,Av,Zu,Zv,RF,Zw,gh (fun b u e _=>zr _ _ e) VM,gh (fun b u e _=>zr _ _ e) fz2,RD,VI,fun o1 o2=>?_⟩
   let ls:kg:=[(p,f),(p2,g)]
   let u1:HO:=.memo ls
   let u3:HO:=.kd (some (p,0)) o1 nO
   let u4:HO:=.kd (some (p2,0)) o2 Av
   have m1:p≠a1:=Ne.symm VH
   have cat:∀ (B:Hp),conv B p p2 a1 a2 u1 (.part p) u3 u4 p=some u1/\conv B p p2 a1 a2 u1 (.part p) u3 u4 p2=some (.part p)/\conv B p p2 a1 a2 u1 (.part p) u3 u4 a1=some u3/\conv B p p2 a1 a2 u1 (.part p) u3 u4 a2=some u4:=fun B=>by
     unfold conv
     refine⟨?_,?_,?_,?_⟩
     . rw[ah Zs,ah m1,ah RD,ak]
     . rw[ah (Ne.symm OX),ah (Ne.symm OW),ak]
     . rw[ah VI,ak]
     . rw[ak]
   have vZ:∀ (B:Hp) b,b≠p->b≠p2->b≠a1->b≠a2->conv B p p2 a1 a2 u1 (.part p) u3 u4 b=B b:=fun B b c1 c2 c3 c4=>by unfold conv;rw[ah c4,ah c3,ah c2,ah c1]
   let xx:Hp:=conv jq p p2 a1 a2 u1 (.part p) u3 u4
   have Hv:aG jq xx:=fun b o e=>by
     show conv jq p p2 a1 a2 u1 (.part p) u3 u4 b=some o
     rw[vZ jq b (fun w=>by rw[w,Xr] at e;cases e) (fun w=>by rw[w,VJ] at e;cases e) (fun w=>by rw[w,Zz] at e;cases e) (fun w=>by rw[w,n3'] at e;cases e)]
     exact e
   have key:∀ (A B:Hp),aG A B->aG (conv A p p2 a1 a2 u1 (.part p) u3 u4) (conv B p p2 a1 a2 u1 (.part p) u3 u4):=fun A B sm=>cY (cY (cY (cY sm)))
   have RG:aG xx (conv H4 p p2 a1 a2 u1 (.part p) u3 u4):=key _ _ zr
   have JI:bb X.K xx (fq n1 (.ref p2) (fq n0 (.ref p) fv)) (tK fs [n0,n1] p ls 1):=by
     rw[<- RB p ls]
     refine((rf.mono ((g1.bF.trans g3.bF).trans Hv)).put (f:=n0) (d:=.memo p ls 0 1) ?_).put (f:=n1) (d:=.memo p ls 1 1) ?_
     . refine .memo (f:=f) rfl (cat jq).1 (.inl rfl) fun i hi=>?_
       have:i=0:=by omega
       subst this
       exact⟨a1,o1,nO,(cat jq).2.2.1,gh (fun b u e _=>Hv _ _ e) VM⟩
     . refine .memo (f:=g) rfl (cat jq).1 (.inr (cat jq).2.1) fun i hi=>?_
       have:i=0:=by omega
       subst this
       exact⟨a2,o2,Av,(cat jq).2.2.2,gh (fun b u e _=>Hv _ _ e) fz2⟩
   have ZA:conv H4 p p2 a1 a2 u1 (.part p) u3 u4 za=some (.ins C dx (fq n1 (.ref p2) (fq n0 (.ref p) fv))):=by rw[vZ H4 za LN M4 OV RE];exact Zx
   have ZC:xx za=none:=by show conv jq p p2 a1 a2 u1 (.part p) u3 u4 za=none;rw[vZ jq za LN M4 OV RE];exact Zy
   refine k st xx _ ((g1.bF.trans g3.bF).trans Hv) ⟨⟨fun b o e=>?_,S4.gr.bF.trans Hv,RG,fun b o e=>?_⟩,by have:=S4.len;simpa using this,fun i d h=>?_,fun i o h=>?_,fun i j o o' a w1 w2=>?_⟩
   . rw[vZ H4 b (fun w=>by rw[w,gp] at e;cases e) (fun w=>by rw[w,gp2] at e;cases e) (fun w=>by rw[w,VL] at e;cases e) (fun w=>by rw[w,ga2] at e;cases e)]
     exact S4.gr.big _ _ e
   . by_cases c1:b=p
     . rw[c1];exact .inr (.inl gp)
     . by_cases c2:b=p2
       . rw[c2];exact .inr (.inl gp2)
       . by_cases c3:b=a1
         . rw[c3];exact .inr (.inl VL)
         . by_cases c4:b=a2
           . rw[c4];exact .inr (.inl ga2)
           . have e:conv jq p p2 a1 a2 u1 (.part p) u3 u4 b=some o:=e
             rw[vZ jq b c1 c2 c3 c4] at e
             exact S4.gr.new b o e
   . cases i with
     | zero=>cases h
     | succ i=>
       obtain⟨w,w1,w2⟩:=S4.val (i+1) d h
       exact⟨w,w1,w2.mono Hv⟩
   . cases i with
     | zero=>
       cases h
       exact⟨za,hz,ZC,TK,rfl,dx,_,p,ls,rfl,ZA,JI⟩
     | succ i=>exact absurd h (aY no i o)
   . cases i with
     | zero=>cases j with
       | zero=>exact fun _ _=>rfl
       | succ j=>exact absurd w2 (aY no j o')
     | succ i=>exact absurd w1 (aY no i o)
 . cases fl with
   | next=>
     obtain⟨σ7,H7,I7,p,p2,a1,a2,nO,Av,y1,y2,y3,y4,y5,y6,y7,y8,kk⟩:=q7
     obtain⟨o1,o2,I8⟩:=Inv.Rw I7 y1 y2 y3 y4 y5 y6 y7 y8
     exact⟨σ7,_,I8,kk o1 o2⟩
   | cont=>exact q7
   | brk=>exact q7
   | ret v=>exact q7
end
section
variable {X:Cx}{G:Gr}{E:XK}{dl:List Slot}{a b e:Expr}{pos:Pos}{k:Str}
variable {d1 d2 d3 d4:Dt}
theorem M5 (n1 n2 n3 n4:Nat){a b c f:Str}{pa pb pc pf tp:Pos}{cx:Nat}(hN:X.N.Nodup)(hc:X.calm=true)(he:EE X G dl e (.tup [d1,d2,d3,d4]))(Yw:X.N[n1]?=some a:=by rfl)(Yx:X.N[n2]?=some b:=by rfl)(hi3:X.N[n3]?=some c:=by rfl)(hi4:X.N[n4]?=some f:=by rfl)(Yy:Loc X.env.scope a:=by first | exact aaG rfl | exact aaD rfl)(UI:Loc X.env.scope b:=by first | exact aaG rfl | exact aaD rfl)(hx3:Loc X.env.scope c:=by first | exact aaG rfl | exact aaD rfl)(hx4:Loc X.env.scope f:=by first | exact aaG rfl | exact aaD rfl)(Yz:X.fn a=true\/X.env.scope.names.lookup a=some .local:=by first | exact .inl rfl | exact .inr rfl)(YA:X.fn b=true\/X.env.scope.names.lookup b=some .local:=by first | exact .inl rfl | exact .inr rfl)(hf3:X.fn c=true\/X.env.scope.names.lookup c=some .local:=by first | exact .inl rfl | exact .inr rfl)(hf4:X.fn f=true\/X.env.scope.names.lookup f=some .local:=by first | exact .inl rfl | exact .inr rfl)(hn:(assignEach [.Name a pa,.Name b pb,.Name c pc,.Name f pf] X.env).length=4:=by rfl)(nL:(assignEach [.Name a pa,.Name b pb,.Name c pc,.Name f pf] X.env).findIdx? (·.1)=none:=by rfl)(q1:(assignEach [.Name a pa,.Name b pb,.Name c pc,.Name f pf] X.env).map (·.2)=assign (.Name a pa) X.env::(assignEach [.Name b pb,.Name c pc,.Name f pf] X.env).map (·.2):=by rfl)(q2:(assignEach [.Name b pb,.Name c pc,.Name f pf] X.env).map (·.2)=assign (.Name b pb) X.env::(assignEach [.Name c pc,.Name f pf] X.env).map (·.2):=by rfl)(q3:(assignEach [.Name c pc,.Name f pf] X.env).map (·.2)=assign (.Name c pc) X.env::(assignEach [.Name f pf] X.env).map (·.2):=by rfl)(q4:(assignEach [.Name f pf] X.env).map (·.2)=assign (.Name f pf) X.env::(assignEach [] X.env).map (·.2):=by rfl)(hs:swapsWithSole [.Tuple [.Name a pa,.Name b pb,.Name c pc,.Name f pf] cx tp] e pos.line X.env=pure false:=by rfl)(hw:swappedStores [.Tuple [.Name a pa,.Name b pb,.Name c pc,.Name f pf] cx tp] e X.env=pure none:=by rfl)(h1:(assignEach [.Tuple [.Name a pa,.Name b pb,.Name c pc,.Name f pf] cx tp] X.env).map (·.2)=[assign (.Tuple [.Name a pa,.Name b pb,.Name c pc,.Name f pf] cx tp) X.env]:=by rfl):ES X G E dl (.Assign [.Tuple [.Name a pa,.Name b pb,.Name c pc,.Name f pf] cx tp] e pos) (.nx ((((dl.set n1 (.val d1)).set n2 (.val d2)).set n3 (.val d3)).set n4 (.val d4))):=
 tL (CA he (vq hc (fo (bT (pos:=pa) hN Yw Yy Yz) (fo (bT (pos:=pb) hN Yx UI YA) (fo (bT (pos:=pc) hN hi3 hx3 hf3) (fo (bT (pos:=pf) hN hi4 hx4 hf4) qJ q4) q3) q2) q1) hn nL) hs hw h1) fun D st H zq=>Bn zq fun Hf zq=>have S:=zq.1;have k:=zq.2;⟨Hf,S,fun v Hf1 H1 g1 r1=>by
   cases r1 with
   | @tup q vs _ hq rp=>
     cases rp with
     | cons r1 t1=>cases t1 with
       | cons r2 t2=>cases t2 with
         | cons r3 t3=>cases t3 with
           | cons r4 t4=>
             cases t4
             exact⟨q,_,rfl,bU g1.sub hq,rfl,_,_,rfl,_,_,rfl,_,_,rfl,_,_,rfl,rfl,k _ Hf1 H1 g1.bF (((((S.grow g1).set r1).set r2).set r3).set r4)⟩⟩
end
theorem gZ:PySem.Slot "reversed" "__next__" "reversed.__next__":=
 .of (owner:="reversed") (n:="__next__") (by rw[typeLookup_type,builtinLookup_eq_fast];kernel_rfl) (by decide +kernel) (by decide +kernel) (by decide +kernel)
   (by first | exact .inl (by decide +kernel) | exact .inr (by decide +kernel)) (by rw[isSubtype_type];kernel_rfl)
theorem oB:entryFor table "reversed.__next__"=some Builtin.«reversed.__next__»:=entryFor_of_tree (by kernel_rfl)
theorem nP (a:Value):argsOk "reversed.__next__" ⟨[a],[]⟩:=by unfold argsOk;kernel_rfl
theorem p0:PySem.Slot "reversed" "__iter__" "reversed.__iter__":=
 .of (owner:="reversed") (n:="__iter__") (by rw[typeLookup_type,builtinLookup_eq_fast];kernel_rfl) (by decide +kernel) (by decide +kernel) (by decide +kernel)
   (by first | exact .inl (by decide +kernel) | exact .inr (by decide +kernel)) (by rw[isSubtype_type];kernel_rfl)
theorem ua (a:Value):argsOk "reversed.__iter__" ⟨[a],[]⟩:=by unfold argsOk;kernel_rfl
theorem v3:entryFor table "reversed.__iter__"=some Builtin.«dict_keyiterator.__iter__»:=
 entryFor_alias (id':="dict_keyiterator.__iter__") (by kernel_rfl) (by first | rfl | decide +kernel | (unfold String.splitOn;simp +decide [String.splitOnAux])) (by decide +kernel) (by kernel_rfl)
theorem xD:PySem.Slot "reversed" "__init__" "object.__init__":=
 .of (owner:="object") (n:="__init__") (by rw[typeLookup_type,builtinLookup_eq_fast];kernel_rfl) (by decide +kernel) (by decide +kernel) (by decide +kernel)
   (by first | exact .inl (by decide +kernel) | exact .inr (by decide +kernel)) (by rw[isSubtype_type];kernel_rfl)
theorem Dp:TypeCalled "reversed" "reversed.__new__" "object.__init__":=
 ⟨by decide +kernel,by decide +kernel,⟨_,_,F.mro_reversed⟩,F.made_reversed,by decide +kernel,F.sub_reversed_self,xD⟩
theorem pS:typeLookup (.type "str") "__reversed__"=pure none:=by rw[typeLookup_type,builtinLookup_eq_fast];kernel_rfl
theorem lF:typeLookup (.type "str") "__getitem__"=pure (some (.builtin "str.__getitem__")):=by rw[typeLookup_type,builtinLookup_eq_fast];kernel_rfl
theorem xE:isSubtype (.type "str") (.type "dict")=pure false:=by rw[isSubtype_type];kernel_rfl
section
variable {prog:Program}{w:World}{A:Around}{E:Value->Shared->Prop}{s:Shared}
noncomputable def OY (x:Str)(t:Tok)(i:Int):Obj:={ cls:=.type "reversed",data:=.fields #[.str x t,rawInt i]}
def qr (h:Heap)(a:Addr)(x:Str)(t:Tok)(i:Int):Prop:=∃ o,h.get? a=some o/\o.cls=.type "reversed"/\o.data=.fields #[.str x t,rawInt i]
theorem qr.typeIs {a:Addr}{x:Str}{t:Tok}{i:Int}(q:qr s.heap a x t i):s.TypeIs (.ref a) "reversed":=let ⟨o,ho,hc,_⟩:=q;⟨o,ho,hc⟩
theorem JJ (x:Str)(t:Tok)(vA:¬ (x.length:Int) >= 2 ^ 63):MeetsIn prog w (Builtin.«reversed.__new__» ⟨[.type "reversed",.str x t],[]⟩) (fun A R s=>R (.ok (.ret (.ref s.heap.objs.size))) { s with heap:=s.heap.push (OY x t ((x.length:Int) - 1)),toks:=s.toks+1+1}):=
 .of_wp fun A R s h=>by
   unfold Builtin.«reversed.__new__»
   refine wpAny_bind (wpAny_of_eq (newClass_reversed _) ?_)
   try dsimp only
   refine wpAny_bind (wpAny_of_eq (a:=()) (by first | rfl | kernel_rfl) ?_)
   refine wpAny_bind (wpAny_of_eq (a:=()) (by first | rfl | kernel_rfl) ?_)
   try dsimp only
   refine wpAny_bind (wpAny_specialOf (typeIs_str s x t) pS ?_)
   try dsimp only
   refine wpAny_bind (wpAny_bind (wpAny_isInstance (typeIs_str s x t) xE ?_))
   rw[if_neg aap]
   refine wpAny_bind (wpAny_specialOf (typeIs_str s x t) lF ?_)
   refine wpAny_of_eq (a:=true) (by kernel_rfl) ?_
   rw[if_neg (show ¬ ((!true)=true) from aap)]
   try dsimp only
   refine wpAny_bind (len_str vA ?_)
   refine wpAny_bind (wpAny_of_eq (a:=some (x.length:Int)) rfl ?_)
   try dsimp only
   refine wpAny_bind ?_
   show wpAny _ _ (newObj (.type "reversed") (.fields #[.str x t,rawInt ((x.length:Int) - 1)])) _ _ _
   exact wpAny_newObj_type (wpAny_pure ⟨_,rfl,h⟩)
theorem GP {x:Str}{t:Tok}{Q:Value->Shared->Prop}(vA:¬ (x.length:Int) >= 2 ^ 63)(h:Q (.ref s.heap.objs.size) { s with heap:=s.heap.push (OY x t ((x.length:Int) - 1)),toks:=s.toks+1+1}):wpAny (model prog w) A (call (.type "reversed") [.str x t]) Q E s:=
 callType_newIn Dp (by decide) (F.typeCall_reversed_1 _) (F.newCall_reversed_1 _) (fun obj=>F.args_object_init_2 obj _) F.entry_reversed_new (JJ x t vA) ⟨⟨_,aar _ rfl,rfl⟩,h⟩
theorem sI {it:Addr}{x:Str}{t:Tok}{i c:Nat}{Q:Option Value->Shared->Prop}(hit:qr s.heap it x t (i:Int))(hx:x.cps[i]?=some c)(vA:¬ (x.length:Int) >= 2 ^ 63)(hQ:∀ h',qr h' it x t ((i:Int) - 1)->abp it s.heap h'->Q (some (.str ⟨#[c]⟩ (s.toks+1))) { s with heap:=h',toks:=s.toks+1+1}):wpAny (model prog w) A (pyNext (.ref it)) Q E s:=by
 obtain⟨o,ho,hc,hd⟩:=id hit
 have W8:i < x.length:=by
   have:=(Array.getElem?_eq_some_iff.mp hx).1
   exact this
 unfold pyNext
 refine wpAny_bind (wpAny_attempt (wpAny_callSpecial?_slot (name:=Str.ofString "__next__") hit.typeIs gZ
   (wpAny_call_entry gZ hit.typeIs oB ?_ (nP _))))
 unfold Builtin.«reversed.__next__»
 refine wpAny_bind (wpAny_of_eq (a:=(Value.ref it,[])) rfl ?_)
 try dsimp only
 refine wpAny_bind (wpAny_field ho hd (x:=.str x t) rfl ?_)
 refine wpAny_bind (wpAny_field ho hd (x:=rawInt (i:Int)) rfl ?_)
 show wpAny _ _ (if (i:Int) < 0 then _ else _) _ _ s
 rw[if_neg (by omega)]
 refine wpAny_bind (wpAny_specialOf (typeIs_str s x t) lF ?_)
 rw[if_neg (show ¬ ((some (Value.builtin "str.__getitem__")).isNone=true) from aap)]
 try dsimp only
 refine wpAny_bind (wpAny_mkInt ?_)
 refine wpAny_bind (wpAny_attempt (getItem_str (c:=c) ?_ ?_ ?_))
 . have e1:decide ((i:Int) < -(2 ^ 63:Int))=false:=decide_eq_false (by omega)
   have e2:decide ((i:Int) >= 2 ^ 63)=false:=decide_eq_false (by omega)
   rw[e1,e2];rfl
 . have e:seqIndex? (i:Int) x.length=some i:=by
     unfold seqIndex?
     simp
     omega
   rw[e];exact hx
 try dsimp only
 refine wpAny_bind (wpAny_field ho hd (x:=rawInt (i:Int)) rfl ?_)
 try dsimp only
 refine wpAny_bind (wpAny_setField ho hd (by simp) ?_)
 refine wpAny_pure ⟨_,rfl,wpAny_pure (hQ _ ?_ (abp.update ..))⟩
 exact⟨_,abH _ ho (Obj.isFreed_of_fields (Obj.data_mapFields hd _)),(Obj.cls_mapFields ..).trans hc,by
   rw[Obj.data_mapFields hd];simp⟩
theorem ub {it:Addr}{x:Str}{t:Tok}{Q:Option Value->Shared->Prop}(hh:A.handled=none)(hit:qr s.heap it x t (-1))(hQ:∀ h',Heap.ExtBut it s.heap h'->Q none { s with heap:=h'}):wpAny (model prog w) A (pyNext (.ref it)) Q E s:=by
 obtain⟨o,ho,hc,hd⟩:=id hit
 unfold pyNext
 refine wpAny_bind (wpAny_attempt (wpAny_callSpecial?_slot (name:=Str.ofString "__next__") hit.typeIs gZ
   (wpAny_call_entry gZ hit.typeIs oB ?_ (nP _))))
 unfold Builtin.«reversed.__next__»
 refine wpAny_bind (wpAny_of_eq (a:=(Value.ref it,[])) rfl ?_)
 try dsimp only
 refine wpAny_bind (wpAny_field ho hd (x:=.str x t) rfl ?_)
 refine wpAny_bind (wpAny_field ho hd (x:=rawInt (-1)) rfl ?_)
 show wpAny _ _ (if (-1:Int) < 0 then _ else _) _ _ s
 rw[if_pos (by decide)]
 refine wpAny_bind (wpAny_rule ?_)
 refine wpAny_bind (wpAny_bind (wpAny_setField ho hd (by simp) ?_))
 have Xm:=abH (Obj.mapFields (·.setIfInBounds 1 (rawInt (-1)))) ho (Obj.isFreed_of_fields (Obj.data_mapFields hd _))
 refine wpAny_setField Xm (Obj.data_mapFields hd _) (by simp) ?_
 refine wpAny_bind ?_
 show wpAny _ _ (newExc (.type "StopIteration") [] >>= _) _ _ _
 refine wpAny_bind ?_
 simp only[newExc,newTuple]
 refine wpAny_bind (wpAny_newObj_type ?_ (by size_fits))
 refine wpAny_bind (m:=firstArgMember _ _) (wpAny_of_eq (a:=Value.none) (by first | rfl | (simp only[firstArgMember];rfl)) ?_)
 refine wpAny_newObj_type ?_ (by size_fits)
 simp only[raiseNew]
 refine wpAny_bind (wpAny_handled ?_)
 first | rw[show A.in1.handled=none from hh] | rw[hh]
 refine wpAny_bind (wpAny_pure (wpAny_throw ?_))
 refine wpAny_bind (wpAny_isInstance (T:="StopIteration") (b:=true) ⟨_,aar _ rfl,rfl⟩ isSubtype_stop ?_)
 exact wpAny_pure (hQ _ (Heap.ExtBut.push (Heap.ExtBut.push (fun b o ne e=>((abp.update ..).2 b ne).trans (((abp.update ..).2 b ne).trans e)) _) _))
theorem tS {it:Addr}{x:Str}{t:Tok}{i:Int}{Q:Value->Shared->Prop}(hit:qr s.heap it x t i)(h:Q (.ref it) s):wpAny (model prog w) A (pyIter (.ref it)) Q E s:=by
 refine wpAny_pyIter_slot hit.typeIs p0 (wpAny_call_entry p0 hit.typeIs v3 ?_ (ua _))
 show wpAny _ _ (ret (.ref it)) _ _ s
 exact wpAny_pure ⟨_,rfl,"reversed",_,hit.typeIs,gZ.lookup,h⟩
end
noncomputable def VN (x:Str):It:=
 ⟨fun i H=>i < x.length,fun i H v H'=>H'=H/\∃ c,x.cps[x.length - 1 - i]?=some c/\v=.str ⟨#[c]⟩,fun i H=>i=x.length⟩
theorem GQ {P:Program}{w:World}{K:W.Frag}{tg:Expr}(x:Str)(t:Tok)(it:Addr)(vA:¬ (x.length:Int) >= 2 ^ 63):Turn P w K tg (VN x) [it] it (fun i h=>qr h it x t ((x.length:Int) - 1 - i)) where
 mem:=by simp
 obj:=fun i h st b hb=>by
   have e:b=it:=by simpa using hb
   subst e
   obtain⟨o,e,c,d⟩:=st
   exact⟨o,e,fun v z=>by rw[d] at z;cases z⟩
 keep:=fun i h h' st k=>let ⟨o,e,c,d⟩:=st;⟨o,k it (by simp) o e,c,d⟩
 item:=by
   intro X hP hw hK hc i pins s σ H E I hf st hg
   subst hP hw hK
   have hg:i < x.length:=hg
   obtain⟨f0,f1,f2,f3,f4,f5⟩:=hf it (by simp)
   have e1:(x.length:Int) - 1 - i=((x.length - 1 - i:Nat):Int):=by omega
   rw[e1] at st
   have dg:x.length - 1 - i < x.cps.size:=by show _ < x.length;omega
   refine sI (c:=x.cps[x.length - 1 - i]) st (Array.getElem?_eq_getElem dg) vA fun h' jZ sb=>?_
   have I1:L2.Inv X pins σ H { s with heap:=h',toks:=s.toks+1+1}:=I.turned (t':=s.toks+1+1) (fun b o hb e=>(sb.2 b hb).trans e) f0 f1 f3 f4 f5
   have e2:((x.length - 1 - i:Nat):Int) - 1=(x.length:Int) - 1 - ((i+1:Nat):Int):=by omega
   rw[e2] at jZ
   obtain⟨o,e,c,d⟩:=id jZ
   exact⟨_,rfl,AK (s:={ s with heap:=h',toks:=s.toks+1+1}) e c d (by decide) ⟨.str ⟨#[x.cps[x.length - 1 - i]]⟩,H,I1,⟨_,rfl⟩,⟨rfl,_,Array.getElem?_eq_getElem dg,rfl⟩,jZ,fun b hb=>(hf b hb).1⟩⟩
 done:=by
   intro X hP hw hK hc i pins s σ H E I hf st hg
   subst hP hw hK
   have hg:i=x.length:=hg
   subst hg
   obtain⟨f0,f1,f2,f3,f4,f5⟩:=hf it (by simp)
   have e1:(x.length:Int) - 1 - (x.length:Nat)=-1:=by omega
   rw[e1] at st
   exact ub (I.ok.hd hc) st fun h' eb=>⟨rfl,I.turned (t':=s.toks) (fun b o hb e=>eb b o hb e) f0 f1 f3 f4 f5⟩
 self:=fun _ _ _ _ _ st h=>tS st h
theorem JK:bootBuiltins "reversed"=some (.type "reversed"):=by decide +kernel
section
variable {X:Cx}{G:Gr}{dl:List Slot}{a:Expr}{x:Str}{p pos:Pos}
def OZ (ta:TA):TI:=fun σ H R=>ta σ H fun vs H1=>∃ x,vs=[.str x]/\(¬ (x.length:Int) >= 2 ^ 63)/\R (VN x) H1
theorem M6 {tg:Expr}{ta:TA}(hm:X.mg "reversed"=none)(ha:PA X [a] ta)(hg:Gl X "reversed":=by rfl)(hs:starEach [a] X.env=[(false,eval a X.env)]:=by rfl):PI X tg (.Call (.Name "reversed" p) [a] [] pos) (OZ ta):=by
 intro pins s σ H R I h
 refine Call_ (qf I hg hm JK (PyProof.Rows.callWith_type1 (b7 (ha pos pins s σ H _ I h) fun us s1 ⟨vs,H1,I1,r1,q1⟩=>?_) hs rfl))
 obtain⟨x,e,vA,q⟩:=q1
 subst e
 cases r1 with
 | cons r rr=>
   cases rr
   obtain⟨t,rfl⟩:=(show ∃ t,_=Value.str x t from r)
   refine GP vA (tS (x:=x) (t:=t) (i:=(x.length:Int) - 1) ⟨_,aar _ rfl,rfl,rfl⟩ ?_)
   refine⟨s1.heap.objs.size,[s1.heap.objs.size],_,_,H1,rfl,I1.kept (t':=s1.toks+1+1) fun b o e=>aaf _ e,GQ x t _ vA,?_,fun b hb=>?_,q⟩
   . have e:((x.length:Int) - 1)=(x.length:Int) - 1 - ((0:Nat):Int):=by omega
     rw[<- e]
     exact⟨_,aar _ rfl,rfl,rfl⟩
   . have e:b=s1.heap.objs.size:=by simpa using hb
     subst e
     exact I1.vt (aae _) (I1.bh.fresh (aae _))
theorem GR (hl:x.length<=1000000):qm X G dl (signs x).reverse (OZ (Tv X.K G dl [.str x])):=fun st H R zq=>Bn zq fun Hf zq=>have S:=zq.1;have k:=zq.2;⟨Hf,S,fun vs Hf1 H1 g1 r1=>by
 cases r1 with
 | cons r t=>
   cases t
   cases r
   have hsl:=o5 x
   refine⟨x,rfl,by omega,k _ Hf1 H1 g1 fun bV H2 s1 s2 i=>⟨fun z hz=>?_,fun hi=>?_⟩⟩
   . have hi:i < (signs x).length:=by
       have:=(aag.mp hz).1
       simpa using this
     rw[List.getElem?_reverse hi,signs_get,hsl] at hz
     refine⟨by show i < x.length;omega,fun v H3 hy=>?_⟩
     obtain⟨e1,c,e2,e3⟩:=hy
     subst e1 e3
     rw[e2] at hz
     cases hz
     exact⟨bV,.refl s2,.str _⟩
   . show i=x.length
     rw[hi,abx,hsl]⟩
theorem yv {K:W.Frag}{H:Hp}:∀ {ds:List Dt} {d:Dt} {vs:List V},bB K H vs (ds ++ [d])->∃ ws v,vs=ws ++ [v]/\bB K H ws ds/\Rep K H v d
 | [],d,_,.cons r .nil=>⟨[],_,rfl,.nil,r⟩
 | e::ds,d,_,.cons r t=>by
   obtain⟨ws,v,e1,r1,r2⟩:=yv t
   exact⟨_::ws,v,by rw[e1];rfl,.cons r r1,r2⟩
variable {E:XK}{d:Dt}{ds:List Dt}{y z:Str}{px pn apos bH:Pos}
theorem RH (m n:Nat)(hN:X.N.Nodup)(hd:dl[n]?=some (.own (.lst (ds ++ [d]))))(hm:X.N[m]?=some y:=by rfl)(hy:Loc X.env.scope y:=by first | exact aaG rfl | exact aaD rfl)(YF:X.N[n]?=some z:=by rfl)(hv:vn X.env.scope z:=by first | exact aaG rfl | exact aaD (aaG rfl) | exact aaD (aaD rfl))(mQ:(z == ("__debug__":Str))=false:=by decide)(ml:(z == ("__classdict__":Str))=false:=by decide)(iS:attributeBase (.Name z pn) "pop" X.env (eval (.Name z pn) X.env)=eval (.Name z pn) X.env:=by rfl)(iU:(apos.endLine == bH.line)=true:=by rfl)(hs:swapsWith (.Call (.Attribute (.Name z pn) "pop" apos) [] [] bH) (some (.Name y px)) pos.line X.env=pure false:=by rfl)(hf:X.fn y=true\/X.env.scope.names.lookup y=some .local:=by first | exact .inl rfl | exact .inr rfl | assumption):ES X G E dl (.Assign [.Name y px] (.Call (.Attribute (.Name z pn) "pop" apos) [] [] bH) pos) (.nx ((dl.set n (.own (.lst ds))).set m (.val d))):=
 tL (CB hN hm hy (HZ PySem.F.plainAttrs_list PySem.F.slot_list_pop PySem.F.type_list_pop Qv (vL (G:=G) (p:=pn) n hd YF hv mQ ml) iS iU) hs hf) fun D st H zq=>Bn zq fun Hf zq=>have S:=zq.1;have k:=zq.2;by
   obtain⟨q,z1,z2,z3,vs,hq,rp⟩:=S.own n _ hd
   obtain⟨ws,v,ev,r1,r2⟩:=yv rp
   subst ev
   refine⟨Hf,q,S,z1,z2,⟨_,hq,rp⟩,.inl ⟨rfl,_,.of hq⟩,q,_,v,rfl,rfl,hq,by simp,k _ Hf _ (aG.refl _) ((S.Gn hd z1 (w':=.lst ds) ⟨_,ak,?_⟩).set r2)⟩
   rw[List.dropLast_concat];exact r1
end
section
variable {X:Cx}{G:Gr}{dl:List Slot}{a b e:Expr}{pos p:Pos}{bs:List Bool}{ns:List Int}
theorem oW:∀ {ns:List Int} {aE:List Value},Vals (ns.map V.int) aE->IntsAre aE ns
 | [],_,r=>by cases r;exact .nil
 | n::ns,_,r=>by
   cases r with
   | cons h t=>obtain⟨tk,rfl⟩:=h;exact .cons _ tk (oW t)
theorem boot_any:bootBuiltins "any"=some (.builtin "any"):=by decide +kernel
theorem range_any (bs:List Bool):(aaj bs.length).any (fun i=>bs.getD i true)=bs.any id:=by
 induction bs with
 | nil=>rfl
 | cons b r ih=>
   rw[aaI,abG,abl,List.any_map,abl]
   show(b || (aaj r.length).any (fun i=>r.getD i true))=(b || r.any id)
   rw[ih]
theorem GS (hc:X.calm=true):jr X (.builtin "any") (fun xs H Q=>∃ (p:Addr) (bs:List Bool),xs=[.ref p]/\mP X.K H p (bs.map V.bl)/\Q (.bl (bs.any id)) H):=by
 intro pins s σ H xs us Q I r h
 obtain⟨p,bs,rfl,hq,q⟩:=h
 obtain⟨u,rfl,rx⟩:=vals1 r
 cases rx
 obtain⟨aE,rv,pl,hz⟩:=I.list hq
 have hlen:=rv.length
 rw[k5] at hlen
 obtain⟨o,n,ho,_⟩:=id pl
 have hp:p < s.heap.objs.size:=aal ho
 refine call_any_walk (wpAny_pyIter_list pl.isList ?_)
 refine⟨s.heap.objs.size,_,_,_,_,_,fun i=>bs.getD i true,rfl,Walks.list (A:=X.A.in1) (I.ok.hd hc) s.heap.objs.size p (aat hp) aE.toArray,⟨⟨_,aar _ rfl,rfl,rfl⟩,?_⟩,fun i v s' Q' E' hv hQ=>?_,fun h' tk hk=>?_⟩
 . exact pl.isList.at fun o e=>aaf _ e
 . have hv:aE[i]?=some v:=by simpa using hv
   have hi:i < aE.length:=(aag.mp hv).1
   have OO:i < bs.length:=by omega
   obtain⟨u',h1,h2⟩:=rv.get (i:=i) (x:=V.bl bs[i]) (by rw[YL,k3 OO];rfl)
   rw[hv] at h1;cases h1
   cases h2
   have e:bs.getD i true=bs[i]:=by rw[WW,k3 OO];rfl
   have hQ:Q' (bs.getD i true) s':=hQ
   rw[e] at hQ
   exact wpAny_truthy_bool hQ
 . have ea:(aaj aE.toArray.size).any (fun i=>bs.getD i true)=bs.any id:=by rw[aan,<- hlen];exact range_any bs
   rw[ea]
   refine⟨.bl _,H,I.kept (t':=tk) fun b o e=>hk b o (fun hm=>?_) (aaf _ e),rfl,q⟩
   have:b=s.heap.objs.size:=by simpa using hm
   subst this
   exact aa3 _ (aal e)
theorem RI (hm:X.mg "any"=none)(hc:X.calm=true)(ha:EE X G dl a (.lst (bs.map .bl)))(hg:Gl X "any":=by rfl)(he:starEach [a] X.env=[(false,eval a X.env)]:=by rfl):EE X G dl (.Call (.Name "any" p) [a] [] pos) (.bl (bs.any id)):=
 gc (dY (GS hc) hg hm boot_any (ae ha ai he) (by decide) (by decide) he rfl) fun st H Q zq=>Bn zq fun Hf zq=>have S:=zq.1;have k:=zq.2;⟨Hf,S,fun vs Hf1 H1 g1 r1=>by
   cases r1 with
   | cons r t=>cases t;cases r with
     | @lst q vs _ z r=>
       have ev:=vP r
       subst ev
       exact⟨q,bs,rfl,.of (g1.sub _ _ z),k _ Hf1 H1 g1 (.bl _)⟩⟩
end
theorem yw {K:W.Frag}{H:Hp}:∀ (ns:List Int),bB K H (ns.map V.int) (ns.map Dt.int)
 | []=>.nil
 | n::r=>.cons (.int n) (yw r)
theorem rg {K:W.Frag}{H:Hp}:∀ {ns:List Int} {vs:List V},bB K H vs (ns.map Dt.int)->vs=ns.map V.int
 | [],_,.nil=>rfl
 | n::r,_,.cons h t=>by cases h;rw[rg t];rfl
noncomputable def Hw (fs:List (Str×FD)):List (Str×Dt):=fs.map fun kd=>(kd.1,Xd kd.2)
theorem EV {K:W.Frag}{H:Hp}:∀ {fv:List (Str×V)} {fs:List (Str×FD)},HA H fv fs->bb K H fv (Hw fs)
 | _,_,.nil=>.nil
 | _,_,.cons h t=>.cons (Jz h) (EV t)
theorem JL {K:W.Frag}{H:Hp}:∀ {fv:List (Str×V)} {fs:List (Str×FD)},bb K H fv (Hw fs)->HA H fv fs
 | _,[],.nil=>.nil
 | _,(k,d)::fd,.cons h t=>.cons (OQ h) (JL t)
section
variable {X:Cx}{G:Gr}{E:XK}{dl:List Slot}{e:Expr}{sts:List Stmt}{ou:Out}{C:Addr}{fs:List (Str×FD)}{ns:List Int}{K':W.Frag}
theorem O0 (h:EE X G dl e (.iQ (.obj C fs))):EE X G dl e (.obj C (Hw fs)):=gc h fun st H Q zq=>Bn zq fun Hf zq=>have S:=zq.1;have k:=zq.2;⟨Hf,S,fun v Hf1 H1 g1 r1=>by
 cases r1 with
 | iQ h=>cases h with
   | @obj a _ dx o fv _ e f=>exact k _ Hf1 H1 g1 (.obj (.inr (.inr (.inr ⟨o,e⟩))) (EV f))⟩
theorem qt (h:EE X G dl e (.iQ (.lst ns))):EE X G dl e (.oX ns):=gc h fun st H Q zq=>Bn zq fun Hf zq=>have S:=zq.1;have k:=zq.2;⟨Hf,S,fun v Hf1 H1 g1 r1=>by
 cases r1 with
 | iQ h=>cases h with
   | @lst a o _ e=>exact k _ Hf1 H1 g1 (.oX (.inl (.inr (.inr (.inr ⟨o,e⟩)))))⟩
theorem RJ (h:EE X G dl e (.iQ (.tup K' ns)))(hK:K'=X.K):EE X G dl e (.tup (ns.map .int)):=gc h fun st H Q zq=>Bn zq fun Hf zq=>have S:=zq.1;have k:=zq.2;⟨Hf,S,fun v Hf1 H1 g1 r1=>by
 subst hK
 cases r1 with
 | iQ h=>cases h with
   | tup e=>exact k _ Hf1 H1 g1 (.tup e (yw _))⟩
theorem RK (h:EE X G dl e (.tup (ns.map .int)))(hK:K'=X.K):EE X G dl e (.iQ (.tup K' ns)):=gc h fun st H Q zq=>Bn zq fun Hf zq=>have S:=zq.1;have k:=zq.2;⟨Hf,S,fun v Hf1 H1 g1 r1=>by
 subst hK
 cases r1 with
 | tup s r=>
   rw[rg r] at s
   exact k _ Hf1 H1 g1 (.iQ (.tup s))⟩
theorem JM (h:EO X G dl e (.obj C (Hw fs))):EE X G dl e (.iQ (.obj C fs)):=by
 intro pins s st H Q I ⟨Hf,S,kk⟩
 refine b7 (h pins s st H (fun v H'=>∃ p aI,v=.ref p/\bo Hf H aI H'/\H p=none/\aI p=none/\gW X.K aI H' p (.obj C (Hw fs))) I ⟨Hf,S,fun p aI H' g n n' r=>⟨p,aI,rfl,g,n,n',r⟩⟩) fun u s1 ⟨v,H',I1,rv,q,aI,ev,g,n,n',dx,fv,hq,rp⟩=>?_
 subst ev
 obtain⟨hd,hz,ne,ho,mA,hr⟩:=(show aL X.prog X.w H' s1.heap q (.ins C dx fv) from I1.bh q _ hq)
 let ob:=W.instObj C dx
 have I2:L2.Inv X pins st (upd H' q (.kx ob (.ins C dx fv))) s1:=mU (h':=s1.heap) (t':=s1.toks) I1 (by rw[hq];trivial) ⟨rfl,fun _ _=>rfl⟩ ⟨ob,ho⟩ ⟨ho,⟨by rw[ah ne];exact hd,hz,ne,ho,mA,hr⟩⟩
 have sm:aG aI (upd aI q (.kx ob (.ins C dx fv))):=bN n'
 refine⟨.ref q,_,I2,rv,kk _ (upd aI q (.kx ob (.ins C dx fv))) _ ⟨fun b o hb=>?_,g.bF.trans sm,cY g.sub,fun b o hb=>?_⟩ (.iQ (.obj ak ((JL rp).st fun b u e _=>sm b u e)))⟩
 . rw[ah (aw hb n)];exact g.big _ _ hb
 . by_cases e:b=q
   . subst e;exact .inr (.inl n)
   . rw[ah e] at hb;exact g.new b o hb
theorem RL (h:EO X G dl e (.lst (ns.map .int))):EE X G dl e (.iQ (.lst ns)):=by
 intro pins s st H Q I ⟨Hf,S,kk⟩
 refine b7 (h pins s st H (fun v H'=>∃ p aI,v=.ref p/\bo Hf H aI H'/\H p=none/\aI p=none/\gW X.K aI H' p (.lst (ns.map .int))) I ⟨Hf,S,fun p aI H' g n n' r=>⟨p,aI,rfl,g,n,n',r⟩⟩) fun u s1 ⟨v,H',I1,rv,q,aI,ev,g,n,n',vs,hq,rp⟩=>?_
 subst ev
 have ev:=rg rp
 subst ev
 obtain⟨hz,aE,c,r,ho⟩:=(show aL X.prog X.w H' s1.heap q (.lst (ns.map V.int)) from I1.bh q _ hq)
 let ob:Obj:={ cls:=.type "list",data:=.seq aE.toArray c}
 have I2:L2.Inv X pins st (upd H' q (.kx ob (.lst (ns.map V.int)))) s1:=mU (h':=s1.heap) (t':=s1.toks) I1 (by rw[hq];trivial) ⟨rfl,fun _ _=>rfl⟩ ⟨ob,ho⟩ ⟨ho,hz,aE,c,r,ho⟩
 have sm:aG aI (upd aI q (.kx ob (.lst (ns.map V.int)))):=bN n'
 refine⟨.ref q,_,I2,rv,kk _ (upd aI q (.kx ob (.lst (ns.map V.int)))) _ ⟨fun b o hb=>?_,g.bF.trans sm,cY g.sub,fun b o hb=>?_⟩ (.iQ (.lst ak))⟩
 . rw[ah (aw hb n)];exact g.big _ _ hb
 . by_cases e:b=q
   . subst e;exact .inr (.inl n)
   . rw[ah e] at hb;exact g.new b o hb
theorem uM (n:Nat)(h:nM X G E (dl.set n (.val (.iQ (.lst ns)))) sts ou)(hd:dl[n]?=some (.own (.lst (ns.map .int))):=by rfl):nM X G E dl sts ou:=by
 intro pins s st H D I ⟨Hf,S,k⟩
 have ln:=S.len
 obtain⟨q,h1,h2,h3,vs,h4,h5⟩:=S.own n _ hd
 have ev:=rg h5
 subst ev
 have hl:n < dl.length:=(aag.mp hd).1
 obtain⟨hz,aE,c,r,ho⟩:=(show aL X.prog X.w H s.heap q (.lst (ns.map V.int)) from I.bh q _ h4)
 let ob:Obj:={ cls:=.type "list",data:=.seq aE.toArray c}
 have I':L2.Inv X pins st (upd H q (.kx ob (.lst (ns.map V.int)))) s:=mU (h':=s.heap) (t':=s.toks) I (by rw[h4];trivial) ⟨rfl,fun _ _=>rfl⟩ ⟨ob,ho⟩ ⟨ho,hz,aE,c,r,ho⟩
 have sm:aG Hf (upd Hf q (.kx ob (.lst (ns.map V.int)))):=bN h2
 refine h pins s st _ D I' ⟨upd Hf q (.kx ob (.lst (ns.map V.int))),⟨⟨fun b o hb=>?_,S.gr.bF.trans sm,cY S.sub,fun c o hc=>?_⟩,by simp[S.len],fun j y hj=>?_,fun j o' hj=>?_,fun j m o1 o2 c q1 q2 q3 q4=>?_⟩,k.mono sm⟩
 . rw[ah (aw hb h3)];exact S.gr.big _ _ hb
 . by_cases hb:c=q
   . subst hb;exact .inr (.inl h3)
   . rw[ah hb] at hc;exact S.gr.new c o hc
 . by_cases e:n=j
   . subst e
     rw[aah hl] at hj;cases hj
     exact⟨_,h1,.iQ (.lst ak)⟩
   . rw[aai e] at hj
     obtain⟨v,z1,z2⟩:=S.val j y hj
     exact⟨v,z1,z2.mono sm⟩
 . by_cases e:n=j
   . subst e;rw[aah hl] at hj;cases hj
   . rw[aai e] at hj
     obtain⟨c,z1,z2,z3,z4⟩:=S.own j o' hj
     have ne:c≠q:=fun z=>by subst z;exact e (S.Gm n j _ _ _ hd hj h1 z1)
     exact⟨c,z1,by rw[ah ne];exact z2,z3,z4.grow (ah ne) sm⟩
 . have nj:n≠j:=fun e=>by subst e;rw[aah hl] at q1;cases q1
   have nm:n≠m:=fun e=>by subst e;rw[aah hl] at q2;cases q2
   rw[aai nj] at q1
   rw[aai nm] at q2
   exact S.Gm j m o1 o2 c q1 q2 q3 q4
theorem M7 {zs:List Int}:IM X G dl zs.length (fun k=>(zs.map Dt.int).getD k .cW) (HK X.K (tD X.K G dl (.oX zs))):=fun st H R zq=>Bn zq fun Hf zq=>have S:=zq.1;have k:=zq.2;⟨Hf,S,fun v Hf1 H1 g1 r1=>by
 cases r1 with
 | @oX q _ hq=>
   refine⟨q,rfl,⟨_,g1.sub.seq hq⟩,k _ Hf1 H1 g1 fun bV H2 g2 i=>⟨fun hi=>?_,fun hi=>⟨_,g2.big.seq (g1.sub.seq hq),by rw[k5];omega⟩⟩⟩
   have hs:mP X.K H2 q (zs.map V.int):=g2.big.seq (g1.sub.seq hq)
   have z1:(zs.map V.int)[i]?=some (.int zs[i]):=by rw[YL,k3 hi];rfl
   refine⟨⟨_,_,hs,z1⟩,fun v H3 hy=>?_⟩
   obtain⟨e1,e2⟩:=hy
   have e2:=e2 _ hs
   rw[z1] at e2;cases e2
   refine⟨e1,?_⟩
   have e3:(zs.map Dt.int).getD i .cW=.int zs[i]:=by rw[WW,YL,k3 hi];rfl
   show Rep _ _ _ ((zs.map Dt.int).getD i .cW)
   rw[e3];exact .int _⟩
theorem BD {x:Str}{p pos:Pos}(M:QM X.K C)(hm:X.mg x=some (.ref C))(hg:Gl X x:=by rfl)(mQ:(x == ("__debug__":Str))=false:=by decide):EE X G dl (.Call (.Name x p) [] [] pos) (.iQ (.obj C [])):=by
 refine JM (fs:=[]) ?_
 intro pins s st H Q I ⟨Hf,S,k⟩
 refine wpAny_Call_Name_kw (uC I hg hm ?_ mQ)
 refine W.callWith_K0 I.mR M.kp (Gs M I fun x dx hx U5 ne=>?_)
 have D5:(upd H dx (.own x)) x=none:=by rw[ah (Ne.symm ne)];exact hx
 have g1:bo Hf H Hf (upd H dx (.own x)):=.eX S.sub U5
 have g2:bo Hf (upd H dx (.own x)) Hf (upd (upd H dx (.own x)) x (.ins C dx [])):=.eX g1.sub D5
 exact k _ _ _ (g1.trans g2) hx (S.sub.free hx) ⟨dx,[],ak,.nil⟩
end
noncomputable def iY (H:Hp)(p q1:Addr)(u1 u3:HO):Hp:=upd (upd H p u1) q1 u3
section
variable {X:Cx}{pins:List (Addr×Obj)}{σ:L2.St}{H:Hp}{s:Shared}{p q1:Addr}{nO:List (Key×V)}{f:Nat->List (Key×FD)}
theorem Inv.M8 (I:L2.Inv X pins σ H s)(hp:H p=some (.lst [.ref q1]))(LM:H q1=some (.dK nO))(f1:rT H nO (f 0)):∃ o1,L2.Inv X pins σ (iY H p q1 (.memo [(p,f)]) (.kd (some (p,0)) o1 nO)) s:=by
 obtain⟨z1,i1,c1,r1,e1⟩:=(show aL X.prog X.w H s.heap p (.lst [.ref q1]) from I.bh p _ hp)
 obtain⟨MZ,lo1,Ze,Zf,o1,Zg,Zh,VD,Zi⟩:=(show aL X.prog X.w H s.heap q1 (.dK nO) from I.bh q1 _ LM)
 obtain⟨u1,rfl,w1⟩:=vals1 r1
 cases (show u1=Value.ref q1 from w1)
 refine⟨o1,?_⟩
 have m1:p≠q1:=fun z=>by rw[z,LM] at hp;cases hp
 generalize M0:iY H p q1 (.memo [(p,f)]) (.kd (some (p,0)) o1 nO)=H'
 have VE:H' p=some (.memo [(p,f)]):=by rw[<- M0];unfold iY;rw[ah m1,ak]
 have JH:H' q1=some (.kd (some (p,0)) o1 nO):=by rw[<- M0];unfold iY;rw[ak]
 have Dj:∀ b,b≠p->b≠q1->H' b=H b:=fun b a1 a3=>by rw[<- M0];unfold iY;rw[ah a3,ah a1]
 have t9:∀ b o,H b=some o->ldk o=false->H' b=some o:=fun b o e n=>by
   rw[Dj b (fun z=>by rw[z,hp] at e;cases e;cases n) (fun z=>by rw[z,LM] at e;cases e;cases n)]
   exact e
 have kp:Kp H H':=⟨fun b o e kq=>t9 b _ e (by cases o <;> first | rfl | exact(show False from kq).elim),fun b e=>by
   cases q:H b with
   | none=>rw[q] at e;exact e.elim
   | some u=>
     rw[q] at e
     rw[t9 b u q (by cases u <;> first | rfl | exact e.elim)]
     exact e,fun b x e=>t9 b _ e rfl⟩
 refine I.un (h':=s.heap) (t':=s.toks) ⟨fun b o e _ _ _=>e,fun b o e _ _ _=>⟨o.slots,e⟩,fun b o e n _=>?_,fun b o e _=>⟨o,e⟩,fun b xs e=>t9 b _ e rfl,fun b o u e=>t9 b _ e rfl,fun b ps e=>⟨#[],by rw[t9 b _ e rfl];simp⟩⟩ fun b u e=>?_
 . rw[Dj b (fun z=>by rw[z,hp] at n;cases n) (fun z=>by rw[z,LM] at n;cases n)]
   exact n
 . by_cases b1:b=p
   . subst b1
     rw[VE] at e;cases e
     refine⟨⟨_,e1⟩,1,by decide,⟨f,rfl⟩,rfl,fun j a h hj=>?_,by simp,fun n hn=>by rw[List.mem_replicate] at hn;omega,fun j a h n hj hn=>?_⟩
     . match j,hj with
       | 0,hj=>cases hj;exact .inl rfl
     . match j,hj,hn with
       | 0,hj,hn=>
         cases hj;cases hn
         refine⟨_,_,e1,rfl,fun i hi=>?_⟩
         have:i=0:=by omega
         subst this
         exact⟨q1,o1,nO,rfl,JH,f1.kp kp⟩
   . by_cases b3:b=q1
     . subst b3;rw[JH] at e;cases e
       refine⟨VD,⟨MZ,lo1,Ze,Zf,o1,Zg,Zh,VD,Zi⟩,fun a i ht=>?_⟩
       cases ht
       exact⟨by rw[VE];trivial,_,_,e1,rfl⟩
     . rw[Dj b b1 b3] at e
       exact(I.bh b u e).yK (fun _ _ _ q=>q) (fun c q=>t9 c _ q rfl) (fun c xs q=>t9 c _ q rfl) kp
end
section
variable {X:Cx}{G:Gr}{E:XK}{e1:Expr}{fs:List (Str×Dt)}{z C:Addr}{tl:List Slot}{f:Nat->List (Key×FD)}{n0 x0:Str}{Ry Rz RA q1:Pos}
theorem xF (no:noOwn tl=true)(cl:uE X.K C)(Ro:bG X.K C n0)(Zm:EO X G (.own (.A6 z C fs)::tl) e1 (.eP (nW (f 0))))(RB:∀ p ls,putD n0 (.memo p ls 0 1) fs=tK fs [n0] p ls 1:=by intro _ _;rfl)(hlen:Nat.ble fs.length 990=true:=by rfl)(hN:X.N[0]?=some x0:=by rfl)(hv:vn X.env.scope x0:=by first | exact aaG rfl | exact aaD (aaG rfl) | exact aaD (aaD rfl))(mQ:(x0 == ("__debug__":Str))=false:=by decide)(ml:(x0 == ("__classdict__":Str))=false:=by decide)(zp:starEach [e1] X.env=[(false,eval e1 X.env)]:=by rfl)(Hr:swapsWith (.List [e1] RA) (some (.Attribute (.Name x0 Ry) n0 Rz)) q1.line X.env=pure false:=by rfl):nM X G E (.own (.A6 z C fs)::tl) [.Assign [.Attribute (.Name x0 Ry) n0 Rz] (.List [e1] RA) q1] (.nx (.own (.yX z C fs [f] [n0] 1)::tl)):=by
 intro pins s st H D I ⟨Hf,S,k⟩
 have base:=mS (vx (pos:=q1) (pos':=Rz) (jv (pos:=Ry) hN hv mQ ml) (vy (pos:=RA) (lS Zm og zp)) Hr)
 let RQ:L2.St->Hp->Prop:=fun jZ H'=>∃ p a1 nO,H' p=some (.lst [.ref a1])/\H' a1=some (.dK nO)/\rT H' nO (f 0)/\∀ o1,D.nx jZ (iY H' p a1 (.memo [(p,f)]) (.kd (some (p,0)) o1 nO))
 refine b7 (base pins s st H { D with nx:=RQ} I ?_) fun fl s7 q7=>?_
 . obtain⟨za,hz,Zn,TK,ez,dx,fv,M3,rf⟩:=S.own 0 _ rfl
   subst ez
   refine⟨Hf,S,fun a1 Hf1 H1 g1 VG RC ⟨nO,Q6,Zo⟩=>⟨aaJ rfl,fun p hp=>?_⟩⟩
   have MZ:H1 za=some (.ins C dx fv):=g1.big _ _ M3
   have LN:za≠p:=aw MZ hp
   have VH:a1≠p:=aw Q6 hp
   have OV:za≠a1:=fun w=>by rw[w,VG] at M3;cases M3
   have Zp:(upd H1 p (.lst [.ref a1])) za=some (.ins C dx fv):=by rw[ah LN];exact MZ
   refine⟨_,hz,za,C,dx,fv,rfl,Zp,cl,Ro,by rw[rf.length];exact aaK (aaJ hlen) (by decide),?_⟩
   let H4:Hp:=upd (upd H1 p (.lst [.ref a1])) za (.ins C dx (fq n0 (.ref p) fv))
   have GO:Hf1 za=none:=g1.lC Zn M3
   have Zq:bo Hf1 H1 Hf1 (upd H1 p (.lst [.ref a1])):=.eX g1.sub hp
   have S0:dO X.K G st Hf H (.aJ::tl):=S.weak ⟨rfl,fun i s' e n=>by
     cases i with
     | zero=>cases e;exact absurd rfl n
     | succ i=>exact e⟩
   have Xn:noOwn (.aJ::tl)=true:=no
   have S4:dO X.K G st Hf1 H4 (.aJ::tl):=o6 ((S0.grow g1).grow Zq) Xn GO TK
   have Zx:H4 za=some (.ins C dx (fq n0 (.ref p) fv)):=ak
   have Zu:H4 p=some (.lst [.ref a1]):=by show(upd (upd H1 p _) za _) p=_;rw[ah (Ne.symm LN),ak]
   have RF:H4 a1=some (.dK nO):=by show(upd (upd H1 p _) za _) a1=_;rw[ah (Ne.symm OV),ah VH];exact Q6
   have Xr:Hf1 p=none:=g1.sub.free hp
   have zr:aG Hf1 H4:=fun b o e=>by
     have b1:b≠za:=fun w=>by rw[w,GO] at e;cases e
     have b2:b≠p:=fun w=>by rw[w,Xr] at e;cases e
     show(upd (upd H1 p _) za _) b=_
     rw[ah b1,ah b2];exact g1.sub _ _ e
   have gp:G.H p=none:=S.gr.big.free (g1.big.free hp)
   have VL:G.H a1=none:=S.gr.big.free VG
   have VM:rT Hf1 nO (f 0):=qo Zo
   refine⟨p,a1,nO,Zu,RF,gh (fun b u e _=>zr _ _ e) VM,fun o1=>?_⟩
   let ls:kg:=[(p,f)]
   let u1:HO:=.memo ls
   let u3:HO:=.kd (some (p,0)) o1 nO
   have m1:p≠a1:=Ne.symm VH
   have cat:∀ (B:Hp),iY B p a1 u1 u3 p=some u1/\iY B p a1 u1 u3 a1=some u3:=fun B=>by
     unfold iY
     refine⟨?_,?_⟩
     . rw[ah m1,ak]
     . rw[ak]
   have vZ:∀ (B:Hp) b,b≠p->b≠a1->iY B p a1 u1 u3 b=B b:=fun B b c1 c3=>by unfold iY;rw[ah c3,ah c1]
   let xx:Hp:=iY Hf1 p a1 u1 u3
   have Hv:aG Hf1 xx:=fun b o e=>by
     show iY Hf1 p a1 u1 u3 b=some o
     rw[vZ Hf1 b (fun w=>by rw[w,Xr] at e;cases e) (fun w=>by rw[w,RC] at e;cases e)]
     exact e
   have key:∀ (A B:Hp),aG A B->aG (iY A p a1 u1 u3) (iY B p a1 u1 u3):=fun A B sm=>cY (cY sm)
   have RG:aG xx (iY H4 p a1 u1 u3):=key _ _ zr
   have JI:bb X.K xx (fq n0 (.ref p) fv) (tK fs [n0] p ls 1):=by
     rw[<- RB p ls]
     refine(rf.mono (g1.bF.trans Hv)).put (f:=n0) (d:=.memo p ls 0 1) ?_
     refine .memo (f:=f) rfl (cat Hf1).1 (.inl rfl) fun i hi=>?_
     have:i=0:=by omega
     subst this
     exact⟨a1,o1,nO,(cat Hf1).2,gh (fun b u e _=>Hv _ _ e) VM⟩
   have ZA:iY H4 p a1 u1 u3 za=some (.ins C dx (fq n0 (.ref p) fv)):=by rw[vZ H4 za LN OV];exact Zx
   have ZC:xx za=none:=by show iY Hf1 p a1 u1 u3 za=none;rw[vZ Hf1 za LN OV];exact GO
   refine k st xx _ (g1.bF.trans Hv) ⟨⟨fun b o e=>?_,S4.gr.bF.trans Hv,RG,fun b o e=>?_⟩,by have:=S4.len;simpa using this,fun i d h=>?_,fun i o h=>?_,fun i j o o' a w1 w2=>?_⟩
   . rw[vZ H4 b (fun w=>by rw[w,gp] at e;cases e) (fun w=>by rw[w,VL] at e;cases e)]
     exact S4.gr.big _ _ e
   . by_cases c1:b=p
     . rw[c1];exact .inr (.inl gp)
     . by_cases c3:b=a1
       . rw[c3];exact .inr (.inl VL)
       . have e:iY Hf1 p a1 u1 u3 b=some o:=e
         rw[vZ Hf1 b c1 c3] at e
         exact S4.gr.new b o e
   . cases i with
     | zero=>cases h
     | succ i=>
       obtain⟨w,w1,w2⟩:=S4.val (i+1) d h
       exact⟨w,w1,w2.mono Hv⟩
   . cases i with
     | zero=>
       cases h
       exact⟨za,hz,ZC,TK,rfl,dx,_,p,ls,rfl,ZA,JI⟩
     | succ i=>exact absurd h (aY no i o)
   . cases i with
     | zero=>cases j with
       | zero=>exact fun _ _=>rfl
       | succ j=>exact absurd w2 (aY no j o')
     | succ i=>exact absurd w1 (aY no i o)
 . cases fl with
   | next=>
     obtain⟨σ7,H7,I7,p,a1,nO,y1,y3,y5,kk⟩:=q7
     obtain⟨o1,I8⟩:=Inv.M8 I7 y1 y3 y5
     exact⟨σ7,_,I8,kk o1⟩
   | cont=>exact q7
   | brk=>exact q7
   | ret v=>exact q7
end
section
variable {X:Cx}{G0:Gr}{E:XK}{fs:List (Str×Dt)}{l C:Addr}{ls:kg}{n N:Nat}{tl:List Slot}{f:Nat->List (Key×FD)}{n0 x0 xg:Str}{p1 p2 p3 a1 c1 q1:Pos}
theorem BE (ng:Nat)(hs:kH l fs=true)(ht:rb l tl=true)(hu:tl[ng]?=some .aJ)(n6:ls.map (·.2)=[f])(hN:N < 9000)(cl:uE X.K C)(Ro:bG X.K C n0)(hA:G0.Hf l=some (.memo ls))(hB:G0.H l=some (.memo ls))
   (TF:(pR fs [n0] l ls n).lookup n0=some (.dJ l ls 0 n):=by rfl)
   (TC:X.N[0]?=some x0:=by rfl) (Xe:vn X.env.scope x0:=by first | exact aaG rfl | exact aaD (aaG rfl) | exact aaD (aaD rfl)) (Xf:(x0 == ("__debug__":Str))=false:=by decide) (Xg:(x0 == ("__classdict__":Str))=false:=by decide)
   (YX:X.N[ng+1]?=some xg:=by rfl) (YY:vn X.env.scope xg:=by first | exact aaG rfl | exact aaD (aaG rfl) | exact aaD (aaD rfl)) (YZ:(xg == ("__debug__":Str))=false:=by decide) (Y0:(xg == ("__classdict__":Str))=false:=by decide)
   (Vu:attributeBase (.Name x0 p1) n0 X.env (eval (.Name x0 p1) X.env)=eval (.Name x0 p1) X.env:=by rfl)
   (Dl:attributeBase (.Attribute (.Name x0 p1) n0 p2) "append" X.env (eval (.Attribute (.Name x0 p1) n0 p2) X.env)=eval (.Attribute (.Name x0 p1) n0 p2) X.env:=by rfl)
   (JE:((backTo c1 (starEach [.Name xg p3] X.env)).all (fun x=>!x.1) && (backToKw c1 (keywordEach [] X.env)).all (fun x=>x.1.isSome) && decide ([Expr.Name xg p3].length+([]:List Keyword).length+(if ([]:List Keyword).isEmpty then 0 else 1) < 30))=true:=by rfl)
   (Dm:(a1.endLine == c1.line)=true:=by rfl) (zp:starEach [.Name xg p3] X.env=(false,eval (.Name xg p3) X.env)::starEach [] X.env:=by rfl)
   (Hr:swapsWith (.Call (.Attribute (.Attribute (.Name x0 p1) n0 p2) "append" a1) [.Name xg p3] [] c1) none q1.line X.env=pure false:=by rfl) :
   nM X (Vt G0 l (.bD ls (aak ls.length N))) E (.val (.obj C (pR fs [n0] l ls n))::tl.set ng (.own (.eP (nW (f N)))))
     [.Expr (.Call (.Attribute (.Attribute (.Name x0 p1) n0 p2) "append" a1) [.Name xg p3] [] c1) q1] (.raw (RM X.K G0 C fs [n0] l ls n tl (N+1))):=by
 refine A7 (mS (lR (tG PySem.F.plainAttrs_list PySem.F.slot_list_append PySem.F.type_list_append qp (vw (jv (pos:=p1) TC Xe Xf Xg) Vu) (lS (jv (pos:=p3) YX YY YZ Y0) og zp) Dl JE Dm zp rfl) Hr)) fun D st H zq=>Bn zq fun Hf zq=>have S:=zq.1;have k:=zq.2;?_
 have e2:ls.length=1:=by have:=congrArg abd n6;simpa using this
 have eR:∀ M:Nat,aak ls.length M=[M]:=fun M=>by rw[e2];rfl
 rw[eR] at S
 have Vx:ng < tl.length:=(aag.mp hu).1
 obtain⟨v0,hv,rv⟩:=S.val 0 _ rfl
 cases rv with
 | @obj sa _ dx fv _ Rr rf=>
   obtain⟨oa,Dn,Xh,_,back⟩:=Rd.ex Rr
   have Rt:Hf l=some (.bD ls [N]):=S.gr.bF _ _ ak
   have OT:H l=some (.bD ls [N]):=S.sub _ _ Rt
   have hm:b9 Hf l ls:=.inr ⟨_,Rt⟩
   obtain⟨y0,Y2,Y3⟩:=rf.lookup TF
   obtain⟨qa,hq,Vy,Y4,kvs,OU,rk⟩:=S.own (ng+1) (.eP (nW (f N))) (by show(tl.set ng _)[ng]?=_;rw[aah Vx])
   cases Y3 with
   | @dJ _ p _ _ _ f0 Bt _ Y5 _=>
       have Y7:f0=f:=by
         have:=congrArg (fun z=>z[0]?) n6
         simp only[YL,Bt] at this
         exact Option.some.inj this
       subst Y7
       have Xi:rT H kvs (f0 N):=gh (fun b u e _=>S.sub _ _ e) (qo rk)
       have Y8:qa≠l:=fun z=>by rw[z,OT] at OU;cases OU
       have Vz:sa≠l:=fun z=>by rw[z,Rt] at Dn;cases Dn;cases Xh
       have nsq:sa≠qa:=fun z=>by rw[z,Vy] at Dn;cases Dn
       refine⟨_,hv,sa,C,dx,fv,_,rfl,back _ (S.sub _ _ Dn),cl,Ro,Y2,.inr (.inr (.inr (.inr ⟨rfl,l,ls,[N],0,f0,N,OT,Bt,rfl⟩))),_,hq,l,ls,[N],0,p,f0,N,qa,kvs,rfl,rfl,OT,Bt,rfl,hN,OU,Xi,fun oq=>?_⟩
       let H6:Hp:=upd (upd H l (.bD ls ([N].set 0 (N+1)))) qa (.kd (some (p,N)) oq kvs)
       show D.nx st H6
       have Za:H6 l=some (.bD ls [N+1]):=by show(upd (upd H l _) qa _) l=_;rw[ah (Ne.symm Y8),ak];rfl
       have VB:∀ b o,H b=some o->b≠l->b≠qa->(upd H6 l (.memo ls)) b=some o:=fun b o e n1 n2=>by
         rw[ah n1]
         show(upd (upd H l _) qa _) b=_
         rw[ah n2,ah n1];exact e
       have Zb:∀ b o,Hf b=some o->b≠qa:=fun b o e z=>by rw[z,Vy] at e;cases e
       have JF:aG (upd Hf l (.memo ls)) (upd H6 l (.memo ls)):=fun b o e=>by
         by_cases bl:b=l
         . rw[bl,ak] at e ⊢;exact e
         . rw[ah bl] at e;exact VB b o (S.sub _ _ e) bl (Zb b o e)
       have JG:=gf JF
       have g6:bo G0.Hf G0.H (jz (upd Hf l (.memo ls)) (upd H6 l (.memo ls))) (upd H6 l (.memo ls)):=by
         refine⟨fun b o e=>?_,fun b o e=>?_,oy JF,fun b o e=>?_⟩
         . by_cases bl:b=l
           . rw[bl,hB] at e;cases e;rw[bl];exact ak
           . have h3:H b=some o:=S.gr.big _ _ (by show(upd G0.H l _) b=_;rw[ah bl];exact e)
             have Zc:b≠qa:=fun z=>by
               have:(upd G0.H l (.bD ls [N])) qa=none:=Y4
               rw[<- z,ah bl,e] at this;cases this
             exact VB b o h3 bl Zc
         . by_cases bl:b=l
           . rw[bl,hA] at e;cases e;rw[bl];exact JG _ _ ak
           . have h3:Hf b=some o:=S.gr.bF _ _ (by show(upd G0.Hf l _) b=_;rw[ah bl];exact e)
             exact JG _ _ (by rw[ah bl];exact h3)
         . rcases o9 (Hf:=upd Hf l (.memo ls)) (H:=upd H6 l (.memo ls)) b with⟨u',z1,z2,z3⟩ | z
           . rw[z3] at e;cases e;exact .inr (.inr z2)
           . rw[z] at e
             by_cases bl:b=l
             . rw[bl];exact .inl ⟨_,hA⟩
             . rw[ah bl] at e
               rcases S.gr.new b o e with⟨QE,y⟩ | y | y
               . have y:(upd G0.Hf l _) b=some QE:=y
                 rw[ah bl] at y;exact .inl ⟨QE,y⟩
               . have y:(upd G0.H l _) b=none:=y
                 rw[ah bl] at y;exact .inr (.inl y)
               . exact .inr (.inr y)
       have Rv:∀ {v:V} {d:Dt},sG l d=true->Rep X.K Hf v d->Rep X.K (jz (upd Hf l (.memo ls)) (upd H6 l (.memo ls))) v d:=fun {v d} hn r=>(iX hm (.inl rfl) hn r).mono JG
       refine k st H6 ⟨by rw[eR];exact Za,_,⟨g6,by have:=S.len;simpa using this,fun i d h=>?_,fun i o h=>?_,fun i j o o' a h=>?_⟩⟩
       . cases i with
         | zero=>
           cases h
           refine⟨_,hv,.obj (back _ (JG _ _ (by rw[ah Vz];exact Dn))) ?_⟩
           exact(OS hs hm rf).mono JG
         | succ i=>
           have h:tl[i]?=some (.val d):=h
           have e:ng≠i:=fun z=>by rw[<- z,hu] at h;cases h
           obtain⟨w,w1,w2⟩:=S.val (i+1) d (by show(tl.set ng _)[i]?=_;rw[aai e];exact h)
           exact⟨w,w1,Rv (mB ht h) w2⟩
       . cases i with
         | zero=>cases h
         | succ i=>exact absurd h (aY (gY ht) i o)
       . cases i with
         | zero=>cases h
         | succ i=>exact absurd h (aY (gY ht) i o)
end
noncomputable abbrev TL (g:Str)(C':Addr)(fs':List (Str×Dt))(nm':List Str)(l':Addr)(ls':kg)(n':Nat):List (Str×Dt):=[(g,.obj C' (tK fs' nm' l' ls' n'))]
section
variable {X:Cx}{G:Gr}{E:XK}{dl:List Slot}{e:Expr}{pos:Pos}{sts:List Stmt}{o:Out}{C C' l l':Addr}{ls ls':kg}{n n' m:Nat}{nm nm':List Str}{fs':List (Str×Dt)}{g:Str}{tl:List Slot}{K:W.Frag}{Hf H:Hp}{st:L2.St}
theorem EX {fv:List (Str×V)}(r:bb K Hf fv (tK (TL g C' fs' nm' l' ls' n') nm l ls n)):∃ v f2,fv=(g,v)::f2/\Rep K Hf v (.obj C' (tK fs' nm' l' ls' n'))/\bb K Hf f2 ((aaj nm.length).map fun j=>(nm.getD j "",.memo l ls j n)):=by
 have r:bb K Hf fv ((g,.obj C' (tK fs' nm' l' ls' n'))::(aaj nm.length).map fun j=>(nm.getD j "",.memo l ls j n)):=r
 cases r with
 | cons h t=>exact⟨_,_,rfl,h,t⟩
theorem GU (i:Nat)(hn:0 < nm.length)(Tp:0 < nm'.length)(hl:ls'.length≠ls.length)(h:l'≠l->nM X G E dl sts o)(hd:dl[i]?=some (.val (.obj C (tK (TL g C' fs' nm' l' ls' n') nm l ls n))):=by rfl):nM X G E dl sts o:=by
 intro pins s st H D I ⟨Hf,S,k⟩
 obtain⟨v,hv,rv⟩:=S.val i _ hd
 refine h ?_ pins s st H D I ⟨Hf,S,k⟩
 cases rv with
 | obj q r=>
   obtain⟨v',f2,_,r1,r2⟩:=EX r
   have h1:=vY hn r
   cases r1 with
   | obj q' r'=>
     have h2:=vY Tp r'
     intro z
     rw[z,h1] at h2
     have:=HO.memo.inj (Option.some.inj h2)
     exact hl (by rw[this])
theorem GV (he:EE X G (.val (.obj C (tK (TL g C' fs' nm' l' ls' n') nm l ls n))::tl) e (.uF l' ls' m))(hs:swapsWith e none pos.line X.env=pure false:=by rfl):ES X G E (.val (.obj C (tK (TL g C' fs' nm' l' ls' n') nm l ls n))::tl) (.Expr e pos) (.nx (.val (.obj C (tK (TL g C' fs' nm' l' ls' m) nm l ls n))::tl)):=
 tL (lR he hs) fun D st H zq=>Bn zq fun Hf zq=>have S:=zq.1;have k:=zq.2;⟨Hf,S,fun v Hf1 H1 g1 r1=>by
   have S1:=S.grow g1
   cases r1 with
   | uF kn=>
     refine k st Hf1 H1 g1.bF ⟨S1.gr,S1.len,fun i d h=>?_,fun i o h=>S1.own i o ?_,fun i j o o' a h1 h2=>S1.Gm i j o o' a ?_ ?_⟩
     . cases i with
       | zero=>
         cases h
         obtain⟨v,hv,rv⟩:=S1.val 0 _ rfl
         cases rv with
         | obj q r=>
           obtain⟨v',f2,ef,r1,r2⟩:=EX r
           subst ef
           cases r1 with
           | obj q' r'=>exact⟨_,hv,.obj q (.cons (.obj q' (Bz kn r')) r2)⟩
       | succ i=>exact S1.val (i+1) d h
     . cases i with
       | zero=>cases h
       | succ i=>exact h
     . cases i with
       | zero=>cases h1
       | succ i=>exact h1
     . cases j with
       | zero=>cases h2
       | succ j=>exact h2⟩
end
section
variable {X:Cx}{G:Gr}{dl:List Slot}{a e:Expr}{pos p apos bH:Pos}{ns:List Int}{k:Int}
theorem JN:Qn X "list.index" (fun x vs H Q=>∃ (l:Addr) (ns:List Int) (k:Int),x=.ref l/\vs=[.int k]/\mP X.K H l (ns.map V.int)/\PyData.layable0 (.list (ns.map .int))=true/\k∈ns/\Q (.int (ns.idxOf k:Nat)) H):=by
 intro pins s st H x vs v us Q I rx rv ⟨l,ns,k,e1,e2,hq,hy,hk,q⟩
 subst e1 e2
 cases (show v=Value.ref l from rx)
 obtain⟨z,rfl,ru⟩:=vals1 rv
 obtain⟨t,e⟩:=(show ∃ t,z=Value.int k t from ru)
 subst e
 obtain⟨aE,r,pl,hz⟩:=I.list hq
 obtain⟨ob,n,h1,h2,h3,h4⟩:=pl
 refine index_list_ints (vs:=aE) ⟨ob,h1,h2,n,h4⟩ (intsAre_of r) hy hk ?_
 exact⟨.int _,H,I.tok _,⟨_,rfl⟩,q⟩
theorem JO (ha:EE X G dl a (.lst (ns.map .int)))(he:EE X G dl e (.int k))(hy:PyData.layable0 (.list (ns.map .int))=true)(hk:k∈ns)(iS:attributeBase a "index" X.env (eval a X.env)=eval a X.env:=by rfl)
   (r6:((backTo bH (starEach [e] X.env)).all (fun x=>!x.1) && (backToKw bH (keywordEach [] X.env)).all (fun x=>x.1.isSome) && decide ([e].length+([]:List Keyword).length+(if ([]:List Keyword).isEmpty then 0 else 1) < 30))=true:=by rfl)
   (iU:(apos.endLine == bH.line)=true:=by rfl) (nL:starEach [e] X.env=(false,eval e X.env)::starEach [] X.env:=by rfl):EE X G dl (.Call (.Attribute a "index" apos) [e] [] bH) (.int (ns.idxOf k:Nat)):=
 gc (tG PySem.F.plainAttrs_list PySem.F.slot_list_index PySem.F.type_list_index JN ha (ae he ai nL) iS r6 iU nL rfl) fun st H Q zq=>Bn zq fun Hf zq=>have S:=zq.1;have kk:=zq.2;⟨Hf,S,fun v Hf1 H1 g1 r1=>by
   cases r1 with
   | @lst q vs _ hq rp=>
     have ev:=mY rp
     subst ev
     refine⟨.inl ⟨rfl,_,.of (g1.sub _ _ hq)⟩,Hf1,S.grow g1,fun us bV H2 g2 r2=>?_⟩
     cases r2 with
     | cons r2 t2=>cases t2;cases r2;exact⟨q,ns,_,rfl,rfl,.of (g2.big _ _ (g1.sub _ _ hq)),hy,hk,kk _ bV H2 (g1.trans g2) (.int _)⟩⟩
noncomputable def yx (ns:List Int):Int:=ns.getD (argBest (fun i j=>decide (ns.getD i 0 > ns.getD j 0)) (ns.length - 1)) 0
theorem v5:∀ {ns:List Int} {us:List Value},Vals (ns.map V.int) us->∃ l:List (Int×Tok),us=l.map (fun p=>Value.int p.1 p.2)/\l.map (·.1)=ns
 | [],_,.nil=>⟨[],rfl,rfl⟩
 | x::r,_,.cons h t=>by
   obtain⟨tk,rfl⟩:=h
   obtain⟨l,rfl,e⟩:=v5 t
   exact⟨(x,tk)::l,rfl,by rw[aaq,e]⟩
theorem GW (hc:X.calm=true):jr X (.builtin "max") (fun xs H Q=>∃ (l:Addr) (ns:List Int),xs=[.ref l]/\mP X.K H l (ns.map V.int)/\0 < ns.length/\Q (.int (yx ns)) H):=by
 intro pins s σ H xs us Q I r h
 obtain⟨l,ns,rfl,hq,h0,q⟩:=h
 obtain⟨u,rfl,rx⟩:=vals1 r
 cases rx
 obtain⟨aE,rv,pl,hz⟩:=I.list hq
 obtain⟨ob,n,h1,h2,h3,h4⟩:=pl
 have hA:X.A.handled=none:=I.ok.hd hc
 obtain⟨ps,e1,e2⟩:=v5 rv
 have hn:∀ i,numAt ps.toArray i=ns.getD i 0:=fun i=>by
   unfold numAt
   rw[List.getElem?_toArray,<- e2,WW,YL]
 have hs:ps.toArray.size=ns.length:=by rw[<- e2];simp
 refine max_intList (xs:=ps.toArray) hA ⟨ob,h1,h2,n,by rw[h4,e1];unfold intItems;simp⟩ (by rw[hs];exact h0) fun v h' tk hv hk=>?_
 obtain⟨t',e'⟩:=intItems_at hv
 have ev:(fun i j=>decide (numAt ps.toArray i > numAt ps.toArray j))=fun i j=>decide (ns.getD i 0 > ns.getD j 0):=by
   funext i j;rw[hn,hn]
 refine⟨.int (yx ns),H,I.kept (t':=tk) hk,⟨t',?_⟩,q⟩
 rw[e',hn,ev,hs];rfl
theorem M9 (hm:X.mg "max"=none)(hc:X.calm=true)(ha:EE X G dl a (.lst (ns.map .int)))(h0:0 < ns.length)(hg:Gl X "max":=by rfl)(he:starEach [a] X.env=[(false,eval a X.env)]:=by rfl):EE X G dl (.Call (.Name "max" p) [a] [] pos) (.int (yx ns)):=
 gc (dY (GW hc) hg hm boot_max (ae ha ai he) (by decide) (by decide) he rfl) fun st H Q zq=>Bn zq fun Hf zq=>have S:=zq.1;have k:=zq.2;⟨Hf,S,fun vs Hf1 H1 g1 r1=>by
   cases r1 with
   | cons r t=>cases t;cases r with
     | @lst q vs _ z r=>
       have ev:=mY r
       subst ev
       exact⟨q,ns,rfl,.of (g1.sub _ _ z),h0,k _ Hf1 H1 g1 (.int _)⟩⟩
theorem BF (f:Nat->Int):∀ n:Nat,argBest (fun i j=>decide (f i > f j)) n<=n/\∀ j,j<=n->f j<=f (argBest (fun i j=>decide (f i > f j)) n)
 | 0=>⟨aae _,fun j hj=>by
   have:j=0:=by omega
   subst this;exact Int.le_refl _⟩
 | n+1=>by
   obtain⟨h1,h2⟩:=BF f n
   unfold argBest
   by_cases c:f (n+1) > f (argBest (fun i j=>decide (f i > f j)) n)
   . rw[if_pos (by simpa using c)]
     refine⟨aae _,fun j hj=>?_⟩
     rcases Nat.lt_or_ge n j with h | h
     . have:j=n+1:=by omega
       subst this;exact Int.le_refl _
     . exact Int.le_trans (h2 j h) (Int.le_of_lt c)
   . rw[if_neg (by simpa using c)]
     refine⟨by omega,fun j hj=>?_⟩
     rcases Nat.lt_or_ge n j with h | h
     . have:j=n+1:=by omega
       subst this;omega
     . exact h2 j h
theorem JP {ns:List Int}{r:Int}(h0:0 < ns.length)(hm:r∈ns)(hr:∀ x∈ns,x<=r):yx ns=r:=by
 obtain⟨h1,h2⟩:=BF (fun i=>ns.getD i 0) (ns.length - 1)
 unfold yx
 generalize argBest (fun i j=>decide (ns.getD i 0 > ns.getD j 0)) (ns.length - 1)=b at h1 h2 ⊢
 obtain⟨j,hj,e⟩:=List.getElem_of_mem hm
 have h3:=h2 j (by omega)
 have hb:b < ns.length:=by omega
 have h4:=hr ns[b] (aaN hb)
 rw[WW,WW,k3 hj,k3 hb] at h3
 rw[WW,k3 hb]
 simp only[Option.getD_some] at h3 ⊢
 omega
end
end Sg
namespace Pf
open PySem PySem.Spec PyProof.Rows L2 Sg
structure gi (K:W.Frag)(x q:Str)(st:Stmt)(ps:List Str)(f:Addr)(d:FuncData):Prop where
 F:Tt K x q st f d
 b:Binds K d ps []
structure Na (K:W.Frag)(x q:Str)(st:Stmt)(ps:List Str)(f:Addr)(d:FuncData):Prop where
 F:Bf K x q st f d
 b:Binds K d ps []
structure iZ (K:W.Frag)(x:Str)(st:Stmt)(ps:List Str)(f:Addr)(d:FuncData):Prop where
 F:Tt K x x st f d
 b:Binds K d ps []
 a:W.nsIn K mainGlobals x=some (some (.ref f))
structure GX (K:W.Frag)(x:Str)(C:Addr):Prop where
 a:W.nsIn K mainGlobals x=some (some (.ref C))
 cl:uE K C
 kc:W.keepIn K (.ref C)=true
abbrev RN (x q:Str)(st:Stmt)(ps:List Str):Prop:=∀ (kV doc pm:Value) (an:Option Addr) (bj ct:Value) (us:List Value),us.length=ps.length->bindArgs (W.fnOf x q (cf st) (aA st) (af st) .none kV doc pm an bj ct) ⟨us,[]⟩=pure (ps.zip us)
section
variable {K:W.Frag}{x q:Str}{st:Stmt}{ps:List Str}{f:Addr}{oc:Value}{od an:Option Addr}{yf:Array (Option Value)}{kV doc pm bj ct:Value}
theorem RO (l:K.lookup f=some ⟨oc,od,.func (W.fnOf x q (cf st) (aA st) (af st) .none kV doc pm an bj ct),yf⟩)(c:W.codeIn K bj q=true)(k:W.keepIn K (.ref f)=true)(b:RN x q st ps):gi K x q st ps f (W.fnOf x q (cf st) (aA st) (af st) .none kV doc pm an bj ct):=⟨vB l c k,(vB l c k).binds b⟩
theorem RP (l:K.lookup f=some ⟨oc,od,.func (W.fnOf x q (cf st) (aA st) (af st) .none kV doc pm an bj ct),yf⟩)(c:W.codeIn K bj q=true)(k:W.keepIn K (.ref f)=true)(b:RN x q st ps):Na K x q st ps f (W.fnOf x q (cf st) (aA st) (af st) .none kV doc pm an bj ct):=⟨qX l c,(vB l c k).binds b⟩
theorem RS (a:W.nsIn K mainGlobals q=some (some (.ref f)))(l:K.lookup f=some ⟨oc,od,.func (W.fnOf q q (cf st) (aA st) (af st) .none kV doc pm an bj ct),yf⟩)(c:W.codeIn K bj q=true)(k:W.keepIn K (.ref f)=true)(b:RN q q st ps):iZ K q st ps f (W.fnOf q q (cf st) (aA st) (af st) .none kV doc pm an bj ct):=⟨vB l c k,(vB l c k).binds b,a⟩
theorem RT {C:Addr}(a:W.nsIn K mainGlobals x=some (some (.ref C)))(p:W.plainGet K C Str.empty=true)(h:W.hasDictIn K C=true)(o:W.plainOver K C=true)(s:W.findIn K (.ref C) "__setattr__"=some (some (.builtin "object.__setattr__")))(k:W.keepIn K (.ref C)=true):GX K x C:=⟨a,⟨p,h,o,s⟩,k⟩
end
theorem fV {N P:List Str}{sc:Scope}(h:(sc.kind == .function && !sc.isCoroutine && !sc.isGenerator && decide N.Nodup && decide (N.take P.length=P) && P.all (fun x=>decide (sc.names.lookup x=some .local\/sc.names.lookup x=some .cell)) && sc.names.all fun y=>decide (y.2≠.free))=true):aq N P sc:=by
 simp only[aaP,abK,decide_eq_true_eq,Bool.not_eq_true',beq_iff_eq] at h
 exact⟨h.1.1.1.1.1.1,h.1.1.1.1.1.2,h.1.1.1.1.2,h.1.1.1.2,h.1.1.2,h.1.2,h.2⟩
noncomputable def top (i:Nat):Stmt:=PySem.Challenge.pw_strokegrow_k53_whole_part_drawn.main.body.getD i (.Pass ⟨0,0,0,0⟩)
noncomputable abbrev zu:Stmt:=top 14
noncomputable abbrev zv:Stmt:=top 15
noncomputable abbrev lG:Stmt:=top 16
noncomputable abbrev m5:Stmt:=inClass (top 17) 3
noncomputable abbrev m6:Stmt:=inClass (top 17) 4
noncomputable abbrev qu:Stmt:=inClass (top 17) 5
noncomputable abbrev oC:Stmt:=inClass (top 17) 6
noncomputable abbrev lH:Stmt:=inClass (top 18) 0
noncomputable abbrev fF:Stmt:=inClass (top 18) 1
noncomputable abbrev km:Stmt:=inClass (top 18) 2
noncomputable abbrev m7:Stmt:=inClass (top 19) 0
noncomputable abbrev gH:Stmt:=inClass (top 19) 1
noncomputable abbrev ma:Stmt:=inClass (top 19) 2
noncomputable abbrev v7:Stmt:=top 20
noncomputable abbrev m8:Stmt:=inClass (top 22) 0
noncomputable abbrev m9:Stmt:=inClass (top 22) 1
noncomputable abbrev nh:Stmt:=inClass (top 22) 2
noncomputable abbrev ko:Stmt:=inClass (top 22) 3
noncomputable abbrev cu:Stmt:=inClass (top 22) 4
noncomputable abbrev fu:Stmt:=inClass (top 22) 5
noncomputable abbrev cv:Stmt:=inClass (top 22) 6
noncomputable abbrev cw:Stmt:=inClass (top 22) 7
noncomputable abbrev ni:Stmt:=inClass (top 22) 8
noncomputable abbrev lI:Stmt:=inClass (top 22) 9
noncomputable abbrev lJ:Stmt:=inClass (top 22) 10
noncomputable abbrev nr:Stmt:=inClass (top 22) 11
noncomputable abbrev zw:Stmt:=top 23
noncomputable abbrev cG:Stmt:=top 24
noncomputable abbrev qv:Stmt:=top 25
noncomputable abbrev md:Stmt:=top 29
noncomputable abbrev kr:Stmt:=top 30
noncomputable abbrev rh:Stmt:=top 31
noncomputable abbrev v8:Stmt:=top 32
noncomputable abbrev sJ:Stmt:=top 33
noncomputable abbrev fW:Stmt:=inClass (top 35) 0
noncomputable abbrev iI:Stmt:=inClass (top 35) 1
noncomputable abbrev bZ:Stmt:=inClass (top 35) 2
noncomputable abbrev cC:Stmt:=inClass (top 35) 4
noncomputable abbrev j7:Stmt:=top 37
noncomputable abbrev d0:Stmt:=top 38
noncomputable abbrev dF:Stmt:=inClass (top 39) 0
noncomputable abbrev gI:Stmt:=inClass (top 39) 1
noncomputable abbrev bK:Stmt:=inClass (top 39) 3
noncomputable abbrev lK:Stmt:=inClass (top 39) 4
noncomputable abbrev fX:Stmt:=inClass (top 39) 5
noncomputable abbrev eY:Stmt:=inClass (top 39) 8
noncomputable abbrev dh:Stmt:=inClass (top 39) 9
noncomputable abbrev g9:Stmt:=inClass (top 39) 11
noncomputable abbrev g7:Stmt:=inClass (top 39) 17
noncomputable abbrev i0:Stmt:=top 43
noncomputable abbrev fY:Stmt:=top 44
noncomputable abbrev eZ:Stmt:=top 45
noncomputable abbrev kI:Stmt:=inClass (top 46) 0
noncomputable abbrev oE:Stmt:=inClass (top 46) 1
noncomputable abbrev ky:Stmt:=inClass (top 46) 2
noncomputable abbrev i3:Stmt:=inClass (top 46) 4
noncomputable abbrev nu:Stmt:=inClass (top 46) 5
noncomputable abbrev nv:Stmt:=inClass (top 46) 6
noncomputable abbrev aZ:Stmt:=inClass (top 46) 7
noncomputable abbrev Dq:Stmt:=top 48
noncomputable abbrev zx:Stmt:=top 49
noncomputable abbrev qw:Stmt:=top 50
noncomputable abbrev Dr:Stmt:=top 51
noncomputable abbrev zy:Stmt:=top 52
noncomputable abbrev JQ:Stmt:=top 53
noncomputable abbrev s_row:Stmt:=top 54
noncomputable abbrev v9:Stmt:=top 55
noncomputable abbrev zA:Stmt:=top 56
noncomputable abbrev kJ:Stmt:=top 57
noncomputable abbrev rj:Stmt:=top 58
noncomputable abbrev tT:Stmt:=top 59
noncomputable abbrev Nb:List Str:=["one","other"]
theorem JR:aq Nb ["one","other"] (af zu):=fV (by decide +kernel)
noncomputable abbrev Nc:List Str:=["one","other"]
theorem JS:aq Nc ["one","other"] (af zv):=fV (by decide +kernel)
noncomputable abbrev wa:List Str:=["deed"]
theorem ue:aq wa ["deed"] (af lG):=fV (by decide +kernel)
noncomputable abbrev zB:List Str:=["self","number"]
theorem xG:aq zB ["self","number"] (af m5):=fV (by decide +kernel)
noncomputable abbrev zC:List Str:=["self","spot","by","turns"]
theorem me:aq zC ["self","spot","by"] (af m6):=fV (by decide +kernel)
noncomputable abbrev Ds:List Str:=["self","way"]
theorem BG:aq Ds ["self","way"] (af qu):=fV (by decide +kernel)
noncomputable abbrev BH:List Str:=["self","deed","spot","way"]
theorem rm:aq BH ["self","deed","spot","way"] (af oC):=fV (by decide +kernel)
noncomputable abbrev wb:List Str:=["self"]
theorem uf:aq wb ["self"] (af lH):=fV (by decide +kernel)
noncomputable abbrev nX:List Str:=["self","spot"]
theorem ny:aq nX ["self","spot"] (af fF):=fV (by decide +kernel)
noncomputable abbrev ug:List Str:=["self","way","spot","x","y"]
theorem jA:aq ug ["self","way","spot"] (af km):=fV (by decide +kernel)
noncomputable abbrev zD:List Str:=["self"]
theorem xH:aq zD ["self"] (af m7):=fV (by decide +kernel)
noncomputable abbrev pT:List Str:=["self","spot"]
theorem oF:aq pT ["self","spot"] (af gH):=fV (by decide +kernel)
noncomputable abbrev xI:List Str:=["self","way","spot","x","y"]
theorem lL:aq xI ["self","way","spot"] (af ma):=fV (by decide +kernel)
noncomputable abbrev JT:List Str:=["ways"]
theorem GY:aq JT ["ways"] (af v7):=fV (by decide +kernel)
noncomputable abbrev zE:List Str:=["self","pen","deed_count","last_way","last_spot","stroke_count","reaches","touches","crosses"]
theorem xJ:aq zE ["self","pen","deed_count","last_way","last_spot","stroke_count","reaches","touches","crosses"] (af m8):=fV (by decide +kernel)
noncomputable abbrev zF:List Str:=["self"]
theorem xK:aq zF ["self"] (af m9):=fV (by decide +kernel)
noncomputable abbrev zG:List Str:=["self"]
theorem xM:aq zG ["self"] (af nh):=fV (by decide +kernel)
noncomputable abbrev uh:List Str:=["self"]
theorem sL:aq uh ["self"] (af ko):=fV (by decide +kernel)
noncomputable abbrev xN:List Str:=["self","first"]
theorem wc:aq xN ["self","first"] (af cu):=fV (by decide +kernel)
noncomputable abbrev nQ:List Str:=["self","numbers","first"]
theorem sM:aq nQ ["self","numbers","first"] (af fu):=fV (by decide +kernel)
noncomputable abbrev xO:List Str:=["self","first"]
theorem we:aq xO ["self","first"] (af cv):=fV (by decide +kernel)
noncomputable abbrev xP:List Str:=["self","first"]
theorem wg:aq xP ["self","first"] (af cw):=fV (by decide +kernel)
noncomputable abbrev zH:List Str:=["self"]
theorem xQ:aq zH ["self"] (af ni):=fV (by decide +kernel)
noncomputable abbrev wj:List Str:=["self"]
theorem uk:aq wj ["self"] (af lI):=fV (by decide +kernel)
noncomputable abbrev wk:List Str:=["self","other","pen","shift","reaches","touches","way"]
theorem nS:aq wk ["self","other"] (af lJ):=fV (by decide +kernel)
noncomputable abbrev zI:List Str:=["self"]
theorem xR:aq zI ["self"] (af nr):=fV (by decide +kernel)
noncomputable abbrev Nd:List Str:=["pen"]
theorem JU:aq Nd ["pen"] (af zw):=fV (by decide +kernel)
noncomputable abbrev kz:List Str:=["pen","deed","behind","spot","reaches","touches"]
theorem mC:aq kz ["pen","deed"] (af cG):=fV (by decide +kernel)
noncomputable abbrev Du:List Str:=["pen","deeds","track","deed"]
theorem tU:aq Du ["pen","deeds"] (af qv):=fV (by decide +kernel)
noncomputable abbrev xS:List Str:=["age","first","last"]
theorem wq:aq xS ["age","first","last"] (af md):=fV (by decide +kernel)
noncomputable abbrev um:List Str:=["many"]
theorem sN:aq um ["many"] (af kr):=fV (by decide +kernel)
noncomputable abbrev EY:List Str:=["rules","word"]
theorem BI:aq EY ["rules","word"] (af rh):=fV (by decide +kernel)
noncomputable abbrev JV:List Str:=["rules","word","grown"]
theorem EZ:aq JV ["rules","word"] (af v8):=fV (by decide +kernel)
noncomputable abbrev GZ:List Str:=["rules","word","age","grown","rounds"]
theorem wt:aq GZ ["rules","word","age"] (af sJ):=fV (by decide +kernel)
noncomputable abbrev oG:List Str:=["self","growth","rules"]
theorem nT:aq oG ["self","growth"] (af fW):=fV (by decide +kernel)
noncomputable abbrev qx:List Str:=["self","tracks","whole","track"]
theorem kC:aq qx ["self","tracks"] (af iI):=fV (by decide +kernel)
noncomputable abbrev kE:List Str:=["self","age","rules","last","grown","letter"]
theorem j8:aq kE ["self","age"] (af bZ):=fV (by decide +kernel)
noncomputable abbrev lX:List Str:=["self","age","begin","end"]
theorem qy:aq lX ["self","age","begin","end"] (af cC):=fV (by decide +kernel)
noncomputable abbrev BJ:List Str:=["tallies","letters"]
theorem yy:aq BJ ["tallies","letters"] (af j7):=fV (by decide +kernel)
noncomputable abbrev mD:List Str:=["word","rounds"]
theorem rq:aq mD ["word","rounds"] (af d0):=fV (by decide +kernel)
noncomputable abbrev mf:List Str:=["self","rules","start"]
theorem oH:aq mf ["self","rules","start"] (af dF):=fV (by decide +kernel)
noncomputable abbrev pU:List Str:=["self"]
theorem oJ:aq pU ["self"] (af gI):=fV (by decide +kernel)
noncomputable abbrev iJ:List Str:=["self","age","letters","last","grown","letter"]
theorem kF:aq iJ ["self","age"] (af bK):=fV (by decide +kernel)
noncomputable abbrev wu:List Str:=["self","age"]
theorem uo:aq wu ["self","age"] (af lK):=fV (by decide +kernel)
noncomputable abbrev oK:List Str:=["self","age","place"]
theorem nY:aq oK ["self","age","place"] (af fX):=fV (by decide +kernel)
noncomputable abbrev nz:List Str:=["self","age","begin","end"]
theorem mE:aq nz ["self","age","begin","end"] (af eY):=fV (by decide +kernel)
noncomputable abbrev nU:List Str:=["self","age"]
theorem sO:aq nU ["self","age"] (af dh):=fV (by decide +kernel)
noncomputable abbrev uq:List Str:=["self","age","begin","end","between","waiting","place","piece","rounds","behind"]
theorem mF:aq uq ["self","age","begin","end"] (af g9):=fV (by decide +kernel)
noncomputable abbrev p7:List Str:=["self","age","begin","end"]
theorem wz:aq p7 ["self","age","begin","end"] (af g7):=fV (by decide +kernel)
noncomputable abbrev rA:List Str:=["text"]
theorem qz:aq rA ["text"] (af i0):=fV (by decide +kernel)
noncomputable abbrev oM:List Str:=["word","letters"]
theorem ur:aq oM ["word","letters"] (af fY):=fV (by decide +kernel)
noncomputable abbrev nA:List Str:=["rows","firsts","letters","number","row","letter_fits"]
theorem p8:aq nA ["rows"] (af eZ):=fV (by decide +kernel)
noncomputable abbrev zJ:List Str:=["self","ways","rows","drawer","row"]
theorem p9:aq zJ ["self","ways","rows"] (af kI):=fV (by decide +kernel)
noncomputable abbrev BK:List Str:=["self"]
theorem zK:aq BK ["self"] (af oE):=fV (by decide +kernel)
noncomputable abbrev uu:List Str:=["self"]
theorem sP:aq uu ["self"] (af ky):=fV (by decide +kernel)
noncomputable abbrev wA:List Str:=["self","letter"]
theorem uv:aq wA ["self","letter"] (af i3):=fV (by decide +kernel)
noncomputable abbrev zL:List Str:=["self","letter"]
theorem xU:aq zL ["self","letter"] (af nu):=fV (by decide +kernel)
noncomputable abbrev zM:List Str:=["self","letter"]
theorem xV:aq zM ["self","letter"] (af nv):=fV (by decide +kernel)
noncomputable abbrev uw:List Str:=["self","text","most","at","sign"]
theorem mG:aq uw ["self","text","most"] (af aZ):=fV (by decide +kernel)
noncomputable abbrev RU:List Str:=["_law_script","_law_k","_law_cell_here","_law_low"]
theorem uN:aq RU ["_law_script","_law_k"] (af Dq):=fV (by decide +kernel)
noncomputable abbrev Nf:List Str:=["_law_found"]
theorem JW:aq Nf ["_law_found"] (af zx):=fV (by decide +kernel)
noncomputable abbrev Dv:List Str:=["_law_cell_here","_law_many","_law_free","_law_found","_law_k","_law_at"]
theorem tV:aq Dv ["_law_cell_here","_law_many"] (af qw):=fV (by decide +kernel)
noncomputable abbrev RV:List Str:=["_law_number","_law_alphabet_here","_law_most","_law_found","_law_size","_law_k"]
theorem E2:aq RV ["_law_number","_law_alphabet_here","_law_most"] (af Dr):=fV (by decide +kernel)
noncomputable abbrev Ng:List Str:=["_law_script","_law_far","_law_first","_law_way","_law_age","_law_many","_law_most","_law_alphabet_here","_law_rows","_law_k","_law_cell_here","_law_deed","_law_start"]
theorem BL:aq Ng ["_law_script","_law_far"] (af zy):=fV (by decide +kernel)
noncomputable abbrev VO:List Str:=["_law_script","_law_k","_law_far","_law_number"]
theorem JX:aq VO ["_law_script","_law_k"] (af JQ):=fV (by decide +kernel)
noncomputable abbrev VP:List Str:=["_law_rows","_law_letter","_law_row_here"]
theorem JY:aq VP ["_law_rows","_law_letter"] (af s_row):=fV (by decide +kernel)
noncomputable abbrev JZ:List Str:=["_law_ways","_law_spot","_law_by","_law_x","_law_y","_law_k"]
theorem yz:aq JZ ["_law_ways","_law_spot","_law_by"] (af v9):=fV (by decide +kernel)
noncomputable abbrev Nh:List Str:=["_law_ways","_law_spot","_law_x","_law_y"]
theorem BM:aq Nh ["_law_ways","_law_spot"] (af zA):=fV (by decide +kernel)
noncomputable abbrev uO:List Str:=["_law_ways","_law_rows","_law_text_here","_law_way","_law_spot","_law_strokes","_law_area","_law_spots","_law_letter","_law_deed","_law_step","_law_alongs","_law_reach","_law_touch"]
theorem BN:aq uO ["_law_ways","_law_rows","_law_text_here"] (af kJ):=fV (by decide +kernel)
noncomputable abbrev E3:List Str:=["_law_found","_law_ways","_law_one","_law_wholes"]
theorem BO:aq E3 ["_law_found","_law_ways"] (af rj):=fV (by decide +kernel)
noncomputable abbrev BP:List Str:=["_law_script","_law_ways","_law_rows","_law_start","_law_age","_law_growth","_law_size","_law_begin","_law_end","_law_text_here","_law_alphabet_here","_law_drawing","_law_track_here","_law_found","_law_cut","_law_rest","_law_front","_law_closed"]
theorem J0:aq BP ["_law_script"] (af tT):=fV (by decide +kernel)
set_option genInjectivity false in
set_option genSizeOf false in
structure dN where
 (uP uQ i4 du dv fZ eW d5 bx di gj b0 fz rB gk gm gq dj cy dk cz cA gu d6 d7 gv uR hE nB jK hU uS zN pz d8 ck br bW oN gw fA b5 bL d9 bP bf cH cI fB fO i5 kK e6 iP dm c6 gx gy a0 zO uT nC zP uU E4 E5 rC uV uW uX rE:Addr)
 (uY uZ i6 kL kM nE lY i7 da hZ kN dP jL rF kO kP kQ ia jM ib jN jO kR i8 i9 kS u0 ig nF jP ij u5 zQ pA ja e9 dQ fP rG gz jQ dR fe jb dw cO ik il jS fQ jc kT kU lZ ip jd kW kX iq zR u6 nG zS u7 E6 E7 rH u9 va vb wC:FuncData)
 (jT jU jV ir:Tok)
 (aP cg aN au av aC kY cX:Addr)
 (BQ wD zT wF:Tok)
 K:W.Frag
structure Txt (K:W.Frag)(mg:Str->Option Value)(t:dN):Prop where
 hK:t.K=K
 g:∀ {x:Str} {v:Value},W.nsIn K mainGlobals x=some (some v)->mg x=some v
 gn:∀ {x:Str},W.nsIn K mainGlobals x=some none->mg x=none
 jB:GX K "Quarter" t.aP
 nH:GX K "Sixth" t.cg
 dS:GX K "Rules" t.aN
 aO:GX K "Growth" t.au
 ay:GX K "Track" t.av
 b6:GX K "Drawing" t.aC
 qA:QM K t.aP
 wG:QM K t.cg
 wH:L2.Mk K t.aN t.e6
 sQ:L2.Mk K t.au t.fA
 wI:L2.Mk K t.av t.gk
 qB:L2.Mk K t.aC t.d8
 iu:bG K t.aN "drawer"
 aQ:bG K t.aN "row_by_letter"
 b8:bG K t.au "rules"
 f6:bG K t.au "seed"
 cD:bG K t.au "tallies"
 cE:bG K t.au "lengths"
 dn:bG K t.av "drawer"
 bu:bG K t.av "deed_count"
 bw:bG K t.av "last_way"
 aR:bG K t.av "last_spot"
 cj:bG K t.av "stroke_count"
 cm:bG K t.av "reaches"
 eh:bG K t.av "touches"
 eu:bG K t.av "crosses"
 bX:bG K t.aC "growth"
 bY:bG K t.aC "tracks"
 zU:mg "DEEDS"=some (.ref t.kY)
 zV:∀ H,Rep K H (.ref t.kY) (.tup [.str "stroke",.str "step",.str "left",.str "right",.str "rest"])
 qb:mg "GOING_DEEDS"=some (.ref t.cX)
 qc:∀ H,Rep K H (.ref t.cX) (.tup [.str "stroke",.str "step"])
 BR:mg "MOST_ROWS"=some (.int 6 t.BQ)
 wJ:mg "MOST_IN_WORD"=some (.int 8 t.wD)
 rJ:mg "LAST_ROUND"=some (.int 200 t.zT)
 wK:mg "MOST_WRITTEN"=some (.int 400 t.wF)
 pB:iZ K "added" zu ["one","other"] t.uP t.uY
 pC:iZ K "cross" zv ["one","other"] t.uQ t.uZ
 eC:iZ K "turn_of_deed" lG ["deed"] t.i4 t.i6
 fG:Meth K t.aP "way_of" t.du
 gJ:Meth K t.cg "way_of" t.du
 kZ:gi K "way_of" "Pen.way_of" m5 ["self","number"] t.du t.kL
 fH:Meth K t.aP "turned" t.dv
 gK:Meth K t.cg "turned" t.dv
 k4:gi K "turned" "Pen.turned" m6 ["self","spot","by"] t.dv t.kM
 gL:Meth K t.aP "step" t.fZ
 je:Meth K t.cg "step" t.fZ
 nI:gi K "step" "Pen.step" qu ["self","way"] t.fZ t.nE
 f7:Meth K t.aP "after" t.eW
 iK:Meth K t.cg "after" t.eW
 l2:gi K "after" "Pen.after" oC ["self","deed","spot","way"] t.eW t.lY
 eE:Meth K t.aP "ways" t.d5
 jf:gi K "ways" "Quarter.ways" lH ["self"] t.d5 t.i7
 cn:Meth K t.aP "turned_left" t.bx
 dc:gi K "turned_left" "Quarter.turned_left" fF ["self","spot"] t.bx t.da
 dH:Meth K t.aP "along" t.di
 iw:gi K "along" "Quarter.along" km ["self","way","spot"] t.di t.hZ
 gM:Meth K t.cg "ways" t.gj
 k6:gi K "ways" "Sixth.ways" m7 ["self"] t.gj t.kN
 c7:Meth K t.cg "turned_left" t.b0
 dU:gi K "turned_left" "Sixth.turned_left" gH ["self","spot"] t.b0 t.dP
 f9:Meth K t.cg "along" t.fz
 jW:gi K "along" "Sixth.along" ma ["self","way","spot"] t.fz t.jL
 mH:iZ K "pen_of" v7 ["ways"] t.rB t.rF
 k7:Na K "__init__" "Track.__init__" m8 ["self","pen","deed_count","last_way","last_spot","stroke_count","reaches","touches","crosses"] t.gk t.kO
 gN:Meth K t.av "many" t.gm
 k8:gi K "many" "Track.many" m9 ["self"] t.gm t.kP
 gO:Meth K t.av "turn" t.gq
 k9:gi K "turn" "Track.turn" nh ["self"] t.gq t.kQ
 ff:Meth K t.av "strokes" t.dj
 iy:gi K "strokes" "Track.strokes" ko ["self"] t.dj t.ia
 dy:Meth K t.av "shift" t.cy
 wL:Binds K t.jM ["self","first"] [.int 0 t.jT]
 xW:Bf K "shift" "Track.shift" cu t.cy t.jM
 LO:W.keepIn K (.ref t.cy)=true
 xX:Binds K t.jM ["self","first"] []
 fg:Meth K t.av "by_ways" t.dk
 iz:gi K "by_ways" "Track.by_ways" fu ["self","numbers","first"] t.dk t.ib
 dA:Meth K t.av "reach" t.cz
 wM:Binds K t.jN ["self","first"] [.int 0 t.jU]
 xY:Bf K "reach" "Track.reach" cv t.cz t.jN
 LP:W.keepIn K (.ref t.cz)=true
 xZ:Binds K t.jN ["self","first"] []
 dB:Meth K t.av "touch" t.cA
 wN:Binds K t.jO ["self","first"] [.int 0 t.jV]
 x3:Bf K "touch" "Track.touch" cw t.cA t.jO
 LQ:W.keepIn K (.ref t.cA)=true
 x4:Binds K t.jO ["self","first"] []
 gQ:Meth K t.av "area" t.gu
 lb:gi K "area" "Track.area" ni ["self"] t.gu t.kR
 fJ:Meth K t.av "closed" t.d6
 jg:gi K "closed" "Track.closed" lI ["self"] t.d6 t.i8
 fK:Meth K t.av "joined" t.d7
 jh:gi K "joined" "Track.joined" lJ ["self","other"] t.d7 t.i9
 gR:Meth K t.av "told" t.gv
 lg:gi K "told" "Track.told" nr ["self"] t.gv t.kS
 pD:iZ K "still" zw ["pen"] t.uR t.u0
 dq:iZ K "track_of_deed" cG ["pen","deed"] t.hE t.ig
 jC:iZ K "track_of" qv ["pen","deeds"] t.nB t.nF
 fC:iZ K "check_round" md ["age","first","last"] t.jK t.jP
 dt:iZ K "check_written" kr ["many"] t.hU t.ij
 pE:iZ K "tally" rh ["rules","word"] t.uS t.u5
 sR:iZ K "once" v8 ["rules","word"] t.zN t.zQ
 lq:iZ K "written" sJ ["rules","word","age"] t.pz t.pA
 ji:Na K "__init__" "Drawing.__init__" fW ["self","growth"] t.d8 t.ja
 cP:Meth K t.aC "join_all" t.ck
 fh:gi K "join_all" "Drawing.join_all" iI ["self","tracks"] t.ck t.e9
 cJ:Meth K t.aC "deepen_to" t.br
 dW:gi K "deepen_to" "Drawing.deepen_to" bZ ["self","age"] t.br t.dQ
 c8:Meth K t.aC "stretch" t.bW
 fR:gi K "stretch" "Drawing.stretch" cC ["self","age","begin","end"] t.bW t.fP
 mI:iZ K "summed" j7 ["tallies","letters"] t.oN t.rG
 cZ:iZ K "waiting_pieces" d0 ["word","rounds"] t.gw t.gz
 jX:Na K "__init__" "Growth.__init__" dF ["self","rules","start"] t.fA t.jQ
 cQ:Meth K t.au "rules_told" t.b5
 dX:gi K "rules_told" "Growth.rules_told" gI ["self"] t.b5 t.dR
 c9:Meth K t.au "deepen_to" t.bL
 fi:gi K "deepen_to" "Growth.deepen_to" bK ["self","age"] t.bL t.fe
 fj:Meth K t.au "enter" t.d9
 jk:gi K "enter" "Growth.enter" lK ["self","age"] t.d9 t.jb
 cK:Meth K t.au "check_place" t.bP
 dC:gi K "check_place" "Growth.check_place" fX ["self","age","place"] t.bP t.dw
 cq:Meth K t.au "check_stretch" t.bf
 cR:gi K "check_stretch" "Growth.check_stretch" eY ["self","age","begin","end"] t.bf t.cO
 eG:Meth K t.au "length" t.cH
 iC:gi K "length" "Growth.length" dh ["self","age"] t.cH t.ik
 eI:Meth K t.au "pieces" t.cI
 iD:gi K "pieces" "Growth.pieces" g9 ["self","age","begin","end"] t.cI t.il
 fL:Meth K t.au "part" t.fB
 jY:gi K "part" "Growth.part" g7 ["self","age","begin","end"] t.fB t.jS
 cF:iZ K "is_small_letter" i0 ["text"] t.fO t.fQ
 eK:iZ K "is_word_over" fY ["word","letters"] t.i5 t.jc
 gA:iZ K "check_rows" eZ ["rows"] t.kK t.kT
 lh:Na K "__init__" "Rules.__init__" kI ["self","ways","rows"] t.e6 t.kU
 iL:Meth K t.aN "pen" t.iP
 l3:gi K "pen" "Rules.pen" oE ["self"] t.iP t.lZ
 fk:Meth K t.aN "letters" t.dm
 iE:gi K "letters" "Rules.letters" ky ["self"] t.dm t.ip
 fM:Meth K t.aN "row_of" t.c6
 jl:gi K "row_of" "Rules.row_of" i3 ["self","letter"] t.c6 t.jd
 gS:Meth K t.aN "deed" t.gx
 lj:gi K "deed" "Rules.deed" nu ["self","letter"] t.gx t.kW
 gT:Meth K t.aN "word" t.gy
 ll:gi K "word" "Rules.word" nv ["self","letter"] t.gy t.kX
 fm:Meth K t.aN "word_of" t.a0
 sS:Binds K t.iq ["self","text","most"] [.int 8 t.ir]
 ux:Bf K "word_of" "Rules.word_of" aZ t.a0 t.iq
 Hx:W.keepIn K (.ref t.a0)=true
 Hy:Binds K t.iq ["self","text","most"] []
 sT:iZ K "_law_cell" Dq ["_law_script","_law_k"] t.zO t.zR
 pF:iZ K "_law_whole" zx ["_law_found"] t.uT t.u6
 jD:iZ K "_law_alphabet" qw ["_law_cell_here","_law_many"] t.nC t.nG
 sU:iZ K "_law_text" Dr ["_law_number","_law_alphabet_here","_law_most"] t.zP t.zS
 pG:iZ K "_law_shape" zy ["_law_script","_law_far"] t.uU t.u7
 yA:iZ K "_law_big" JQ ["_law_script","_law_k"] t.E4 t.E6
 yB:iZ K "_law_row" s_row ["_law_rows","_law_letter"] t.E5 t.E7
 mJ:iZ K "_law_turned" v9 ["_law_ways","_law_spot","_law_by"] t.rC t.rH
 pH:iZ K "_law_along" zA ["_law_ways","_law_spot"] t.uV t.u9
 pI:iZ K "_law_drawn" kJ ["_law_ways","_law_rows","_law_text_here"] t.uW t.va
 pJ:iZ K "_law_track" rj ["_law_found","_law_ways"] t.uX t.vb
 BS:iZ K "law" tT ["_law_script"] t.rE t.wC
 E8:mg "all"=none
 J1:mg "any"=none
 zW:mg "bool"=none
 oO:mg "dict"=none
 l4:mg "enumerate"=none
 E9:mg "int"=none
 cS:mg "isinstance"=none
 gD:mg "len"=none
 sV:mg "list"=none
 Fb:mg "max"=none
 Fc:mg "min"=none
 gB:mg "range"=none
 qC:mg "reversed"=none
 J2:mg "str"=none
 BU:mg "sum"=none
 rK:mg "tuple"=none
theorem RW {K:W.Frag}{h:Heap}{mg:Str->Option Value}(X:K.In h)(G:h.Ns mainGlobals mg){uP uQ i4 du dv fZ eW d5 bx di gj b0 fz rB gk gm gq dj cy dk cz cA gu d6 d7 gv uR hE nB jK hU uS zN pz d8 ck br bW oN gw fA b5 bL d9 bP bf cH cI fB fO i5 kK e6 iP dm c6 gx gy a0 zO uT nC zP uU E4 E5 rC uV uW uX rE aP cg aN au av aC kY cX:Addr}{uY uZ i6 kL kM nE lY i7 da hZ kN dP jL rF kO kP kQ ia ib kR i8 i9 kS u0 ig nF jP ij u5 zQ pA ja e9 dQ fP rG gz jQ dR fe jb dw cO ik il jS fQ jc kT kU lZ ip jd kW kX zR u6 nG zS u7 E6 E7 rH u9 va vb wC:FuncData}{jT jU jV ir y0 y1 y2 y3:Tok}{y4:Option Addr}{y5:Nat}{y6:Array (Option Value)}{J3 J4 J5 J6 J7:Tok}{y7:Option Addr}{y8:Nat}{y9:Array (Option Value)}{wO wQ:Tok}{y10 y11:Option Addr}{y12:Array (Option Value)}{y13 y14 y15 y16 ZE y18:Value}{mh:Addr}{y19:Option Addr}{y20:Value}{y21:Nat}{y22:Array (Option Value)}{y23 y24:Option Addr}{y25:Array (Option Value)}{y26 y27 y28 y29 ZF y31:Value}{mi:Addr}{y32:Option Addr}{y33:Value}{y34:Nat}{y35:Array (Option Value)}{y36 y37:Option Addr}{y38:Array (Option Value)}{y39 y40 y41 y42 ZG y44:Value}{mj:Addr}{y45:Option Addr}{y46:Value}{y47:Nat}{y48:Array (Option Value)}{y49 y50:Option Addr}{y51:Array (Option Value)}{y52 y53 y54 y55 ZH y57:Value}{kA:Addr}{y58:Option Addr}{y59:Value}{y60:Nat}{y61:Array (Option Value)}
   (jB:GX K "Quarter" aP)
   (nH:GX K "Sixth" cg)
   (dS:GX K "Rules" aN)
   (aO:GX K "Growth" au)
   (ay:GX K "Track" av)
   (b6:GX K "Drawing" aC)
   (qA:QM K aP)
   (wG:QM K cg)
   (wH:L2.Mk K aN e6)
   (sQ:L2.Mk K au fA)
   (wI:L2.Mk K av gk)
   (qB:L2.Mk K aC d8)
   (iu:W.findIn K (.ref aN) "drawer"=some none)
   (aQ:W.findIn K (.ref aN) "row_by_letter"=some none)
   (b8:W.findIn K (.ref au) "rules"=some none)
   (f6:W.findIn K (.ref au) "seed"=some none)
   (cD:W.findIn K (.ref au) "tallies"=some none)
   (cE:W.findIn K (.ref au) "lengths"=some none)
   (dn:W.findIn K (.ref av) "drawer"=some none)
   (bu:W.findIn K (.ref av) "deed_count"=some none)
   (bw:W.findIn K (.ref av) "last_way"=some none)
   (aR:W.findIn K (.ref av) "last_spot"=some none)
   (cj:W.findIn K (.ref av) "stroke_count"=some none)
   (cm:W.findIn K (.ref av) "reaches"=some none)
   (eh:W.findIn K (.ref av) "touches"=some none)
   (eu:W.findIn K (.ref av) "crosses"=some none)
   (bX:W.findIn K (.ref aC) "growth"=some none)
   (bY:W.findIn K (.ref aC) "tracks"=some none)
   (J8:W.nsIn K mainGlobals "DEEDS"=some (some (.ref kY)))
   (J9:K.lookup kY=some ⟨.type "tuple",y4,.seq #[.str "stroke" J3,.str "step" J4,.str "left" J5,.str "right" J6,.str "rest" J7] y5,y6⟩)
   (wR:W.nsIn K mainGlobals "GOING_DEEDS"=some (some (.ref cX)))
   (wU:K.lookup cX=some ⟨.type "tuple",y7,.seq #[.str "stroke" wO,.str "step" wQ] y8,y9⟩)
   (zX:W.nsIn K mainGlobals "MOST_ROWS"=some (some (.int 6 y0)))
   (uy:W.nsIn K mainGlobals "MOST_IN_WORD"=some (some (.int 8 y1)))
   (x5:W.nsIn K mainGlobals "LAST_ROUND"=some (some (.int 200 y2)))
   (uz:W.nsIn K mainGlobals "MOST_WRITTEN"=some (some (.int 400 y3)))
   (pB:iZ K "added" zu ["one","other"] uP uY)
   (pC:iZ K "cross" zv ["one","other"] uQ uZ)
   (eC:iZ K "turn_of_deed" lG ["deed"] i4 i6)
   (fG:Meth K aP "way_of" du)
   (gJ:Meth K cg "way_of" du)
   (kZ:gi K "way_of" "Pen.way_of" m5 ["self","number"] du kL)
   (fH:Meth K aP "turned" dv)
   (gK:Meth K cg "turned" dv)
   (k4:gi K "turned" "Pen.turned" m6 ["self","spot","by"] dv kM)
   (gL:Meth K aP "step" fZ)
   (je:Meth K cg "step" fZ)
   (nI:gi K "step" "Pen.step" qu ["self","way"] fZ nE)
   (f7:Meth K aP "after" eW)
   (iK:Meth K cg "after" eW)
   (l2:gi K "after" "Pen.after" oC ["self","deed","spot","way"] eW lY)
   (eE:Meth K aP "ways" d5)
   (jf:gi K "ways" "Quarter.ways" lH ["self"] d5 i7)
   (cn:Meth K aP "turned_left" bx)
   (dc:gi K "turned_left" "Quarter.turned_left" fF ["self","spot"] bx da)
   (dH:Meth K aP "along" di)
   (iw:gi K "along" "Quarter.along" km ["self","way","spot"] di hZ)
   (gM:Meth K cg "ways" gj)
   (k6:gi K "ways" "Sixth.ways" m7 ["self"] gj kN)
   (c7:Meth K cg "turned_left" b0)
   (dU:gi K "turned_left" "Sixth.turned_left" gH ["self","spot"] b0 dP)
   (f9:Meth K cg "along" fz)
   (jW:gi K "along" "Sixth.along" ma ["self","way","spot"] fz jL)
   (mH:iZ K "pen_of" v7 ["ways"] rB rF)
   (k7:Na K "__init__" "Track.__init__" m8 ["self","pen","deed_count","last_way","last_spot","stroke_count","reaches","touches","crosses"] gk kO)
   (gN:Meth K av "many" gm)
   (k8:gi K "many" "Track.many" m9 ["self"] gm kP)
   (gO:Meth K av "turn" gq)
   (k9:gi K "turn" "Track.turn" nh ["self"] gq kQ)
   (ff:Meth K av "strokes" dj)
   (iy:gi K "strokes" "Track.strokes" ko ["self"] dj ia)
   (dy:Meth K av "shift" cy)
   (y62:K.lookup cy=some ⟨y13,y10,.func (W.fnOf "shift" "Track.shift" (cf cu) (aA cu) (af cu) (.ref mh) y14 y15 y16 y11 ZE y18),y12⟩)
   (y63:K.lookup mh=some ⟨y20,y19,.seq #[.int 0 jT] y21,y22⟩)
   (y64:W.codeIn K ZE "Track.shift"=true)
   (y65:W.keepIn K (.ref cy)=true)
   (fg:Meth K av "by_ways" dk)
   (iz:gi K "by_ways" "Track.by_ways" fu ["self","numbers","first"] dk ib)
   (dA:Meth K av "reach" cz)
   (y66:K.lookup cz=some ⟨y26,y23,.func (W.fnOf "reach" "Track.reach" (cf cv) (aA cv) (af cv) (.ref mi) y27 y28 y29 y24 ZF y31),y25⟩)
   (y67:K.lookup mi=some ⟨y33,y32,.seq #[.int 0 jU] y34,y35⟩)
   (y68:W.codeIn K ZF "Track.reach"=true)
   (y69:W.keepIn K (.ref cz)=true)
   (dB:Meth K av "touch" cA)
   (y70:K.lookup cA=some ⟨y39,y36,.func (W.fnOf "touch" "Track.touch" (cf cw) (aA cw) (af cw) (.ref mj) y40 y41 y42 y37 ZG y44),y38⟩)
   (y71:K.lookup mj=some ⟨y46,y45,.seq #[.int 0 jV] y47,y48⟩)
   (y72:W.codeIn K ZG "Track.touch"=true)
   (y73:W.keepIn K (.ref cA)=true)
   (gQ:Meth K av "area" gu)
   (lb:gi K "area" "Track.area" ni ["self"] gu kR)
   (fJ:Meth K av "closed" d6)
   (jg:gi K "closed" "Track.closed" lI ["self"] d6 i8)
   (fK:Meth K av "joined" d7)
   (jh:gi K "joined" "Track.joined" lJ ["self","other"] d7 i9)
   (gR:Meth K av "told" gv)
   (lg:gi K "told" "Track.told" nr ["self"] gv kS)
   (pD:iZ K "still" zw ["pen"] uR u0)
   (dq:iZ K "track_of_deed" cG ["pen","deed"] hE ig)
   (jC:iZ K "track_of" qv ["pen","deeds"] nB nF)
   (fC:iZ K "check_round" md ["age","first","last"] jK jP)
   (dt:iZ K "check_written" kr ["many"] hU ij)
   (pE:iZ K "tally" rh ["rules","word"] uS u5)
   (sR:iZ K "once" v8 ["rules","word"] zN zQ)
   (lq:iZ K "written" sJ ["rules","word","age"] pz pA)
   (ji:Na K "__init__" "Drawing.__init__" fW ["self","growth"] d8 ja)
   (cP:Meth K aC "join_all" ck)
   (fh:gi K "join_all" "Drawing.join_all" iI ["self","tracks"] ck e9)
   (cJ:Meth K aC "deepen_to" br)
   (dW:gi K "deepen_to" "Drawing.deepen_to" bZ ["self","age"] br dQ)
   (c8:Meth K aC "stretch" bW)
   (fR:gi K "stretch" "Drawing.stretch" cC ["self","age","begin","end"] bW fP)
   (mI:iZ K "summed" j7 ["tallies","letters"] oN rG)
   (cZ:iZ K "waiting_pieces" d0 ["word","rounds"] gw gz)
   (jX:Na K "__init__" "Growth.__init__" dF ["self","rules","start"] fA jQ)
   (cQ:Meth K au "rules_told" b5)
   (dX:gi K "rules_told" "Growth.rules_told" gI ["self"] b5 dR)
   (c9:Meth K au "deepen_to" bL)
   (fi:gi K "deepen_to" "Growth.deepen_to" bK ["self","age"] bL fe)
   (fj:Meth K au "enter" d9)
   (jk:gi K "enter" "Growth.enter" lK ["self","age"] d9 jb)
   (cK:Meth K au "check_place" bP)
   (dC:gi K "check_place" "Growth.check_place" fX ["self","age","place"] bP dw)
   (cq:Meth K au "check_stretch" bf)
   (cR:gi K "check_stretch" "Growth.check_stretch" eY ["self","age","begin","end"] bf cO)
   (eG:Meth K au "length" cH)
   (iC:gi K "length" "Growth.length" dh ["self","age"] cH ik)
   (eI:Meth K au "pieces" cI)
   (iD:gi K "pieces" "Growth.pieces" g9 ["self","age","begin","end"] cI il)
   (fL:Meth K au "part" fB)
   (jY:gi K "part" "Growth.part" g7 ["self","age","begin","end"] fB jS)
   (cF:iZ K "is_small_letter" i0 ["text"] fO fQ)
   (eK:iZ K "is_word_over" fY ["word","letters"] i5 jc)
   (gA:iZ K "check_rows" eZ ["rows"] kK kT)
   (lh:Na K "__init__" "Rules.__init__" kI ["self","ways","rows"] e6 kU)
   (iL:Meth K aN "pen" iP)
   (l3:gi K "pen" "Rules.pen" oE ["self"] iP lZ)
   (fk:Meth K aN "letters" dm)
   (iE:gi K "letters" "Rules.letters" ky ["self"] dm ip)
   (fM:Meth K aN "row_of" c6)
   (jl:gi K "row_of" "Rules.row_of" i3 ["self","letter"] c6 jd)
   (gS:Meth K aN "deed" gx)
   (lj:gi K "deed" "Rules.deed" nu ["self","letter"] gx kW)
   (gT:Meth K aN "word" gy)
   (ll:gi K "word" "Rules.word" nv ["self","letter"] gy kX)
   (fm:Meth K aN "word_of" a0)
   (y74:K.lookup a0=some ⟨y52,y49,.func (W.fnOf "word_of" "Rules.word_of" (cf aZ) (aA aZ) (af aZ) (.ref kA) y53 y54 y55 y50 ZH y57),y51⟩)
   (y75:K.lookup kA=some ⟨y59,y58,.seq #[.int 8 ir] y60,y61⟩)
   (y76:W.codeIn K ZH "Rules.word_of"=true)
   (y77:W.keepIn K (.ref a0)=true)
   (sT:iZ K "_law_cell" Dq ["_law_script","_law_k"] zO zR)
   (pF:iZ K "_law_whole" zx ["_law_found"] uT u6)
   (jD:iZ K "_law_alphabet" qw ["_law_cell_here","_law_many"] nC nG)
   (sU:iZ K "_law_text" Dr ["_law_number","_law_alphabet_here","_law_most"] zP zS)
   (pG:iZ K "_law_shape" zy ["_law_script","_law_far"] uU u7)
   (yA:iZ K "_law_big" JQ ["_law_script","_law_k"] E4 E6)
   (yB:iZ K "_law_row" s_row ["_law_rows","_law_letter"] E5 E7)
   (mJ:iZ K "_law_turned" v9 ["_law_ways","_law_spot","_law_by"] rC rH)
   (pH:iZ K "_law_along" zA ["_law_ways","_law_spot"] uV u9)
   (pI:iZ K "_law_drawn" kJ ["_law_ways","_law_rows","_law_text_here"] uW va)
   (pJ:iZ K "_law_track" rj ["_law_found","_law_ways"] uX vb)
   (BS:iZ K "law" tT ["_law_script"] rE wC)
   (E8:W.nsIn K mainGlobals "all"=some none)
   (J1:W.nsIn K mainGlobals "any"=some none)
   (zW:W.nsIn K mainGlobals "bool"=some none)
   (oO:W.nsIn K mainGlobals "dict"=some none)
   (l4:W.nsIn K mainGlobals "enumerate"=some none)
   (E9:W.nsIn K mainGlobals "int"=some none)
   (cS:W.nsIn K mainGlobals "isinstance"=some none)
   (gD:W.nsIn K mainGlobals "len"=some none)
   (sV:W.nsIn K mainGlobals "list"=some none)
   (Fb:W.nsIn K mainGlobals "max"=some none)
   (Fc:W.nsIn K mainGlobals "min"=some none)
   (gB:W.nsIn K mainGlobals "range"=some none)
   (qC:W.nsIn K mainGlobals "reversed"=some none)
   (J2:W.nsIn K mainGlobals "str"=some none)
   (BU:W.nsIn K mainGlobals "sum"=some none)
   (rK:W.nsIn K mainGlobals "tuple"=some none)
   : ∃ t,Txt K mg t/\t.rE=rE:=
 ⟨⟨uP,uQ,i4,du,dv,fZ,eW,d5,bx,di,gj,b0,fz,rB,gk,gm,gq,dj,cy,dk,cz,cA,gu,d6,d7,gv,uR,hE,nB,jK,hU,uS,zN,pz,d8,ck,br,bW,oN,gw,fA,b5,bL,d9,bP,bf,cH,cI,fB,fO,i5,kK,e6,iP,dm,c6,gx,gy,a0,zO,uT,nC,zP,uU,E4,E5,rC,uV,uW,uX,rE,uY,uZ,i6,kL,kM,nE,lY,i7,da,hZ,kN,dP,jL,rF,kO,kP,kQ,ia,(W.fnOf "shift" "Track.shift" (cf cu) (aA cu) (af cu) (.ref mh) y14 y15 y16 y11 ZE y18),ib,(W.fnOf "reach" "Track.reach" (cf cv) (aA cv) (af cv) (.ref mi) y27 y28 y29 y24 ZF y31),(W.fnOf "touch" "Track.touch" (cf cw) (aA cw) (af cw) (.ref mj) y40 y41 y42 y37 ZG y44),kR,i8,i9,kS,u0,ig,nF,jP,ij,u5,zQ,pA,ja,e9,dQ,fP,rG,gz,jQ,dR,fe,jb,dw,cO,ik,il,jS,fQ,jc,kT,kU,lZ,ip,jd,kW,kX,(W.fnOf "word_of" "Rules.word_of" (cf aZ) (aA aZ) (af aZ) (.ref kA) y53 y54 y55 y50 ZH y57),zR,u6,nG,zS,u7,E6,E7,rH,u9,va,vb,wC,jT,jU,jV,ir,aP,cg,aN,au,av,aC,kY,cX,y0,y1,y2,y3,K⟩,⟨rfl,
   W.mg_of X G,
   W.mg_none_of X G,
   jB,
   nH,
   dS,
   aO,
   ay,
   b6,
   qA,
   wG,
   wH,
   sQ,
   wI,
   qB,
   iu,
   aQ,
   b8,
   f6,
   cD,
   cE,
   dn,
   bu,
   bw,
   aR,
   cj,
   cm,
   eh,
   eu,
   bX,
   bY,
   W.mg_of X G J8,
   fun H=>.tup (vs:=[.str "stroke",.str "step",.str "left",.str "right",.str "rest"]) (.inr ⟨_,_,_,J9,rfl,rfl,aaJ rfl,.cons ⟨_,rfl⟩ (.cons ⟨_,rfl⟩ (.cons ⟨_,rfl⟩ (.cons ⟨_,rfl⟩ (.cons ⟨_,rfl⟩ (.nil)))))⟩) (.cons (.str _) (.cons (.str _) (.cons (.str _) (.cons (.str _) (.cons (.str _) (.nil)))))),
   W.mg_of X G wR,
   fun H=>.tup (vs:=[.str "stroke",.str "step"]) (.inr ⟨_,_,_,wU,rfl,rfl,aaJ rfl,.cons ⟨_,rfl⟩ (.cons ⟨_,rfl⟩ (.nil))⟩) (.cons (.str _) (.cons (.str _) (.nil))),
   W.mg_of X G zX,
   W.mg_of X G uy,
   W.mg_of X G x5,
   W.mg_of X G uz,
   pB,
   pC,
   eC,
   fG,
   gJ,
   kZ,
   fH,
   gK,
   k4,
   gL,
   je,
   nI,
   f7,
   iK,
   l2,
   eE,
   jf,
   cn,
   dc,
   dH,
   iw,
   gM,
   k6,
   c7,
   dU,
   f9,
   jW,
   mH,
   k7,
   gN,
   k8,
   gO,
   k9,
   ff,
   iy,
   dy,
   fun s us X hl=>by obtain⟨z,rfl⟩:=C0 hl;exact BindsTo.of_defaults rfl (X _ _ y63) rfl rfl rfl,
   qX (st:=cu) y62 y64,
   y65,
   fun s us X hl=>by obtain⟨z,y,rfl⟩:=zi hl;exact BindsTo.of_defaults rfl (X _ _ y63) rfl rfl rfl,
   fg,
   iz,
   dA,
   fun s us X hl=>by obtain⟨z,rfl⟩:=C0 hl;exact BindsTo.of_defaults rfl (X _ _ y67) rfl rfl rfl,
   qX (st:=cv) y66 y68,
   y69,
   fun s us X hl=>by obtain⟨z,y,rfl⟩:=zi hl;exact BindsTo.of_defaults rfl (X _ _ y67) rfl rfl rfl,
   dB,
   fun s us X hl=>by obtain⟨z,rfl⟩:=C0 hl;exact BindsTo.of_defaults rfl (X _ _ y71) rfl rfl rfl,
   qX (st:=cw) y70 y72,
   y73,
   fun s us X hl=>by obtain⟨z,y,rfl⟩:=zi hl;exact BindsTo.of_defaults rfl (X _ _ y71) rfl rfl rfl,
   gQ,
   lb,
   fJ,
   jg,
   fK,
   jh,
   gR,
   lg,
   pD,
   dq,
   jC,
   fC,
   dt,
   pE,
   sR,
   lq,
   ji,
   cP,
   fh,
   cJ,
   dW,
   c8,
   fR,
   mI,
   cZ,
   jX,
   cQ,
   dX,
   c9,
   fi,
   fj,
   jk,
   cK,
   dC,
   cq,
   cR,
   eG,
   iC,
   eI,
   iD,
   fL,
   jY,
   cF,
   eK,
   gA,
   lh,
   iL,
   l3,
   fk,
   iE,
   fM,
   jl,
   gS,
   lj,
   gT,
   ll,
   fm,
   fun s us X hl=>by obtain⟨z,y,rfl⟩:=Q8 hl;exact BindsTo.of_defaults rfl (X _ _ y75) rfl rfl rfl,
   qX (st:=aZ) y74 y76,
   y77,
   fun s us X hl=>match us,hl with | [_,_,_],_=>BindsTo.of_defaults rfl (X _ _ y75) rfl rfl rfl,
   sT,
   pF,
   jD,
   sU,
   pG,
   yA,
   yB,
   mJ,
   pH,
   pI,
   pJ,
   BS,
   W.mg_none_of X G E8,
   W.mg_none_of X G J1,
   W.mg_none_of X G zW,
   W.mg_none_of X G oO,
   W.mg_none_of X G l4,
   W.mg_none_of X G E9,
   W.mg_none_of X G cS,
   W.mg_none_of X G gD,
   W.mg_none_of X G sV,
   W.mg_none_of X G Fb,
   W.mg_none_of X G Fc,
   W.mg_none_of X G gB,
   W.mg_none_of X G qC,
   W.mg_none_of X G J2,
   W.mg_none_of X G BU,
   W.mg_none_of X G rK⟩,rfl⟩
theorem RX {K:W.Frag}{mg:Str->Option Value}{t:dN}(T:Txt K mg t)(s:Shared)(u:Value):BindsTo s t.wC ⟨[u],[]⟩ [("_law_script",u)]:=by
 obtain⟨oc,od,kV,doc,pm,an,bj,ct,yf,e,lk,ml⟩:=T.BS.F.ex
 rw[e];exact .of_eq rfl
abbrev CX:r0:=CX0
noncomputable def sg (c:Nat):Str:=⟨#[c]⟩
noncomputable def tx (w:List Nat):Str:=⟨w.toArray⟩
structure Row where
 c:Nat
 d:Str
 w:List Nat
noncomputable def mK:List Str:=["stroke","step","left","right","rest"]
noncomputable def nV (r:Row):Dt:=.tup [.str (sg r.c),.str r.d,.str (tx r.w)]
def small (c:Nat):Prop:=97<=c/\c<=122
structure bM (rows:List Row):Prop where
 pos:0 < rows.length
 le:rows.length<=6
 nd:(rows.map (·.c)).Nodup
 sm:∀ r∈rows,small r.c
 dd:∀ r∈rows,r.d∈mK
 wp:∀ r∈rows,0 < r.w.length/\r.w.length<=8
 wo:∀ r∈rows,∀ x∈r.w,x∈rows.map (·.c)
noncomputable def sW (rows:List Row):List (Key×Dt):=rows.map fun r=>(.inr (sg r.c),nV r)
abbrev Rl:=List Dt->Res->Prop
noncomputable def wy (six:Bool):Int:=if six then 6 else 4
noncomputable def dN.pc (t:dN)(six:Bool):Addr:=if six then t.cg else t.aP
noncomputable def dN.x6 (t:dN)(six:Bool)(rows:List Row):Dt:=.obj t.aN [("drawer",.iQ (.obj (t.pc six) [])),("row_by_letter",.eP (sW rows))]
theorem qD {a b:Nat}(h:sg a=sg b):a=b:=by
 have:=congrArg (fun s:Str=>s.cps.toList) h
 simpa [sg] using this
theorem Ka {c:Nat}{L:List Nat}:sg c∈L.map sg ↔ c∈L:=by
 constructor
 . intro h
   obtain⟨x,hx,e⟩:=aaM.mp h
   rw[<- qD e];exact hx
 . exact fun h=>aaM.mpr ⟨c,h,rfl⟩
theorem ZI {c:Nat}(h:97<=c):Q4 "a" (sg c)=true:=by
 have e:("a":Str).cps.toList=[97]:=rfl
 unfold Q4
 rw[e]
 show(!decide ([c] < [97]))=true
 have:¬ ([c] < [97]):=by
   intro z
   rcases List.cons_lt_cons_iff.mp z with z | ⟨_,z⟩
   . omega
   . exact absurd z (by simp)
 simp[this]
theorem ZJ {c:Nat}(h:c<=122):Q4 (sg c) "z"=true:=by
 have e:("z":Str).cps.toList=[122]:=rfl
 unfold Q4
 rw[e]
 show(!decide ([122] < [c]))=true
 have:¬ ([122] < [c]):=by
   intro z
   rcases List.cons_lt_cons_iff.mp z with z | ⟨_,z⟩
   . omega
   . exact absurd z (by simp)
 simp[this]
theorem wV (w:List Nat):Sg.signs (tx w)=(w.map sg).map Dt.str:=by
 unfold Sg.signs tx
 rw[aam];rfl
theorem gb (w:List Nat):(tx w).length=w.length:=by show w.toArray.size=w.length;simp
theorem fw {w:List Nat}(h:∀ x∈w,x < 128):kj (tx w)=true:=by
 unfold kj tx
 rw[Array.all_eq_true_iff_forall_mem]
 intro x hx
 exact decide_eq_true (h x (by simpa using hx))
theorem sX:∀ {rows:List Row},(rows.map (·.c)).Nodup->∀ {r:Row},r∈rows->mx (sW rows) (.inr (sg r.c))=some (nV r)
 | [],_,r,h=>by cases h
 | q::rows,nd,r,h=>by
   rw[aaq,abr] at nd
   rcases aaE.mp h with rfl | h
   . exact q8 (p:=(.inr (sg r.c),nV r)) rfl
   . have ne:¬ (Sum.inr (sg q.c):Key)=.inr (sg r.c):=fun z=>nd.1 (by
       rw[qD (Sum.inr.inj z)]
       exact aaM.mpr ⟨r,h,rfl⟩)
     show mx ((.inr (sg q.c),nV q)::sW rows) _=_
     rw[ow (p:=(.inr (sg q.c),nV q)) ne]
     exact sX nd.2 h
theorem sY {n:Nat}(h:n<=2000):n<=sizeLine:=aav h (by decide)
def Ni:Rl:=fun ds r=>∃ c,ds=[.str (sg c)]/\small c/\r=.ret (.bl true)
def RY:Rl:=fun ds r=>∃ (w L:List Nat),ds=[.str (tx w),.lst ((L.map sg).map .str)]/\(0 < w.length/\w.length<=8)/\(∀ x∈w,x∈L)/\(∀ x∈L,small x)/\r=.ret (.bl true)
def Nj:Rl:=fun ds r=>∃ rows,ds=[.lst (rows.map nV)]/\bM rows/\r=.ret .cW
noncomputable def RZ:Stmt->Scope
 | .Return (some (.BoolOp _ [_,.Call _ [.ListComp _ _ sc _] _ _] _)) _=>sc
 | _=>af (.Pass ⟨0,0,0,0⟩)
noncomputable abbrev Nk:Scope:=RZ ((aA fY).getD 0 (.Pass ⟨0,0,0,0⟩))
theorem Fd:eU Nk (af fY) oM ["sign","letters"] ["sign"] [1]=true:=by decide +kernel
noncomputable abbrev G1:Scope:=OJ ((aA eZ).getD 2 (.Pass ⟨0,0,0,0⟩))
theorem yC:eU G1 (af eZ) nA ["row"] ["row"] []=true:=by decide +kernel
noncomputable abbrev Nl:Scope:=OJ ((aA eZ).getD 3 (.Pass ⟨0,0,0,0⟩))
theorem Fe:eU Nl (af eZ) nA ["first"] ["first"] []=true:=by decide +kernel
theorem cU {X:Cx}{G:Gr}{dl:List Slot}{zs zs':List Dt}{wi:TI}(h:qm X G dl zs wi)(e:zs'=zs):qm X G dl zs' wi:=by subst e;exact h
variable {P:Program}{w:World}{K:W.Frag}{mg:Str->Option Value}{base:Heap}{t:dN}
theorem Kb (T:Txt K mg t):GF P w K mg base CX 1 "is_small_letter" 1 Ni:=by
 refine⟨_,_,_,iH T.cF.F qz rfl fun bj A outer s H E G ds r hr hl hR=>?_,(T.g T.cF.a),T.cF.F.kp,T.cF.b⟩
 obtain⟨c,rfl,⟨h1,h2⟩,rfl⟩:=hR
 exact⟨_,.rt _,ao (aF (vH (u:=true) (v:=true) (aM (QS (uG T.gD (aa 0 rfl) (sY (n:=1) (by decide))) aj) rfl) fun _=>(qS (aM (Jf bI (aa 0 rfl) bI) (by rw[ZI h1,ZJ h2];rfl)))))⟩
theorem Nm (T:Txt K mg t):GF P w K mg base CX 1 "is_word_over" 2 RY:=by
 refine⟨_,_,_,iH T.eK.F ur rfl fun bj A outer s H E G ds r hr hl hR=>?_,(T.g T.eK.a),T.eK.F.kp,T.eK.b⟩
 obtain⟨wd,L,rfl,⟨h0,h8⟩,hw,hL,rfl⟩:=hR
 have Q7:kj (tx wd)=true:=fw fun x hx=>by have:=hL x (hw x hx);unfold small at this;omega
 have hlen:=gb wd
 have e1:(decide ((1:Int)<=((tx wd).length:Nat)) && decide (((tx wd).length:Nat)<=(8:Int)))=true:=by
   rw[hlen,decide_eq_true (by omega),decide_eq_true (by omega)];rfl
 have e2:(((wd.filter fun _=>true).map fun x=>Dt.bl (decide (sg x∈L.map sg))))=((aak wd.length true).map Dt.bl):=by
   rw[aas.mpr (fun _ _=>rfl)]
   refine List.ext_getElem (by simp) fun i h1 h2=>?_
   simp only[aaO,List.getElem_replicate]
   have hi:i < wd.length:=by simpa using h1
   rw[decide_eq_true (Ka.mpr (hw _ (aaN hi)))]
 have e3:(aak wd.length true).all id=true:=by simp
 have es:wd.map (fun x=>Dt.str (sg x))=Sg.signs (tx wd):=by rw[wV,aam];rfl
 refine⟨_,.rt _,ao (aF (vH (u:=true) (v:=true) (aM (Jg aj (uG T.gD (aa 0 rfl) (sY (by omega))) (jH (w:=.int 8) T.wJ ⟨_,rfl⟩ fun _=>.int 8)) (congrArg Dt.bl e1)) fun _=>(qS (aM (Ji (bs:=aak wd.length true) T.E8 rfl (aM (lz (de wd (fun x=>Dt.str (sg x)) (fun x=>.bl (decide (sg x∈L.map sg))) (fun x=>[.val (.str (sg x))]) (fun _=>true) rfl (aW Fd) (fU (aa 0 rfl)) (bg (aW Fd) rfl) (cU (cB Q7) es) (fun a _=>bC) (.nil fun _ _=>rfl)
   (fun a ha _ C fp s' H' G'=>Q5 (aa 0 rfl) (aa 1 rfl)) (sY (by omega)))) (congrArg Dt.lst e2))) (congrArg Dt.bl e3)))))⟩
theorem Dw {k:Nat}{ds:List Dt}{K:W.Frag}{H:Hp}{vs:List V}(r:bB K H vs ds)(hk:k<=ds.length):bB K H (Gb vs none (some (k:Int))) (ds.take k):=by
 unfold Gb
 rw[HT.HW,HT.Md,List.drop_zero,r.length,Nat.min_eq_left hk,Nat.sub_zero]
 exact r.take k
theorem Nn {X:Cx}{G:Gr}{dl:List Slot}{a b:Expr}{ds:List Dt}{k:Nat}{pos p2:Pos}(ha:EE X G dl a (.lst ds))(hb:EE X G dl b (.int (k:Int)))(hk:k<=ds.length):EO X G dl (.Subscript a (.Slice none (some b) none p2) pos) (.lst (ds.take k)):=
 gc (AU Mf ha Ec (Ed hb)) fun st H Q zq=>Bn zq fun Hf zq=>have S:=zq.1;have kk:=zq.2;⟨Hf,S,fun v Hf1 H1 g1 r1=>by
   cases r1 with
   | @lst q vs _ hq rp=>
     refine⟨Hf1,S.grow g1,fun z bV H2 g2 r2=>?_⟩
     cases r2
     have g:=g1.trans g2
     refine⟨(k:Int),rfl,q,vs,rfl,.of (g2.big _ _ (g1.sub _ _ hq)),fun p hp=>kk p bV _ (g.trans (.eX g.sub hp)) (g.big.free hp) (g.sub.free hp) ⟨_,ak,Dw (rp.mono g2.bF) hk⟩⟩⟩
theorem df {L:List Dt}{L':List Dt}(e:L=L'){X:Cx}{G:Gr}{dl:List Slot}{z:Expr}(h:EO X G dl z (.lst L)):EE X G dl z (.lst L'):=by subst e;exact lz h
theorem Kc (T:Txt K mg t):GF P w K mg base CX 2 "check_rows" 1 Nj:=by
 refine⟨_,_,_,iH T.gA.F p8 rfl fun bj A outer s H E G ds r hr hl hR=>?_,(T.g T.gA.a),T.gA.F.kp,T.gA.b⟩
 obtain⟨rows,rfl,ok,rfl⟩:=hR
 have Ff:=Kb (P:=P) (w:=w) (base:=base) T
 have R0:=Nm (P:=P) (w:=w) (base:=base) T
 have nd:=p8.nd
 have hp:=ok.pos
 have hl6:=ok.le
 let cs:=rows.map (·.c)
 let lt:List Dt:=(cs.map sg).map Dt.str
 have e0:(decide ((((rows.map nV).length:Nat):Int)=0))=false:=by rw[k5];exact decide_eq_false (by omega)
 have e1:(decide ((6:Int) < (((rows.map nV).length:Nat):Int)))=false:=by rw[k5];exact decide_eq_false (by omega)
 have ef:((rows.filter fun _=>true).map fun r=>Dt.str (sg r.c))=lt:=by
   rw[aas.mpr (fun _ _=>rfl)]
   show _=((rows.map (·.c)).map sg).map Dt.str
   rw[aam,aam];rfl
 have ez:(rows.map fun r=>Dt.str (sg r.c))=lt:=by
   show _=((rows.map (·.c)).map sg).map Dt.str
   rw[aam,aam];rfl
 have hsz:rows.length<=sizeLine:=sY (by omega)
 let S:Nat->List Slot:=fun _=>[.val (.lst (rows.map nV)),.val (.lst lt),.val (.lst lt),.aJ,.aJ,.aJ]
 let xs:=rows.map nV
 have Np:xs.length=rows.length:=k5 ..
 refine⟨.nx (S rows.length),.nx _,ag (aS (u:=false) (bO (l9 (yZ T.gD (aa 0 rfl)) aj) e0) (fun h=>nomatch h) (fun h=>bJ))
   (ag (aS (u:=false) (bO (Ba (yZ T.gD (aa 0 rfl)) (jH (w:=.int 6) T.BR ⟨_,rfl⟩ fun _=>.int 6)) e1) (fun h=>nomatch h) (fun h=>bJ))
   (ag (IZ 1 rows nV (fun r=>Dt.str (sg r.c)) (fun r=>[.val (nV r)]) (fun _=>true) rfl nd (aW yC) (fN (aa 0 rfl)) (bg (aW yC) rfl) dZ (fun a _=>bC) (.nil fun _ _=>rfl) (fun a ha _ C fp s' H' G'=>aB (aa 0 rfl) aj rfl) hsz)
   ?r1))⟩
 rw[ef]
 refine qk 1 (w:=.lst lt) (ag (IZ 2 rows (fun r=>Dt.str (sg r.c)) (fun r=>Dt.str (sg r.c)) (fun r=>[.val (.str (sg r.c))]) (fun _=>true) rfl nd (aW Fe) (fN (aa 1 rfl)) (bg (aW Fe) rfl) (cU dZ ez) (fun a _=>bC)
   (.one fun a ha C fp s' H' G'=>qQ (aX Ff ax hr (ae (aa 0 rfl) ai) ⟨a.c,rfl,ok.sm a ha,rfl⟩)) (fun a ha _ C fp s' H' G'=>aa 0 rfl) hsz) ?r2)
 rw[ef]
 refine qk 2 (w:=.lst lt) (ao (mX (o:=.nx (S rows.length)) (m:=rows.length) (aaj xs.length) (fun(j:Nat)=>.tup [.int j,xs.getD j .cW]) (fun(j:Nat) dl=>(dl.set 3 (.val (.int j))).set 4 (.val (xs.getD j .cW))) S rfl PassesOwn.leaving
   (MJ rfl T.l4 (ae (aa 0 rfl) ai)) (GA (xs:=xs)) (vq rfl (fo (bT nd rfl (.inl rfl)) (fo (bT nd rfl (.inl rfl)) qJ))) (fun a _=>ED) (Le.of ⟨rfl,rfl,rfl,trivial⟩) (by rw[aaH,Np];exact aae _) (fun j a hj ha=>?l) (by rw[aaH,Np];exact .all rfl)))
 rw[aaL (by omega)] at ha
 cases ha
 have ex:xs.getD j .cW=nV rows[j]:=by
   show(rows.map nV).getD j .cW=_
   rw[WW,YL,k3 hj];rfl
 have hm:=aaN hj
 have TH:cs.length=rows.length:=k5 ..
 have eT:lt.take j=((cs.take j).map sg).map Dt.str:=by
   show((cs.map sg).map Dt.str).take j=_
   rw[<- List.map_take,<- List.map_take]
 have dg:lt.length=rows.length:=by show((cs.map sg).map Dt.str).length=_;rw[k5,k5,TH]
 have ZK:sg rows[j].c ∉ (cs.take j).map sg:=by
   intro z
   have z:=Ka.mp z
   obtain⟨i,hi,e⟩:=aaT.mp z
   rw[aax] at hi
   rw[abt] at e
   have h:=aaW.mp ok.nd i j (by rw[k5];omega) (by rw[k5];exact hj) (by omega)
   exact h (e.trans (aaO (f:=Row.c) (l:=rows) (i:=j) (h:=by rw[k5];exact hj)).symm)
 have en:(!decide (sg rows[j].c∈(cs.take j).map sg))=true:=by rw[decide_eq_false ZK];rfl
 have v4:∀ {X:Cx} {G:Gr} {dl:List Slot} {e:Expr},EE X G dl e (xs.getD j .cW)->EE X G dl e (.tup [.str (sg rows[j].c),.str rows[j].d,.str (tx rows[j].w)]):=fun h=>by rw[ex] at h;exact h
 refine .nx (ag (ar 5 nd (vH (u:=true) (v:=true) (aX Ff ax hr (ae (aB (v4 (aa 4 rfl)) aj rfl) ai) ⟨_,rfl,ok.sm _ hm,rfl⟩) fun _=>(qS (aM (MK (xs:=(cs.take j).map sg) (aB (v4 (aa 4 rfl)) aj rfl) (df eT (Nn (aa 1 rfl) (aa 3 rfl) (by rw[dg];exact aa5 hj)))) (congrArg Dt.bl en)))))
   (ao (aS (u:=false) (si (u:=true) (vG (vF (u:=true) (v:=true) (qQ (aa 5 rfl)) fun _=>(vF (u:=true) (v:=true) (bO (C5 (xs:=mK) (aB (v4 (aa 4 rfl)) aj rfl) (jH (w:=.ref t.kY) T.zU rfl T.zV)) (decide_eq_true (ok.dd _ hm))) fun _=>(yY (qQ (aX R0 ax hr (ae (aB (v4 (aa 4 rfl)) aj rfl) (ae (aa 2 rfl) ai)) ⟨rows[j].w,cs,rfl,ok.wp _ hm,ok.wo _ hm,fun x hx=>?_,rfl⟩))))))) (fun h=>nomatch h) (fun h=>bJ)))) (Le.of ⟨rfl,rfl,rfl,trivial⟩)
 obtain⟨r,hr',rfl⟩:=aaM.mp hx
 exact ok.sm r hr'
def Kd (t:dN):Rl:=fun ds r=>∃ six,ds=[.int (wy six)]/\r=.ret (.iQ (.obj (t.pc six) []))
def Nq (t:dN):Rl:=fun ds r=>∃ six rows,ds=[.int (wy six),.lst (rows.map nV)]/\bM rows/\r=.own (.obj t.aN [("drawer",.iQ (.obj (t.pc six) [])),("row_by_letter",.eP (sW rows))])
noncomputable def rr (r:Row):Str×List Dt:=(sg r.c,[.str r.d,.str (tx r.w)])
theorem Fg (rows:List Row):rows.map nV=(rows.map rr).map vR:=by rw[aam];rfl
theorem R1 (rows:List Row):sW rows=pY (rows.map rr):=by unfold pY sW;rw[aam];rfl
theorem VQ {rows:List Row}(nd:(rows.map (·.c)).Nodup):((rows.map rr).map (·.1)).Nodup:=by
 have e:(rows.map rr).map (·.1)=(rows.map (·.c)).map sg:=by rw[aam,aam];rfl
 rw[e]
 exact List.Pairwise.map sg (fun a b h z=>h (qD z)) nd
theorem yD (T:Txt K mg t):GF P w K mg base CX 1 "pen_of" 1 (Kd t):=by
 refine⟨_,_,_,iH T.mH.F GY rfl fun bj A outer s H E G ds r hr hl hR=>?_,(T.g T.mH.a),T.mH.F.kp,T.mH.b⟩
 obtain⟨six,rfl,rfl⟩:=hR
 cases six with
 | false=>exact⟨_,.rt _,oY (aS (l9 (aa 0 rfl) aj) (fun h=>ao (aF (BD T.qA (T.g T.jB.a)))) (fun h=>absurd h (by decide)))⟩
 | true=>exact⟨_,.rt _,ag (aS (l9 (aa 0 rfl) aj) (fun h=>absurd h (by decide)) (fun h=>bJ)) (oY (aS (l9 (aa 0 rfl) aj) (fun h=>ao (aF (BD T.wG (T.g T.nH.a)))) (fun h=>absurd h (by decide))))⟩
theorem Ke (T:Txt K mg t):Tz P w K mg base CX 3 "Rules" t.aN 3 (Nq t):=by
 refine⟨_,_,_,W5 T.lh.F p9 rfl fun bj A outer s H E G z ds r hr hl hR=>?_,T.wH,(T.g T.dS.a),T.lh.b⟩
 obtain⟨six,rows,rfl,ok,rfl⟩:=hR
 have Kf:=yD (P:=P) (w:=w) (base:=base) T
 have Nr:=Kc (P:=P) (w:=w) (base:=base) T
 have nd:=p9.nd
 have hu:(A.deeper (envOfC "Rules.__init__" (af kI) s.heap.objs.size t.e6 bj)).units+1 < cLine:=by have:=hr.units;omega
 rw[R1,Fg]
 refine⟨_,.nx ?fin,ag (ar 3 nd (aX Kf ax hr (ae (aa 1 rfl) ai) ⟨six,rfl,rfl⟩))
   (ag (mV (aX Nr ax hr (ae (aa 2 rfl) ai) ⟨rows,by rw[Fg],ok,rfl⟩))
   (ag (ki (aa 3 rfl) T.dS.cl T.iu)
   (Jm 2 4 (C:=t.aN) (rows:=rows.map rr) (dlu:=[.aJ,.val (.int (wy six)),.val (.lst ((rows.map rr).map vR)),.val (.iQ (.obj (t.pc six) [])),.aJ]) hu nd rfl PassesOwn.leaving T.dS.cl T.aQ rfl rfl rfl rfl (by decide) (by decide) rfl (VQ ok.nd) (by rw[k5];exact aaK ok.le (by decide))
     (fun r=>aB (aa 4 rfl) aj (lU (j:=0) rfl)) (fun r=>MP T.rK (aa 4 rfl)))))⟩
 rfl
open PySem.Builtin.Str in
theorem yE (x:Str){a b:Nat}(hab:a<=b)(hb:b<=x.length){l u:Option Int}(h:strSliceIndices l u 1 x.length=strSliceIndices (some (a:Int)) (some (b:Int)) 1 x.length):Txt.slice x l u=⟨((x.cps.toList.drop a).take (b - a)).toArray⟩:=by
 unfold Txt.slice
 rw[h,PySem.StrLaws.sliced_plain x hab hb]
 split
 . rename_i q
   rw[PySem.StrLaws.strSliceIndices_plain hab hb,k5,aaH] at q
   have q:b - a=x.length:=by simpa using q
   have ea:a=0:=by omega
   have eb:b=x.length:=by omega
   subst ea eb
   rw[List.drop_zero,Nat.sub_zero]
   have:x.cps.toList.take x.length=x.cps.toList:=abj (by simp[Str.length])
   rw[this]
 . rfl
open PySem.Builtin.Str in
theorem Kg (L:List Nat){k:Nat}(h:k<=L.length):Txt.slice (tx L) none (some (k:Int))=tx (L.take k):=by
 rw[yE (tx L) (a:=0) (b:=k) (aa1 _) (by rw[gb];exact h)]
 . show(⟨(((L.toArray.toList).drop 0).take (k - 0)).toArray⟩:Str)=_
   simp[tx]
 . simp[strSliceIndices]
   have e:max (0:Int) (min 0 ((tx L).length:Int))=0:=by omega
   rw[e]
open PySem.Builtin.Str in
theorem Dx (L:List Nat){k:Nat}(h:k<=L.length):Txt.slice (tx L) (some (k:Int)) none=tx (L.drop k):=by
 rw[yE (tx L) (a:=k) (b:=(tx L).length) (by rw[gb];exact h) (aae _)]
 . show(⟨(((L.toArray.toList).drop k).take ((tx L).length - k)).toArray⟩:Str)=_
   rw[gb,abT,abj (by rw[aa0];exact aae _)]
   rfl
 . simp[strSliceIndices]
   have e:max (0:Int) (min (if ((tx L).length:Int) < 0 then ((tx L).length:Int)+(tx L).length else (tx L).length) ((tx L).length:Int))=(tx L).length:=by
     rw[if_neg (by omega)];omega
   rw[e]
theorem R3 (a b:List Nat):tx a ++ tx b=tx (a ++ b):=by
 show(⟨a.toArray ++ b.toArray⟩:Str)=⟨(a ++ b).toArray⟩
 simp
theorem VR (L:List Nat){k:Nat}(h:k < L.length):oU (tx L).cps.toList (k:Int)=some (L.getD k 0):=by
 show oU L.toArray.toList (k:Int)=_
 rw[abT]
 refine lU ?_
 rw[WW,k3 h];rfl
section
variable {X:Cx}{G:Gr}{dl:List Slot}{a b:Expr}{L M:List Nat}{k:Nat}{pos p p2:Pos}
theorem zY (ha:EE X G dl a (.str (tx L)))(hb:EE X G dl b (.str (tx M)))(h:L.length+M.length<=2000):EE X G dl (.BinOp a .Add b pos) (.str (tx (L ++ M))):=
 aM (QG ha hb (by rw[gb,gb];exact sY h)) (by rw[R3])
theorem zZ (ha:EE X G dl a (.str (tx L)))(hb:EE X G dl b (.int (k:Int)))(h:k < L.length)(hl:L.length<=2000)(hs:kG b:=by intro _ _;rfl):EE X G dl (.Subscript a b pos) (.str (tx [L.getD k 0])):=
 QJ ha hb (VR L h) (by rw[gb];exact sY hl) hs
theorem Fh (ha:EE X G dl a (.str (tx L)))(hb:EE X G dl b (.int (k:Int)))(h:k<=L.length)(hl:L.length<=2000):EE X G dl (.Subscript a (.Slice none (some b) none p2) pos) (.str (tx (L.take k))):=
 aM (Jc ha Jb (EF hb) (by rw[gb];exact sY hl)) (by rw[Kg L h])
theorem yF (ha:EE X G dl a (.str (tx L)))(hb:EE X G dl b (.int (k:Int)))(h:k<=L.length)(hl:L.length<=2000):EE X G dl (.Subscript a (.Slice (some b) none none p2) pos) (.str (tx (L.drop k))):=
 aM (Jc ha (EF hb) Jb (by rw[gb];exact sY hl)) (by rw[Dx L h])
theorem lM (hm:X.mg "len"=none)(ha:EE X G dl a (.str (tx L)))(hl:L.length<=2000)(hg:Gl X "len":=by rfl)(he:starEach [a] X.env=[(false,eval a X.env)]:=by rfl):EE X G dl (.Call (.Name "len" p) [a] [] pos) (.int (L.length:Nat)):=
 aM (uG hm ha (by rw[gb];exact sY hl) hg he) (by rw[gb])
end
theorem Fi:∀ (Ls:List (List Nat)) (a:List Nat),(Ls.map tx).foldl (fun acc p=>acc ++ (("":Str).cps) ++ p.cps) a.toArray=(a ++ Ls.flatten).toArray
 | [],a=>by simp
 | l::r,a=>by
   have e:a.toArray ++ ("":Str).cps ++ (tx l).cps=(a ++ l).toArray:=by
     show a.toArray ++ (#[]:Array Nat) ++ l.toArray=_
     simp
   rw[aaq,List.foldl_cons,e,Fi r,aaU,List.append_assoc]
theorem Nt (Ls:List (List Nat)):Txt.join "" (Ls.map tx)=tx Ls.flatten:=by
 cases Ls with
 | nil=>rfl
 | cons l r=>
   show(⟨(r.map tx).foldl (fun acc p=>acc ++ (("":Str).cps) ++ p.cps) l.toArray⟩:Str)=_
   rw[Fi,aaU];rfl
theorem pK {X:Cx}{G:Gr}{dl:List Slot}{a e:Expr}{apos bH:Pos}{Ls:List (List Nat)}(ha:EE X G dl a (.str ""))(he:EE X G dl e (.lst ((Ls.map tx).map .str)))(hw:Ls.flatten.length+Ls.length<=100000)(iS:attributeBase a "join" X.env (eval a X.env)=eval a X.env:=by rfl)
   (r6:((backTo bH (starEach [e] X.env)).all (fun x=>!x.1) && (backToKw bH (keywordEach [] X.env)).all (fun x=>x.1.isSome) && decide ([e].length+([]:List Keyword).length+(if ([]:List Keyword).isEmpty then 0 else 1) < 30))=true:=by rfl)
   (iU:(apos.endLine == bH.line)=true:=by rfl) (nL:starEach [e] X.env=(false,eval e X.env)::starEach [] X.env:=by rfl):EE X G dl (.Call (.Attribute a "join" apos) [e] [] bH) (.str (tx Ls.flatten)):=by
 have e1:((Ls.map tx).map (·.length)).sum=Ls.flatten.length:=by
   rw[List.length_flatten,aam]
   congr 1
 exact aM (MN ha he (joinOk_of_weight (by rw[e1,k5];omega) (by decide)) iS r6 iU nL) (by rw[Nt])
theorem BV:∀ rows:List Row,(rows.map fun r=>[r.c]).flatten=rows.map (·.c)
 | []=>rfl
 | a::r=>by rw[aaq,aaU,BV r];rfl
noncomputable def dN.wW (t:dN)(six:Bool)(rows:List Row):List (Str×Dt):=[("drawer",.iQ (.obj (t.pc six) [])),("row_by_letter",.eP (sW rows))]
noncomputable def iM (rows:List Row)(x:Nat):Str:=((rows.find? fun r=>decide (r.c=x)).map (·.d)).getD ""
noncomputable def wordOf (rows:List Row)(x:Nat):List Nat:=((rows.find? fun r=>decide (r.c=x)).map (·.w)).getD []
theorem g8 {rows:List Row}{x:Nat}(h:x∈rows.map (·.c)):∃ r∈rows,r.c=x/\iM rows x=r.d/\wordOf rows x=r.w:=by
 obtain⟨q,hq,e⟩:=aaM.mp h
 cases f:rows.find? (fun r=>decide (r.c=x)) with
 | none=>exact absurd (decide_eq_true e) (by simpa using List.find?_eq_none.mp f q hq)
 | some r=>
   refine⟨r,List.mem_of_find?_eq_some f,of_decide_eq_true (List.find?_some (p:=fun r:Row=>decide (r.c=x)) f),?_,?_⟩
   . unfold iM;rw[f];rfl
   . unfold wordOf;rw[f];rfl
def Dy (t:dN):Rl:=fun ds r=>∃ six rows,ds=[t.x6 six rows]/\bM rows/\r=.ret (.str (tx (rows.map (·.c))))
def Kh (t:dN):Rl:=fun ds r=>∃ six rows q,ds=[t.x6 six rows,.str (sg q.c)]/\bM rows/\q∈rows/\r=.ret (nV q)
def Nu (t:dN):Rl:=fun ds r=>∃ six rows x,ds=[t.x6 six rows,.str (sg x)]/\bM rows/\x∈rows.map (·.c)/\r=.ret (.str (iM rows x))
def Nv (t:dN):Rl:=fun ds r=>∃ six rows x,ds=[t.x6 six rows,.str (sg x)]/\bM rows/\x∈rows.map (·.c)/\r=.ret (.str (tx (wordOf rows x)))
theorem yG (T:Txt K mg t):MF P w K mg base CX 1 t.aN "row_of" 2 (Kh t):=by
 refine⟨T.dS.cl,_,_,_,iH T.jl.F uv rfl fun bj A outer s H E G ds r hr hl hR=>?_,T.fM,T.jl.b⟩
 obtain⟨six,rows,q,rfl,ok,hq,rfl⟩:=hR
 have hu:(A.deeper (envOfC "Rules.row_of" (af i3) s.heap.objs.size t.c6 bj)).units+1 < cLine:=by have:=hr.units;omega
 have hv:=sX ok.nd hq
 exact⟨_,.rt _,ag (aS (u:=false) (bO (EH hu (aa 1 rfl) (aH (fs:=t.wW six rows) (aa 0 rfl) T.dS.cl T.aQ rfl)) (by rw[hv];rfl)) (fun h=>nomatch h) (fun h=>bJ))
   (ao (aF (MO hu (aH (fs:=t.wW six rows) (aa 0 rfl) T.dS.cl T.aQ rfl) (aa 1 rfl) hv (fun _ _=>rfl))))⟩
theorem rL (T:Txt K mg t):MF P w K mg base CX 2 t.aN "word" 2 (Nv t):=by
 refine⟨T.dS.cl,_,_,_,iH T.ll.F xV rfl fun bj A outer s H E G ds r hr hl hR=>?_,T.gT,T.ll.b⟩
 obtain⟨six,rows,x,rfl,ok,hx,rfl⟩:=hR
 obtain⟨q,hq,rfl,e1,e2⟩:=g8 hx
 have m:=yG (P:=P) (w:=w) (base:=base) T
 rw[e2]
 exact⟨_,.rt _,ao (aF (aB (bE (fs:=t.wW six rows) (aa 0 rfl) m ax hr (ae (aa 1 rfl) ai) ⟨six,rows,q,rfl,ok,hq,rfl⟩) aj rfl))⟩
theorem j9 (T:Txt K mg t):MF P w K mg base CX 1 t.aN "letters" 1 (Dy t):=by
 refine⟨T.dS.cl,_,_,_,iH T.iE.F sP rfl fun bj A outer s H E G ds r hr hl hR=>?_,T.fk,T.iE.b⟩
 obtain⟨six,rows,rfl,ok,rfl⟩:=hR
 have h6:=ok.le
 have el:((sW rows).map fun kd=>kD kd.1)=((rows.map fun r=>[r.c]).map tx).map Dt.str:=by
   unfold sW
   rw[aam,aam,aam];rfl
 have ef:(rows.map fun r=>[r.c]).flatten=rows.map (·.c):=BV rows
 refine⟨_,.rt _,ao (aF (aM (pK (Ls:=rows.map fun r=>[r.c]) bI (df el (Jp T.sV rfl (aH (fs:=t.wW six rows) (aa 0 rfl) T.dS.cl T.aQ rfl))) (by rw[ef,k5,k5];omega)) (by rw[ef])))⟩
theorem Ki (T:Txt K mg t):MF P w K mg base CX 2 t.aN "deed" 2 (Nu t):=by
 refine⟨T.dS.cl,_,_,_,iH T.lj.F xU rfl fun bj A outer s H E G ds r hr hl hR=>?_,T.gS,T.lj.b⟩
 obtain⟨six,rows,x,rfl,ok,hx,rfl⟩:=hR
 obtain⟨q,hq,rfl,e1,e2⟩:=g8 hx
 have m:=yG (P:=P) (w:=w) (base:=base) T
 rw[e1]
 exact⟨_,.rt _,ao (aF (aB (bE (fs:=t.wW six rows) (aa 0 rfl) m ax hr (ae (aa 1 rfl) ai) ⟨six,rows,q,rfl,ok,hq,rfl⟩) aj rfl))⟩
def yH (t:dN):Rl:=fun ds r=>∃ (six:Bool) (rows:List Row) (w:List Nat) (m:Nat),ds=[t.x6 six rows,.str (tx w),.int (m:Nat)]/\bM rows/\(∀ x∈w,x∈rows.map (·.c))/\(0 < w.length/\w.length<=m/\m<=1000)/\r=.ret (.str (tx w))
theorem Nw (w:List Nat):w.map (fun x=>Dt.str (sg x))=Sg.signs (tx w):=by rw[wV,aam];rfl
theorem rM {rows:List Row}(ok:bM rows){w:List Nat}(h:∀ x∈w,x∈rows.map (·.c)):kj (tx w)=true:=fw fun x hx=>by
 obtain⟨r,hr,rfl⟩:=aaM.mp (h x hx)
 have:=ok.sm r hr
 unfold small at this;omega
theorem Dz (T:Txt K mg t):j4 P w K mg base CX 1 t.a0 t.iq ["self","text","most"] (En K 3 (yH t)):=by
 refine W4 T.ux mG rfl fun bj A outer s H E G ds r hr hl hR=>?_
 obtain⟨six,rows,wd,m,rfl,ok,hw,⟨h0,hm,hm2⟩,rfl⟩:=hR
 have nd:=mG.nd
 have hu:(A.deeper (envOfC "Rules.word_of" (af aZ) s.heap.objs.size t.a0 bj)).units+1 < cLine:=by have:=hr.units;omega
 have ne:¬ tx wd=("":Str):=fun z=>by
   have:=congrArg Str.length z
   rw[gb] at this
   have e:("":Str).length=0:=rfl
   omega
 let xs:=Sg.signs (tx wd)
 have Np:xs.length=wd.length:=by show(Sg.signs (tx wd)).length=_;rw[o5,gb]
 let S:Nat->List Slot:=fun _=>[.val (t.x6 six rows),.val (.str (tx wd)),.val (.int (m:Nat)),.aJ,.aJ]
 refine⟨_,.rt _,ag (aS (u:=false) (bO (gG (aa 1 rfl) bI) (decide_eq_false ne)) (fun h=>nomatch h) (fun h=>bJ))
   (ag (mX (o:=.nx (S wd.length)) (m:=wd.length) (aaj xs.length) (fun(j:Nat)=>.tup [.int j,xs.getD j .cW]) (fun(j:Nat) dl=>(dl.set 3 (.val (.int j))).set 4 (.val (xs.getD j .cW))) S rfl PassesOwn.leaving
     (Jr rfl T.l4 (ae (aa 1 rfl) ai)) (Df (rM ok hw)) (vq rfl (fo (bT nd rfl (.inl rfl)) (fo (bT nd rfl (.inl rfl)) qJ))) (fun a _=>ED) (Le.of ⟨rfl,rfl,rfl,trivial⟩) (by rw[aaH,Np];exact aae _) (fun j a hj ha=>?_) (by rw[aaH,Np];exact .all rfl))
   (ao (aF (aa 1 rfl))))⟩
 rw[aaL (by omega)] at ha
 cases ha
 have ex:xs.getD j .cW=.str (sg wd[j]):=by
   show(Sg.signs (tx wd)).getD j .cW=_
   rw[<- Nw,WW,YL,k3 hj];rfl
 have v4:∀ {X:Cx} {G:Gr} {dl:List Slot} {e:Expr},EE X G dl e (xs.getD j .cW)->EE X G dl e (.str (sg wd[j])):=fun h=>by rw[ex] at h;exact h
 obtain⟨q,hq,hc,_,_⟩:=g8 (hw _ (aaN hj))
 have hv:=sX ok.nd hq
 rw[hc] at hv
 exact .nx (ao (aS (u:=false) (vG (qR (u:=false) (v:=false) (bO (Iw (aa 3 rfl) (aa 2 rfl)) (decide_eq_false (by omega))) fun _=>(qi (bO (EH hu (v4 (aa 4 rfl)) (aH (fs:=t.wW six rows) (aa 0 rfl) T.dS.cl T.aQ rfl)) (by rw[hv];rfl))))) (fun h=>nomatch h) (fun h=>bJ))) (Le.of ⟨rfl,rfl,rfl,trivial⟩)
theorem ZL {K:W.Frag}:∀ H,bB K H [.int 8] [.int 8]:=fun _=>.cons (.int 8) .nil
theorem tW (T:Txt K mg t):Hs P w K mg base CX 1 t.aN "word_of" 3 [.int 8] (yH t):=⟨T.dS.cl,_,_,_,_,[.int 8],Dz T,T.fm,T.sS,.cons ⟨_,rfl⟩ .nil,ZL⟩
def R4 (t:dN):Rl:=fun ds r=>∃ six rows,ds=[t.x6 six rows]/\r=.ret (.iQ (.obj (t.pc six) []))
theorem z5 (T:Txt K mg t):MF P w K mg base CX 1 t.aN "pen" 1 (R4 t):=by
 refine⟨T.dS.cl,_,_,_,iH T.l3.F zK rfl fun bj A outer s H E G ds r hr hl hR=>?_,T.iL,T.l3.b⟩
 obtain⟨six,rows,rfl,rfl⟩:=hR
 exact⟨_,.rt _,ao (aF (aH (fs:=t.wW six rows) (aa 0 rfl) T.dS.cl T.iu rfl))⟩
noncomputable def tl (six:Bool)(p:Int×Int):Int×Int:=if six then (-p.2,p.1+p.2) else (-p.2,p.1)
noncomputable def tn (six:Bool):Nat->Int×Int->Int×Int
 | 0,p=>p
 | n+1,p=>tl six (tn six n p)
noncomputable def sp (p:Int×Int):Dt:=.tup [.int p.1,.int p.2]
theorem eO (six:Bool):0 < wy six:=by cases six <;> decide
def R5 (t:dN)(six:Bool):Rl:=fun ds r=>ds=[.obj (t.pc six) []]/\r=.ret (.int (wy six))
def R6 (t:dN)(six:Bool):Rl:=fun ds r=>∃ p,ds=[.obj (t.pc six) [],sp p]/\r=.ret (sp (tl six p))
def Kj (t:dN)(six:Bool):Rl:=fun ds r=>∃ z,ds=[.obj (t.pc six) [],.int z]/\r=.ret (.int (z % wy six))
def Kk (t:dN)(six:Bool):Rl:=fun ds r=>∃ p b,ds=[.obj (t.pc six) [],sp p,.int b]/\r=.ret (sp (tn six (b % wy six).toNat p))
theorem vc (T:Txt K mg t)(six:Bool):MF P w K mg base CX 1 (t.pc six) "ways" 1 (R5 t six):=by
 cases six with
 | false=>
   refine⟨T.jB.cl,_,_,_,iH T.jf.F uf rfl fun bj A outer s H E G ds r hr hl hR=>?_,T.eE,T.jf.b⟩
   obtain⟨rfl,rfl⟩:=hR
   exact⟨_,.rt _,ao (aF aj)⟩
 | true=>
   refine⟨T.nH.cl,_,_,_,iH T.k6.F xH rfl fun bj A outer s H E G ds r hr hl hR=>?_,T.gM,T.k6.b⟩
   obtain⟨rfl,rfl⟩:=hR
   exact⟨_,.rt _,ao (aF aj)⟩
theorem Nx (T:Txt K mg t)(six:Bool):MF P w K mg base CX 1 (t.pc six) "turned_left" 2 (R6 t six):=by
 cases six with
 | false=>
   refine⟨T.jB.cl,_,_,_,iH T.dc.F ny rfl fun bj A outer s H E G ds r hr hl hR=>?_,T.cn,T.dc.b⟩
   obtain⟨p,rfl,rfl⟩:=hR
   exact⟨_,.rt _,(ao (aF (bQ (ae (iG (aB (aa 1 rfl) aj rfl)) (ae (aB (aa 1 rfl) aj rfl) ai)) AA3)))⟩
 | true=>
   refine⟨T.nH.cl,_,_,_,iH T.dU.F oF rfl fun bj A outer s H E G ds r hr hl hR=>?_,T.c7,T.dU.b⟩
   obtain⟨p,rfl,rfl⟩:=hR
   exact⟨_,.rt _,(ao (aF (bQ (ae (iG (aB (aa 1 rfl) aj rfl)) (ae (aK (aB (aa 1 rfl) aj rfl) (aB (aa 1 rfl) aj rfl)) ai)) AA3)))⟩
theorem Fj {six:Bool}{m:Str}{f:Addr}(hQ:Meth K t.aP m f)(hS:Meth K t.cg m f):Meth K (t.pc six) m f:=by cases six <;> assumption
theorem Fl (T:Txt K mg t)(six:Bool):uE K (t.pc six):=by cases six;exact T.jB.cl;exact T.nH.cl
theorem mL (T:Txt K mg t)(six:Bool):MF P w K mg base CX 2 (t.pc six) "way_of" 2 (Kj t six):=by
 refine⟨Fl T six,_,_,_,iH T.kZ.F xG rfl fun bj A outer s H E G ds r hr hl hR=>?_,Fj T.fG T.gJ,T.kZ.b⟩
 obtain⟨z,rfl,rfl⟩:=hR
 have h1:=vc (P:=P) (w:=w) (base:=base) T six
 refine⟨_,.rt _,ao (aF (cN (aa 1 rfl) (bR (aa 0 rfl) h1 ax hr ⟨rfl,rfl⟩) (eO six)))⟩
theorem yI (T:Txt K mg t)(six:Bool):MF P w K mg base CX 3 (t.pc six) "turned" 3 (Kk t six):=by
 refine⟨Fl T six,_,_,_,iH T.k4.F me rfl fun bj A outer s H E G ds r hr hl hR=>?_,Fj T.fH T.gK,T.k4.b⟩
 obtain⟨p,b,rfl,rfl⟩:=hR
 have h1:=mL (P:=P) (w:=w) (base:=base) T six
 have h2:=Nx (P:=P) (w:=w) (base:=base) T six
 have Vu:=aay b (abf (eO six))
 have Y1:=aaz b (eO six)
 have hb3:wy six<=6:=by cases six <;> decide
 refine⟨_,.rt _,ag (jw 3 (fun k=>[.val (.obj (t.pc six) []),.val (sp (tn six k p)),.val (.int b),.aJ]) me.nd rfl PassesOwn.leaving T.gB
   (ae (bE (aa 0 rfl) h1 ax hr (ae (aa 2 rfl) ai) ⟨b,rfl,rfl⟩) ai) ⟨by omega,by omega⟩ (Le.of ⟨rfl,rfl,rfl,trivial⟩) (aae _) (fun k hk=>?_) (.all rfl)) (ao (aF (aa 1 rfl)))⟩
 refine .nx (ao (ar 1 me.nd (bE (aa 0 rfl) h2 ax hr (ae (aa 1 rfl) ai) ⟨_,rfl,rfl⟩))) (Le.of ⟨rfl,rfl,rfl,trivial⟩)
theorem Fm {m n:Nat}{a b:Int}(ha:a.natAbs < 2 ^ m)(hb:b.natAbs < 2 ^ n)(h:m+n<=134217728):IntMulOk a b:=IntMulOk.of_le (PySem.intBits_le_iff.mpr ha) (PySem.intBits_le_iff.mpr hb) h
noncomputable def iN (six:Bool)(w:Int)(p:Int×Int):Int:=
 if six then (if w=0 then 2 * p.1+p.2 else if w=1 then p.1+2 * p.2 else if w=2 then p.2 - p.1 else if w=3 then -2 * p.1 - p.2 else if w=4 then -p.1 - 2 * p.2 else p.1 - p.2)
 else (if w=0 then p.1 else if w=1 then p.2 else if w=2 then -p.1 else -p.2)
theorem VS (six:Bool){w:Int}(h0:0<=w)(h1:w < wy six)(p:Int×Int):iN six ((w+1) % wy six) (Pf.tl six p)=iN six w p:=by
 obtain⟨x,y⟩:=p
 cases six with
 | false=>
   have h1:w < 4:=h1
   have h:w=0\/w=1\/w=2\/w=3:=by omega
   rcases h with rfl | rfl | rfl | rfl <;> simp[iN,Pf.tl,wy]
 | true=>
   have h1:w < 6:=h1
   have h:w=0\/w=1\/w=2\/w=3\/w=4\/w=5:=by omega
   rcases h with rfl | rfl | rfl | rfl | rfl | rfl <;> simp[iN,Pf.tl,wy] <;> omega
theorem O1 (six:Bool){w:Int}(h0:0<=w)(h1:w < wy six)(p:Int×Int):∀ n:Nat,iN six ((w+n) % wy six) (tn six n p)=iN six w p
 | 0=>by
   show iN six ((w+0) % wy six) p=_
   rw[abq,abu h0 h1]
 | n+1=>by
   have hp:=eO six
   have a:=aay (w+n) (abf hp)
   have b:=aaz (w+n) hp
   show iN six ((w+((n+1:Nat):Int)) % wy six) (Pf.tl six (tn six n p))=_
   rw[<- O1 six h0 h1 p n,<- VS six a b]
   congr 1
   rw[Int.emod_add_emod]
   congr 1
   push_cast
   omega
theorem Kl (six:Bool){w:Int}(h0:0<=w)(h1:w < wy six)(b:Int)(p:Int×Int):iN six ((w+b) % wy six) (tn six (b % wy six).toNat p)=iN six w p:=by
 have a:=aay b (abf (eO six))
 have e:((((b % wy six).toNat:Nat):Int))=b % wy six:=by omega
 have:=O1 six h0 h1 p (b % wy six).toNat
 rw[e,Int.add_emod_emod] at this
 exact this
def Ny (t:dN)(six:Bool):Rl:=fun ds r=>∃ z p,ds=[.obj (t.pc six) [],.int z,sp p]/\(0<=z/\z < wy six)/\r=.ret (.int (iN six z p))
theorem VT {z:Int}(p:Int×Int)(h0:0<=z)(h1:z < 4):oU [Dt.int p.1,Dt.int p.2,Dt.int (-p.1),Dt.int (-p.2)] z=some (Dt.int (iN false z p)):=by
 have h:z=0\/z=1\/z=2\/z=3:=by omega
 rcases h with rfl | rfl | rfl | rfl <;> rfl
theorem VU {z:Int}(p:Int×Int)(h0:0<=z)(h1:z < 6):oU [Dt.int (2 * p.1+p.2),Dt.int (p.1+2 * p.2),Dt.int (p.2 - p.1),Dt.int (-2 * p.1 - p.2),Dt.int (-p.1 - 2 * p.2),Dt.int (p.1 - p.2)] z=some (Dt.int (iN true z p)):=by
 have h:z=0\/z=1\/z=2\/z=3\/z=4\/z=5:=by omega
 rcases h with rfl | rfl | rfl | rfl | rfl | rfl <;> rfl
theorem mod_lt {z m:Int}(h0:0<=z)(h1:z < m):z % m=z:=abu h0 h1
theorem BW (T:Txt K mg t)(six:Bool):MF P w K mg base CX 3 (t.pc six) "along" 3 (Ny t six):=by
 have rN:=mL (P:=P) (w:=w) (base:=base) T six
 cases six with
 | false=>
   refine⟨T.jB.cl,_,_,_,iH T.iw.F jA rfl fun bj A outer s H E G ds r hr hl hR=>?_,T.dH,T.iw.b⟩
   obtain⟨z,p,rfl,⟨h0,h1⟩,rfl⟩:=hR
   exact⟨_,.rt _,(ag (ar 3 jA.nd (aB (aa 2 rfl) aj rfl))
 (ag (ar 4 jA.nd (aB (aa 2 rfl) aj rfl))
 (ao (aF (aB (bQ (ae (aa 3 rfl) (ae (aa 4 rfl) (ae (iG (aa 3 rfl)) (ae (iG (aa 4 rfl)) ai)))) AA3) (bE (aa 0 rfl) rN ax hr (ae (aa 1 rfl) ai) ⟨z,rfl,rfl⟩) (by rw[mod_lt h0 h1];exact VT p h0 h1))))))⟩
 | true=>
   refine⟨T.nH.cl,_,_,_,iH T.jW.F lL rfl fun bj A outer s H E G ds r hr hl hR=>?_,T.f9,T.jW.b⟩
   obtain⟨z,p,rfl,⟨h0,h1⟩,rfl⟩:=hR
   exact⟨_,.rt _,(ag (ar 3 lL.nd (aB (aa 2 rfl) aj rfl))
 (ag (ar 4 lL.nd (aB (aa 2 rfl) aj rfl))
 (ao (aF (aB (bQ (ae (aK (fE aj (aa 3 rfl) (pQ.ok (aaG ⟨by decide,by decide⟩))) (aa 4 rfl)) (ae (aK (aa 3 rfl) (fE aj (aa 4 rfl) (pQ.ok (aaG ⟨by decide,by decide⟩)))) (ae (gF (aa 4 rfl) (aa 3 rfl)) (ae (gF (fE (iG aj) (aa 3 rfl) (pQ.ok (aaG ⟨by decide,by decide⟩))) (aa 4 rfl)) (ae (gF (iG (aa 3 rfl)) (fE aj (aa 4 rfl) (pQ.ok (aaG ⟨by decide,by decide⟩)))) (ae (gF (aa 3 rfl) (aa 4 rfl)) ai)))))) AA3) (bE (aa 0 rfl) rN ax hr (ae (aa 1 rfl) ai) ⟨z,rfl,rfl⟩) (by rw[mod_lt h0 h1];exact VU p h0 h1))))))⟩
noncomputable def ad (p q:Int×Int):Int×Int:=(p.1+q.1,p.2+q.2)
def Nz:Rl:=fun ds r=>∃ p q,ds=[sp p,sp q]/\r=.ret (sp (ad p q))
noncomputable def Cv:List Str:=["stroke","step"]
noncomputable def ju (d:Str):Int:=if d="left" then 1 else if d="right" then -1 else 0
noncomputable def vd (six:Bool)(d:Str)(p:Int×Int)(w:Int):(Int×Int)×Int:=(if d∈Cv then ad p (tn six (w % wy six).toNat (1,0)) else p,(w+ju d) % wy six)
def NA:Rl:=fun ds r=>∃ d:Str,ds=[.str d]/\r=.ret (.int (ju d))
def R7 (t:dN)(six:Bool):Rl:=fun ds r=>∃ w,ds=[.obj (t.pc six) [],.int w]/\r=.ret (sp (tn six (w % wy six).toNat (1,0)))
def NB (t:dN)(six:Bool):Rl:=fun ds r=>∃ d p w,ds=[.obj (t.pc six) [],.str d,sp p,.int w]/\d∈mK/\r=.ret (.tup [sp (vd six d p w).1,.int (vd six d p w).2])
theorem BX (T:Txt K mg t):GF P w K mg base CX 1 "added" 2 Nz:=by
 refine⟨_,_,_,iH T.pB.F JR rfl fun bj A outer s H E G ds r hr hl hR=>?_,(T.g T.pB.a),T.pB.F.kp,T.pB.b⟩
 obtain⟨p,q,rfl,rfl⟩:=hR
 exact⟨_,.rt _,(ao (aF (bQ (ae (aK (aB (aa 0 rfl) aj rfl) (aB (aa 1 rfl) aj rfl)) (ae (aK (aB (aa 0 rfl) aj rfl) (aB (aa 1 rfl) aj rfl)) ai)) AA3)))⟩
theorem Km (T:Txt K mg t):GF P w K mg base CX 1 "turn_of_deed" 1 NA:=by
 refine⟨_,_,_,iH T.eC.F ue rfl fun bj A outer s H E G ds r hr hl hR=>?_,(T.g T.eC.a),T.eC.F.kp,T.eC.b⟩
 obtain⟨d,rfl,rfl⟩:=hR
 by_cases c0:d="left"
 . rw[show ju d=1 from if_pos c0]
   exact⟨_,.rt _,oY (aS (gG (aa 0 rfl) bI) (fun h=>ao (aF aj)) (fun h=>absurd c0 (of_decide_eq_false h)))⟩
 by_cases c1:d="right"
 . rw[show ju d=-1 by unfold ju;rw[if_neg c0,if_pos c1]]
   exact⟨_,.rt _,ag (aS (gG (aa 0 rfl) bI) (fun h=>absurd (of_decide_eq_true h) c0) (fun h=>bJ)) (oY (aS (gG (aa 0 rfl) bI) (fun h=>ao (aF (iG aj))) (fun h=>absurd c1 (of_decide_eq_false h))))⟩
 . rw[show ju d=0 by unfold ju;rw[if_neg c0,if_neg c1]]
   exact⟨_,.rt _,ag (aS (gG (aa 0 rfl) bI) (fun h=>absurd (of_decide_eq_true h) c0) (fun h=>bJ)) (ag (aS (gG (aa 0 rfl) bI) (fun h=>absurd (of_decide_eq_true h) c1) (fun h=>bJ)) (ao (aF aj)))⟩
theorem NC (T:Txt K mg t)(six:Bool):MF P w K mg base CX 4 (t.pc six) "step" 2 (R7 t six):=by
 refine⟨Fl T six,_,_,_,iH T.nI.F BG rfl fun bj A outer s H E G ds r hr hl hR=>?_,Fj T.gL T.je,T.nI.b⟩
 obtain⟨z,rfl,rfl⟩:=hR
 have h1:=yI (P:=P) (w:=w) (base:=base) T six
 exact⟨_,.rt _,ao (aF (bE (aa 0 rfl) h1 ax hr (ae (bQ (ae aj (ae aj ai)) AA3) (ae (aa 1 rfl) ai)) ⟨(1,0),z,rfl,rfl⟩))⟩
theorem Kn (T:Txt K mg t)(six:Bool):MF P w K mg base CX 5 (t.pc six) "after" 4 (NB t six):=by
 refine⟨Fl T six,_,_,_,iH T.l2.F rm rfl fun bj A outer s H E G ds r hr hl hR=>?_,Fj T.f7 T.iK,T.l2.b⟩
 obtain⟨d,p,z,rfl,hd,rfl⟩:=hR
 have h1:=NC (P:=P) (w:=w) (base:=base) T six
 have h2:=BX (P:=P) (w:=w) (base:=base) T
 have h3:=Km (P:=P) (w:=w) (base:=base) T
 have h4:=mL (P:=P) (w:=w) (base:=base) T six
 by_cases c:d∈Cv
 . rw[show vd six d p z=(ad p (tn six (z % wy six).toNat (1,0)),(z+ju d) % wy six) by unfold vd;rw[if_pos c]]
   exact⟨_,.rt _,(ag (aS (Ew (xs:=mK) (aa 1 rfl) (jH (w:=.ref t.kY) T.zU rfl T.zV)) (fun h=>absurd h (by simp[hd])) (fun h=>bJ))
 (ag (aS (C5 (xs:=Cv) (aa 1 rfl) (jH (w:=.ref t.cX) T.qb rfl T.qc)) (fun h=>
     (ao (ar 2 rm.nd (aX h2 ax hr (ae (aa 2 rfl) (ae (bE (aa 0 rfl) h1 ax hr (ae (aa 3 rfl) ai) ⟨_,rfl,rfl⟩) ai)) ⟨_,_,rfl,rfl⟩)))) (fun h=>absurd c (of_decide_eq_false h)))
 (ao (aF (bQ (ae (aa 2 rfl) (ae (bE (aa 0 rfl) h4 ax hr (ae (aK (aa 3 rfl) (aX h3 ax hr (ae (aa 1 rfl) ai) ⟨_,rfl,rfl⟩)) ai) ⟨_,rfl,rfl⟩) ai)) AA3)))))⟩
 . rw[show vd six d p z=(p,(z+ju d) % wy six) by unfold vd;rw[if_neg c]]
   exact⟨_,.rt _,(ag (aS (Ew (xs:=mK) (aa 1 rfl) (jH (w:=.ref t.kY) T.zU rfl T.zV)) (fun h=>absurd h (by simp[hd])) (fun h=>bJ))
 (ag (aS (C5 (xs:=Cv) (aa 1 rfl) (jH (w:=.ref t.cX) T.qb rfl T.qc)) (fun h=>absurd (of_decide_eq_true h) c) (fun h=>bJ))
 (ao (aF (bQ (ae (aa 2 rfl) (ae (bE (aa 0 rfl) h4 ax hr (ae (aK (aa 3 rfl) (aX h3 ax hr (ae (aa 1 rfl) ai) ⟨_,rfl,rfl⟩)) ai) ⟨_,rfl,rfl⟩) ai)) AA3)))))⟩
def sm (p:Int×Int):Prop:=p.1.natAbs < 2 ^ 1000/\p.2.natAbs < 2 ^ 1000
noncomputable def cr (p q:Int×Int):Int:=p.1 * q.2 - p.2 * q.1
def ND:Rl:=fun ds r=>∃ p q,ds=[sp p,sp q]/\(sm p/\sm q)/\r=.ret (.int (cr p q))
theorem Ko (T:Txt K mg t):GF P w K mg base CX 1 "cross" 2 ND:=by
 refine⟨_,_,_,iH T.pC.F JS rfl fun bj A outer s H E G ds r hr hl hR=>?_,(T.g T.pC.a),T.pC.F.kp,T.pC.b⟩
 obtain⟨p,q,rfl,⟨hp,hq⟩,rfl⟩:=hR
 exact⟨_,.rt _,(ao (aF (gF (fE (aB (aa 0 rfl) aj rfl) (aB (aa 1 rfl) aj rfl) (Fm hp.1 hq.2 (by decide))) (fE (aB (aa 0 rfl) aj rfl) (aB (aa 1 rfl) aj rfl) (Fm hp.2 hq.1 (by decide))))))⟩
structure Tr where
 many:Int
 turn:Int
 shift:Int×Int
 aT:Int
 reach:List Int
 aU:List Int
 gC:Int
noncomputable def dN.ZM (t:dN)(six:Bool)(x:Tr):List (Str×FD):=[("drawer",.obj (t.pc six) []),("deed_count",.int x.many),("last_way",.int x.turn),("last_spot",.tup t.K [x.shift.1,x.shift.2]),("stroke_count",.int x.aT),("reaches",.lst x.reach),("touches",.lst x.aU),("crosses",.int x.gC)]
noncomputable def dN.jE (t:dN)(six:Bool)(x:Tr):List (Str×Dt):=[("drawer",.iQ (.obj (t.pc six) [])),("deed_count",.int x.many),("last_way",.int x.turn),("last_spot",.iQ (.tup t.K [x.shift.1,x.shift.2])),("stroke_count",.int x.aT),("reaches",.iQ (.lst x.reach)),("touches",.iQ (.lst x.aU)),("crosses",.int x.gC)]
noncomputable def dN.Aw (t:dN)(six:Bool)(x:Tr):Dt:=.obj t.av (t.jE six x)
noncomputable def dN.lP (t:dN)(six:Bool)(x:Tr):Dt:=.iQ (.obj t.av (t.ZM six x))
theorem kB {X:Cx}{G:Gr}{dl:List Slot}{e:Expr}{t:dN}{six:Bool}{x:Tr}(h:EE X G dl e (t.lP six x)):EE X G dl e (t.Aw six x):=O0 h
theorem DA {X:Cx}{G:Gr}{dl:List Slot}{e:Expr}{t:dN}{six:Bool}{x:Tr}(h:EO X G dl e (.obj t.av (t.jE six x))):EE X G dl e (t.lP six x):=JM (fs:=t.ZM six x) h
theorem lN {X:Cx}{G:Gr}{dl:List Slot}{e:Expr}{t:dN}{six:Bool}(h:EE X G dl e (.iQ (.obj (t.pc six) []))):EE X G dl e (.obj (t.pc six) []):=O0 h
theorem sZ {X:Cx}{G:Gr}{dl:List Slot}{e:Expr}{K':W.Frag}{p:Int×Int}(hK:K'=X.K)(h:EE X G dl e (.iQ (.tup K' [p.1,p.2]))):EE X G dl e (sp p):=RJ h hK
theorem DB {X:Cx}{G:Gr}{dl:List Slot}{e:Expr}{K':W.Frag}{p:Int×Int}(hK:K'=X.K)(h:EE X G dl e (sp p)):EE X G dl e (.iQ (.tup K' [p.1,p.2])):=RK (ns:=[p.1,p.2]) h hK
noncomputable def wn (six:Bool):Nat:=if six then 6 else 4
theorem rO (six:Bool):(wn six:Int)=wy six:=by cases six <;> rfl
noncomputable def qd (six:Bool)(ns:List Int)(f:Int):List Int:=(aaj (wn six)).map fun(w:Nat)=>ns.getD (((w:Int) - f) % wy six).toNat 0
noncomputable def x8 (six:Bool)(x y:Tr)(w:Nat):Int:=if (qd six y.reach x.turn).getD w 0+iN six w x.shift<=x.reach.getD w 0 then x.reach.getD w 0 else (qd six y.reach x.turn).getD w 0+iN six w x.shift
noncomputable def z6 (six:Bool)(x y:Tr)(w:Nat):Int:=if (qd six y.reach x.turn).getD w 0+iN six w x.shift<=x.reach.getD w 0 then x.aU.getD w 0 else (qd six y.aU x.turn).getD w 0+x.many
noncomputable def jn (six:Bool)(x y:Tr):Tr where
 many:=x.many+y.many
 turn:=(x.turn+y.turn) % wy six
 shift:=ad x.shift (tn six (x.turn % wy six).toNat y.shift)
 aT:=x.aT+y.aT
 reach:=(aaj (wn six)).map (x8 six x y)
 aU:=(aaj (wn six)).map (z6 six x y)
 gC:=x.gC+y.gC+cr x.shift (tn six (x.turn % wy six).toNat y.shift)
noncomputable def Cw (six:Bool):Tr:=⟨0,0,(0,0),0,aak (wn six) 0,aak (wn six) 0,0⟩
noncomputable def one (six:Bool)(d:Str):Tr:=⟨1,(vd six d (0,0) 0).2,(vd six d (0,0) 0).1,if d="stroke" then 1 else 0,(aaj (wn six)).map fun(w:Nat)=>if iN six w (vd six d (0,0) 0).1 > 0 then iN six w (vd six d (0,0) 0).1 else 0,
 (aaj (wn six)).map fun(w:Nat)=>if (if iN six w (vd six d (0,0) 0).1 > 0 then iN six w (vd six d (0,0) 0).1 else 0) < 1 then (if iN six w (vd six d (0,0) 0).1 > 0 then iN six w (vd six d (0,0) 0).1 else 0) else 1,0⟩
noncomputable def bS (six:Bool)(ds:List Str):Tr:=ds.foldl (fun x d=>jn six x (one six d)) (Cw six)
structure WF (six:Bool)(x:Tr):Prop where
 rl:x.reach.length=wn six
 tl:x.aU.length=wn six
 sm:x.shift.1.natAbs < 2 ^ 990/\x.shift.2.natAbs < 2 ^ 990
def R8 (t:dN):Rl:=fun ds r=>∃ six x,ds=[.iQ (.obj (t.pc six) []),.int x.many,.int x.turn,.iQ (.tup t.K [x.shift.1,x.shift.2]),.int x.aT,.iQ (.lst x.reach),.iQ (.lst x.aU),.int x.gC]/\r=.own (.obj t.av (t.jE six x))
def BY (t:dN)(f:Tr->Dt):Rl:=fun ds r=>∃ six x,ds=[t.Aw six x]/\r=.ret (f x)
def z7 (t:dN):Rl:=fun ds r=>∃ six x f,ds=[t.Aw six x,.int f]/\r=.ret (sp (tn six (f % wy six).toNat x.shift))
def VV (t:dN):Rl:=fun ds r=>∃ six x ns f,ds=[t.Aw six x,.oX ns,.int f]/\ns.length=wn six/\r=.own (.lst ((qd six ns f).map .int))
def z8 (t:dN):Rl:=fun ds r=>∃ six x f,ds=[t.Aw six x,.int f]/\WF six x/\r=.own (.lst ((qd six x.reach f).map .int))
def z9 (t:dN):Rl:=fun ds r=>∃ six x f,ds=[t.Aw six x,.int f]/\WF six x/\r=.own (.lst ((qd six x.aU f).map .int))
def BZ (t:dN):Rl:=fun ds r=>∃ six x y,ds=[t.Aw six x,t.Aw six y]/\(WF six x/\WF six y)/\r=.ret (t.lP six (jn six x y))
def NF (t:dN):Rl:=fun ds r=>∃ six,ds=[.iQ (.obj (t.pc six) [])]/\r=.ret (t.lP six (Cw six))
def G3 (t:dN):Rl:=fun ds r=>∃ six d,ds=[.iQ (.obj (t.pc six) []),.str d]/\d∈mK/\r=.ret (t.lP six (one six d))
def DC (t:dN):Rl:=fun ds r=>∃ (six:Bool) (xs:List Str),ds=[.iQ (.obj (t.pc six) []),.lst (xs.map .str)]/\(∀ d∈xs,d∈mK)/\xs.length<=1000/\r=.ret (t.lP six (bS six xs))
theorem Aa (T:Txt K mg t):Tz P w K mg base CX 1 "Track" t.av 9 (R8 t):=by
 refine⟨_,_,_,W5 T.k7.F xJ rfl fun bj A outer s H E G z ds r hr hl hR=>?_,T.wI,(T.g T.ay.a),T.k7.b⟩
 obtain⟨six,x,rfl,rfl⟩:=hR
 exact⟨_,.nx rfl,ag (ki (aa 1 rfl) T.ay.cl T.dn) (ag (ki (aa 2 rfl) T.ay.cl T.bu) (ag (ki (aa 3 rfl) T.ay.cl T.bw) (ag (ki (aa 4 rfl) T.ay.cl T.aR)
   (ag (ki (aa 5 rfl) T.ay.cl T.cj) (ag (ki (aa 6 rfl) T.ay.cl T.cm) (ag (ki (aa 7 rfl) T.ay.cl T.eh) (ao (ki (aa 8 rfl) T.ay.cl T.eu))))))))⟩
theorem Fn (T:Txt K mg t):MF P w K mg base CX 1 t.av "many" 1 (BY t fun x=>.int x.many):=by
 refine⟨T.ay.cl,_,_,_,iH T.k8.F xK rfl fun bj A outer s H E G ds r hr hl hR=>?_,T.gN,T.k8.b⟩
 obtain⟨six,x,rfl,rfl⟩:=hR
 exact⟨_,.rt _,ao (aF (aH (fs:=t.jE six x) (aa 0 rfl) T.ay.cl T.bu rfl))⟩
theorem Fp (T:Txt K mg t):MF P w K mg base CX 1 t.av "turn" 1 (BY t fun x=>.int x.turn):=by
 refine⟨T.ay.cl,_,_,_,iH T.k9.F xM rfl fun bj A outer s H E G ds r hr hl hR=>?_,T.gO,T.k9.b⟩
 obtain⟨six,x,rfl,rfl⟩:=hR
 exact⟨_,.rt _,ao (aF (aH (fs:=t.jE six x) (aa 0 rfl) T.ay.cl T.bw rfl))⟩
theorem wX (T:Txt K mg t):MF P w K mg base CX 1 t.av "strokes" 1 (BY t fun x=>.int x.aT):=by
 refine⟨T.ay.cl,_,_,_,iH T.iy.F sL rfl fun bj A outer s H E G ds r hr hl hR=>?_,T.ff,T.iy.b⟩
 obtain⟨six,x,rfl,rfl⟩:=hR
 exact⟨_,.rt _,ao (aF (aH (fs:=t.jE six x) (aa 0 rfl) T.ay.cl T.cj rfl))⟩
theorem Fq (T:Txt K mg t):MF P w K mg base CX 1 t.av "area" 1 (BY t fun x=>.int x.gC):=by
 refine⟨T.ay.cl,_,_,_,iH T.lb.F xQ rfl fun bj A outer s H E G ds r hr hl hR=>?_,T.gQ,T.lb.b⟩
 obtain⟨six,x,rfl,rfl⟩:=hR
 exact⟨_,.rt _,ao (aF (aH (fs:=t.jE six x) (aa 0 rfl) T.ay.cl T.eu rfl))⟩
theorem B0 (T:Txt K mg t):j4 P w K mg base CX 4 t.cy t.jM ["self","first"] (En K 2 (z7 t)):=by
 refine W4 T.xW wc rfl fun bj A outer s H E G ds r hr hl hR=>?_
 obtain⟨six,x,f,rfl,rfl⟩:=hR
 have h1:=yI (P:=P) (w:=w) (base:=base) T six
 exact⟨_,.rt _,ao (aF (bE (lN (aH (fs:=t.jE six x) (aa 0 rfl) T.ay.cl T.dn rfl)) h1 ax hr (ae (sZ T.hK (aH (fs:=t.jE six x) (aa 0 rfl) T.ay.cl T.aR rfl)) (ae (aa 1 rfl) ai)) ⟨_,_,rfl,rfl⟩))⟩
theorem rep0 {K:W.Frag}:∀ H,bB K H [.int 0] [.int 0]:=fun _=>.cons (.int 0) .nil
theorem Kq (T:Txt K mg t):Hs P w K mg base CX 4 t.av "shift" 2 [] (z7 t):=⟨T.ay.cl,_,_,_,[],[],B0 T,T.dy,T.xX,.nil,fun _=>.nil⟩
theorem G4 (T:Txt K mg t):Hs P w K mg base CX 4 t.av "shift" 2 [.int 0] (z7 t):=⟨T.ay.cl,_,_,_,_,[.int 0],B0 T,T.dy,T.wL,.cons ⟨_,rfl⟩ .nil,rep0⟩
noncomputable abbrev DD:Scope:=OJ ((aA fu).getD 0 (.Pass ⟨0,0,0,0⟩))
theorem DE:vN DD (af fu) nQ ["way","self","numbers","first"] [0,1,2] "way"=true:=by decide +kernel
theorem NG {ns:List Int}{k:Int}(h0:0<=k)(h1:k < ns.length):oU (ns.map Dt.int) k=some (.int (ns.getD k.toNat 0)):=by
 obtain⟨n,rfl⟩:=Int.eq_ofNat_of_zero_le h0
 refine lU ?_
 have h:n < ns.length:=by omega
 rw[YL,k3 h,aaS,WW,k3 h];rfl
theorem wY {ns:List Int}{k:Int}(h0:0<=k)(h1:k < ns.length):oU ns k=some (ns.getD k.toNat 0):=by
 obtain⟨n,rfl⟩:=Int.eq_ofNat_of_zero_le h0
 refine lU ?_
 have h:n < ns.length:=by omega
 rw[k3 h,aaS,WW,k3 h];rfl
theorem pL {f:Nat->Int}{n k:Nat}(h:k < n):(((aaj n).map f).map Dt.int).getD k .cW=.int (f k):=by
 rw[WW,YL,YL,aaL h];rfl
theorem wZ (T:Txt K mg t):MF P w K mg base CX 3 t.av "by_ways" 3 (VV t):=by
 refine⟨T.ay.cl,_,_,_,iH T.iz.F sM rfl fun bj A outer s H E G ds r hr hl hR=>?_,T.fg,T.iz.b⟩
 obtain⟨six,x,ns,f,rfl,hn,rfl⟩:=hR
 have h1:=mL (P:=P) (w:=w) (base:=base) T six
 have hw:=rO six
 have hw6:wn six<=6:=by cases six <;> decide
 have Tp:ns.length=wn six:=hn
 refine⟨_,.ro _,ao (lW (U4 (N:=["way","self","numbers","first"]) (ix:=[0,1,2]) rfl (C4 DE) (mn rfl T.gB (ae (zb T.gD (aa 1 rfl)) ai)) (vM ?_) (fun k hk C fp s' H' G'=>?_) ?_ ?_))⟩
 . omega
 . rw[aaS,Tp] at hk
   have e:((qd six ns f).map Dt.int).getD k .cW=.int (ns.getD (((k:Int) - f) % wy six).toNat 0):=pL hk
   rw[e]
   have QL:=aay ((k:Int) - f) (abf (eO six))
   have hm1:=aaz ((k:Int) - f) (eO six)
   exact sj (aa 2 rfl) (bE (lN (aH (fs:=t.jE six x) (aa 1 rfl) T.ay.cl T.dn rfl)) h1 ax hr (ae (gF (aa 0 rfl) (aa 3 rfl)) ai) ⟨_,rfl,rfl⟩) (wY QL (by omega))
 . rw[k5,aaS,Tp]
   unfold qd
   simp
 . rw[aaS]
   exact aa5 (sd (by omega))
theorem B2 (T:Txt K mg t):j4 P w K mg base CX 4 t.cz t.jN ["self","first"] (En K 2 (z8 t)):=by
 refine W4 T.xY we rfl fun bj A outer s H E G ds r hr hl hR=>?_
 obtain⟨six,x,f,rfl,hw,rfl⟩:=hR
 have h1:=MA (wZ (P:=P) (w:=w) (base:=base) T)
 exact⟨_,.ro _,ao (lW (ym (fs:=t.jE six x) (aa 0 rfl) h1 ax hr (ae (qt (aH (fs:=t.jE six x) (aa 0 rfl) T.ay.cl T.cm rfl)) (ae (aa 1 rfl) ai)) ⟨six,x,_,_,rfl,hw.rl,rfl⟩))⟩
theorem B3 (T:Txt K mg t):j4 P w K mg base CX 4 t.cA t.jO ["self","first"] (En K 2 (z9 t)):=by
 refine W4 T.x3 wg rfl fun bj A outer s H E G ds r hr hl hR=>?_
 obtain⟨six,x,f,rfl,hw,rfl⟩:=hR
 have h1:=MA (wZ (P:=P) (w:=w) (base:=base) T)
 exact⟨_,.ro _,ao (lW (ym (fs:=t.jE six x) (aa 0 rfl) h1 ax hr (ae (qt (aH (fs:=t.jE six x) (aa 0 rfl) T.ay.cl T.eh rfl)) (ae (aa 1 rfl) ai)) ⟨six,x,_,_,rfl,hw.tl,rfl⟩))⟩
theorem Kr (T:Txt K mg t):Hs P w K mg base CX 4 t.av "reach" 2 [] (z8 t):=⟨T.ay.cl,_,_,_,[],[],B2 T,T.dA,T.xZ,.nil,fun _=>.nil⟩
theorem Kt (T:Txt K mg t):Hs P w K mg base CX 4 t.av "touch" 2 [] (z9 t):=⟨T.ay.cl,_,_,_,[],[],B3 T,T.dB,T.x4,.nil,fun _=>.nil⟩
theorem G5 (T:Txt K mg t):Hs P w K mg base CX 4 t.av "reach" 2 [.int 0] (z8 t):=⟨T.ay.cl,_,_,_,_,[.int 0],B2 T,T.dA,T.wM,.cons ⟨_,rfl⟩ .nil,rep0⟩
theorem G6 (T:Txt K mg t):Hs P w K mg base CX 4 t.av "touch" 2 [.int 0] (z9 t):=⟨T.ay.cl,_,_,_,_,[.int 0],B3 T,T.dB,T.wN,.cons ⟨_,rfl⟩ .nil,rep0⟩
theorem B4 (p:Int×Int):PyData.eqv (pd (sp p)) (pd (.tup [.int 0,.int 0]))=decide (p=(0,0)):=by
 obtain⟨x,y⟩:=p
 simp[sp,pd,Cu,PyData.eqv,PyData.eqvAll]
 by_cases h1:x=0 <;> by_cases h2:y=0 <;> simp[h1,h2]
theorem B5 (T:Txt K mg t):GF P w K mg base CX 3 "still" 1 (NF t):=by
 refine⟨_,_,_,iH T.pD.F JU rfl fun bj A outer s H E G ds r hr hl hR=>?_,(T.g T.pD.a),T.pD.F.kp,T.pD.b⟩
 obtain⟨six,rfl,rfl⟩:=hR
 have h1:=vc (P:=P) (w:=w) (base:=base) T six
 have h2:=Aa (P:=P) (w:=w) (base:=base) T
 have e:∀ {X:Cx} {G:Gr} {dl:List Slot} {e:Expr},EO X G dl e (.lst (aak (wy six).toNat [Dt.int 0]).flatten)->EE X G dl e (.iQ (.lst (aak (wn six) (0:Int)))):=fun h=>by
   refine RL (Eu h ?_)
   cases six <;> rfl
 have hb:-(2 ^ 63)<=wy six/\wy six < 2 ^ 63/\[Dt.int 0].length * (wy six).toNat<=sizeLine:=by cases six <;> decide
 exact⟨_,.rt _,ao (aF (DA (uH h2 ax hr (ae (aa 0 rfl) (ae aj (ae aj (ae (DB (p:=(0,0)) T.hK (bQ (ae aj (ae aj ai)) AA3)) (ae aj
   (ae (e (IF (Il (ae aj ai) AA3) (bR (lN (aa 0 rfl)) h1 ax hr ⟨rfl,rfl⟩) hb.1 hb.2.1 hb.2.2)) (ae (e (IF (Il (ae aj ai) AA3) (bR (lN (aa 0 rfl)) h1 ax hr ⟨rfl,rfl⟩) hb.1 hb.2.1 hb.2.2)) (ae aj ai)))))))) ⟨six,Cw six,rfl,rfl⟩)))⟩
noncomputable abbrev R9:Scope:=OJ ((aA cG).getD 2 (.Pass ⟨0,0,0,0⟩))
noncomputable abbrev Sa:Scope:=OJ ((aA cG).getD 3 (.Pass ⟨0,0,0,0⟩))
theorem Sb:vN R9 (af cG) kz ["way","pen","spot"] [0,3] "way"=true:=by decide +kernel
theorem Sd:vN Sa (af cG) kz ["reach"] [] "reach"=true:=by decide +kernel
noncomputable def nJ (six:Bool)(d:Str)(w:Nat):Int:=if iN six w (vd six d (0,0) 0).1 > 0 then iN six w (vd six d (0,0) 0).1 else 0
theorem DF (T:Txt K mg t):GF P w K mg base CX 6 "track_of_deed" 2 (G3 t):=by
 refine⟨_,_,_,iH T.dq.F mC rfl fun bj A outer s H E G ds r hr hl hR=>?_,(T.g T.dq.a),T.dq.F.kp,T.dq.b⟩
 obtain⟨six,d,rfl,hd,rfl⟩:=hR
 have h1:=vc (P:=P) (w:=w) (base:=base) T six
 have h2:=Aa (P:=P) (w:=w) (base:=base) T
 have h3:=Kn (P:=P) (w:=w) (base:=base) T six
 have h4:=BW (P:=P) (w:=w) (base:=base) T six
 have hw:=rO six
 have hw6:wn six<=6:=by cases six <;> decide
 have VW:(wy six).toNat=wn six:=by omega
 have nd:=mC.nd
 refine⟨_,.rt _,ag (ar 2 nd (bE (lN (aa 0 rfl)) h3 ax hr (ae (aa 1 rfl) (ae (bQ (ae aj (ae aj ai)) AA3) (ae aj ai))) ⟨d,(0,0),0,rfl,hd,rfl⟩)) (ag (ar 3 nd (aB (aa 2 rfl) aj rfl))
   (ag (OI (ys:=((aaj (wn six)).map (nJ six d)).map .int) 4 (N:=["way","pen","spot"]) (ix:=[0,3]) rfl nd (C4 Sb) (mn rfl T.gB (ae (bR (lN (aa 0 rfl)) h1 ax hr ⟨rfl,rfl⟩) ai)) (vM ?_) (fun k hk C fp s' H' G'=>?_) ?_ ?_)
   (uM (ns:=(aaj (wn six)).map (nJ six d)) 4 (ag (OI (ys:=((aaj (wn six)).map (fun k=>if nJ six d k < 1 then nJ six d k else 1)).map .int) 5 (N:=["reach"]) (ix:=[]) rfl nd (C4 Sd) (fN (qt (aa 4 rfl))) M7 (fun k hk C fp s' H' G'=>?_) ?_ ?_)
   (uM (ns:=(aaj (wn six)).map fun k=>if nJ six d k < 1 then nJ six d k else 1) 5 (ao (aF (DA (uH h2 ax hr (ae (aa 0 rfl) (ae aj (ae (aB (aa 2 rfl) aj rfl) (ae (DB T.hK (aa 3 rfl)) (ae (aM (d:=.int (if d="stroke" then 1 else 0)) ?_ rfl) (ae (aa 4 rfl) (ae (aa 5 rfl) (ae aj ai)))))))) ⟨six,one six d,rfl,rfl⟩)))))))))⟩
 . omega
 . rw[VW] at hk
   rw[pL hk]
   exact QV T.Fb rfl (ae aj (ae (bE (lN (aa 1 rfl)) h4 ax hr (ae (aa 0 rfl) (ae (aa 2 rfl) ai)) ⟨_,_,rfl,⟨by omega,by omega⟩,rfl⟩) ai))
 . rw[k5,k5,aaH,VW]
 . rw[VW];exact aa5 (sd (by omega))
 . rw[k5,aaH] at hk
   rw[show(((aaj (wn six)).map (fun k=>if nJ six d k < 1 then nJ six d k else 1)).map Dt.int).getD k .cW=.int (if nJ six d k < 1 then nJ six d k else 1) from pL hk]
   have e:((List.map (nJ six d) (aaj (wn six))).map Dt.int).getD k .cW=.int (nJ six d k):=pL hk
   refine IG (i:=1) (j:=nJ six d k) T.Fc rfl (ae aj (ae ?_ ai))
   rw[<- e]
   exact aa 0 rfl
 . simp
 . rw[k5,aaH];exact aa5 (sd (by omega))
 . exact QI (gG (aa 1 rfl) bI) (fun h=>aM aj (by rw[if_pos (of_decide_eq_true h)])) (fun h=>aM aj (by rw[if_neg (of_decide_eq_false h)]))
theorem vf {f g:Nat->Int}{n k:Nat}(h:k < n):((aaj n).map fun w=>if w < k then f w else g w).set k (f k)=(aaj n).map fun w=>if w < k+1 then f w else g w:=by
 refine List.ext_getElem? fun i=>?_
 by_cases hi:i < n
 . by_cases e:k=i
   . subst e
     rw[aah (by simp;exact h),YL,aaL h]
     simp
   . rw[aai e,YL,YL,aaL hi]
     have:(i < k+1) ↔ (i < k):=by omega
     simp[this]
 . rw[aaC (by simp;omega),aaC (by simp;omega)]
theorem O2 {f g:Nat->Int}{n:Nat}:((aaj n).map fun w=>if w < 0 then f w else g w)=(aaj n).map g:=by simp
theorem O3 {f g:Nat->Int}{n:Nat}:((aaj n).map fun w=>if w < n then f w else g w)=(aaj n).map f:=by
 refine abU fun i hi=>?_
 rw[if_pos (abo.mp hi)]
theorem rP {l:List Int}{k:Nat}{z:Int}:(l.map Dt.int).set k (.int z)=(l.set k z).map Dt.int:=by rw[List.map_set]
theorem Fs (six:Bool)(ns:List Int)(f:Int):(aaj (wn six)).map (fun w=>(qd six ns f).getD w 0)=qd six ns f:=by
 refine List.ext_getElem? fun i=>?_
 by_cases hi:i < wn six
 . rw[YL,aaL hi]
   have hl:i < (qd six ns f).length:=by unfold qd;simpa using hi
   rw[k3 hl]
   simp[WW,hl]
 . rw[aaC (by simp;omega),aaC (by unfold qd;simp;omega)]
theorem NH {n k:Nat}(h:k < n):CM n (k:Int)=some k:=by
 unfold CM
 simp[h]
theorem VX {six:Bool}{b:Int}{p:Int×Int}(h:p.1.natAbs < 2 ^ 990/\p.2.natAbs < 2 ^ 990):sm (tn six (b % wy six).toNat p):=by
 obtain⟨x,y⟩:=p
 obtain⟨h1,h2⟩:=h
 simp only at h1 h2
 unfold sm
 cases six with
 | false=>
   have e:wy false=4:=rfl
   rw[e]
   have h:b % 4=0\/b % 4=1\/b % 4=2\/b % 4=3:=by omega
   rcases h with h | h | h | h <;> rw[h] <;> simp[tn,Pf.tl] <;> omega
 | true=>
   have e:wy true=6:=rfl
   rw[e]
   have h:b % 6=0\/b % 6=1\/b % 6=2\/b % 6=3\/b % 6=4\/b % 6=5:=by omega
   rcases h with h | h | h | h | h | h <;> rw[h] <;> simp[tn,Pf.tl] <;> omega
theorem tf (T:Txt K mg t):MF P w K mg base CX 5 t.av "joined" 2 (BZ t):=by
 refine⟨T.ay.cl,_,_,_,iH T.jh.F nS rfl fun bj A outer s H E G ds r hr hl hR=>?_,T.fK,T.jh.b⟩
 obtain⟨six,x,y,rfl,⟨wx,ZN⟩,rfl⟩:=hR
 have Ab:=Kq (P:=P) (w:=w) (base:=base) T
 have Ac:=Kr (P:=P) (w:=w) (base:=base) T
 have Ad:=Kt (P:=P) (w:=w) (base:=base) T
 have Se:=vc (P:=P) (w:=w) (base:=base) T six
 have Ft:=BW (P:=P) (w:=w) (base:=base) T six
 have rN:=mL (P:=P) (w:=w) (base:=base) T six
 have DG:=Fn (P:=P) (w:=w) (base:=base) T
 have DH:=Fp (P:=P) (w:=w) (base:=base) T
 have tm:=wX (P:=P) (w:=w) (base:=base) T
 have DI:=Fq (P:=P) (w:=w) (base:=base) T
 have NI:=BX (P:=P) (w:=w) (base:=base) T
 have NJ:=Ko (P:=P) (w:=w) (base:=base) T
 have Sf:=Aa (P:=P) (w:=w) (base:=base) T
 have hw:=rO six
 have VW:(wy six).toNat=wn six:=by omega
 have hw6:wn six<=6:=by cases six <;> decide
 have nd:=nS.nd
 let S:Nat->List Slot:=fun k=>[.val (t.Aw six x),.val (t.Aw six y),.val (.iQ (.obj (t.pc six) [])),.val (sp (tn six (x.turn % wy six).toNat y.shift)),
   .own (.lst (((aaj (wn six)).map fun w=>if w < k then x8 six x y w else (qd six y.reach x.turn).getD w 0).map .int)),
   .own (.lst (((aaj (wn six)).map fun w=>if w < k then z6 six x y w else (qd six y.aU x.turn).getD w 0).map .int)),.aJ]
 have e0:S 0=[.val (t.Aw six x),.val (t.Aw six y),.val (.iQ (.obj (t.pc six) [])),.val (sp (tn six (x.turn % wy six).toNat y.shift)),.own (.lst ((qd six y.reach x.turn).map .int)),.own (.lst ((qd six y.aU x.turn).map .int)),.aJ]:=by
   show [_,_,_,_,Slot.own (.lst (((aaj (wn six)).map fun w=>if w < 0 then _ else _).map .int)),Slot.own (.lst (((aaj (wn six)).map fun w=>if w < 0 then _ else _).map .int)),_]=_
   rw[O2,O2,Fs,Fs]
 have en:S (wn six)=[.val (t.Aw six x),.val (t.Aw six y),.val (.iQ (.obj (t.pc six) [])),.val (sp (tn six (x.turn % wy six).toNat y.shift)),.own (.lst ((jn six x y).reach.map .int)),.own (.lst ((jn six x y).aU.map .int)),.aJ]:=by
   show [_,_,_,_,Slot.own (.lst (((aaj (wn six)).map fun w=>if w < wn six then _ else _).map .int)),Slot.own (.lst (((aaj (wn six)).map fun w=>if w < wn six then _ else _).map .int)),_]=_
   rw[O3,O3];rfl
 refine⟨_,.rt _,ag (ar 2 nd (aH (fs:=t.jE six x) (aa 0 rfl) T.ay.cl T.dn rfl))
   (ag (ar 3 nd (C3 (fs:=t.jE six y) (aa 1 rfl) Ab ax hr (ae (aH (fs:=t.jE six x) (aa 0 rfl) T.ay.cl T.bw rfl) ai) ⟨six,y,_,rfl,rfl⟩))
   (ag (jI 4 nd (ym (fs:=t.jE six y) (aa 1 rfl) Ac ax hr (ae (aH (fs:=t.jE six x) (aa 0 rfl) T.ay.cl T.bw rfl) ai) ⟨six,y,_,rfl,ZN,rfl⟩))
   (ag (jI 5 nd (ym (fs:=t.jE six y) (aa 1 rfl) Ad ax hr (ae (aH (fs:=t.jE six x) (aa 0 rfl) T.ay.cl T.bw rfl) ai) ⟨six,y,_,rfl,ZN,rfl⟩))
   (ag (jw (m:=wn six) 6 S nd rfl PassesOwn.leaving T.gB (ae (bR (lN (aa 2 rfl)) Se ax hr ⟨rfl,rfl⟩) ai) ⟨by omega,by omega⟩ (by rw[e0];exact Le.of ⟨rfl,rfl,rfl,rfl,rfl,rfl,trivial⟩) (by omega) (fun k hk=>?_) (by rw[VW];exact .all rfl))
   ?_))))⟩
 . have W0:k < ((aaj (wn six)).map fun w=>if w < k then x8 six x y w else (qd six y.reach x.turn).getD w 0).length:=by simpa using hk
   have aea:k < ((aaj (wn six)).map fun w=>if w < k then z6 six x y w else (qd six y.aU x.turn).getD w 0).length:=by simpa using hk
   have ga:∀ (f g:Nat->Int) (z:Int),oU ((((aaj (wn six)).map fun w=>if w < k then f w else g w)).map Dt.int) (k:Int)=some (.int (g k)):=fun f g z=>by
     refine lU ?_
     rw[YL,YL,aaL hk]
     simp
   have gs:∀ (l:List Int) (z:Int),l.length=wn six->oU ((l.map Dt.int).set k (.int z)) (k:Int)=some (.int z):=fun l z hl=>by
     refine lU ?_
     rw[aah (by simp;omega)]
   have ix:∀ (l:List Dt),l.length=wn six->CM l.length (k:Int)=some k:=fun l hl=>NH (by omega)
   have xr:oU x.reach (k:Int)=some (x.reach.getD k 0):=by
     have:=wY (ns:=x.reach) (k:=k) (by omega) (by rw[wx.rl];omega)
     simpa using this
   have xt:oU x.aU (k:Int)=some (x.aU.getD k 0):=by
     have:=wY (ns:=x.aU) (k:=k) (by omega) (by rw[wx.tl];omega)
     simpa using this
   have lA:(((aaj (wn six)).map fun w=>if w < k then x8 six x y w else (qd six y.reach x.turn).getD w 0).map Dt.int).length=wn six:=by simp
   have lB:(((aaj (wn six)).map fun w=>if w < k then z6 six x y w else (qd six y.aU x.turn).getD w 0).map Dt.int).length=wn six:=by simp
   have lA0:((aaj (wn six)).map fun w=>if w < k then x8 six x y w else (qd six y.reach x.turn).getD w 0).length=wn six:=by simp
   have iA:=ix _ lA
   have iB:=ix _ lB
   have iA':∀ z,CM (abd (List.set (((aaj (wn six)).map fun w=>if w < k then x8 six x y w else (qd six y.reach x.turn).getD w 0).map Dt.int) k z)) (k:Int)=some k:=fun z=>ix _ (by rw[abR];exact lA)
   have iB':∀ z,CM (abd (List.set (((aaj (wn six)).map fun w=>if w < k then z6 six x y w else (qd six y.aU x.turn).getD w 0).map Dt.int) k z)) (k:Int)=some k:=fun z=>ix _ (by rw[abR];exact lB)
   by_cases c:(qd six y.reach x.turn).getD k 0+iN six k x.shift<=x.reach.getD k 0
   . have eR:x8 six x y k=x.reach.getD k 0:=if_pos c
     have eT:z6 six x y k=x.aU.getD k 0:=if_pos c
     refine .nx (ag (mv (m:=k) 4 (aK (sx 4 (aa 6 rfl) (ga _ _ 0)) (bE (lN (aa 2 rfl)) Ft ax hr (ae (aa 6 rfl) (ae (sZ T.hK (aH (fs:=t.jE six x) (aa 0 rfl) T.ay.cl T.aR rfl)) ai)) ⟨_,_,rfl,⟨by omega,by omega⟩,rfl⟩)) (aa 6 rfl) iA)
       (ag (mv (m:=k) 5 (aK (sx 5 (aa 6 rfl) (ga _ _ 0)) (aH (fs:=t.jE six x) (aa 0 rfl) T.ay.cl T.bu rfl)) (aa 6 rfl) iB)
       (ao (aS (Iw (sj (qt (aH (fs:=t.jE six x) (aa 0 rfl) T.ay.cl T.cm rfl)) (aa 6 rfl) xr) (sx 4 (aa 6 rfl) (gs _ _ lA0)))
         (fun h=>ag (mv (m:=k) 4 (sj (qt (aH (fs:=t.jE six x) (aa 0 rfl) T.ay.cl T.cm rfl)) (aa 6 rfl) xr) (aa 6 rfl) (iA' _))
           (ao (mv (m:=k) 5 (sj (qt (aH (fs:=t.jE six x) (aa 0 rfl) T.ay.cl T.eh rfl)) (aa 6 rfl) xt) (aa 6 rfl) (iB' _))))
         (fun h=>absurd c (of_decide_eq_false h)))))) (Le.of ⟨rfl,rfl,rfl,rfl,?_,?_,trivial⟩)
     . rw[List.set_set,rP,<- eR,vf hk]
     . rw[List.set_set,rP,<- eT,vf hk]
   . have eR:x8 six x y k=(qd six y.reach x.turn).getD k 0+iN six k x.shift:=if_neg c
     have eT:z6 six x y k=(qd six y.aU x.turn).getD k 0+x.many:=if_neg c
     refine .nx (ag (mv (m:=k) 4 (aK (sx 4 (aa 6 rfl) (ga _ _ 0)) (bE (lN (aa 2 rfl)) Ft ax hr (ae (aa 6 rfl) (ae (sZ T.hK (aH (fs:=t.jE six x) (aa 0 rfl) T.ay.cl T.aR rfl)) ai)) ⟨_,_,rfl,⟨by omega,by omega⟩,rfl⟩)) (aa 6 rfl) iA)
       (ag (mv (m:=k) 5 (aK (sx 5 (aa 6 rfl) (ga _ _ 0)) (aH (fs:=t.jE six x) (aa 0 rfl) T.ay.cl T.bu rfl)) (aa 6 rfl) iB)
       (ao (aS (Iw (sj (qt (aH (fs:=t.jE six x) (aa 0 rfl) T.ay.cl T.cm rfl)) (aa 6 rfl) xr) (sx 4 (aa 6 rfl) (gs _ _ lA0)))
         (fun h=>absurd (of_decide_eq_true h) c)
         (fun h=>bJ))))) (Le.of ⟨rfl,rfl,rfl,rfl,?_,?_,trivial⟩)
     . rw[rP,<- eR,vf hk]
     . rw[rP,<- eT,vf hk]
 . rw[en]
   exact uM (ns:=(jn six x y).reach) 4 (uM (ns:=(jn six x y).aU) 5 (ao (aF (DA (uH Sf ax hr (ae (aa 2 rfl) (ae (aK (aH (fs:=t.jE six x) (aa 0 rfl) T.ay.cl T.bu rfl) (bR (fs:=t.jE six y) (aa 1 rfl) DG ax hr ⟨six,y,rfl,rfl⟩))
     (ae (bE (lN (aa 2 rfl)) rN ax hr (ae (aK (aH (fs:=t.jE six x) (aa 0 rfl) T.ay.cl T.bw rfl) (bR (fs:=t.jE six y) (aa 1 rfl) DH ax hr ⟨six,y,rfl,rfl⟩)) ai) ⟨_,rfl,rfl⟩)
     (ae (DB T.hK (aX NI ax hr (ae (sZ T.hK (aH (fs:=t.jE six x) (aa 0 rfl) T.ay.cl T.aR rfl)) (ae (aa 3 rfl) ai)) ⟨_,_,rfl,rfl⟩))
     (ae (aK (aH (fs:=t.jE six x) (aa 0 rfl) T.ay.cl T.cj rfl) (bR (fs:=t.jE six y) (aa 1 rfl) tm ax hr ⟨six,y,rfl,rfl⟩))
     (ae (aa 4 rfl) (ae (aa 5 rfl) (ae (aK (aK (aH (fs:=t.jE six x) (aa 0 rfl) T.ay.cl T.eu rfl) (bR (fs:=t.jE six y) (aa 1 rfl) DI ax hr ⟨six,y,rfl,rfl⟩))
       (aX NJ ax hr (ae (sZ T.hK (aH (fs:=t.jE six x) (aa 0 rfl) T.ay.cl T.aR rfl)) (ae (aa 3 rfl) ai)) ⟨_,_,rfl,⟨⟨by have:=wx.sm;omega,by have:=wx.sm;omega⟩,VX ZN.sm⟩,rfl⟩)) ai)))))))) ⟨six,jn six x y,rfl,rfl⟩)))))
theorem ka (six:Bool)(xs:List Str)(d:Str):bS six (xs ++ [d])=jn six (bS six xs) (one six d):=by
 unfold bS
 rw[List.foldl_append];rfl
theorem pM (six:Bool):∀ n:Nat,tn six n (0,0)=(0,0)
 | 0=>rfl
 | n+1=>by rw[tn,pM six n];cases six <;> rfl
theorem w4 (six:Bool)(d:Str):(vd six d (0,0) 0).1=if d∈Cv then (1,0) else (0,0):=by
 have e:tn six ((0:Int) % wy six).toNat (1,0)=(1,0):=by cases six <;> rfl
 unfold vd
 show(if d∈Cv then ad (0,0) (tn six ((0:Int) % wy six).toNat (1,0)) else (0,0))=_
 rw[e];rfl
theorem Fu (six:Bool)(b:Int):(tn six (b % wy six).toNat (1,0)).1.natAbs<=1/\(tn six (b % wy six).toNat (1,0)).2.natAbs<=1:=by
 cases six with
 | false=>
   have e:wy false=4:=rfl
   rw[e]
   have h:b % 4=0\/b % 4=1\/b % 4=2\/b % 4=3:=by omega
   rcases h with h | h | h | h <;> rw[h] <;> decide
 | true=>
   have e:wy true=6:=rfl
   rw[e]
   have h:b % 6=0\/b % 6=1\/b % 6=2\/b % 6=3\/b % 6=4\/b % 6=5:=by omega
   rcases h with h | h | h | h | h | h <;> rw[h] <;> decide
theorem NK (six:Bool)(x:Tr)(d:Str):(jn six x (one six d)).shift.1.natAbs<=x.shift.1.natAbs+1/\(jn six x (one six d)).shift.2.natAbs<=x.shift.2.natAbs+1:=by
 show(x.shift.1+(tn six (x.turn % wy six).toNat (vd six d (0,0) 0).1).1).natAbs<=_/\(x.shift.2+(tn six (x.turn % wy six).toNat (vd six d (0,0) 0).1).2).natAbs<=_
 rw[w4]
 by_cases c:d∈Cv
 . rw[if_pos c]
   have:=Fu six x.turn
   omega
 . rw[if_neg c,pM]
   simp
theorem Sh (six:Bool)(d:Str):WF six (one six d):=⟨by unfold one;simp,by unfold one;simp,by
 show(vd six d (0,0) 0).1.1.natAbs < _/\(vd six d (0,0) 0).1.2.natAbs < _
 rw[w4]
 by_cases c:d∈Cv
 . rw[if_pos c];decide
 . rw[if_neg c];decide⟩
theorem Si (six:Bool):WF six (Cw six):=⟨by unfold Cw;simp,by unfold Cw;simp,by show(0:Int).natAbs < _/\(0:Int).natAbs < _;decide⟩
theorem Ae (six:Bool):∀ (n:Nat) (xs:List Str),xs.length=n->(bS six xs).shift.1.natAbs<=n/\(bS six xs).shift.2.natAbs<=n/\(bS six xs).reach.length=wn six/\(bS six xs).aU.length=wn six:=by
 intro n
 induction n with
 | zero=>
   intro xs h
   have e:xs=[]:=aaV h
   subst e
   have w:=Si six
   exact⟨aae _,aae _,w.rl,w.tl⟩
 | succ n ih=>
   intro xs h
   have Ax:xs≠[]:=fun e=>by rw[e] at h;cases h
   have e:=aa7 Ax
   have hl:xs.dropLast.length=n:=by rw[abk];omega
   obtain⟨h1,h2,h3,h4⟩:=ih _ hl
   rw[<- e,ka]
   obtain⟨q1,q2⟩:=NK six (bS six xs.dropLast) (xs.getLast Ax)
   refine⟨by omega,by omega,?_,?_⟩
   . unfold jn;simp
   . unfold jn;simp
theorem vg (six:Bool){xs:List Str}(h:xs.length < 2 ^ 990):WF six (bS six xs):=by
 obtain⟨h1,h2,h3,h4⟩:=Ae six _ xs rfl
 exact⟨h3,h4,aaK h1 h,aaK h2 h⟩
theorem Ku (six:Bool){xs:List Str}(h:xs.length<=100000):WF six (bS six xs):=vg six (aaK h (aao (show 100000 < 2 ^ 20 by decide) (abM (by decide) (by decide))))
theorem tX (T:Txt K mg t):GF P w K mg base CX 7 "track_of" 2 (DC t):=by
 refine⟨_,_,_,iH T.jC.F tU rfl fun bj A outer s H E G ds r hr hl hR=>?_,(T.g T.jC.a),T.jC.F.kp,T.jC.b⟩
 obtain⟨six,xs,rfl,hd,hn,rfl⟩:=hR
 have Af:=B5 (P:=P) (w:=w) (base:=base) T
 have VY:=DF (P:=P) (w:=w) (base:=base) T
 have xa:=tf (P:=P) (w:=w) (base:=base) T
 have nd:=tU.nd
 let S:Nat->List Slot:=fun k=>[.val (.iQ (.obj (t.pc six) [])),.val (.lst (xs.map .str)),.val (t.lP six (bS six (xs.take k))),.aJ]
 have en:S (xs.map Dt.str).length=[.val (.iQ (.obj (t.pc six) [])),.val (.lst (xs.map .str)),.val (t.lP six (bS six xs)),.aJ]:=by
   show [_,_,Slot.val (t.lP six (bS six (xs.take (xs.map Dt.str).length))),_]=_
   rw[k5,aa8]
 refine⟨_,.rt _,ag (ar 2 nd (aX Af ax hr (ae (aa 0 rfl) ai) ⟨six,rfl,rfl⟩))
   (ag (Em (m:=(xs.map Dt.str).length) 3 S nd rfl PassesOwn.leaving (aa 1 rfl) (Le.of ⟨rfl,rfl,rfl,trivial⟩) (aae _) (fun k z hk hz=>?_) (.all rfl)) ?_)⟩
 . rw[k5] at hk
   rw[YL,k3 hk] at hz
   cases hz
   have hm:xs[k]∈xs:=aaN hk
   have e:bS six (xs.take (k+1))=jn six (bS six (xs.take k)) (one six xs[k]):=by
     rw[aa6,k3 hk]
     exact ka _ _ _
   have hl:(xs.take k).length<=100000:=by rw[aax];omega
   refine .nx (ao (ar 2 nd (bE (fs:=t.jE six (bS six (xs.take k))) (kB (aa 2 rfl)) xa ax hr (ae (kB (aX VY ax hr (ae (aa 0 rfl) (ae (aa 3 rfl) ai)) ⟨six,xs[k],rfl,hd _ hm,rfl⟩)) ai) ⟨six,_,one six xs[k],rfl,⟨Ku six hl,Sh six _⟩,rfl⟩))) (Le.of ⟨rfl,rfl,?_,trivial⟩)
   show Slot.val (t.lP six (bS six (xs.take (k+1))))=_
   rw[e]
 . rw[en]
   exact ao (aF (aa 2 rfl))
theorem B6 (six:Bool):∀ (n:Nat) (xs:List Str),xs.length=n->(bS six xs).many=n/\(bS six xs).aT=(xs.count ("stroke":Str):Nat):=by
 intro n
 induction n with
 | zero=>
   intro xs h
   have e:xs=[]:=aaV h
   subst e
   exact⟨rfl,rfl⟩
 | succ n ih=>
   intro xs h
   have Ax:xs≠[]:=fun e=>by rw[e] at h;cases h
   have e:=aa7 Ax
   have hl:xs.dropLast.length=n:=by rw[abk];omega
   obtain⟨h1,h2⟩:=ih _ hl
   have ec:xs.count ("stroke":Str)=xs.dropLast.count ("stroke":Str)+if xs.getLast Ax="stroke" then 1 else 0:=by
     conv=>lhs;rw[<- e]
     rw[List.count_append,List.count_singleton]
     congr 1
     by_cases c:xs.getLast Ax="stroke" <;> simp[c]
   rw[ec]
   conv=>lhs;rw[<- e]
   rw[show(bS six xs).aT=(bS six (xs.dropLast ++ [xs.getLast Ax])).aT by rw[e],ka]
   refine⟨?_,?_⟩
   . show(bS six xs.dropLast).many+1=_
     rw[h1];omega
   . show(bS six xs.dropLast).aT+(if xs.getLast Ax="stroke" then 1 else 0)=_
     rw[h2]
     by_cases c:xs.getLast Ax="stroke"
     . rw[if_pos c,if_pos c];omega
     . rw[if_neg c,if_neg c];omega
noncomputable abbrev ZO:=Int×(Int×Int)×Int
noncomputable def pj (x:Tr):ZO:=(x.turn,x.shift,x.gC)
noncomputable def ZP (six:Bool)(s:ZO)(d:Str):ZO:=((s.1+ju d) % wy six,ad s.2.1 (tn six (s.1 % wy six).toNat (if d∈Cv then (1,0) else (0,0))),s.2.2+cr s.2.1 (tn six (s.1 % wy six).toNat (if d∈Cv then (1,0) else (0,0))))
theorem VZ (six:Bool)(x:Tr)(d:Str):pj (jn six x (one six d))=ZP six (pj x) d:=by
 unfold pj ZP jn
 have e1:(one six d).turn=(0+ju d) % wy six:=rfl
 have e2:(one six d).shift=if d∈Cv then (1,0) else (0,0):=w4 six d
 have e3:(one six d).gC=0:=rfl
 simp only[e1,e2,e3]
 refine Prod.ext ?_ (Prod.ext rfl ?_)
 . show(x.turn+(0+ju d) % wy six) % wy six=_
   rw[Int.add_emod_emod];simp
 . show x.gC+0+_=x.gC+_
   rw[abq]
open PySem.Builtin.Str PySem.StrLaws in
theorem Ag (s:Str)(c limit:Nat):∀ (n i:Nat) (acc:Array Nat) (free:Nat),free<=i->acc.size+n<=limit->(forIn (abN i n) (acc,free) (occBody s ⟨#[c]⟩ s.length limit)).run.fst.size=acc.size+(abN i n).countP (fun j=>decide (s.cps.toList[j]?=some c))
 | 0,i,acc,free,_,_=>by simp
 | n+1,i,acc,free,hf,hl=>by
   rw[List.range'_succ,List.forIn_cons,List.countP_cons]
   have hso:=subAt_one s c i
   by_cases hc:s.cps.toList[i]?=some c
   . obtain⟨h1,h2⟩:=hso.mpr hc
     have e:occBody s ⟨#[c]⟩ s.length limit i (acc,free)=pure (ForInStep.yield (acc.push i,i+(⟨#[c]⟩:Str).length)):=by
       unfold occBody
       exact if_pos ⟨⟨⟨by show acc.size < limit;omega,hf⟩,h1⟩,h2⟩
     rw[e]
     show(forIn (abN (i+1) n) (acc.push i,i+(⟨#[c]⟩:Str).length) (occBody s ⟨#[c]⟩ s.length limit)).run.fst.size=_
     rw[Ag s c limit n (i+1) (acc.push i) _ (by show i+1<=i+1;omega) (by rw[Array.size_push];omega),Array.size_push,if_pos (decide_eq_true hc)]
     omega
   . have e:occBody s ⟨#[c]⟩ s.length limit i (acc,free)=pure (ForInStep.yield (acc,free)):=by
       unfold occBody
       exact if_neg fun h=>hc (hso.mp ⟨h.1.2,h.2⟩)
     rw[e]
     show(forIn (abN (i+1) n) (acc,free) (occBody s ⟨#[c]⟩ s.length limit)).run.fst.size=_
     rw[Ag s c limit n (i+1) acc free (by omega) (by omega),if_neg (by simpa using hc)]
     omega
theorem G7 (L:List Nat)(c:Nat):(abN 0 (L.length+1)).countP (fun j=>decide (L[j]?=some c))=L.count c:=by
 rw[<- List.range_eq_range',List.range_succ,List.countP_append]
 have e1:(aaj L.length).map (fun j=>L[j]?)=L.map some:=by
   refine List.ext_getElem? fun i=>?_
   rw[YL,YL]
   by_cases h:i < L.length
   . rw[aaL h];simp[h]
   . rw[aaC (by simp;omega),aaC (by omega)];rfl
 have e2:(aaj L.length).countP (fun j=>decide (L[j]?=some c))=((aaj L.length).map (fun j=>L[j]?)).countP (fun o=>decide (o=some c)):=by
   rw[List.countP_map];rfl
 rw[e2,e1,List.countP_map]
 have e3:((fun o=>decide (o=some c)) ∘ some)=fun x:Nat=>x == c:=by
   funext x
   by_cases h:x=c <;> simp[h]
 rw[e3]
 simp[List.count]
open PySem.Builtin.Str PySem.StrLaws in
theorem Kv (w:List Nat)(x:Nat):Txt.count (tx w) (sg x)=((w.count x:Nat):Int):=by
 unfold Txt.count
 have hl:=gb w
 rw[occ_eq,abn]
 show(((forIn (abN 0 ((tx w).length+1 - 0)) (#[],0) (occBody (tx w) ⟨#[x]⟩ (tx w).length ((tx w).length+1))).run.fst.size:Nat):Int)=_
 rw[Ag (tx w) x _ _ 0 #[] 0 (aae _) (by simp)]
 have e:(tx w).cps.toList=w:=by show w.toArray.toList=w;simp
 rw[e,hl,Nat.sub_zero,G7]
 simp
noncomputable def O4 (L w:List Nat):List (Key×Int):=L.map fun x=>(.inr (sg x),((w.count x:Nat):Int))
theorem Kw (L w:List Nat):(dI (O4 L w)).map (·.1)=L.map fun x=>(Sum.inr (sg x):Key):=by
 unfold dI O4
 rw[aam,aam];rfl
theorem lr {L:List Nat}(h:L.Nodup):(L.map fun x=>(Sum.inr (sg x):Key)).Nodup:=by
 rw[List.nodup_iff_pairwise_ne,List.pairwise_map]
 exact(List.nodup_iff_pairwise_ne.mp h).imp fun hn e=>hn (qD (Sum.inr.inj e))
theorem Sk (L w:List Nat):(L.map fun x=>Dt.tup [.str (sg x),.int ((w.count x:Nat):Int)])=(dI (O4 L w)).map LL:=by
 unfold dI O4
 rw[aam,aam];rfl
def NL (t:dN):Rl:=fun ds r=>∃ six rows w,ds=[t.x6 six rows,.str (tx w)]/\bM rows/\r=.own (.eP (dI (O4 (rows.map (·.c)) w)))
noncomputable abbrev ZQ:Stmt->Scope
 | .Return (some (.Call _ (.ListComp _ _ sc _::_) _ _)) _=>sc
 | _=>af (.Pass ⟨0,0,0,0⟩)
noncomputable abbrev Kx:Scope:=ZQ ((aA rh).getD 0 (.Pass ⟨0,0,0,0⟩))
theorem B7:eU Kx (af rh) EY ["letter","word"] ["letter"] [1]=true:=by decide +kernel
theorem dD (w:List Nat):w.map (fun x=>Dt.str (sg x))=Sg.signs (tx w):=by rw[wV,aam];rfl
theorem xb {rows:List Row}(ok:bM rows):kj (tx (rows.map (·.c)))=true:=fw fun x hx=>by
 obtain⟨r,hr,rfl⟩:=aaM.mp hx
 have:=ok.sm r hr
 unfold small at this;omega
theorem Ky (T:Txt K mg t):GF P w K mg base CX 3 "tally" 2 (NL t):=by
 refine⟨_,_,_,iH T.pE.F BI rfl fun bj A outer s H E G ds r hr hl hR=>?_,(T.g T.pE.a),T.pE.F.kp,T.pE.b⟩
 obtain⟨six,rows,wd,rfl,ok,rfl⟩:=hR
 have fD:=j9 (P:=P) (w:=w) (base:=base) T
 have nd:=BI.nd
 have h6:=ok.le
 let L:=rows.map (·.c)
 have e2:((L.filter fun _=>true).map fun x=>Dt.tup [.str (sg x),.int ((wd.count x:Nat):Int)])=(dI (O4 L wd)).map LL:=by
   rw[aas.mpr (fun _ _=>rfl)]
   exact Sk L wd
 refine⟨_,.ro _,ao (lW (my T.oO rfl (df e2 (de L (fun x=>Dt.str (sg x)) (fun x=>.tup [.str (sg x),.int ((wd.count x:Nat):Int)]) (fun x=>[.val (.str (sg x))]) (fun _=>true) rfl (aW B7) (fU (bR (fs:=t.wW six rows) (aa 0 rfl) fD ax hr ⟨six,rows,rfl,ok,rfl⟩)) (bg (aW B7) rfl) (cU (cB (xb ok)) (dD L)) (fun a _=>bC) (.nil fun _ _=>rfl)
     (fun a ha _ C fp s' H' G'=>bQ (ae (aa 0 rfl) (ae (aM (GI (aa 1 rfl) (aa 0 rfl)) (congrArg Dt.int (Kv wd a))) ai)) AA3) (sY (by show(rows.map (·.c)).length<=_;rw[k5];omega)))) ?_ ?_))⟩
 . rw[Kw];exact lr ok.nd
 . show((O4 (rows.map (·.c)) wd).map _).length<=_
   unfold O4
   rw[k5,k5,k5]
   exact sY (by omega)
noncomputable def cT (rows:List Row):Nat->Nat->Nat->Int
 | 0,c,x=>(([c].count x:Nat):Int)
 | i+1,c,x=>((wordOf rows c).map fun y=>cT rows i y x).sum
noncomputable def kc (L:List Nat)(T:Nat->Int):List (Key×Int):=L.map fun x=>(.inr (sg x),T x)
noncomputable def lT (rows:List Row)(i c:Nat):Int:=((rows.map (·.c)).map fun x=>cT rows i c x).sum
noncomputable def xc (rows:List Row)(i:Nat):List (Key×FD):=(rows.map (·.c)).map fun c=>(.inr (sg c),.eP (kc (rows.map (·.c)) (cT rows i c)))
noncomputable def Ah (rows:List Row)(i:Nat):List (Key×FD):=(rows.map (·.c)).map fun c=>(.inr (sg c),.int (lT rows i c))
theorem NM (L:List Nat)(T:Nat->Int):(kc L T).map (·.2)=L.map T:=by unfold kc;rw[aam];rfl
theorem NN (L:List Nat)(T:Nat->Int):(dI (kc L T)).map (·.1)=L.map fun x=>(Sum.inr (sg x):Key):=by unfold dI kc;rw[aam,aam];rfl
theorem Sl (L:List Nat)(T:Nat->Int):(dI (kc L T)).length=L.length:=by unfold dI kc;rw[k5,k5]
noncomputable def kd (L:List Nat)(D:Nat->Dt):List (Key×Dt):=L.map fun x=>(.inr (sg x),D x)
theorem l5 {D:Nat->Dt}:∀ {L:List Nat} {x:Nat},x∈L->mx (kd L D) (.inr (sg x))=some (D x)
 | [],_,h=>by cases h
 | y::L,x,h=>by
   by_cases e:y=x
   . subst e
     exact q8 (p:=((.inr (sg y):Key),D y)) rfl
   . have ne:¬ (Sum.inr (sg y):Key)=.inr (sg x):=fun z=>e (qD (Sum.inr.inj z))
     have hx:x∈L:=by
       rcases aaE.mp h with z | z
       . exact absurd z.symm e
       . exact z
     exact(ow (p:=((.inr (sg y):Key),D y)) ne).trans (l5 hx)
theorem O5 (L:List Nat)(T:Nat->Int):dI (kc L T)=kd L fun x=>.int (T x):=by unfold dI kc kd;rw[aam];rfl
theorem Hw (rows:List Row)(i:Nat):nW (xc rows i)=kd (rows.map (·.c)) fun c=>.dM (dI (kc (rows.map (·.c)) (cT rows i c))):=by unfold nW xc kd;rw[aam];rfl
theorem O6 (rows:List Row)(i:Nat):nW (Ah rows i)=kd (rows.map (·.c)) fun c=>.int (lT rows i c):=by unfold nW Ah kd;rw[aam];rfl
theorem rQ (L:List Nat)(D:Nat->Dt):(kd L D).map (·.1)=L.map fun x=>(Sum.inr (sg x):Key):=by unfold kd;rw[aam];rfl
theorem B8 (L:List Nat)(D:Nat->Dt):(L.map fun x=>Dt.tup [.str (sg x),D x])=(kd L D).map LL:=by unfold kd;rw[aam];rfl
theorem Kz {L:List Nat}(nd:L.Nodup){D:Nat->Dt}{j:Nat}(hj:j < L.length):vQ (kd (L.take j) D) (.inr (sg L[j])) (D L[j])=kd (L.take (j+1)) D:=by
 have hn:mx (kd (L.take j) D) (.inr (sg L[j]))=none:=by
   refine sE fun kv YE=>?_
   have:kv.1∈(kd (L.take j) D).map (·.1):=aaM.mpr ⟨kv,YE,rfl⟩
   rw[rQ] at this
   obtain⟨y,hy,e⟩:=aaM.mp this
   intro z
   rw[<- e] at z
   have z:y=L[j]:=qD (Sum.inr.inj z)
   obtain⟨i,hi,e⟩:=aaT.mp hy
   rw[aax] at hi
   rw[abt] at e
   exact aaW.mp nd i j (by omega) hj (by omega) (e.trans z)
 unfold vQ
 rw[hn,if_neg (by simp)]
 unfold kd
 rw[aa6,k3 hj,aa4];rfl
noncomputable def KA (L:List Nat)(T:Nat->Int):Dt:=.dM (dI (kc L T))
def KC:Rl:=fun ds r=>∃ (L:List Nat) (ts:List (Nat->Int)),ds=[.lst (ts.map (KA L)),.str (tx L)]/\L.Nodup/\L.length<=6/\(∀ x∈L,x < 128)/\ts.length<=1000/\r=.own (.eP (dI (kc L fun x=>(ts.map fun T=>T x).sum)))
noncomputable abbrev Sm:Stmt->Scope
 | .Return (some (.Call _ (.ListComp _ _ sc _::_) _ _)) _=>sc
 | _=>af (.Pass ⟨0,0,0,0⟩)
noncomputable abbrev V0:Stmt->Scope
 | .Return (some (.Call _ (.ListComp (.Tuple [_,.Call _ (.ListComp _ _ sc _::_) _ _] _ _) _ _ _::_) _ _)) _=>sc
 | _=>af (.Pass ⟨0,0,0,0⟩)
noncomputable abbrev O7:Scope:=Sm ((aA j7).getD 0 (.Pass ⟨0,0,0,0⟩))
noncomputable abbrev So:Scope:=V0 ((aA j7).getD 0 (.Pass ⟨0,0,0,0⟩))
noncomputable def Sq (sc:Scope):Env:={ scope:=sc,locals:=0,globals:=0,cells:=[],qual:="",func:=none,code:=.none,frame:=none,builtins:=0}
noncomputable abbrev V1:Scope:=relabel O7 (Sq (af j7))
theorem O8:Bx O7 (af j7) BJ ["letter","tallies"] "letter" [0]=true:=by decide +kernel
theorem KD:eU So V1 ["letter","tallies"] ["counts","letter"] ["counts"] [0]=true:=by decide +kernel
theorem G8 (T:Txt K mg t):GF P w K mg base CX 2 "summed" 2 KC:=by
 refine⟨_,_,_,iH T.mI.F yy rfl fun bj A outer s H E G ds r hr hl hR=>?_,(T.g T.mI.a),T.mI.F.kp,T.mI.b⟩
 obtain⟨L,ts,rfl,hnd,hL,h7,hts,rfl⟩:=hR
 have nd:=yy.nd
 have hu:(A.deeper (envOfC "summed" (af j7) s.heap.objs.size t.oN bj)).units+1 < cLine:=by have:=hr.units;omega
 let D:Nat->Dt:=fun x=>.int (ts.map fun T=>T x).sum
 have e2:((L.filter fun _=>true).map fun x=>Dt.tup [.str (sg x),D x])=(dI (kc L fun x=>(ts.map fun T=>T x).sum)).map LL:=by
   rw[aas.mpr (fun _ _=>rfl),O5]
   exact B8 L D
 refine⟨_,.ro _,ao (lW (my T.oO rfl (df e2 (Jw L (fun x=>Dt.str (sg x)) (fun x=>.tup [.str (sg x),D x]) (fun x=>[.val (.str (sg x))]) (fun _=>true) rfl (yq O8) (fU (aa 1 rfl)) (vX (yq O8)) (cU (cB (fw h7)) (dD L)) (fun a _=>bC) (.nil fun _ _=>rfl)
     (fun a ha _ c C fp s' H' G'=>?_) (sY (by omega)))) (by rw[NN];exact lr hnd) (by rw[Sl];exact sY (by omega))))⟩
 have e3:((ts.filter fun _=>true).map fun T=>Dt.int (T a))=(ts.map fun T=>T a).map Dt.int:=by
   rw[aas.mpr (fun _ _=>rfl),aam];rfl
 refine bQ (ae (aa 0 rfl) (ae (Jj T.BU rfl (df e3 (de ts (KA L) (fun T=>Dt.int (T a)) (fun T=>[.val (KA L T)]) (fun _=>true) rfl (aW KD) (fN (aa 1 rfl)) (bg (aW KD) rfl) dZ (fun a _=>bC) (.nil fun _ _=>rfl)
   (fun T' hT' _ C2 Vc s2 H2 G2=>?_) (sY (by omega))))) ai)) AA3
 exact lE hu (aa 0 rfl) (aa 1 rfl) (by rw[O5];exact l5 ha) (fun _ _=>rfl)
noncomputable def dN.Ai (t:dN)(six:Bool)(rows:List Row)(w:List Nat):List (Str×Dt):=[("rules",t.x6 six rows),("seed",.str (tx w))]
noncomputable def qE (rows:List Row):List (Nat->List (Key×FD)):=[xc rows,Ah rows]
noncomputable abbrev dN.iO (t:dN)(six:Bool)(rows:List Row)(w:List Nat)(l:Addr)(ls:kg)(n:Nat):List (Str×Dt):=tK (t.Ai six rows w) ["tallies","lengths"] l ls n
noncomputable abbrev dN.G9 (t:dN)(six:Bool)(rows:List Row)(w:List Nat)(l:Addr)(ls:kg)(n:Nat):List (Str×Dt):=pR (t.Ai six rows w) ["tallies","lengths"] l ls n
noncomputable abbrev dN.ZR (t:dN)(six:Bool)(rows:List Row)(w:List Nat)(n:Nat):Dt:=.vC t.au (t.Ai six rows w) (qE rows) ["tallies","lengths"] n
structure mM (rows:List Row)(w:List Nat):Prop where
 ok:bM rows
 w0:0 < w.length
 w8:w.length<=8
 wm:∀ x∈w,x∈rows.map (·.c)
theorem B9 {a:Addr}:∀ rows:List Row,zm a (sW rows)=true
 | []=>rfl
 | r::rows=>by
   show(sG a (nV r) && zm a (sW rows))=true
   rw[B9 rows];rfl
theorem DJ {a:Addr}(t:dN)(six:Bool)(rows:List Row):sG a (t.x6 six rows)=true:=by
 show kH a [("drawer",.iQ (.obj (t.pc six) [])),("row_by_letter",.eP (sW rows))]=true
 show(true && (zm a (sW rows) && true))=true
 rw[B9];rfl
theorem Ca {a:Addr}(t:dN)(six:Bool)(rows:List Row)(w:List Nat):kH a (t.Ai six rows w)=true:=by
 show(sG a (t.x6 six rows) && (true && true))=true
 rw[DJ];rfl
def NO (t:dN):Rl:=fun ds r=>∃ six rows w,ds=[t.x6 six rows,.str (tx w)]/\mM rows w/\r=.own (.se t.au (t.Ai six rows w) (qE rows) ["tallies","lengths"] 1)
noncomputable abbrev DK:Stmt->Scope
 | .Assign _ (.List [.Call _ (.ListComp _ _ sc _::_) _ _] _) _=>sc
 | _=>af (.Pass ⟨0,0,0,0⟩)
noncomputable abbrev Sr:Scope:=DK ((aA dF).getD 2 (.Pass ⟨0,0,0,0⟩))
noncomputable abbrev Ss:Scope:=DK ((aA dF).getD 3 (.Pass ⟨0,0,0,0⟩))
theorem KG:eU Sr (af dF) mf ["letter","rules"] ["letter"] [1]=true:=by decide +kernel
theorem KH:eU Ss (af dF) mf ["letter"] ["letter"] []=true:=by decide +kernel
theorem Fv:∀ {L:List Nat} {c:Nat},L.Nodup->c∈L->(L.map fun x=>(([c].count x:Nat):Int)).sum=1
 | [],_,_,h=>by cases h
 | y::L,c,nd,h=>by
   rw[abr] at nd
   rw[aaq,abm]
   by_cases e:c=y
   . subst e
     have z:(L.map fun x=>(([c].count x:Nat):Int)).sum=0:=by
       have:∀ x∈L,(([c].count x:Nat):Int)=0:=fun x hx=>by
         have:¬ c=x:=fun z=>nd.1 (z ▸ hx)
         simp[List.count_cons,this]
       rw[abU this]
       clear this nd h
       induction L with
       | nil=>rfl
       | cons a r ih=>rw[aaq,abm,ih];rfl
     rw[z]
     simp
   . have hc:c∈L:=by
       rcases aaE.mp h with z | z
       . exact absurd z e
       . exact z
     rw[Fv nd.2 hc]
     simp[List.count_cons,e]
theorem V2 {rows:List Row}(ok:bM rows){c:Nat}(h:c∈rows.map (·.c)):lT rows 0 c=1:=Fv ok.nd h
theorem KI (T:Txt K mg t):Tz P w K mg base CX 4 "Growth" t.au 3 (NO t):=by
 refine⟨_,_,_,W5 T.jX.F oH rfl fun bj A outer s H E G z ds r hr hl hR=>?_,T.sQ,(T.g T.aO.a),T.jX.b⟩
 obtain⟨six,rows,wd,rfl,ok,rfl⟩:=hR
 have fD:=j9 (P:=P) (w:=w) (base:=base) T
 have Hc:=tW (P:=P) (w:=w) (base:=base) T
 have NP:=Ky (P:=P) (w:=w) (base:=base) T
 have h6:=ok.ok.le
 let L:=rows.map (·.c)
 have hL:L.length<=6:=by show(rows.map (·.c)).length<=6;rw[k5];exact h6
 have nd:=oH.nd
 have e1:((L.filter fun _=>true).map fun x=>Dt.tup [.str (sg x),KA L (cT rows 0 x)])=(nW (xc rows 0)).map LL:=by
   rw[aas.mpr (fun _ _=>rfl),Hw]
   exact B8 L _
 have e2:((L.filter fun _=>true).map fun x=>Dt.tup [.str (sg x),.int 1])=(nW (Ah rows 0)).map LL:=by
   rw[aas.mpr (fun _ _=>rfl),O6,<- B8]
   exact abU fun x hx=>by rw[V2 ok.ok hx]
 refine⟨_,.Yp (fs:=t.Ai six rows wd) (gs:=qE rows) (nm:=["tallies","lengths"]) (n:=1) rfl,ag (ki (aa 1 rfl) T.aO.cl T.b8) (ag (ki (C3 (fs:=t.wW six rows) (aa 1 rfl) Hc ax hr (ae (aa 2 rfl) ai) ⟨six,rows,wd,8,rfl,ok.ok,ok.wm,⟨ok.w0,ok.w8,by decide⟩,rfl⟩) T.aO.cl T.f6)
   (zt (f:=xc rows) (g:=Ah rows) rfl T.aO.cl T.cD T.cE ?_ ?_))⟩
 . refine my T.oO rfl (df e1 (de L (fun x=>Dt.str (sg x)) (fun x=>.tup [.str (sg x),KA L (cT rows 0 x)]) (fun x=>[.val (.str (sg x))]) (fun _=>true) rfl (aW KG) (fU (bR (fs:=t.wW six rows) (aa 1 rfl) fD ax hr ⟨six,rows,rfl,ok.ok,rfl⟩)) (bg (aW KG) rfl) (cU (cB (xb ok.ok)) (dD L)) (fun a _=>bC) (.nil fun _ _=>rfl)
     (fun a ha _ C fp s' H' G'=>bQ (ae (aa 0 rfl) (ae (OR (Bh NP ax hr (ae (aa 1 rfl) (ae (aa 0 rfl) ai)) ⟨six,rows,[a],rfl,ok.ok,rfl⟩)) ai)) AA3) (sY (by omega)))) (by rw[Hw,rQ];exact lr ok.ok.nd) (by rw[Hw];show(List.map _ _).length<=_;rw[k5,k5];exact sY (by omega))
 . refine my T.oO rfl (df e2 (de L (fun x=>Dt.str (sg x)) (fun x=>.tup [.str (sg x),.int 1]) (fun x=>[.val (.str (sg x))]) (fun _=>true) rfl (aW KH) (fU (bR (fs:=t.wW six rows) (aa 1 rfl) fD ax hr ⟨six,rows,rfl,ok.ok,rfl⟩)) (bg (aW KH) rfl) (cU (cB (xb ok.ok)) (dD L)) (fun a _=>bC) (.nil fun _ _=>rfl)
     (fun a ha _ C fp s' H' G'=>bQ (ae (aa 0 rfl) (ae aj ai)) AA3) (sY (by omega)))) (by rw[O6,rQ];exact lr ok.ok.nd) (by rw[O6];show(List.map _ _).length<=_;rw[k5,k5];exact sY (by omega))
def KJ (t:dN):Rl:=fun ds r=>∃ six rows w l ls n age,ds=[.obj t.au (t.iO six rows w l ls n),.int ((age:Nat):Int)]/\mM rows w/\ls.map (·.2)=qE rows/\age<=1000/\r=.ret (.uF l ls (age+1))
noncomputable abbrev V3:Stmt->List Stmt
 | .While _ b _ _=>b
 | _=>[]
noncomputable abbrev Cb:Stmt->Scope
 | .For _ _ [.Assign _ (.Call _ (.ListComp _ _ sc _::_) _ _) _] _ _=>sc
 | _=>af (.Pass ⟨0,0,0,0⟩)
noncomputable abbrev NQ:Stmt->Scope
 | .Expr (.Call _ [.Call _ (.ListComp _ _ sc _::_) _ _] _ _) _=>sc
 | _=>af (.Pass ⟨0,0,0,0⟩)
noncomputable abbrev wB:List Stmt:=V3 ((aA bK).getD 1 (.Pass ⟨0,0,0,0⟩))
noncomputable abbrev V4:Scope:=Cb (wB.getD 2 (.Pass ⟨0,0,0,0⟩))
noncomputable abbrev V5:Scope:=NQ (wB.getD 4 (.Pass ⟨0,0,0,0⟩))
theorem O9:eU V4 (af bK) iJ ["younger","last"] ["younger"] [3]=true:=by decide +kernel
theorem Pa:eU V5 (af bK) iJ ["letter","grown"] ["letter"] [4]=true:=by decide +kernel
theorem Hd (T:Txt K mg t):MF P w K mg base CX 4 t.au "deepen_to" 2 (KJ t):=by
 refine⟨T.aO.cl,_,_,_,iH T.fi.F kF rfl fun bj A outer s H E G ds r hr hl hR=>?_,T.c9,T.fi.b⟩
 obtain⟨six,rows,wd,l,ls,n,age,rfl,ok,n6,kl,rfl⟩:=hR
 have fD:=j9 (P:=P) (w:=w) (base:=base) T
 have qF:=rL (P:=P) (w:=w) (base:=base) T
 have KL:=G8 (P:=P) (w:=w) (base:=base) T
 have nd:=kF.nd
 have h6:=ok.ok.le
 let L:=rows.map (·.c)
 have hL:L.length<=6:=by show(rows.map (·.c)).length<=6;rw[k5];exact h6
 have h7:∀ x∈L,x < 128:=fun x hx=>by
   obtain⟨r,hr,rfl⟩:=aaM.mp hx
   have:=ok.ok.sm r hr
   unfold small at this;omega
 have hu:(A.deeper (envOfC "Growth.deepen_to" (af bK) s.heap.objs.size t.bL bj)).units+1 < cLine:=by have:=hr.units;omega
 have e2:ls.length=2:=by have:=congrArg abd n6;simpa [qE] using this
 let tl:List Slot:=[.val (.int ((age:Nat):Int)),.val (.str (tx L)),.aJ,.aJ,.aJ]
 refine⟨_,pv (by rw[e2];exact aae 2),ag (dl1:=Au t.au (t.Ai six rows wd) ["tallies","lengths"] l ls n tl) (ar 2 nd (bR (fs:=t.wW six rows) (aH (fs:=t.iO six rows wd l ls n) (aa 0 rfl) T.aO.cl T.b8 rfl) fD ax hr ⟨six,rows,rfl,ok.ok,rfl⟩))
   (ao (yt (age:=age) PassesOwn.leaving (Ca t six rows wd) rfl (by decide) (by omega) (fun N G hx=>?_) (fun N hN hNa G0 hA hB=>?_)))⟩
 . exact bO (tP (ET (N:=N) T.gD hx (aH (fs:=t.G9 six rows wd l ls n) (aa 0 rfl) T.aO.cl T.cD rfl) (by rw[e2];rfl)) (aa 1 rfl)) (decide_eq_decide.mpr (by omega))
 . let Dk:Nat->Dt:=fun c=>KA L (cT rows N c)
   let S:Nat->List Slot:=fun k=>[.val (.obj t.au (t.G9 six rows wd l ls n)),.val (.int ((age:Nat):Int)),.val (.str (tx L)),.val (.dM (nW (xc rows (N - 1)))),.own (.eP (kd (L.take k) Dk)),.aJ]
   have eS:S L.length=[.val (.obj t.au (t.G9 six rows wd l ls n)),.val (.int ((age:Nat):Int)),.val (.str (tx L)),.val (.dM (nW (xc rows (N - 1)))),.own (.eP (nW (xc rows N))),.aJ]:=by
     show [_,_,_,_,Slot.own (.eP (kd (L.take L.length) Dk)),_]=_
     rw[aa8,Hw rows N];rfl
   refine ag (ar 3 nd (By (f:=xc rows) (N:=N) ak (aH (fs:=t.G9 six rows wd l ls n) (aa 0 rfl) T.aO.cl T.cD rfl) (iG aj) (by rw[n6];rfl) (by rw[e2];rfl) hN)) (ag (jI 4 nd EI)
     (ag (dl1:=S L.length) (mX (o:=.nx (S L.length)) (m:=L.length) L (fun x=>Dt.str (sg x)) (fun x dl=>dl.set 5 (.val (.str (sg x)))) S rfl PassesOwn.leaving (fU (aa 2 rfl)) (cU (cB (fw h7)) (dD L)) (bT nd rfl (.inl rfl)) (fun a _=>qZ) (Le.of ⟨rfl,rfl,rfl,rfl,rfl,trivial⟩) (aae _) (fun k a hk ha=>?_) (.all rfl)) ?_))
   . rw[k3 hk] at ha
     cases ha
     have hm:L[k]∈L:=aaN hk
     obtain⟨q,hq,hc,_,ew⟩:=g8 hm
     have ZT:=ok.ok.wp q hq
     have V6:∀ y∈wordOf rows L[k],y∈L:=fun y hy=>ok.ok.wo q hq y (by rw[ew] at hy;exact hy)
     have QB:(wordOf rows L[k]).length<=8:=by rw[ew];exact ZT.2
     have Ve:(kd (L.take k) Dk).length < sizeLine:=by
       unfold kd
       rw[k5,aax];exact aao (show min k L.length < 2000 by omega) (by decide)
     have e3:(((wordOf rows L[k]).filter fun _=>true).map fun y=>KA L (cT rows (N - 1) y))=((wordOf rows L[k]).map fun y=>cT rows (N - 1) y).map (KA L):=by
       rw[aas.mpr (fun _ _=>rfl),aam];rfl
     have eN:N=(N - 1)+1:=by omega
     have ed:Dk L[k]=.dM (dI (kc L fun x=>(((wordOf rows L[k]).map fun y=>cT rows (N - 1) y).map fun T=>T x).sum)):=by
       have e7:(cT rows N L[k])=fun x=>(((wordOf rows L[k]).map fun y=>cT rows (N - 1) y).map fun T=>T x).sum:=by
         funext x
         rw[aam]
         obtain⟨M,rfl⟩:∃ M,N=M+1:=⟨N - 1,eN⟩
         rfl
       show KA L (cT rows N L[k])=_
       rw[e7];rfl
     refine .nx (ao (EJ (kds:=kd (L.take k) Dk) (d:=Dk L[k]) 4 hu (by rw[ed];exact OR (Bh KL ax hr (ae (df e3 (de (wordOf rows L[k]) (fun x=>Dt.str (sg x)) (fun y=>KA L (cT rows (N - 1) y)) (fun x=>[.val (.str (sg x))]) (fun _=>true) rfl (aW O9) (fU (bE (fs:=t.wW six rows) (aH (fs:=t.G9 six rows wd l ls n) (aa 0 rfl) T.aO.cl T.b8 rfl) qF ax hr (ae (aa 5 rfl) ai) ⟨six,rows,L[k],rfl,ok.ok,hm,rfl⟩)) (bg (aW O9) rfl) (cU (cB (rM ok.ok V6)) (dD _)) (fun a _=>bC) (.nil fun _ _=>rfl)
       (fun y hy _ C fp s' H' G'=>lE hu (aa 1 rfl) (aa 0 rfl) (by rw[Hw];exact l5 (V6 y hy)) (fun _ _=>rfl)) (sY (by omega)))) (ae (aa 2 rfl) ai)) ⟨L,_,rfl,ok.ok.nd,hL,h7,by rw[k5];omega,rfl⟩)) (aa 5 rfl) Ve)) (Le.of ⟨rfl,rfl,rfl,rfl,?_,trivial⟩)
     show Slot.own (.eP (kd (L.take (k+1)) Dk))=Slot.own (.eP (vQ (kd (L.take k) Dk) (.inr (sg L[k])) (Dk L[k])))
     rw[Kz ok.ok.nd hk]
   . rw[eS]
     refine El (dl1:=.val (.obj t.au (t.G9 six rows wd l ls n))::tl.set 3 (.own (.eP (nW (xc rows N))))) (BC (f:=xc rows) (g:=Ah rows) (tl:=tl) 3 (Ca t six rows wd) rfl rfl n6 (by omega) T.aO.cl T.cD T.cE hA hB (fun G2=>?_)) (Le.of ⟨rfl,rfl,rfl,rfl,trivial⟩)
     have e4:((L.filter fun _=>true).map fun x=>Dt.tup [.str (sg x),.int (lT rows N x)])=(nW (Ah rows N)).map LL:=by
       rw[aas.mpr (fun _ _=>rfl),O6]
       exact B8 L _
     exact my T.oO rfl (df e4 (de L (fun x=>Dt.str (sg x)) (fun x=>.tup [.str (sg x),.int (lT rows N x)]) (fun x=>[.val (.str (sg x))]) (fun _=>true) rfl (aW Pa) (fU (aa 2 rfl)) (bg (aW Pa) rfl) (cU (cB (fw h7)) (dD L)) (fun a _=>bC) (.nil fun _ _=>rfl)
       (fun a ha _ C fp s' H' G'=>bQ (ae (aa 0 rfl) (ae (aM (MW (kds:=kc L (cT rows N a)) T.BU rfl (lE (d:=KA L (cT rows N a)) hu (aa 1 rfl) (aa 0 rfl) (by rw[Hw];exact l5 ha) (fun _ _=>rfl)) (.inl rfl)) (by rw[NM];rfl)) ai)) AA3) (sY (by omega)))) (by rw[O6,rQ];exact lr ok.ok.nd) (by rw[O6];show(List.map _ _).length<=_;rw[k5,k5];exact sY (by omega))
def ZU:Rl:=fun ds r=>∃ z f l:Int,ds=[.int z,.int f,.int l]/\f<=z/\z<=l/\r=.ret .cW
def NR (t:dN):Rl:=fun ds r=>∃ six rows w l ls n age,ds=[.obj t.au (t.iO six rows w l ls n),.int ((age:Nat):Int)]/\mM rows w/\ls.map (·.2)=qE rows/\age<=200/\r=.ret (.uF l ls (age+1))
noncomputable def ZV (rows:List Row)(w:List Nat)(age:Nat):Int:=(w.map (lT rows age)).sum
def Sv (t:dN):Rl:=fun ds r=>∃ six rows w l ls n age,ds=[.obj t.au (t.iO six rows w l ls n),.int ((age:Nat):Int)]/\mM rows w/\ls.map (·.2)=qE rows/\age<=200/\r=.ret (.int (ZV rows w age))
def Sx (t:dN):Rl:=fun ds r=>∃ six rows w l ls n,ds=[.obj t.au (t.iO six rows w l ls n)]/\r=.ret (t.x6 six rows)
noncomputable abbrev DL:Stmt->Scope
 | .Return (some (.Call _ (.ListComp _ _ sc _::_) _ _)) _=>sc
 | _=>af (.Pass ⟨0,0,0,0⟩)
noncomputable abbrev V7:Scope:=DL ((aA dh).getD 1 (.Pass ⟨0,0,0,0⟩))
theorem Pb:eU V7 (af dh) nU ["letter","self","age"] ["letter"] [0,1]=true:=by decide +kernel
theorem mM.asc {rows:List Row}{w:List Nat}(ok:mM rows w):kj (tx w)=true:=rM ok.ok ok.wm
theorem Pd (T:Txt K mg t):GF P w K mg base CX 1 "check_round" 3 ZU:=by
 refine⟨_,_,_,iH T.fC.F wq rfl fun bj A outer s H E G ds r hr hl hR=>?_,(T.g T.fC.a),T.fC.F.kp,T.fC.b⟩
 obtain⟨z,f,l,rfl,h1,h2,rfl⟩:=hR
 exact⟨_,.nx _,ao (aS (u:=false) (vG (qR (u:=false) (v:=false) (bO (A9 (aa 0 rfl) (aa 1 rfl)) (decide_eq_false (by omega))) fun _=>(qi (bO (Ba (aa 0 rfl) (aa 2 rfl)) (decide_eq_false (by omega)))))) (fun h=>nomatch h) (fun h=>bJ))⟩
theorem Cc (T:Txt K mg t):MF P w K mg base CX 5 t.au "enter" 2 (NR t):=by
 refine⟨T.aO.cl,_,_,_,iH T.jk.F uo rfl fun bj A outer s H E G ds r hr hl hR=>?_,T.fj,T.jk.b⟩
 obtain⟨six,rows,wd,l,ls,n,age,rfl,ok,n6,kl,rfl⟩:=hR
 have Sy:=Pd (P:=P) (w:=w) (base:=base) T
 have DM:=Hd (P:=P) (w:=w) (base:=base) T
 have e2:ls.length=2:=by have:=congrArg abd n6;simpa [qE] using this
 exact⟨_,pv (nm:=["tallies","lengths"]) (by rw[e2];exact aae 2),ag (mV (aX Sy ax hr (ae (aa 1 rfl) (ae aj (ae (jH (w:=.int 200) T.rJ ⟨_,rfl⟩ fun _=>.int 200) ai))) ⟨_,_,_,rfl,by omega,by omega,rfl⟩))
   (ao (oA (m:=age+1) (tl:=[.val (.int ((age:Nat):Int))]) (bE (fs:=t.iO six rows wd l ls n) (aa 0 rfl) DM ax hr (ae (aa 1 rfl) ai) ⟨six,rows,wd,l,ls,n,age,rfl,ok,n6,by omega,rfl⟩)))⟩
theorem Fw (T:Txt K mg t):MF P w K mg base CX 6 t.au "length" 2 (Sv t):=by
 refine⟨T.aO.cl,_,_,_,iH T.iC.F sO rfl fun bj A outer s H E G ds r hr hl hR=>?_,T.eG,T.iC.b⟩
 obtain⟨six,rows,wd,l,ls,n,age,rfl,ok,n6,kl,rfl⟩:=hR
 have KN:=Cc (P:=P) (w:=w) (base:=base) T
 have hu:(A.deeper (envOfC "Growth.length" (af dh) s.heap.objs.size t.cH bj)).units+1 < cLine:=by have:=hr.units;omega
 have w8:=ok.w8
 have e3:((wd.filter fun _=>true).map fun x=>Dt.int (lT rows age x))=(wd.map (lT rows age)).map Dt.int:=by
   rw[aas.mpr (fun _ _=>rfl),aam];rfl
 exact⟨_,.rt _,ag (oA (m:=age+1) (tl:=[.val (.int ((age:Nat):Int))]) (bE (fs:=t.iO six rows wd l ls n) (aa 0 rfl) KN ax hr (ae (aa 1 rfl) ai) ⟨six,rows,wd,l,ls,n,age,rfl,ok,n6,by omega,rfl⟩))
   (ao (aF (Jj T.BU rfl (df e3 (de wd (fun x=>Dt.str (sg x)) (fun x=>Dt.int (lT rows age x)) (fun x=>[.val (.str (sg x))]) (fun _=>true) rfl (aW Pb) (fU (aH (fs:=t.iO six rows wd l ls (age+1)) (aa 0 rfl) T.aO.cl T.f6 rfl)) (bg (aW Pb) rfl) (cU (cB ok.asc) (dD wd)) (fun a _=>bC) (.nil fun _ _=>rfl)
     (fun a ha _ C fp s' H' G'=>lE hu (Dh (n:=age+1) (j:=1) (f:=Ah rows) (aH (fs:=t.iO six rows wd l ls (age+1)) (aa 1 rfl) T.aO.cl T.cE rfl) (aa 2 rfl) (by rw[n6];rfl) (by omega) (by omega)) (aa 0 rfl) (by rw[O6];exact l5 (ok.wm a ha)) (fun _ _=>rfl)) (sY (by omega)))))))⟩
theorem vh (T:Txt K mg t):MF P w K mg base CX 1 t.au "rules_told" 1 (Sx t):=by
 refine⟨T.aO.cl,_,_,_,iH T.dX.F oJ rfl fun bj A outer s H E G ds r hr hl hR=>?_,T.cQ,T.dX.b⟩
 obtain⟨six,rows,wd,l,ls,n,rfl,rfl⟩:=hR
 exact⟨_,.rt _,ao (aF (aH (fs:=t.iO six rows wd l ls n) (aa 0 rfl) T.aO.cl T.b8 rfl))⟩
noncomputable def MM:Int:=2305843009213693951
noncomputable def nK (ns:List Int)(k:Nat):Int:=ns.getD (k % ns.length) 0
noncomputable def aV (ns:List Int)(k:Nat):Int:=nK ns k % 10 ^ 60 / MM * MM+(nK ns k+7919 * ((k:Int)+1)) * 6364136223846793005 % MM
theorem Cd (ns:List Int)(k:Nat):0<=aV ns k:=by
 have h1:=aay (nK ns k) (show(10:Int) ^ 60≠0 by decide)
 have h2:=aay ((nK ns k+7919 * ((k:Int)+1)) * 6364136223846793005) (show MM≠0 by decide)
 have h3:0<=nK ns k % 10 ^ 60 / MM:=Int.ediv_nonneg h1 (by decide)
 unfold aV
 have h4:0<=nK ns k % 10 ^ 60 / MM * MM:=Int.mul_nonneg h3 (by decide)
 omega
def V8:Rl:=fun ds r=>∃ ns:List Int,ns.length<=63/\ds=[.oX ns]/\r=.ret (.bl true)
def KO (K:W.Frag):Sp:=En K 1 V8
theorem Sz {K:W.Frag}{H:Hp}{a:Addr}{ns:List Int}(hl:ns.length<=63)(hS:mP K H a (ns.map V.int)):KO K [.ref a] H (fun v _=>v=.bl true) fun _ _ _=>False:=
 ⟨H,[.oX ns],.ret (.bl true),aG.refl H,.cons (.oX hS) .nil,rfl,⟨ns,hl,rfl,rfl⟩,fun v aI H' g r=>by cases r;rfl⟩
def Aj:Rl:=fun ds r=>∃ (ns:List Int) (k:Nat),ds=[.oX ns,.int k]/\k<=100/\r=.ret (.int (aV ns k))
def NS:Rl:=fun ds r=>∃ z,ds=[.int z]/\r=.ret (.bl true)
theorem KP (ns:List Int)(k:Nat)(h:k < ns.length):oU ns (k:Int)=some (ns.getD k 0):=by
 refine lU ?_
 rw[WW,k3 h];rfl
theorem xf (T:Txt K mg t):GF P w K mg base CX 1 "_law_cell" 2 Aj:=by
 refine⟨_,_,_,iH T.sT.F uN rfl fun bj A outer s H E G ds r hr hl hR=>?_,(T.g T.sT.a),T.sT.F.kp,T.sT.b⟩
 obtain⟨ns,k,rfl,hk,rfl⟩:=hR
 refine⟨_,.rt _,ag (ar 2 uN.nd aj) (ag (dl1:=[.val (.oX ns),.val (.int k),.val (.int (nK ns k)),.aJ]) (aS (Ba (zb T.gD (aa 0 rfl)) aj) (fun h=>?_) (fun h=>?_))
   (ag (ar 3 uN.nd (cN (fE (aK (aa 2 rfl) (fE aj (aK (aa 1 rfl) aj) (pQ.ok (aaG ⟨by decide,by decide⟩)))) aj (pQ.ok (aaD ⟨by decide,by decide⟩))) aj (by decide)))
 (ao (aF (aK (fE (iV (cN (aa 2 rfl) (Ij aj aj ⟨by decide,by decide,by decide⟩) (by decide)) aj ⟨by decide,by decide +kernel⟩) aj (pQ.ok (aaD ⟨by decide,by decide⟩))) (aa 3 rfl))))))⟩
 . have h:=of_decide_eq_true h
   have hl:0 < ns.length:=by omega
   have e:((k:Nat):Int) % ((ns.length:Nat):Int)=((k % ns.length:Nat):Int):=by omega
   exact ao (ar 2 uN.nd (sj (aa 0 rfl) (aM (cN (aa 1 rfl) (zb T.gD (aa 0 rfl)) (by omega)) (congrArg Dt.int e)) (KP ns _ (Nat.mod_lt _ hl))))
 . have h:=of_decide_eq_false h
   have e:nK ns k=0:=by unfold nK;rw[WW,aaC (by omega)];rfl
   rw[e]
   exact bJ
theorem KQ (T:Txt K mg t):GF P w K mg base CX 1 "_law_whole" 1 NS:=by
 refine⟨_,_,_,iH T.pF.F JW rfl fun bj A outer s H E G ds r hr hl hR=>?_,(T.g T.pF.a),T.pF.F.kp,T.pF.b⟩
 obtain⟨z,rfl,rfl⟩:=hR
 exact⟨_,.rt _,(ao (aF (vH (u:=true) (v:=true) (qj T.cS (aa 0 rfl) (vI T.E9 Sg.boot_int) rfl trivial rfl) fun _=>(qS (QH (u:=false) (qj T.cS (aa 0 rfl) (vI T.zW Sg.boot_bool) rfl trivial rfl))))))⟩
noncomputable def ZW:List Nat:=(aaj 26).map (97 + ·)
structure LS where
 left:List Nat
 rest:Int
 out:List Nat
noncomputable def ls (c:Int):Nat->LS
 | 0=>⟨ZW,c,[]⟩
 | k+1=>let s:=ls c k;let at_:=(s.rest % (s.left.length:Nat)).toNat;⟨s.left.take at_ ++ s.left.drop (at_+1),s.rest / (s.left.length:Nat),s.out ++ [s.left.getD at_ 0]⟩
noncomputable def pN (s:LS):Nat:=(s.rest % (s.left.length:Nat)).toNat
structure LOk (k:Nat)(s:LS):Prop where
 len:s.left.length+k=26
 ol:s.out.length=k
 sm:∀ x∈s.left,small x
 so:∀ x∈s.out,small x
 nl:s.left.Nodup
 no:s.out.Nodup
 ap:∀ x∈s.out,x ∉ s.left
theorem KR {s:LS}(h:0 < s.left.length):pN s < s.left.length:=by
 have h0:=aay s.rest (show((s.left.length:Nat):Int)≠0 by omega)
 have h1:=aaz s.rest (show(0:Int) < (s.left.length:Nat) by omega)
 unfold pN
 omega
theorem KS (c:Int):∀ k,k<=6->LOk k (ls c k)
 | 0,_=>⟨show ZW.length+0=26 by decide,rfl,fun x hx=>by
     obtain⟨i,hi,rfl⟩:=aaM.mp (show x∈(aaj 26).map (97 + ·) from hx)
     have:=abo.mp hi
     unfold small;omega,fun x h=>absurd h (List.not_mem_nil),show ZW.Nodup by decide,List.nodup_nil,fun x h=>absurd h (List.not_mem_nil)⟩
 | k+1,hk=>by
   have ih:=KS c k (by omega)
   have hl:=ih.len
   have dg:pN (ls c k) < (ls c k).left.length:=KR (by omega)
   generalize hs:ls c k=s at ih hl dg
   have e:ls c (k+1)=⟨s.left.take (pN s) ++ s.left.drop (pN s+1),s.rest / (s.left.length:Nat),s.out ++ [s.left.getD (pN s) 0]⟩:=by rw[<- hs];rfl
   rw[e]
   have eg:s.left.getD (pN s) 0=s.left[pN s]:=by rw[WW,k3 dg];rfl
   have sub:s.left.take (pN s) ++ s.left.drop (pN s+1)=s.left.eraseIdx (pN s):=(List.eraseIdx_eq_take_drop_succ _ _).symm
   have mem:∀ x∈s.left.take (pN s) ++ s.left.drop (pN s+1),x∈s.left:=fun x hx=>by
     rcases abb.mp hx with h | h
     . exact abO h
     . exact abP h
   have Ra:s.left[pN s]∈s.left:=aaN dg
   have nin:s.left[pN s] ∉ s.left.take (pN s) ++ s.left.drop (pN s+1):=by
     have pw:=aaW.mp ih.nl
     intro h
     rcases abb.mp h with h | h
     . obtain⟨i,hi,e⟩:=aaT.mp h
       rw[aax] at hi
       rw[abt] at e
       exact pw i (pN s) (by omega) dg (by omega) e
     . obtain⟨i,hi,e⟩:=aaT.mp h
       rw[aa0] at hi
       rw[List.getElem_drop] at e
       exact pw (pN s) (pN s+1+i) dg (by omega) (by omega) e.symm
   refine⟨?_,?_,fun x hx=>ih.sm x (mem x hx),fun x hx=>?_,?_,?_,fun x hx=>?_⟩
   . show(s.left.take (pN s) ++ s.left.drop (pN s+1)).length+(k+1)=26
     rw[aau,aax,aa0];omega
   . show(s.out ++ [s.left.getD (pN s) 0]).length=k+1
     rw[aau,ih.ol];rfl
   . rcases abb.mp hx with h | h
     . exact ih.so x h
     . have:x=s.left[pN s]:=by rw[<- eg];simpa using h
       rw[this];exact ih.sm _ Ra
   . show(s.left.take (pN s) ++ s.left.drop (pN s+1)).Nodup
     rw[sub]
     exact List.Nodup.sublist (List.eraseIdx_sublist _ _) ih.nl
   . show(s.out ++ [s.left.getD (pN s) 0]).Nodup
     rw[eg]
     refine List.nodup_append.mpr ⟨ih.no,by simp,fun a ha b hb z=>?_⟩
     have:b=s.left[pN s]:=by simpa using hb
     subst z this
     exact ih.ap _ ha Ra
   . rcases abb.mp hx with h | h
     . exact fun z=>ih.ap x h (mem x z)
     . have:x=s.left[pN s]:=by rw[<- eg];simpa using h
       rw[this];exact nin
noncomputable def ws (L:List Nat)(c m:Int):Nat->Int×List Nat
 | 0=>(c / m,[])
 | k+1=>let s:=ws L c m k;(s.1 / (L.length:Nat),s.2 ++ [L.getD (s.1 % (L.length:Nat)).toNat 0])
noncomputable def xh (L:List Nat)(c m:Int):List Nat:=(ws L c m (1+c % m).toNat).2
theorem DN (L:List Nat)(c m:Int):∀ k,(ws L c m k).2.length=k
 | 0=>rfl
 | k+1=>by show((ws L c m k).2 ++ [_]).length=_;rw[aau,DN L c m k];rfl
theorem KU (L:List Nat)(hL:0 < L.length)(c m:Int):∀ k,∀ x∈(ws L c m k).2,x∈L
 | 0,x,h=>by cases h
 | k+1,x,h=>by
   rcases abb.mp h with h | h
   . exact KU L hL c m k x h
   . have h0:=aay (ws L c m k).1 (show((L.length:Nat):Int)≠0 by omega)
     have h1:=aaz (ws L c m k).1 (show(0:Int) < (L.length:Nat) by omega)
     have dg:((ws L c m k).1 % (L.length:Nat)).toNat < L.length:=by omega
     have:x=L.getD ((ws L c m k).1 % (L.length:Nat)).toNat 0:=by simpa using h
     rw[this,WW,k3 dg]
     exact aaN dg
theorem at_getD {L:List Str}{i:Int}{n:Nat}(hn:L.length=n)(h0:0<=i)(h1:i < n):oU (L.map Dt.str) i=some (.str (L.getD i.toNat "")):=by
 have e:i=((i.toNat:Nat):Int):=by omega
 rw[e]
 have hk:i.toNat < L.length:=by omega
 refine(lU (j:=i.toNat) ?_).trans rfl
 rw[YL,k3 hk,WW]
 show some (Dt.str L[i.toNat])=some (Dt.str ((L[(i.toNat:Int).toNat]?).getD ""))
 rw[aaS,k3 hk];rfl
theorem Ak {L:List Nat}(hL:0 < L.length)(c m:Int)(hm:0 < m):0 < (xh L c m).length/\(xh L c m).length<=m.toNat/\∀ x∈xh L c m,x∈L:=by
 have h0:=aay c (show m≠0 by omega)
 have h1:=aaz c hm
 have hl:=DN L c m (1+c % m).toNat
 refine⟨?_,?_,KU L hL c m _⟩
 . show 0 < (ws L c m (1+c % m).toNat).2.length;omega
 . show(ws L c m (1+c % m).toNat).2.length<=_;omega
noncomputable def xi (c:Int)(n:Nat):List Nat:=(ls c n).out
theorem Ce (c:Int){n:Nat}(h:n<=6):(xi c n).length=n/\(xi c n).Nodup/\∀ x∈xi c n,small x:=let ok:=KS c n h;⟨ok.ol,ok.no,ok.so⟩
def NT:Rl:=fun ds r=>∃ (c:Int) (n:Nat),ds=[.int c,.int n]/\n<=6/\r=.ret (.str (tx (xi c n)))
def SA:Rl:=fun ds r=>∃ (L:List Nat) (c m:Int),ds=[.int c,.str (tx L),.int m]/\(0 < L.length/\L.length<=100)/\(0<=c/\0 < m/\m<=500)/\r=.ret (.str (tx (xh L c m)))
theorem KW (T:Txt K mg t):GF P w K mg base CX 1 "_law_alphabet" 2 NT:=by
 refine⟨_,_,_,iH T.jD.F tV rfl fun bj A outer s H E G ds r hr hl hR=>?_,(T.g T.jD.a),T.jD.F.kp,T.jD.b⟩
 obtain⟨c,n,rfl,hn,rfl⟩:=hR
 have nd:=tV.nd
 let S:Nat->List Slot:=fun k=>[.val (.int (ls c k).rest),.val (.int n),.val (.str (tx (ls c k).left)),.val (.str (tx (ls c k).out)),.aJ,.aJ]
 refine⟨_,.rt _,ag (ar 2 nd bI) (ag (ar 3 nd bI)
   (ag (jw (o:=.nx (S n)) (m:=n) 4 S nd rfl PassesOwn.leaving T.gB (ae (aa 1 rfl) ai) ⟨by omega,by omega⟩ (Le.of ⟨rfl,rfl,rfl,rfl,trivial⟩) (by omega) (fun k hk=>?_) (by rw[aaS];exact .all rfl)) (ao (aF (aa 3 rfl)))))⟩
 have ok:=KS c k (by omega)
 have hl:=ok.len
 have hol:=ok.ol
 have dg:pN (ls c k) < (ls c k).left.length:=KR (by omega)
 have ea:(ls c k).rest % (((ls c k).left.length:Nat):Int)=((pN (ls c k):Nat):Int):=by
   have h0:=aay (ls c k).rest (show(((ls c k).left.length:Nat):Int)≠0 by omega)
   unfold pN;omega
 have ea1:((pN (ls c k):Nat):Int)+1=((pN (ls c k)+1:Nat):Int):=by omega
 have hb:0 < (((ls c k).left.length:Nat):Int)/\(((ls c k).left.length:Nat):Int).natAbs.log2 < 9000:=⟨by omega,by
   have:(((ls c k).left.length:Nat):Int).natAbs<=26:=by omega
   exact aaK (Nat.log2_le_self _) (by omega)⟩
 exact .nx (ag (ar 5 nd (aM (cN (aa 0 rfl) (lM T.gD (aa 2 rfl) (by omega)) (by omega)) (congrArg Dt.int ea)))
   (ag (ar 0 nd (iV (aa 0 rfl) (lM T.gD (aa 2 rfl) (by omega)) hb))
   (ag (ar 3 nd (zY (aa 3 rfl) (zZ (aa 2 rfl) (aa 5 rfl) dg (by omega)) (by rw[hol];show k+1<=2000;omega)))
   (ao (ar 2 nd (zY (Fh (aa 2 rfl) (aa 5 rfl) (aa5 dg) (by omega)) (yF (aa 2 rfl) (aM (aK (aa 5 rfl) aj) (congrArg Dt.int ea1)) dg (by omega)) (by rw[aax,aa0];omega))))))) (Le.of ⟨rfl,rfl,rfl,rfl,trivial⟩)
theorem NU (T:Txt K mg t):GF P w K mg base CX 1 "_law_text" 3 SA:=by
 refine⟨_,_,_,iH T.sU.F E2 rfl fun bj A outer s H E G ds r hr hl hR=>?_,(T.g T.sU.a),T.sU.F.kp,T.sU.b⟩
 obtain⟨L,c,m,rfl,⟨hL0,hL⟩,⟨hc,QL,hm⟩,rfl⟩:=hR
 have nd:=E2.nd
 have h0:=aay c (show m≠0 by omega)
 have h1:=aaz c QL
 have hmb:0 < m/\m.natAbs.log2 < 9000:=⟨QL,aaK (Nat.log2_le_self _) (by omega)⟩
 have hLb:0 < ((L.length:Nat):Int)/\((L.length:Nat):Int).natAbs.log2 < 9000:=⟨by omega,aaK (Nat.log2_le_self _) (by omega)⟩
 let S:Nat->List Slot:=fun k=>[.val (.int (ws L c m k).1),.val (.str (tx L)),.val (.int m),.val (.str (tx (ws L c m k).2)),.val (.int (1+c % m)),.aJ]
 refine⟨_,.rt _,ag (ar 3 nd bI) (ag (ar 4 nd (aK aj (cN (aa 0 rfl) (aa 2 rfl) QL))) (ag (ar 0 nd (iV (aa 0 rfl) (aa 2 rfl) hmb))
   (ag (jw (m:=(1+c % m).toNat) 5 S nd rfl PassesOwn.leaving T.gB (ae (aa 4 rfl) ai) ⟨by omega,by omega⟩ (Le.of ⟨rfl,rfl,rfl,rfl,rfl,trivial⟩) (aae _) (fun k hk=>?_) (.all rfl)) (ao (aF (aa 3 rfl))))))⟩
 have QB:=DN L c m k
 have h2:=aay (ws L c m k).1 (show((L.length:Nat):Int)≠0 by omega)
 have h3:=aaz (ws L c m k).1 (show(0:Int) < (L.length:Nat) by omega)
 have ea:(ws L c m k).1 % ((L.length:Nat):Int)=((((ws L c m k).1 % (L.length:Nat)).toNat:Nat):Int):=by omega
 exact .nx (ag (ar 3 nd (zY (aa 3 rfl) (zZ (aa 1 rfl) (aM (cN (aa 0 rfl) (lM T.gD (aa 1 rfl) (by omega)) (by omega)) (congrArg Dt.int ea)) (by omega) (by omega)) (by rw[QB];show k+1<=2000;omega)))
   (ao (ar 0 nd (iV (aa 0 rfl) (lM T.gD (aa 1 rfl) (by omega)) hLb)))) (Le.of ⟨rfl,rfl,rfl,rfl,rfl,trivial⟩)
noncomputable def Fx:List Str:=["stroke","left","right","step","rest"]
noncomputable def dG (c:Int):Str:=Fx.getD (c % 5).toNat ""
theorem He:∀ x∈Fx,x∈mK:=by decide
theorem SD (c:Int):dG c∈mK:=by
 have h0:=aay c (show(5:Int)≠0 by decide)
 have h1:=aaz c (show(0:Int) < 5 by decide)
 have hk:(c % 5).toNat < Fx.length:=by show _ < 5;omega
 refine He _ ?_
 unfold dG
 rw[WW,k3 hk]
 exact aaN hk
noncomputable def x9 (L:List Nat)(ns:List Int)(m:Int)(k:Nat):Row:=⟨L.getD k 0,dG (aV ns (3+k)),xh L (aV ns (3+k) / 5) m⟩
noncomputable def xj (L:List Nat)(ns:List Int)(m:Int):List Row:=(aaj L.length).map (x9 L ns m)
theorem DO (L:List Nat)(ns:List Int)(m:Int):(xj L ns m).map (·.c)=L:=by
 unfold xj
 rw[aam]
 refine List.ext_getElem (by simp) fun i h1 h2=>?_
 simp only[aaO,List.getElem_range,Function.comp]
 show L.getD i 0=L[i]
 rw[WW,k3 h2];rfl
theorem KY {L:List Nat}(ns:List Int){m:Int}(hm:0 < m/\m<=8)(h0:0 < L.length)(h6:L.length<=6)(nd:L.Nodup)(sm:∀ x∈L,small x):bM (xj L ns m):=by
 have hl:(xj L ns m).length=L.length:=by unfold xj;rw[k5,aaH]
 have get:∀ r∈xj L ns m,∃ k,k < L.length/\r=x9 L ns m k:=fun r hr=>by
   obtain⟨k,hk,e⟩:=aaM.mp hr
   exact⟨k,abo.mp hk,e.symm⟩
 refine⟨by omega,by omega,by rw[DO];exact nd,fun r hr=>?_,fun r hr=>?_,fun r hr=>?_,fun r hr x hx=>?_⟩
 . obtain⟨k,hk,rfl⟩:=get r hr
   refine sm _ ?_
   show L.getD k 0∈L
   rw[WW,k3 hk]
   exact aaN hk
 . obtain⟨k,hk,rfl⟩:=get r hr
   exact SD _
 . obtain⟨k,hk,rfl⟩:=get r hr
   have:=Ak h0 (aV ns (3+k) / 5) m hm.1
   exact⟨this.1,by have:=this.2.1;show(xh _ _ _).length<=8;omega⟩
 . obtain⟨k,hk,rfl⟩:=get r hr
   rw[DO]
   exact(Ak h0 (aV ns (3+k) / 5) m hm.1).2.2 x hx
noncomputable def tq (ns:List Int)(far:Int):Int:=if aV ns 1 % 8=6 then aV ns 1 / 8 % (far+1) else aV ns 1 / 8 % 13
noncomputable def qe (ns:List Int)(far:Int):Int:=if aV ns 1 % 8=7 then 200 - aV ns 1 / 8 % 100 else tq ns far
noncomputable def jm (ns:List Int):Int:=if aV ns 1 % 8=7 then 1+aV ns 0 / 2 % 2 else 1+aV ns 0 / 2 % 6
noncomputable def tu (ns:List Int):Int:=if aV ns 1 % 8=7 then 2 else 8
noncomputable def Fy (ns:List Int):List Nat:=xi (aV ns 0 / 12) (jm ns).toNat
noncomputable def xk (ns:List Int):List Row:=xj (Fy ns) ns (tu ns)
noncomputable def vi (ns:List Int):List Nat:=xh (Fy ns) (aV ns 2) 8
noncomputable def FA (ns:List Int):Bool:=decide (aV ns 0 % 2=1)
theorem V9 (ns:List Int):4+2 * (aV ns 0 % 2)=wy (FA ns):=by
 have:aV ns 0 % 2=0\/aV ns 0 % 2=1:=by omega
 unfold FA
 rcases this with h | h <;> rw[h] <;> rfl
theorem xl (ns:List Int):1<=jm ns/\jm ns<=6:=by
 unfold jm
 split <;> omega
theorem Cf (ns:List Int):0 < tu ns/\tu ns<=8:=by
 unfold tu
 split <;> omega
theorem NV (ns:List Int){far:Int}(h0:0<=far)(h:far<=200):0<=qe ns far/\qe ns far<=200:=by
 have h1:=aay (aV ns 1 / 8) (show far+1≠0 by omega)
 have h2:=aaz (aV ns 1 / 8) (show(0:Int) < far+1 by omega)
 unfold qe tq
 split
 . omega
 . split <;> omega
theorem DP (ns:List Int):0 < (Fy ns).length/\(Fy ns).length<=6/\(Fy ns).Nodup/\∀ x∈Fy ns,small x:=by
 have hb:=xl ns
 have ok:=Ce (aV ns 0 / 12) (n:=(jm ns).toNat) (by omega)
 unfold Fy
 exact⟨by omega,by omega,ok.2.1,ok.2.2⟩
theorem SE (ns:List Int):(Fy ns).length=(jm ns).toNat:=by
 have hb:=xl ns
 exact(Ce (aV ns 0 / 12) (n:=(jm ns).toNat) (by omega)).1
theorem Wa (ns:List Int):bM (xk ns):=let h:=DP ns;KY ns (Cf ns) h.1 h.2.1 h.2.2.1 h.2.2.2
theorem Wb (ns:List Int):mM (xk ns) (vi ns):=by
 have h:=DP ns
 have w:=Ak h.1 (aV ns 2) 8 (by decide)
 exact⟨Wa ns,w.1,w.2.1,fun x hx=>by unfold xk;rw[DO];exact w.2.2 x hx⟩
def NW:Rl:=fun ds r=>∃ (ns:List Int) (far:Int),ds=[.oX ns,.int far]/\(0<=far/\far<=200)/\r=.ret (.tup [.int (wy (FA ns)),.lst ((xk ns).map nV),.str (tx (vi ns)),.int (qe ns far)])
theorem KZ (T:Txt K mg t):GF P w K mg base CX 2 "_law_shape" 2 NW:=by
 refine⟨_,_,_,iH T.pG.F BL rfl fun bj A outer s H E G ds r hr hl hR=>?_,(T.g T.pG.a),T.pG.F.kp,T.pG.b⟩
 obtain⟨ns,far,rfl,⟨hf0,hf⟩,rfl⟩:=hR
 have nd:=BL.nd
 have jo:=xf (P:=P) (w:=w) (base:=base) T
 have NX:=KW (P:=P) (w:=w) (base:=base) T
 have K0:=NU (P:=P) (w:=w) (base:=base) T
 have hM:=xl ns
 have hm:=Cf ns
 have hL:=DP ns
 have hlen:=SE ns
 have eM:jm ns=(((jm ns).toNat:Nat):Int):=by omega
 let c0:=aV ns 0
 let c1:=aV ns 1
 let L:=Fy ns
 let m:=tu ns
 let D:Int->Int->Int->List Slot:=fun a b c=>[.val (.oX ns),.val (.int far),.val (.int c0),.val (.int (c1 % 8)),.val (.int a),.val (.int b),.val (.int c),.aJ,.aJ,.aJ,.aJ,.aJ,.aJ]
 let S:Nat->List Slot:=fun k=>[.val (.oX ns),.val (.int far),.val (.int c0),.val (.int (c1 % 8)),.val (.int (qe ns far)),.val (.int (jm ns)),.val (.int m),.val (.str (tx L)),.own (.lst (((aaj k).map (x9 L ns m)).map nV)),.aJ,.aJ,.aJ,.aJ]
 have cl:∀ (j:Nat),j<=100->Aj [.oX ns,.int j] (.ret (.int (aV ns j))):=fun j hj=>⟨ns,j,rfl,hj,rfl⟩
 refine⟨_,.rt _,ag (ar 2 nd (aX jo ax hr (ae (aa 0 rfl) (ae aj ai)) (cl 0 (by decide))))
   (ag (ar 3 nd (cN (aX jo ax hr (ae (aa 0 rfl) (ae aj ai)) (cl 1 (by decide))) aj (by decide)))
   (ag (ar 4 nd (cN (iV (aX jo ax hr (ae (aa 0 rfl) (ae aj ai)) (cl 1 (by decide))) aj ⟨by decide,by decide +kernel⟩) aj (by decide)))
   (ag (ar 5 nd (aK aj (cN (iV (aa 2 rfl) aj ⟨by decide,by decide +kernel⟩) aj (by decide))))
   (ag (ar 6 nd aj)
   (ag (dl1:=D (tq ns far) (1+c0 / 2 % 6) 8) (aS (l9 (aa 3 rfl) aj) (fun h=>?_) (fun h=>?_))
   (ag (dl1:=D (qe ns far) (jm ns) m) (aS (l9 (aa 3 rfl) aj) (fun h=>?_) (fun h=>?_))
   (ag (ar 7 nd (d:=.str (tx L)) (aX NX ax hr (ae (iV (aa 2 rfl) aj ⟨by decide,by decide +kernel⟩) (ae (aM (aa 5 rfl) (congrArg Dt.int eM)) ai)) ⟨c0 / 12,(jm ns).toNat,rfl,by omega,rfl⟩))
   (ag (jI 8 nd (ql ai AA3))
   (ag (dl1:=S L.length) (jw (o:=.nx (S L.length)) (m:=L.length) 9 S nd rfl PassesOwn.leaving T.gB (ae (aM (aa 5 rfl) (congrArg Dt.int eM)) ai) ⟨by omega,by omega⟩ (Le.of ⟨rfl,rfl,rfl,rfl,rfl,rfl,rfl,rfl,rfl,trivial⟩) (by show(Fy ns).length<=_;omega) (fun k hk=>?_) (by rw[aaS,<- hlen];exact .all rfl))
   (ag (ar 12 nd (d:=.str (tx (vi ns))) (aX K0 ax hr (ae (aX jo ax hr (ae (aa 0 rfl) (ae aj ai)) (cl 2 (by decide))) (ae (aa 7 rfl) (ae aj ai))) ⟨L,aV ns 2,8,rfl,⟨hL.1,by show(Fy ns).length<=100;omega⟩,⟨Cd _ _,by decide,by decide⟩,rfl⟩))
   (qk (w:=.lst (((aaj L.length).map (x9 L ns m)).map nV)) 8 (ao (aF (bQ (ae (aM (aK aj (fE aj (cN (aa 2 rfl) aj (by decide)) (pQ.ok (aaG ⟨by decide,by decide⟩)))) (congrArg Dt.int (V9 ns))) (ae (aa 8 rfl) (ae (aa 12 rfl) (ae (aa 4 rfl) ai)))) AA3))))))))))))))⟩
 . have h:=of_decide_eq_true h
   have e:tq ns far=c1 / 8 % (far+1):=if_pos h
   rw[e]
   exact ao (ar 4 nd (cN (iV (aX jo ax hr (ae (aa 0 rfl) (ae aj ai)) (cl 1 (by decide))) aj ⟨by decide,by decide +kernel⟩) (aK (aa 1 rfl) aj) (by omega)))
 . have h:=of_decide_eq_false h
   have e:tq ns far=c1 / 8 % 13:=if_neg h
   rw[e]
   exact bJ
 . have h:=of_decide_eq_true h
   have e1:qe ns far=200 - c1 / 8 % 100:=if_pos h
   have e2:jm ns=1+c0 / 2 % 2:=if_pos h
   have e3:m=2:=if_pos h
   rw[e1,e2,e3]
   exact ag (ar 4 nd (gF aj (cN (iV (aX jo ax hr (ae (aa 0 rfl) (ae aj ai)) (cl 1 (by decide))) aj ⟨by decide,by decide +kernel⟩) aj (by decide))))
     (ag (ar 5 nd (aK aj (cN (iV (aa 2 rfl) aj ⟨by decide,by decide +kernel⟩) aj (by decide)))) (ao (ar 6 nd aj)))
 . have h:=of_decide_eq_false h
   have e1:qe ns far=tq ns far:=if_neg h
   have e2:jm ns=1+c0 / 2 % 6:=if_neg h
   have e3:m=8:=if_neg h
   rw[e1,e2,e3]
   exact bJ
 . have hk:k < (Fy ns).length:=hk
   have h0:=aay (aV ns (3+k)) (show(5:Int)≠0 by decide)
   have h1:=aaz (aV ns (3+k)) (show(0:Int) < 5 by decide)
   have hnn:=Cd ns (3+k)
   have e:((aaj (k+1)).map (x9 L ns m)).map nV=((aaj k).map (x9 L ns m)).map nV ++ [nV (x9 L ns m k)]:=by
     rw[List.range_succ,aa4,aa4];rfl
   refine .nx (ag (ar 10 nd (aX jo ax hr (ae (aa 0 rfl) (ae (aM (aK aj (aa 9 rfl)) (congrArg Dt.int (show(3:Int)+(k:Int)=((3+k:Nat):Int) by omega))) ai)) (cl (3+k) (by omega))))
     (ag (ar 11 nd (d:=.str (dG (aV ns (3+k)))) (aB (bQ (ae bI (ae bI (ae bI (ae bI (ae bI ai))))) AA3) (cN (aa 10 rfl) aj (by decide)) (at_getD (L:=Fx) (n:=5) rfl h0 h1)))
     (ao (sy (ds:=((aaj k).map (x9 L ns m)).map nV) 8 (d:=nV (x9 L ns m k)) (bQ (ae (zZ (aa 7 rfl) (aa 9 rfl) hk (by show(Fy ns).length<=2000;omega)) (ae (aa 11 rfl) (ae (aX K0 ax hr (ae (iV (aa 10 rfl) aj ⟨by decide,by decide +kernel⟩) (ae (aa 7 rfl) (ae (aa 6 rfl) ai))) ⟨L,aV ns (3+k) / 5,m,rfl,⟨hL.1,by show(Fy ns).length<=100;omega⟩,⟨Int.ediv_nonneg hnn (by decide),hm.1,by have:=hm.2;show tu ns<=500;omega⟩,rfl⟩) ai))) AA3) (by rw[k5,k5,aaH];exact aao (show k < 2000 by omega) (by decide)))))) (Le.of ⟨rfl,rfl,rfl,rfl,rfl,rfl,rfl,rfl,?_,trivial⟩)
   show Slot.own (.lst (((aaj (k+1)).map (x9 L ns m)).map nV))=_
   rw[e]
theorem K1 (B:List Nat)(f g:Nat->Int):(B.map fun b=>f b+g b).sum=(B.map f).sum+(B.map g).sum:=by
 induction B with
 | nil=>rfl
 | cons b B ih=>rw[aaq,abm,ih,aaq,abm,aaq,abm];omega
theorem K2 (B:List Nat):(B.map fun _=>(0:Int)).sum=0:=by
 induction B with
 | nil=>rfl
 | cons b B ih=>rw[aaq,abm,ih];rfl
theorem Hg (A B:List Nat)(f:Nat->Nat->Int):(A.map fun a=>(B.map fun b=>f a b).sum).sum=(B.map fun b=>(A.map fun a=>f a b).sum).sum:=by
 induction A with
 | nil=>exact(K2 B).symm
 | cons a A ih=>
   rw[aaq,abm,ih,<- K1]
   rfl
noncomputable def gP (rows:List Row):Nat->Nat->List Nat
 | 0,c=>[c]
 | r+1,c=>(wordOf rows c).flatMap (gP rows r)
theorem ZX (rows:List Row)(r c:Nat):lT rows (r+1) c=((wordOf rows c).map (lT rows r)).sum:=by
 unfold lT
 exact(Hg (wordOf rows c) (rows.map (·.c)) fun y x=>cT rows r y x).symm
theorem jF {rows:List Row}(ok:bM rows){c:Nat}(hc:c∈rows.map (·.c)):(∀ y∈wordOf rows c,y∈rows.map (·.c))/\0 < (wordOf rows c).length/\(wordOf rows c).length<=8:=by
 obtain⟨q,hq,_,_,ew⟩:=g8 hc
 rw[ew]
 exact⟨ok.wo q hq,ok.wp q hq⟩
theorem xm {f:Nat->List Nat}{g:Nat->Int}:∀ {w:List Nat},(∀ y∈w,(((f y).length:Nat):Int)=g y)->(((w.flatMap f).length:Nat):Int)=(w.map g).sum
 | [],_=>rfl
 | y::w,h=>by
   rw[abh,aau,aaq,abm,<- h y (by simp),<- xm (f:=f) (g:=g) fun z hz=>h z (by simp[hz])]
   omega
theorem DQ {rows:List Row}(ok:bM rows):∀ (r:Nat) {c:Nat},c∈rows.map (·.c)->(((gP rows r c).length:Nat):Int)=lT rows r c
 | 0,c,hc=>by rw[V2 ok hc];rfl
 | r+1,c,hc=>by
   rw[ZX]
   exact xm fun y hy=>DQ ok r ((jF ok hc).1 y hy)
theorem K3 {rows:List Row}(ok:bM rows):∀ (r:Nat) {c:Nat},c∈rows.map (·.c)->0 < (gP rows r c).length
 | 0,c,hc=>by show 0 < [c].length;simp
 | r+1,c,hc=>by
   obtain⟨h1,h2,_⟩:=jF ok hc
   show 0 < ((wordOf rows c).flatMap (gP rows r)).length
   cases hw:wordOf rows c with
   | nil=>rw[hw] at h2;simp at h2
   | cons y w=>
     have:=K3 ok r (h1 y (by rw[hw];simp))
     rw[abh,aau];omega
noncomputable abbrev Pc:=Nat×Nat
noncomputable def tY (p:Pc):Dt:=.tup [.int ((p.1:Nat):Int),.str (sg p.2)]
noncomputable def flat (rows:List Row)(st:List Pc):List Nat:=st.flatMap fun p=>gP rows p.1 p.2
noncomputable def wp (r:Nat)(w:List Nat):List Pc:=w.map fun c=>(r,c)
theorem Cg (rows:List Row)(a b:List Pc):flat rows (a ++ b)=flat rows a ++ flat rows b:=List.flatMap_append
theorem Al (rows:List Row)(r:Nat)(w:List Nat):flat rows (wp r w)=w.flatMap (gP rows r):=by unfold flat wp;rw[List.flatMap_map]
theorem Wc (rows:List Row)(p:Pc):flat rows [p]=gP rows p.1 p.2:=by unfold flat;simp
theorem tw (rows:List Row)(p:Pc)(st:List Pc):flat rows (p::st)=gP rows p.1 p.2 ++ flat rows st:=by unfold flat;rw[abh]
structure PS where
 place:Nat
 st:List Pc
 bt:List Pc
noncomputable def oP (rows:List Row)(b e:Nat)(s:PS):PS:=match s.st with
 | []=>s
 | p::st=>
   if s.place+(gP rows p.1 p.2).length<=b then ⟨s.place+(gP rows p.1 p.2).length,st,s.bt⟩
   else if b<=s.place/\s.place+(gP rows p.1 p.2).length<=e then ⟨s.place+(gP rows p.1 p.2).length,st,s.bt ++ [p]⟩
   else ⟨s.place,wp (p.1 - 1) (wordOf rows p.2) ++ st,s.bt⟩
noncomputable def run (rows:List Row)(b e:Nat)(s:PS):Nat->PS
 | 0=>s
 | k+1=>oP rows b e (run rows b e s k)
theorem K4 (rows:List Row)(b e:Nat)(s:PS):∀ k,run rows b e s (k+1)=run rows b e (oP rows b e s) k
 | 0=>rfl
 | k+1=>by
   show oP rows b e (run rows b e s (k+1))=oP rows b e (run rows b e (oP rows b e s) k)
   rw[K4 rows b e s k]
structure TM (rows:List Row)(age b e:Nat)(W:List Nat)(s:PS):Prop where
 be:b<=e
 ew:e<=W.length
 pe:s.place<=e
 fl:flat rows s.st=W.drop s.place
 fb:flat rows s.bt=(W.take s.place).drop b
 mb:∀ p∈s.st,p.2∈rows.map (·.c)/\p.1<=age
 mt:∀ p∈s.bt,p.2∈rows.map (·.c)/\p.1<=age
noncomputable def ins (b p q:Nat):Nat:=if p < b/\b < q then 1 else 0
theorem K5 (b p q:Nat):ins b p q<=1:=by unfold ins;split <;> omega
theorem FC (b:Nat){p q r:Nat}(h1:p<=q)(h2:q<=r):ins b p q+ins b q r<=ins b p r:=by
 unfold ins
 split <;> split <;> split <;> omega
noncomputable def mu (rows:List Row)(b e:Nat):Nat->List Pc->Nat
 | _,[]=>0
 | p,x::st=>1+8 * x.1 * (ins b p (p+(gP rows x.1 x.2).length)+ins e p (p+(gP rows x.1 x.2).length))+mu rows b e (p+(gP rows x.1 x.2).length) st
theorem K6 (rows:List Row)(b e:Nat):∀ (p:Nat) (st:List Pc),st.length<=mu rows b e p st
 | _,[]=>aae 0
 | p,x::st=>by
   have:=K6 rows b e (p+(gP rows x.1 x.2).length) st
   rw[mu,aaI];omega
theorem K7 (rows:List Row)(b e r:Nat)(st:List Pc):∀ (p:Nat) (w:List Nat),mu rows b e p (wp r w ++ st)<=w.length+8 * r * (ins b p (p+(flat rows (wp r w)).length)+ins e p (p+(flat rows (wp r w)).length))+mu rows b e (p+(flat rows (wp r w)).length) st
 | p,[]=>by
   show mu rows b e p st<=_
   have:p+(flat rows (wp r [])).length=p:=rfl
   rw[this];omega
 | p,c::w=>by
   have ih:=K7 rows b e r st (p+(gP rows r c).length) w
   have el:p+(flat rows (wp r (c::w))).length=p+(gP rows r c).length+(flat rows (wp r w)).length:=by
     show p+(flat rows ((r,c)::wp r w)).length=_
     rw[tw,aau];exact(Nat.add_assoc _ _ _).symm
   rw[el]
   have c1:=FC b (abw p (gP rows r c).length) (abw (p+(gP rows r c).length) (flat rows (wp r w)).length)
   have c2:=FC e (abw p (gP rows r c).length) (abw (p+(gP rows r c).length) (flat rows (wp r w)).length)
   have m:=Nat.mul_le_mul_left (8 * r) (Nat.add_le_add c1 c2)
   have m2:8 * r * (ins b p (p+(gP rows r c).length)+ins e p (p+(gP rows r c).length))+8 * r * (ins b (p+(gP rows r c).length) (p+(gP rows r c).length+(flat rows (wp r w)).length)+ins e (p+(gP rows r c).length) (p+(gP rows r c).length+(flat rows (wp r w)).length))<=8 * r * (ins b p (p+(gP rows r c).length+(flat rows (wp r w)).length)+ins e p (p+(gP rows r c).length+(flat rows (wp r w)).length)):=by
     rw[<- Nat.mul_add]
     refine aav (Nat.mul_le_mul_left _ ?_) m
     omega
   show mu rows b e p ((r,c)::(wp r w ++ st))<=_
   rw[mu,aaI]
   show 1+8 * r * (ins b p (p+(gP rows r c).length)+ins e p (p+(gP rows r c).length))+mu rows b e (p+(gP rows r c).length) (wp r w ++ st)<=_
   omega
theorem DR {rows:List Row}(ok:bM rows){age b e:Nat}{W:List Nat}{s:PS}(I:TM rows age b e W s)(hp:s.place < e):TM rows age b e W (oP rows b e s)/\mu rows b e (oP rows b e s).place (oP rows b e s).st < mu rows b e s.place s.st/\(oP rows b e s).bt.length+mu rows b e (oP rows b e s).place (oP rows b e s).st<=s.bt.length+mu rows b e s.place s.st/\∃ p st,s.st=p::st/\(¬ s.place+(gP rows p.1 p.2).length<=b->¬ (b<=s.place/\s.place+(gP rows p.1 p.2).length<=e)->0 < p.1):=by
 obtain⟨be,ew,pe,fl,fb,mb,mt⟩:=I
 obtain⟨place,st,bt⟩:=s
 simp only at pe fl fb mb mt hp ⊢
 cases st with
 | nil=>
   have:=congrArg abd fl
   rw[aa0] at this
   have z:(flat rows []).length=0:=rfl
   omega
 | cons p st=>
   rw[tw] at fl
   have Wd:=K3 ok p.1 (mb p (by simp)).1
   have nL:∀ x∈st,x.2∈rows.map (·.c)/\x.1<=age:=fun x hx=>mb x (by simp[hx])
   have hlen:=congrArg abd fl
   rw[aa0,aau] at hlen
   have fl2:flat rows st=W.drop (place+(gP rows p.1 p.2).length):=by
     rw[<- List.drop_drop,<- fl,List.drop_left]
   have ft:W.take (place+(gP rows p.1 p.2).length)=W.take place ++ gP rows p.1 p.2:=by
     rw[List.take_add,<- fl,List.take_left]
   have Bt:(¬ place+(gP rows p.1 p.2).length<=b->¬ (b<=place/\place+(gP rows p.1 p.2).length<=e)->0 < p.1):=fun h1 h2=>by
     rcases Nat.eq_zero_or_pos p.1 with z | z
     . rw[z] at h1 h2
       have e1:(gP rows 0 p.2).length=1:=rfl
       rw[e1] at h1 h2
       omega
     . exact z
   refine⟨?_,?_,?_,p,st,rfl,Bt⟩
   . unfold oP
     simp only
     split
     . rename_i h
       refine⟨be,ew,by show place+_<=e;omega,fl2,?_,nL,mt⟩
       have n1:(W.take place).drop b=[]:=List.drop_eq_nil_of_le (by rw[aax];omega)
       have n2:(W.take (place+(gP rows p.1 p.2).length)).drop b=[]:=List.drop_eq_nil_of_le (by rw[aax];omega)
       show flat rows bt=(W.take (place+(gP rows p.1 p.2).length)).drop b
       rw[fb,n1,n2]
     . split
       . rename_i h1 h2
         refine⟨be,ew,h2.2,fl2,?_,nL,fun x hx=>?_⟩
         . show flat rows (bt ++ [p])=(W.take (place+(gP rows p.1 p.2).length)).drop b
           rw[Cg,Wc,fb,ft,List.drop_append_of_le_length (by rw[aax];omega)]
         . rcases abb.mp hx with hx | hx
           . exact mt x hx
           . have:x=p:=by simpa using hx
             rw[this];exact mb p (by simp)
       . rename_i h1 h2
         have hz:=Bt h1 h2
         refine⟨be,ew,pe,?_,fb,fun x hx=>?_,mt⟩
         . show flat rows (wp (p.1 - 1) (wordOf rows p.2) ++ st)=_
           rw[Cg,Al,<- fl]
           congr 1
           obtain⟨r,hr⟩:∃ r,p.1=r+1:=⟨p.1 - 1,by omega⟩
           rw[hr];rfl
         . rcases abb.mp hx with hx | hx
           . obtain⟨y,hy,rfl⟩:=aaM.mp hx
             exact⟨(jF ok (mb p (by simp)).1).1 y hy,by have:=(mb p (by simp)).2;show p.1 - 1<=age;omega⟩
           . exact nL x hx
   all_goals
     unfold oP
     simp only
     rw[mu]
     split
     . show _;simp only;omega
     . split
       . simp only[aau,List.length_singleton];omega
       . rename_i h1 h2
         have hz:=Bt h1 h2
         have hw8:=(jF ok (mb p (by simp)).1).2.2
         have key:=K7 rows b e (p.1 - 1) st place (wordOf rows p.2)
         have ef:(flat rows (wp (p.1 - 1) (wordOf rows p.2))).length=(gP rows p.1 p.2).length:=by
           rw[Al]
           obtain⟨r,hr⟩:∃ r,p.1=r+1:=⟨p.1 - 1,by omega⟩
           rw[hr];rfl
         rw[ef] at key
         have hI:1<=ins b place (place+(gP rows p.1 p.2).length)+ins e place (place+(gP rows p.1 p.2).length):=by
           unfold ins
           split <;> split <;> omega
         generalize ins b place (place+(gP rows p.1 p.2).length)+ins e place (place+(gP rows p.1 p.2).length)=J at key hI ⊢
         have m:8+8 * (p.1 - 1) * J<=8 * p.1 * J:=by
           obtain⟨r,hr⟩:∃ r,p.1=r+1:=⟨p.1 - 1,by omega⟩
           rw[hr,Nat.add_sub_cancel,Nat.mul_add,Nat.add_mul]
           omega
         simp only
         omega
theorem Am {rows:List Row}(ok:bM rows){age b e:Nat}{W:List Nat}{s:PS}(I:TM rows age b e W s){n:Nat}(h:∀ k,k < n->(run rows b e s k).place < e):∀ k,k<=n->TM rows age b e W (run rows b e s k)/\(run rows b e s k).bt.length+mu rows b e (run rows b e s k).place (run rows b e s k).st<=s.bt.length+mu rows b e s.place s.st
 | 0,_=>⟨I,aae _⟩
 | k+1,hk=>by
   obtain⟨i1,i2⟩:=Am ok I h k (by omega)
   obtain⟨j1,_,j3,_⟩:=DR ok i1 (h k (by omega))
   exact⟨j1,aav j3 i2⟩
theorem xn {rows:List Row}(ok:bM rows){age b e:Nat}{W:List Nat}:∀ (m:Nat) {s:PS},TM rows age b e W s->mu rows b e s.place s.st<=m->∃ n,e<=(run rows b e s n).place/\∀ k,k < n->(run rows b e s k).place < e
 | m,s,I,hm=>by
   by_cases hp:s.place < e
   . obtain⟨j1,j2,_⟩:=DR ok I hp
     cases m with
     | zero=>omega
     | succ m=>
       obtain⟨n,h1,h2⟩:=xn ok m j1 (by omega)
       refine⟨n+1,by rw[K4];exact h1,fun k hk=>?_⟩
       cases k with
       | zero=>exact hp
       | succ k=>rw[K4];exact h2 k (by omega)
   . exact⟨0,by show e<=s.place;omega,fun k hk=>by omega⟩
noncomputable def pO (rows:List Row)(w:List Nat)(age:Nat):List Nat:=w.flatMap (gP rows age)
noncomputable def vj (w:List Nat)(age:Nat):PS:=⟨0,wp age w,[]⟩
theorem xp {rows:List Row}{w:List Nat}(ok:mM rows w){age b e:Nat}(be:b<=e)(ew:e<=(pO rows w age).length):TM rows age b e (pO rows w age) (vj w age):=
 ⟨be,ew,aa1 _,Al rows age w,by show []=(List.take 0 _).drop b;simp,fun p hp=>by
   obtain⟨y,hy,rfl⟩:=aaM.mp hp
   exact⟨ok.wm y hy,aae _⟩,fun p hp=>by cases hp⟩
theorem DS {rows:List Row}{w:List Nat}(ok:mM rows w){age b e:Nat}(ha:age<=200):mu rows b e (vj w age).place (vj w age).st<=4000:=by
 have key:=K7 rows b e age [] 0 w
 rw[aaZ] at key
 have w8:=ok.w8
 have i1:=K5 b 0 (0+(flat rows (wp age w)).length)
 have i2:=K5 e 0 (0+(flat rows (wp age w)).length)
 have m:8 * age * (ins b 0 (0+(flat rows (wp age w)).length)+ins e 0 (0+(flat rows (wp age w)).length))<=8 * 200 * 2:=Nat.mul_le_mul (by omega) (by omega)
 have z:mu rows b e (0+(flat rows (wp age w)).length) []=0:=rfl
 show mu rows b e 0 (wp age w)<=4000
 omega
theorem FE {rows:List Row}{w:List Nat}(ok:mM rows w)(age:Nat):(((pO rows w age).length:Nat):Int)=ZV rows w age:=xm fun y hy=>DQ ok.ok age (ok.wm y hy)
def SF:Rl:=fun ds r=>∃ (w:List Nat) (n:Nat),ds=[.str (tx w),.int ((n:Nat):Int)]/\w.length<=1000/\r=.own (.lst ((wp n w).reverse.map tY))
noncomputable abbrev SG:Stmt->Scope
 | .Return (some (.ListComp _ _ sc _)) _=>sc
 | _=>af (.Pass ⟨0,0,0,0⟩)
noncomputable abbrev We:Scope:=SG ((aA d0).getD 0 (.Pass ⟨0,0,0,0⟩))
theorem Pe:eU We (af d0) mD ["letter","rounds"] ["letter"] [1]=true:=by decide +kernel
def K8 (t:dN):Rl:=fun ds r=>∃ six rows w l ls N age b e n,ds=[.obj t.au (t.iO six rows w l ls N),.int ((age:Nat):Int),.int ((b:Nat):Int),.int ((e:Nat):Int)]/\(mM rows w/\ls.map (·.2)=qE rows/\age < N/\N<=1000/\age<=200)/\(b<=e/\e<=(pO rows w age).length)/\(e<=(run rows b e (vj w age) n).place/\∀ k,k < n->(run rows b e (vj w age) k).place < e) /\
 r=.own (.lst ((run rows b e (vj w age) n).bt.map tY))
theorem NY (T:Txt K mg t):GF P w K mg base CX 1 "waiting_pieces" 2 SF:=by
 refine⟨_,_,_,iH T.cZ.F rq rfl fun bj A outer s H E G ds r hr hl hR=>?_,(T.g T.cZ.a),T.cZ.F.kp,T.cZ.b⟩
 obtain⟨wd,n,rfl,hw,rfl⟩:=hR
 have e1:(wd.reverse.map fun x=>Dt.str (sg x))=(Sg.signs (tx wd)).reverse:=by rw[<- dD,List.map_reverse]
 have e2:((wd.reverse.filter fun _=>true).map fun x=>Dt.tup [.int ((n:Nat):Int),.str (sg x)])=(wp n wd).reverse.map tY:=by
   rw[aas.mpr (fun _ _=>rfl)]
   unfold wp
   rw[<- List.map_reverse,aam];rfl
 exact⟨_,.ro _,ao (lW (Eu (de wd.reverse (fun x=>Dt.str (sg x)) (fun x=>Dt.tup [.int ((n:Nat):Int),.str (sg x)]) (fun x=>[.val (.str (sg x))]) (fun _=>true) rfl (aW Pe) (M6 T.qC (ae (aa 0 rfl) ai)) (bg (aW Pe) rfl) (cU (GR (by rw[gb];omega)) e1) (fun a _=>bC) (.nil fun _ _=>rfl)
   (fun a ha _ C fp s' H' G'=>bQ (ae (aa 1 rfl) (ae (aa 0 rfl) ai)) AA3) (sY (by rw[abx];omega))) (congrArg Own.lst e2)))⟩
theorem yJ (T:Txt K mg t):MF P w K mg base CX 4 t.au "pieces" 4 (K8 t):=by
 refine⟨T.aO.cl,_,_,_,iH T.iD.F mF rfl fun bj A outer s H E G ds r hr hl hR=>?_,T.eI,T.iD.b⟩
 obtain⟨six,rows,wd,l,ls,N,age,b,e,n,rfl,⟨ok,n6,hN,hN1,kl⟩,⟨rS,FF⟩,⟨hen,dg⟩,rfl⟩:=hR
 have K9:=NY (P:=P) (w:=w) (base:=base) T
 have qF:=rL (P:=P) (w:=w) (base:=base) T
 have nd:=mF.nd
 have hu:(A.deeper (envOfC "Growth.pieces" (af g9) s.heap.objs.size t.cI bj)).units+1 < cLine:=by have:=hr.units;omega
 have w8:=ok.w8
 let R:Nat->PS:=run rows b e (vj wd age)
 have Ra:=Am ok.ok (xp ok rS FF) dg
 have h0:(vj wd age).bt.length+mu rows b e (vj wd age).place (vj wd age).st<=4000:=by
   have:=DS ok (b:=b) (e:=e) kl
   show 0+_<=_;omega
 have hsz:∀ k,k<=n->(R k).bt.length<=4000/\(R k).st.length<=4000:=fun k hk=>by
   have h1:=(Ra k hk).2
   have h2:=K6 rows b e (run rows b e (vj wd age) k).place (run rows b e (vj wd age) k).st
   exact⟨by show(run rows b e (vj wd age) k).bt.length<=4000;omega,by show(run rows b e (vj wd age) k).st.length<=4000;omega⟩
 have szq:∀ {m:Nat},m<=8000->m < sizeLine:=fun h=>aaK h (by decide)
 let sf:Dt:=.obj t.au (t.iO six rows wd l ls N)
 let S:Nat->List Slot:=fun k=>[.val sf,.val (.int ((age:Nat):Int)),.val (.int ((b:Nat):Int)),.val (.int ((e:Nat):Int)),.own (.lst ((R k).bt.map tY)),.own (.lst ((R k).st.reverse.map tY)),.val (.int (((R k).place:Nat):Int)),.aJ,.aJ,.aJ]
 refine⟨_,.ro _,ag (jI 4 nd (ql ai AA3)) (ag (jI 5 nd (Bh K9 ax hr (ae (aH (fs:=t.iO six rows wd l ls N) (aa 0 rfl) T.aO.cl T.f6 rfl) (ae (aa 1 rfl) ai)) ⟨wd,age,rfl,by omega,rfl⟩))
   (ag (ar 6 nd aj) (ag (dl1:=S n) (IS S n PassesOwn.leaving (Le.of ⟨rfl,rfl,rfl,rfl,rfl,rfl,rfl,trivial⟩) (fun k hk=>bO (A9 (aa 6 rfl) (aa 3 rfl)) (decide_eq_true ?c1)) (bO (A9 (aa 6 rfl) (aa 3 rfl)) (decide_eq_false ?c2)) (fun k hk=>?body)) (ao (Mx 4)))))⟩
 case c1=>have:=dg k hk;show(((run rows b e (vj wd age) k).place:Nat):Int) < _;omega
 case c2=>show ¬ (((run rows b e (vj wd age) n).place:Nat):Int) < _;omega
 case body=>
   have W0:=dg k hk
   obtain⟨Ik,_⟩:=Ra k (aa5 hk)
   obtain⟨_,_,_,p,st,es,Bt⟩:=DR ok.ok Ik W0
   have eR:R (k+1)=oP rows b e (R k):=rfl
   obtain⟨Hr,AM⟩:=hsz k (aa5 hk)
   have LW:(R k).st=p::st:=es
   have Hu:=Ik.mb p (by rw[es];simp)
   have Wd:p.1 < N:=by omega
   have hg:=DQ ok.ok p.1 Hu.1
   have ZY:(R k).st.reverse.map tY=st.reverse.map tY ++ [tY p]:=by rw[LW,List.reverse_cons,aa4];rfl
   have aen:st.length<=4000:=by have:=congrArg abd LW;rw[aaI] at this;omega
   let q:Nat:=(R k).place+(gP rows p.1 p.2).length
   have eq:(((R k).place:Nat):Int)+lT rows p.1 p.2=((q:Nat):Int):=by rw[<- hg];show _=(((R k).place+(gP rows p.1 p.2).length:Nat):Int);omega
   let U:List Slot:=[.val sf,.val (.int ((age:Nat):Int)),.val (.int ((b:Nat):Int)),.val (.int ((e:Nat):Int)),.own (.lst ((R k).bt.map tY)),.own (.lst (st.reverse.map tY)),.val (.int (((R k).place:Nat):Int)),.val (tY p),.val (.int ((p.1:Nat):Int)),.val (.int ((q:Nat):Int))]
   have hS:S k=[.val sf,.val (.int ((age:Nat):Int)),.val (.int ((b:Nat):Int)),.val (.int ((e:Nat):Int)),.own (.lst ((R k).bt.map tY)),.own (.lst (st.reverse.map tY ++ [tY p])),.val (.int (((R k).place:Nat):Int)),.aJ,.aJ,.aJ]:=by
     show [_,_,_,_,_,Slot.own (.lst ((R k).st.reverse.map tY)),_,_,_,_]=_
     rw[ZY]
   rw[hS]
   refine .nx (dl':=[.val sf,.val (.int ((age:Nat):Int)),.val (.int ((b:Nat):Int)),.val (.int ((e:Nat):Int)),.own (.lst ((R (k+1)).bt.map tY)),.own (.lst ((R (k+1)).st.reverse.map tY)),.val (.int (((R (k+1)).place:Nat):Int)),.val (tY p),.val (.int ((p.1:Nat):Int)),.val (.int ((q:Nat):Int))]) (ag (RH (ds:=st.reverse.map tY) (d:=tY p) 7 5 nd rfl) (ag (ar 8 nd (aB (aa 7 rfl) aj rfl)) (ag (dl1:=U) (ar 9 nd (aM (aK (aa 6 rfl) (lE hu (Dh (n:=N) (j:=1) (f:=Ah rows) (aH (fs:=t.iO six rows wd l ls N) (aa 0 rfl) T.aO.cl T.cE rfl) (aa 8 rfl) (by rw[n6];rfl) Wd hN1) (aB (aa 7 rfl) aj rfl) (by rw[O6];exact l5 Hu.1) (fun _ _=>rfl))) (congrArg Dt.int eq)))
     (ao (aS (u:=decide (q<=b)) (bO (tP (aa 9 rfl) (aa 2 rfl)) (decide_eq_decide.mpr (Int.ofNat_le (m:=q) (n:=b)))) (fun h=>?b1) (fun h=>ao (aS (u:=decide (b<=(R k).place/\q<=e)) ?cc (fun h'=>?b2) (fun h'=>?b3)))))))) (Le.of ⟨rfl,rfl,rfl,rfl,rfl,rfl,rfl,trivial⟩)
   case b1=>
     have h:q<=b:=of_decide_eq_true h
     have e1:R (k+1)=⟨q,st,(R k).bt⟩:=by rw[eR];unfold oP;rw[LW];exact if_pos h
     rw[e1]
     exact ao (ar 6 nd (aa 9 rfl))
   case cc=>
     by_cases h1:b<=(R k).place
     . by_cases h2:q<=e
       . rw[decide_eq_true (⟨h1,h2⟩:b<=(R k).place/\q<=e)]
         exact vG (vF (u:=true) (v:=true) (bO (tP (aa 2 rfl) (aa 6 rfl)) (decide_eq_true (by omega))) fun _=>yY (bO (tP (aa 9 rfl) (aa 3 rfl)) (decide_eq_true (by omega))))
       . rw[decide_eq_false (fun z:b<=(R k).place/\q<=e=>h2 z.2)]
         exact vG (vF (u:=true) (v:=false) (bO (tP (aa 2 rfl) (aa 6 rfl)) (decide_eq_true (by omega))) fun _=>yY (bO (tP (aa 9 rfl) (aa 3 rfl)) (decide_eq_false (by omega))))
     . rw[decide_eq_false (fun z:b<=(R k).place/\q<=e=>h1 z.1)]
       exact vG (vF (u:=false) (v:=false) (bO (tP (aa 2 rfl) (aa 6 rfl)) (decide_eq_false (by omega))) fun z=>nomatch z)
   case b2=>
     have h:¬ q<=b:=of_decide_eq_false h
     have h':=of_decide_eq_true h'
     have e1:R (k+1)=⟨q,st,(R k).bt ++ [p]⟩:=by rw[eR];unfold oP;rw[LW];exact(if_neg h).trans (if_pos h')
     rw[e1]
     show nM _ _ _ _ _ (.nx [_,_,_,_,.own (.lst (((R k).bt ++ [p]).map tY)),_,_,_,_,_])
     rw[aa4]
     exact ag (sy (ds:=(R k).bt.map tY) 4 (aa 7 rfl) (by rw[k5];exact szq (by omega))) (ao (ar 6 nd (aa 9 rfl)))
   case b3=>
     have h:¬ q<=b:=of_decide_eq_false h
     have h':=of_decide_eq_false h'
     have hz:=Bt h h'
     have e1:R (k+1)=⟨(R k).place,wp (p.1 - 1) (wordOf rows p.2) ++ st,(R k).bt⟩:=by rw[eR];unfold oP;rw[LW];exact(if_neg h).trans (if_neg h')
     rw[e1]
     have hw:=jF ok.ok Hu.1
     show nM _ _ _ _ _ (.nx [_,_,_,_,_,.own (.lst ((wp (p.1 - 1) (wordOf rows p.2) ++ st).reverse.map tY)),_,_,_,_])
     rw[List.reverse_append,aa4]
     exact ao (GD (ds:=st.reverse.map tY) 5 (lz (Bh K9 ax hr (ae (bE (fs:=t.wW six rows) (aH (fs:=t.iO six rows wd l ls N) (aa 0 rfl) T.aO.cl T.b8 rfl) qF ax hr (ae (aB (aa 7 rfl) aj rfl) ai) ⟨six,rows,p.2,rfl,ok.ok,Hu.1,rfl⟩) (ae (aM (gF (aa 8 rfl) aj) (congrArg Dt.int (show((p.1:Nat):Int) - 1=((p.1 - 1:Nat):Int) by omega))) ai)) ⟨wordOf rows p.2,p.1 - 1,rfl,by omega,rfl⟩)) (by
       rw[k5,k5,abx,abx]
       show st.length+((wordOf rows p.2).map fun c=>(p.1 - 1,c)).length<=_
       rw[k5]
       exact aa5 (szq (by omega))))
noncomputable def grow (rows:List Row)(w:List Nat):List Nat:=(w.map (wordOf rows)).flatten
theorem La (rows:List Row)(a b:List Nat):grow rows (a ++ b)=grow rows a ++ grow rows b:=by
 unfold grow;rw[aa4,aby]
theorem An (rows:List Row)(f:Nat->List Nat):∀ w:List Nat,grow rows (w.flatMap f)=w.flatMap fun y=>grow rows (f y)
 | []=>rfl
 | y::w=>by rw[abh,abh,La,An rows f w]
theorem FG (rows:List Row):∀ (r c:Nat),grow rows (gP rows r c)=gP rows (r+1) c
 | 0,c=>by
   show [wordOf rows c].flatten=(wordOf rows c).flatMap fun y=>[y]
   simp
 | r+1,c=>by
   show grow rows ((wordOf rows c).flatMap (gP rows r))=_
   rw[An]
   show _=(wordOf rows c).flatMap (gP rows (r+1))
   congr 1
   funext y
   exact FG rows r y
theorem FH (rows:List Row)(w:List Nat)(n:Nat):grow rows (pO rows w n)=pO rows w (n+1):=by
 unfold pO
 rw[An]
 congr 1
 funext y
 exact FG rows n y
theorem Pg (rows:List Row)(w:List Nat):pO rows w 0=w:=by
 show w.flatMap (fun y=>[y])=w
 simp
theorem vk {rows:List Row}(ok:bM rows){w:List Nat}(h:∀ x∈w,x∈rows.map (·.c)):∀ n,∀ x∈pO rows w n,x∈rows.map (·.c)
 | 0=>by rw[Pg];exact h
 | n+1=>fun x hx=>by
   rw[<- FH] at hx
   obtain⟨l,hl,hx⟩:=List.mem_flatten.mp hx
   obtain⟨y,hy,rfl⟩:=aaM.mp hl
   exact(jF ok (vk ok h n y hy)).1 x hx
theorem FI {rows:List Row}(ok:bM rows):∀ {w:List Nat},(∀ x∈w,x∈rows.map (·.c))->w.length<=(grow rows w).length/\(grow rows w).length<=8 * w.length
 | [],_=>⟨aa1 _,aa1 _⟩
 | x::w,h=>by
   have ih:=FI ok (w:=w) fun y hy=>h y (aaF _ hy)
   have hw:=jF ok (h x (aaX ..))
   have e:(grow rows (x::w)).length=(wordOf rows x).length+(grow rows w).length:=by
     show((wordOf rows x::w.map (wordOf rows)).flatten).length=_
     rw[aaU,aau];rfl
   rw[e,aaI];omega
theorem Lb {rows:List Row}(ok:bM rows){w:List Nat}(h:∀ x∈w,x∈rows.map (·.c))(n:Nat):∀ k,(pO rows w n).length<=(pO rows w (n+k)).length
 | 0=>aae _
 | k+1=>aav (Lb ok h n k) (by rw[<- Nat.add_assoc,<- FH];exact(FI ok (vk ok h (n+k))).1)
theorem Lc {rows:List Row}(ok:bM rows){w:List Nat}(h:∀ x∈w,x∈rows.map (·.c)){n m:Nat}(hm:n<=m):(pO rows w n).length<=(pO rows w m).length:=by
 have:=Lb ok h n (m - n)
 rwa [Nat.add_sub_cancel' hm] at this
theorem Wf {n:Nat}(h:n<=100000):n<=sizeLine:=aav h (by decide)
theorem NZ {X:Cx}{G:Gr}{dl:List Slot}{a:Expr}{L:List Nat}{pos p:Pos}(hm:X.mg "len"=none)(ha:EE X G dl a (.str (tx L)))(hl:L.length<=100000)(hg:Gl X "len":=by rfl)(he:starEach [a] X.env=[(false,eval a X.env)]:=by rfl):EE X G dl (.Call (.Name "len" p) [a] [] pos) (.int (L.length:Nat)):=
 aM (uG hm ha (by rw[gb];exact Wf hl) hg he) (by rw[gb])
def Wg:Rl:=fun ds r=>∃ z:Int,ds=[.int z]/\z<=400/\r=.ret .cW
def N1 (t:dN):Rl:=fun ds r=>∃ six rows w,ds=[t.x6 six rows,.str (tx w)]/\bM rows/\(∀ x∈w,x∈rows.map (·.c))/\w.length<=1000/\(grow rows w).length<=400/\r=.ret (.str (tx (grow rows w)))
def Wh (t:dN):Rl:=fun ds r=>∃ six rows w n,ds=[t.x6 six rows,.str (tx w),.int ((n:Nat):Int)]/\mM rows w/\n<=200/\(pO rows w n).length<=400/\r=.ret (.str (tx (pO rows w n)))
noncomputable abbrev SH:Stmt->Scope
 | .Assign _ (.Call _ (.ListComp _ _ sc _::_) _ _) _=>sc
 | _=>af (.Pass ⟨0,0,0,0⟩)
noncomputable abbrev N2:Scope:=SH ((aA v8).getD 0 (.Pass ⟨0,0,0,0⟩))
theorem FJ:eU N2 (af v8) JV ["letter","rules"] ["letter"] [0]=true:=by decide +kernel
noncomputable abbrev Ci (t:dN)(six:Bool)(rows:List Row)(w:List Nat)(l:Addr)(ls:kg)(n:Nat):Dt:=.obj t.au (t.iO six rows w l ls n)
def ZZ (t:dN):Rl:=fun ds r=>∃ six rows w l ls n age z,ds=[Ci t six rows w l ls n,.int ((age:Nat):Int),.int z]/\mM rows w/\ls.map (·.2)=qE rows/\age<=200/\(0<=z/\z<=((pO rows w age).length:Nat))/\r=.ret .cW
def Z0 (t:dN):Rl:=fun ds r=>∃ six rows w l ls n age,∃ b e:Nat,ds=[Ci t six rows w l ls n,.int ((age:Nat):Int),.int (b:Int),.int (e:Int)]/\mM rows w/\ls.map (·.2)=qE rows/\age<=200/\(b<=e/\e<=(pO rows w age).length)/\r=.ret (.uF l ls (age+1))
noncomputable def cut (W:List Nat)(b e:Nat):List Nat:=(W.take e).drop b
def Ld (t:dN):Rl:=fun ds r=>∃ six rows w l ls n age,∃ b e:Nat,ds=[Ci t six rows w l ls n,.int ((age:Nat):Int),.int (b:Int),.int (e:Int)]/\mM rows w/\ls.map (·.2)=qE rows/\age<=200/\(b<=e/\e<=(pO rows w age).length/\e - b<=400)/\r=.ret (.str (tx (cut (pO rows w age) b e)))
noncomputable abbrev SI:Stmt->Scope
 | .Return (some (.Call _ (.ListComp _ _ sc _::_) _ _)) _=>sc
 | _=>af (.Pass ⟨0,0,0,0⟩)
noncomputable abbrev N3:Scope:=SI ((aA g7).getD 2 (.Pass ⟨0,0,0,0⟩))
theorem FK:eU N3 (af g7) p7 ["rounds","letter","self"] ["rounds","letter"] [0]=true:=by decide +kernel
theorem FL (rows:List Row):∀ {st:List Pc} {p:Pc},p∈st->(gP rows p.1 p.2).length<=(flat rows st).length
 | [],_,h=>by cases h
 | q::st,p,h=>by
   rw[tw,aau]
   rcases aaE.mp h with rfl | h
   . omega
   . have:=FL rows h;omega
theorem FN (rows:List Row)(c n:Nat):pO rows [c] n=gP rows n c:=by unfold pO;simp
theorem Lf (T:Txt K mg t):GF P w K mg base CX 1 "check_written" 1 Wg:=by
 refine⟨_,_,_,iH T.dt.F sN rfl fun bj A outer s H E G ds r hr hl hR=>?_,(T.g T.dt.a),T.dt.F.kp,T.dt.b⟩
 obtain⟨z,rfl,h,rfl⟩:=hR
 exact⟨_,.nx _,ao (aS (u:=false) (bO (Ba (aa 0 rfl) (jH (w:=.int 400) T.wK ⟨_,rfl⟩ fun _=>.int 400)) (decide_eq_false (by omega))) (fun h=>nomatch h) (fun h=>bJ))⟩
theorem Lg (T:Txt K mg t):GF P w K mg base CX 3 "once" 2 (N1 t):=by
 refine⟨_,_,_,iH T.sR.F EZ rfl fun bj A outer s H E G ds r hr hl hR=>?_,(T.g T.sR.a),T.sR.F.kp,T.sR.b⟩
 obtain⟨six,rows,wd,rfl,ok,hw,hn,hle,rfl⟩:=hR
 have qF:=rL (P:=P) (w:=w) (base:=base) T
 have SJ:=Lf (P:=P) (w:=w) (base:=base) T
 have nd:=EZ.nd
 have e2:((wd.filter fun _=>true).map fun x=>Dt.str (tx (wordOf rows x)))=((wd.map (wordOf rows)).map tx).map Dt.str:=by
   rw[aas.mpr (fun _ _=>rfl),aam,aam];rfl
 exact⟨_,.rt _,ag (ar 2 nd (d:=.str (tx (grow rows wd))) (pK (Ls:=wd.map (wordOf rows)) bI (df e2 (de wd (fun x=>Dt.str (sg x)) (fun x=>.str (tx (wordOf rows x))) (fun x=>[.val (.str (sg x))]) (fun _=>true) rfl (aW FJ) (fU (aa 1 rfl)) (bg (aW FJ) rfl) (cU (cB (rM ok hw)) (dD wd)) (fun a _=>bC) (.nil fun _ _=>rfl)
     (fun a ha _ C fp s' H' G'=>bE (fs:=t.wW six rows) (aa 1 rfl) qF ax hr (ae (aa 0 rfl) ai) ⟨six,rows,a,rfl,ok,hw a ha,rfl⟩) (sY (by omega)))) (by rw[k5];show(grow rows wd).length+_<=_;omega)))
     (ag (mV (aX SJ ax hr (ae (NZ T.gD (aa 2 rfl) (by omega)) ai) ⟨_,rfl,by omega,rfl⟩)) (ao (aF (aa 2 rfl))))⟩
theorem SK (T:Txt K mg t):GF P w K mg base CX 4 "written" 3 (Wh t):=by
 refine⟨_,_,_,iH T.lq.F wt rfl fun bj A outer s H E G ds r hr hl hR=>?_,(T.g T.lq.a),T.lq.F.kp,T.lq.b⟩
 obtain⟨six,rows,wd,n,rfl,ok,hn,hle,rfl⟩:=hR
 have Z1:=tW (P:=P) (w:=w) (base:=base) T
 have Sy:=Pd (P:=P) (w:=w) (base:=base) T
 have SM:=Lg (P:=P) (w:=w) (base:=base) T
 have nd:=wt.nd
 let S:Nat->List Slot:=fun k=>[.val (t.x6 six rows),.val (.str (tx wd)),.val (.int (n:Nat)),.val (.str (tx (pO rows wd k))),.aJ]
 refine⟨_,.rt _,ag (ar 3 nd (C3 (fs:=t.wW six rows) (aa 0 rfl) Z1 ax hr (ae (aa 1 rfl) ai) ⟨six,rows,wd,8,rfl,ok.ok,ok.wm,⟨ok.w0,ok.w8,by decide⟩,rfl⟩))
     (ag (mV (aX Sy ax hr (ae (aa 2 rfl) (ae aj (ae (jH (w:=.int 200) T.rJ ⟨_,rfl⟩ fun _=>.int 200) ai))) ⟨_,_,_,rfl,by omega,by omega,rfl⟩))
     (ag (dl1:=S n) (jw (o:=.nx (S n)) (m:=n) 4 S nd rfl PassesOwn.leaving T.gB (ae (aa 2 rfl) ai) ⟨by omega,by omega⟩ (Le.of ⟨rfl,rfl,rfl,by rw[Pg],trivial⟩) (by omega) (fun k hk=>?_) (by rw[aaS];exact .all rfl))
     (ao (aF (aa 3 rfl)))))⟩
 have a:=Lc ok.ok ok.wm (n:=k) (m:=n) (by omega)
 have b:=Lc ok.ok ok.wm (n:=k+1) (m:=n) (by omega)
 rw[<- FH] at b
 refine .nx (ao (ar 3 nd (aX SM ax hr (ae (aa 0 rfl) (ae (aa 3 rfl) ai)) ⟨six,rows,pO rows wd k,rfl,ok.ok,vk ok.ok ok.wm k,by omega,by omega,rfl⟩))) (Le.of ⟨rfl,rfl,rfl,?_,trivial⟩)
 show Slot.val (.str (tx (pO rows wd (k+1))))=Slot.val (.str (tx (grow rows (pO rows wd k))))
 rw[FH]
theorem Wi (T:Txt K mg t):MF P w K mg base CX 7 t.au "check_place" 3 (ZZ t):=by
 refine⟨T.aO.cl,_,_,_,iH T.dC.F nY rfl fun bj A outer s H E G ds r hr hl hR=>?_,T.cK,T.dC.b⟩
 obtain⟨six,rows,wd,l,ls,n,age,z,rfl,ok,n6,kl,hz,rfl⟩:=hR
 have Lh:=Fw (P:=P) (w:=w) (base:=base) T
 have e:=FE ok age
 exact⟨_,.nx _,ao (aS (u:=false) (vG (qR (u:=false) (v:=false) (bO (A9 (aa 2 rfl) aj) (decide_eq_false (by omega))) fun _=>(qi (bO (Ba (aa 2 rfl) (bE (fs:=t.iO six rows wd l ls n) (aa 0 rfl) Lh ax hr (ae (aa 1 rfl) ai) ⟨six,rows,wd,l,ls,n,age,rfl,ok,n6,kl,rfl⟩)) (decide_eq_false (by omega)))))) (fun h=>nomatch h) (fun h=>bJ))⟩
theorem Ph (T:Txt K mg t):MF P w K mg base CX 8 t.au "check_stretch" 4 (Z0 t):=by
 refine⟨T.aO.cl,_,_,_,iH T.cR.F mE rfl fun bj A outer s H E G ds r hr hl hR=>?_,T.cq,T.cR.b⟩
 obtain⟨six,rows,wd,l,ls,n,age,b,e,rfl,ok,n6,kl,⟨rS,FF⟩,rfl⟩:=hR
 have KN:=Cc (P:=P) (w:=w) (base:=base) T
 have Wj:=Wi (P:=P) (w:=w) (base:=base) T
 have e2:ls.length=2:=by have:=congrArg abd n6;simpa [qE] using this
 exact⟨_,pv (nm:=["tallies","lengths"]) (tl:=[.val (.int ((age:Nat):Int)),.val (.int (b:Int)),.val (.int (e:Int))]) (by rw[e2];exact aae 2),ag (oA (m:=age+1) (tl:=[.val (.int ((age:Nat):Int)),.val (.int (b:Int)),.val (.int (e:Int))]) (bE (fs:=t.iO six rows wd l ls n) (aa 0 rfl) KN ax hr (ae (aa 1 rfl) ai) ⟨six,rows,wd,l,ls,n,age,rfl,ok,n6,by omega,rfl⟩))
   (ag (mV (bE (fs:=t.iO six rows wd l ls (age+1)) (aa 0 rfl) Wj ax hr (ae (aa 1 rfl) (ae (aa 2 rfl) ai)) ⟨six,rows,wd,l,ls,_,age,b,rfl,ok,n6,kl,⟨by omega,by omega⟩,rfl⟩))
   (ag (aS (u:=false) (bO (A9 (aa 3 rfl) (aa 2 rfl)) (decide_eq_false (by omega))) (fun h=>nomatch h) (fun h=>bJ))
   (ao (mV (bE (fs:=t.iO six rows wd l ls (age+1)) (aa 0 rfl) Wj ax hr (ae (aa 1 rfl) (ae (aa 3 rfl) ai)) ⟨six,rows,wd,l,ls,_,age,e,rfl,ok,n6,kl,⟨by omega,by omega⟩,rfl⟩)))))⟩
theorem N4 (T:Txt K mg t):MF P w K mg base CX 9 t.au "part" 4 (Ld t):=by
 refine⟨T.aO.cl,_,_,_,iH T.jY.F wz rfl fun bj A outer s H E G ds r hr hl hR=>?_,T.fL,T.jY.b⟩
 obtain⟨six,rows,wd,l,ls,n,age,b,e,rfl,ok,n6,kl,⟨rS,FF,h4⟩,rfl⟩:=hR
 have SN:=Ph (P:=P) (w:=w) (base:=base) T
 have xq:=yJ (P:=P) (w:=w) (base:=base) T
 have SJ:=Lf (P:=P) (w:=w) (base:=base) T
 have Z2:=SK (P:=P) (w:=w) (base:=base) T
 obtain⟨k,Wk,SO⟩:=xn ok.ok _ (xp ok rS FF) (aae _)
 obtain⟨Ik,Jk⟩:=Am ok.ok (xp ok rS FF) SO k (aae _)
 have hmu:=DS ok (b:=b) (e:=e) kl
 generalize Wl:(run rows b e (vj wd age) k).bt=bt at Ik Jk
 have hp:(run rows b e (vj wd age) k).place=e:=by have:=Ik.pe;omega
 have Z3:flat rows bt=cut (pO rows wd age) b e:=by rw[<- Wl,Ik.fb,hp];rfl
 have Yt:(flat rows bt).length<=400:=by rw[Z3];unfold cut;rw[aa0,aax];omega
 have hb4:bt.length<=4000:=by
   have:(vj wd age).bt.length=0:=rfl
   omega
 have Z4:∀ p∈bt,p.2∈rows.map (·.c)/\p.1<=age:=by rw[<- Wl];exact Ik.mt
 have e2:((bt.filter fun _=>true).map fun p=>Dt.str (tx (gP rows p.1 p.2)))=((bt.map fun p=>gP rows p.1 p.2).map tx).map Dt.str:=by
   rw[aas.mpr (fun _ _=>rfl),aam,aam];rfl
 have e3:(bt.map fun p=>gP rows p.1 p.2).flatten=cut (pO rows wd age) b e:=by rw[<- Z3];unfold flat;rw[List.flatMap_def]
 refine⟨_,.rt _,ag (oA (m:=age+1) (tl:=[.val (.int ((age:Nat):Int)),.val (.int (b:Int)),.val (.int (e:Int))]) (bE (fs:=t.iO six rows wd l ls n) (aa 0 rfl) SN ax hr (ae (aa 1 rfl) (ae (aa 2 rfl) (ae (aa 3 rfl) ai))) ⟨six,rows,wd,l,ls,n,age,b,e,rfl,ok,n6,kl,⟨rS,FF⟩,rfl⟩))
   (ag (mV (aX SJ ax hr (ae (gF (aa 3 rfl) (aa 2 rfl)) ai) ⟨_,rfl,by omega,rfl⟩))
   (ao (aF (aM (pK (Ls:=bt.map fun p=>gP rows p.1 p.2) bI (df e2 (de bt tY (fun p=>.str (tx (gP rows p.1 p.2))) (fun p=>[.val (.int ((p.1:Nat):Int)),.val (.str (sg p.2))]) (fun _=>true) rfl (aW FK) (fN (lz (Eu (ym (fs:=t.iO six rows wd l ls (age+1)) (aa 0 rfl) (MA xq) ax hr (ae (aa 1 rfl) (ae (aa 2 rfl) (ae (aa 3 rfl) ai))) ⟨six,rows,wd,l,ls,age+1,age,b,e,k,rfl,⟨ok,n6,by omega,by omega,kl⟩,⟨rS,FF⟩,⟨Wk,SO⟩,rfl⟩) (by rw[Wl])))) (Bo rfl (aW FK) rfl) dZ (fun a _=>EC) (.nil fun _ _=>rfl)
     (fun p hp _ C fp s' H' G'=>?_) (Wf (by omega)))) (by rw[e3,k5,<- Z3];omega)) (by rw[e3])))))⟩
 obtain⟨m1,m2⟩:=Z4 p hp
 have hl4:=FL rows hp
 exact aM (aX Z2 ax hr (ae (aH (fs:=t.iO six rows wd l ls (age+1)) (aa 2 rfl) T.aO.cl T.b8 rfl) (ae (aa 1 rfl) (ae (aa 0 rfl) ai))) ⟨six,rows,[p.2],p.1,rfl,⟨ok.ok,by simp,by simp,fun x hx=>by
   have:x=p.2:=by simpa using hx
   rw[this];exact m1⟩,by omega,by rw[FN];omega,rfl⟩) (by rw[FN])
theorem DT (six:Bool)(w:Int)(p q:Int×Int):iN six w (ad p q)=iN six w p+iN six w q:=by
 unfold iN ad
 cases six
 . simp only[aaY,if_false]
   split
   . rfl
   . split
     . rfl
     . split <;> omega
 . simp only[if_true]
   split
   . omega
   . split
     . omega
     . split
       . omega
       . split
         . omega
         . split <;> omega
theorem Cj (six:Bool){w:Nat}(h:w < wn six)(b:Int)(p:Int×Int):iN six (((w:Int) - b) % wy six) p=iN six w (tn six (b % wy six).toNat p):=by
 have hw:=rO six
 have h0:=aay ((w:Int) - b) (abf (eO six))
 have h1:=aaz ((w:Int) - b) (eO six)
 have k:=Kl six h0 h1 b p
 rw[<- k]
 congr 1
 cases six with
 | false=>show(((w:Int) - b) % 4+b) % 4=w;have:w < 4:=h;omega
 | true=>show(((w:Int) - b) % 6+b) % 6=w;have:w < 6:=h;omega
theorem Ao (six:Bool)(ns:List Int)(f:Int){w:Nat}(h:w < wn six):(qd six ns f).getD w 0=ns.getD (((w:Int) - f) % wy six).toNat 0:=by
 unfold qd
 rw[WW,YL,aaL h];rfl
theorem Ap (six:Bool)(w:Nat)(b:Int):(((w:Int) - b) % wy six).toNat < wn six/\((((w:Int) - b) % wy six).toNat:Int)=((w:Int) - b) % wy six:=by
 have hw:=rO six
 have h0:=aay ((w:Int) - b) (abf (eO six))
 have h1:=aaz ((w:Int) - b) (eO six)
 omega
theorem jG {f:Nat->Int}{n k:Nat}(h:k < n):((aaj n).map f).getD k 0=f k:=by
 rw[WW,YL,aaL h];rfl
noncomputable def SQ (p q:Int):Int:=if q<=p then p else q
theorem ke (six:Bool)(x y:Tr){w:Nat}(h:w < wn six):(jn six x y).reach.getD w 0=SQ (x.reach.getD w 0) (y.reach.getD (((w:Int) - x.turn) % wy six).toNat 0+iN six w x.shift):=by
 show((aaj (wn six)).map (x8 six x y)).getD w 0=_
 rw[jG h]
 unfold x8 SQ
 rw[Ao six _ _ h]
theorem mN (six:Bool)(x y:Tr){w:Nat}(h:w < wn six):(jn six x y).aU.getD w 0=if y.reach.getD (((w:Int) - x.turn) % wy six).toNat 0+iN six w x.shift<=x.reach.getD w 0 then x.aU.getD w 0 else y.aU.getD (((w:Int) - x.turn) % wy six).toNat 0+x.many:=by
 show((aaj (wn six)).map (z6 six x y)).getD w 0=_
 rw[jG h]
 unfold z6
 rw[Ao six _ _ h,Ao six _ _ h]
theorem Li (six:Bool):∀ (n:Nat) (p q:Int×Int),tn six n (ad p q)=ad (tn six n p) (tn six n q)
 | 0,p,q=>rfl
 | n+1,p,q=>by
   rw[tn,tn,tn,Li six n]
   generalize tn six n p=a
   generalize tn six n q=b
   cases six
   . simp only[Pf.tl,ad,aaY,if_false];refine Prod.ext ?_ ?_ <;> simp only <;> omega
   . simp only[Pf.tl,ad,if_true];refine Prod.ext ?_ ?_ <;> simp only <;> omega
theorem DU (six:Bool)(p:Int×Int)(b:Nat):∀ a:Nat,tn six (a+b) p=tn six a (tn six b p)
 | 0=>by rw[Nat.zero_add];rfl
 | a+1=>by
   rw[Nat.succ_add]
   show Pf.tl six (tn six (a+b) p)=Pf.tl six (tn six a (tn six b p))
   rw[DU six p b a]
theorem SR (six:Bool)(p:Int×Int):tn six (wn six) p=p:=by
 obtain⟨x,y⟩:=p
 cases six with
 | false=>show Pf.tl false (Pf.tl false (Pf.tl false (Pf.tl false (x,y))))=_;simp[Pf.tl]
 | true=>show Pf.tl true (Pf.tl true (Pf.tl true (Pf.tl true (Pf.tl true (Pf.tl true (x,y))))))=_;simp[Pf.tl];omega
theorem Lj (six:Bool)(p:Int×Int)(r:Nat):∀ q:Nat,tn six (r+wn six * q) p=tn six r p
 | 0=>rfl
 | q+1=>by rw[Nat.mul_succ,<- Nat.add_assoc,DU,SR,Lj six p r q]
theorem Lk (six:Bool)(a b:Int)(p:Int×Int):tn six (a % wy six).toNat (tn six (b % wy six).toNat p)=tn six (((a+b) % wy six) % wy six).toNat p:=by
 rw[<- DU,<- Nat.mod_add_div ((a % wy six).toNat+(b % wy six).toNat) (wn six),Lj]
 congr 1
 have hw:=rO six
 have hp:=eO six
 have h1:=aay a (abf hp)
 have h2:=aay b (abf hp)
 have e:((((a % wy six).toNat+(b % wy six).toNat) % wn six:Nat):Int)=((a+b) % wy six) % wy six:=by
   rw[Int.natCast_emod,hw,Int.natCast_add,Int.toNat_of_nonneg h1,Int.toNat_of_nonneg h2,Int.emod_emod,<- Int.add_emod]
 omega
theorem Wm (six:Bool)(p q:Int×Int):cr (Pf.tl six p) (Pf.tl six q)=cr p q:=by
 unfold cr Pf.tl
 cases six
 . simp only[aaY,if_false]
   have h1:-p.2 * q.1=-(p.2 * q.1):=Int.neg_mul _ _
   have h2:p.1 * -q.2=-(p.1 * q.2):=Int.mul_neg _ _
   omega
 . simp only[if_true]
   have h1:-p.2 * (q.1+q.2)=-(p.2 * q.1) - p.2 * q.2:=by rw[Int.neg_mul,Int.mul_add];omega
   have h2:(p.1+p.2) * -q.2=-(p.1 * q.2) - p.2 * q.2:=by rw[Int.mul_neg,Int.add_mul];omega
   omega
theorem Pj (six:Bool):∀ (n:Nat) (p q:Int×Int),cr (tn six n p) (tn six n q)=cr p q
 | 0,_,_=>rfl
 | n+1,p,q=>by rw[tn,tn,Wm,Pj six n]
theorem N5 (p q r:Int×Int):cr p (ad q r)=cr p q+cr p r:=by
 unfold cr ad
 simp only[Int.mul_add];omega
theorem N6 (p q r:Int×Int):cr (ad p q) r=cr p r+cr q r:=by
 unfold cr ad
 simp only[Int.add_mul];omega
theorem Ll (p q r:Int×Int):ad p (ad q r)=ad (ad p q) r:=by
 unfold ad
 refine Prod.ext ?_ ?_ <;> simp only <;> omega
theorem list_eq {six:Bool}{a b:List Int}(ha:a.length=wn six)(hb:b.length=wn six)(h:∀ w,w < wn six->a.getD w 0=b.getD w 0):a=b:=by
 refine List.ext_getElem (by omega) fun i h1 h2=>?_
 have:=h i (by omega)
 rw[WW,WW,k3 h1,k3 h2] at this
 exact this
theorem tE (six:Bool)(x y:Tr):(jn six x y).reach.length=wn six/\(jn six x y).aU.length=wn six:=by unfold jn;simp
theorem Lm (six:Bool)(x y z:Tr):jn six x (jn six y z)=jn six (jn six x y) z:=by
 have key:∀ w,w < wn six->∃ v u:Nat,v < wn six/\u < wn six/\(((w:Int) - x.turn) % wy six).toNat=v/\(((v:Int) - y.turn) % wy six).toNat=u/\(((w:Int) - (x.turn+y.turn) % wy six) % wy six).toNat=u/\iN six w (tn six (x.turn % wy six).toNat y.shift)=iN six v y.shift:=by
   intro w hw
   obtain⟨h1,h2⟩:=Ap six w x.turn
   obtain⟨h3,h4⟩:=Ap six (((w:Int) - x.turn) % wy six).toNat y.turn
   refine⟨_,_,h1,h3,rfl,rfl,?_,?_⟩
   . rw[h2]
     cases six with
     | false=>show(((w:Int) - (x.turn+y.turn) % 4) % 4).toNat=(((w - x.turn) % 4 - y.turn) % 4).toNat;congr 1;omega
     | true=>show(((w:Int) - (x.turn+y.turn) % 6) % 6).toNat=(((w - x.turn) % 6 - y.turn) % 6).toNat;congr 1;omega
   . rw[h2,Cj six hw]
 have hr:(jn six x (jn six y z)).reach=(jn six (jn six x y) z).reach:=by
   refine list_eq (tE _ _ _).1 (tE _ _ _).1 fun w hw=>?_
   obtain⟨v,u,hv,hu,e1,e2,e3,e4⟩:=key w hw
   rw[ke six _ _ hw,ke six _ _ hw,ke six _ _ hw,e1,ke six _ _ hv,e2]
   show _=SQ _ (z.reach.getD (((w:Int) - (x.turn+y.turn) % wy six) % wy six).toNat 0+iN six w (ad x.shift (tn six (x.turn % wy six).toNat y.shift)))
   rw[e3,DT,e4]
   unfold SQ
   split <;> split <;> split <;> (try split) <;> omega
 have ht:(jn six x (jn six y z)).aU=(jn six (jn six x y) z).aU:=by
   refine list_eq (tE _ _ _).2 (tE _ _ _).2 fun w hw=>?_
   obtain⟨v,u,hv,hu,e1,e2,e3,e4⟩:=key w hw
   rw[mN six _ _ hw,mN six (jn six x y) _ hw,mN six x y hw,ke six x y hw,e1,ke six _ _ hv,mN six _ _ hv,e2]
   show _=if z.reach.getD (((w:Int) - (x.turn+y.turn) % wy six) % wy six).toNat 0+iN six w (ad x.shift (tn six (x.turn % wy six).toNat y.shift))<=_ then _ else z.aU.getD (((w:Int) - (x.turn+y.turn) % wy six) % wy six).toNat 0+(x.many+y.many)
   rw[e3,DT,e4]
   unfold SQ
   split <;> split <;> split <;> (try split) <;> (try split) <;> omega
 have e1:(jn six x (jn six y z)).turn=(jn six (jn six x y) z).turn:=by
   show(x.turn+(y.turn+z.turn) % wy six) % wy six=((x.turn+y.turn) % wy six+z.turn) % wy six
   rw[Int.add_emod_emod,Int.emod_add_emod,Int.add_assoc]
 have e2:(jn six x (jn six y z)).shift=(jn six (jn six x y) z).shift:=by
   show ad x.shift (tn six (x.turn % wy six).toNat (ad y.shift (tn six (y.turn % wy six).toNat z.shift)))=ad (ad x.shift (tn six (x.turn % wy six).toNat y.shift)) (tn six (((x.turn+y.turn) % wy six) % wy six).toNat z.shift)
   rw[Li,Lk,Ll]
 have e3:(jn six x (jn six y z)).gC=(jn six (jn six x y) z).gC:=by
   show x.gC+(y.gC+z.gC+cr y.shift (tn six (y.turn % wy six).toNat z.shift))+cr x.shift (tn six (x.turn % wy six).toNat (ad y.shift (tn six (y.turn % wy six).toNat z.shift)))
     = x.gC+y.gC+cr x.shift (tn six (x.turn % wy six).toNat y.shift)+z.gC+cr (ad x.shift (tn six (x.turn % wy six).toNat y.shift)) (tn six (((x.turn+y.turn) % wy six) % wy six).toNat z.shift)
   have q:=Pj six (x.turn % wy six).toNat y.shift (tn six (y.turn % wy six).toNat z.shift)
   rw[Lk] at q
   rw[Li,Lk,N5,N6,<- q]
   omega
 have e4:(jn six x (jn six y z)).many=(jn six (jn six x y) z).many:=(Int.add_assoc _ _ _).symm
 have e5:(jn six x (jn six y z)).aT=(jn six (jn six x y) z).aT:=(Int.add_assoc _ _ _).symm
 generalize jn six x (jn six y z)=a at hr ht e1 e2 e3 e4 e5
 generalize jn six (jn six x y) z=b at hr ht e1 e2 e3 e4 e5
 cases a;cases b
 simp only at hr ht e1 e2 e3 e4 e5
 subst hr ht e1 e2 e3 e4 e5
 rfl
noncomputable def gU (six:Bool)(xs:List Str)(k:Nat):Int×Int:=(bS six (xs.take k)).shift
theorem Ck (six:Bool)(xs:List Str):0<=(bS six xs).turn/\(bS six xs).turn < wy six:=by
 by_cases h:xs=[]
 . subst h;exact⟨Int.le_refl _,eO six⟩
 . rw[<- aa7 h,ka]
   exact⟨aay _ (abf (eO six)),aaz _ (eO six)⟩
noncomputable def rec (six:Bool)(xs:List Str)(w:Int):Nat->Int×Int
 | 0=>(0,0)
 | j+1=>if (rec six xs w j).1 < iN six w (gU six xs j) then (iN six w (gU six xs j),j) else rec six xs w j
theorem Cm (six:Bool)(xs:List Str)(d:Str)(w:Int):∀ j,j<=xs.length+1->rec six (xs ++ [d]) w j=rec six xs w j
 | 0,_=>rfl
 | j+1,h=>by
   rw[rec,rec,Cm six xs d w j (by omega)]
   have e:gU six (xs ++ [d]) j=gU six xs j:=by
     unfold gU
     rw[List.take_append_of_le_length (by omega)]
   rw[e]
theorem xu (six:Bool)(w:Int):iN six w (0,0)=0:=by
 unfold iN
 cases six <;> simp
theorem Aq (six:Bool){w:Nat}(hw:w < wn six):∀ (n:Nat) (xs:List Str),xs.length=n->rec six xs w (n+1)=((bS six xs).reach.getD w 0,(bS six xs).aU.getD w 0)/\iN six w (bS six xs).shift<=(bS six xs).reach.getD w 0:=by
 intro n
 induction n with
 | zero=>
   intro xs h
   have e:xs=[]:=aaV h
   subst e
   have e1:(bS six []).reach.getD w 0=0:=by
     show(aak (wn six) (0:Int)).getD w 0=0
     rw[WW,aaR];split <;> rfl
   have e2:(bS six []).aU.getD w 0=0:=e1
   have e3:iN six w (gU six [] 0)=0:=xu six w
   have e4:iN six w (bS six []).shift=0:=xu six w
   rw[e1,e2,e4,rec,rec,e3]
   simp
 | succ n ih=>
   intro xs h
   have Ax:xs≠[]:=fun e=>by rw[e] at h;cases h
   have e:=aa7 Ax
   have hl:xs.dropLast.length=n:=by rw[abk];omega
   generalize xs.getLast Ax=d at e
   generalize xs.dropLast=ys at e hl
   subst e
   obtain⟨h1,h2⟩:=ih ys hl
   rw[rec,Cm six ys d w (n+1) (by omega),h1]
   have es:gU six (ys ++ [d]) (n+1)=(bS six (ys ++ [d])).shift:=by
     unfold gU
     rw[abj (by rw[aau];simp;omega)]
   rw[es,ka,ke six _ _ hw,mN six _ _ hw]
   obtain⟨b1,b2⟩:=Ap six w (bS six ys).turn
   have r1:(one six d).reach.getD (((w:Int) - (bS six ys).turn) % wy six).toNat 0=nJ six d (((w:Int) - (bS six ys).turn) % wy six).toNat:=jG b1
   have t1:(one six d).aU.getD (((w:Int) - (bS six ys).turn) % wy six).toNat 0=if nJ six d (((w:Int) - (bS six ys).turn) % wy six).toNat < 1 then nJ six d (((w:Int) - (bS six ys).turn) % wy six).toNat else 1:=jG (f:=fun k=>if nJ six d k < 1 then nJ six d k else 1) b1
   rw[r1,t1]
   unfold nJ
   rw[b2,Cj six hw]
   have ec:iN six w (jn six (bS six ys) (one six d)).shift=iN six w (bS six ys).shift+iN six w (tn six ((bS six ys).turn % wy six).toNat (vd six d (0,0) 0).1):=DT six w _ _
   rw[ec]
   have hm:=(B6 six n ys hl).1
   rw[hm]
   generalize iN six w (tn six ((bS six ys).turn % wy six).toNat (vd six d (0,0) 0).1)=D
   generalize iN six w (bS six ys).shift=B at h2 ⊢
   generalize (bS six ys).reach.getD w 0=A at h2 ⊢
   generalize (bS six ys).aU.getD w 0=U
   unfold SQ
   refine⟨?_,?_⟩
   . by_cases c1:D > 0
     . simp only[if_pos c1]
       by_cases c2:D+B<=A
       . simp only[if_pos c2]
         rw[if_neg (by omega)]
       . simp only[if_neg c2]
         rw[if_pos (by omega),if_neg (by omega)]
         refine Prod.ext ?_ ?_
         . show B+D=D+B;omega
         . show((n+1:Nat):Int)=1+n;omega
     . simp only[if_neg c1]
       rw[if_neg (by omega)]
       have c2:0+B<=A:=by omega
       simp only[if_pos c2]
   . by_cases c1:D > 0
     . simp only[if_pos c1];split <;> omega
     . simp only[if_neg c1];split <;> omega
theorem SS (six:Bool)(xs:List Str):jn six (bS six xs) (Cw six)=bS six xs:=by
 have w:=Ae six _ xs rfl
 have tt:=Ck six xs
 have z:∀ k,(Cw six).reach.getD k 0=0:=fun k=>by
   show(aak (wn six) (0:Int)).getD k 0=0
   rw[WW,aaR];split <;> rfl
 have hr:(jn six (bS six xs) (Cw six)).reach=(bS six xs).reach:=list_eq (tE _ _ _).1 w.2.2.1 fun v hv=>by
   have:=(Aq six hv _ xs rfl).2
   rw[ke six _ _ hv,z]
   unfold SQ
   rw[if_pos (by omega)]
 have ht:(jn six (bS six xs) (Cw six)).aU=(bS six xs).aU:=list_eq (tE _ _ _).2 w.2.2.2 fun v hv=>by
   have:=(Aq six hv _ xs rfl).2
   rw[mN six _ _ hv,z,if_pos (by omega)]
 have e1:(jn six (bS six xs) (Cw six)).turn=(bS six xs).turn:=by
   show((bS six xs).turn+0) % wy six=_
   rw[abq,abu tt.1 tt.2]
 have e2:(jn six (bS six xs) (Cw six)).shift=(bS six xs).shift:=by
   show ad (bS six xs).shift (tn six _ (0,0))=_
   rw[pM];unfold ad;simp
 have e3:(jn six (bS six xs) (Cw six)).gC=(bS six xs).gC:=by
   show(bS six xs).gC+0+cr (bS six xs).shift (tn six _ (0,0))=_
   rw[pM];unfold cr;simp
 have e4:(jn six (bS six xs) (Cw six)).many=(bS six xs).many:=abq _
 have e5:(jn six (bS six xs) (Cw six)).aT=(bS six xs).aT:=abq _
 generalize jn six (bS six xs) (Cw six)=a at hr ht e1 e2 e3 e4 e5 ⊢
 generalize bS six xs=b at hr ht e1 e2 e3 e4 e5 ⊢
 cases a;cases b
 simp only at hr ht e1 e2 e3 e4 e5
 subst hr ht e1 e2 e3 e4 e5
 rfl
theorem FO (six:Bool)(xs:List Str):∀ (n:Nat) (ys:List Str),ys.length=n->jn six (bS six xs) (bS six ys)=bS six (xs ++ ys):=by
 intro n
 induction n with
 | zero=>
   intro ys h
   have e:ys=[]:=aaV h
   subst e
   rw[aaZ]
   exact SS six xs
 | succ n ih=>
   intro ys h
   have Ax:ys≠[]:=fun e=>by rw[e] at h;cases h
   have e:=aa7 Ax
   have hl:ys.dropLast.length=n:=by rw[abk];omega
   rw[<- e,ka,Lm,ih _ hl,<- List.append_assoc,ka]
noncomputable def xy (rows:List Row)(w:List Nat):List Str:=w.map (iM rows)
theorem Ln {rows:List Row}(ok:bM rows):∀ (r:Nat) {c:Nat},c∈rows.map (·.c)->(gP rows r c).length<=8 ^ r
 | 0,_,_=>aae _
 | r+1,c,h=>by
   obtain⟨q,hq,_,_,ew⟩:=g8 h
   have hw:∀ y∈wordOf rows c,y∈rows.map (·.c):=fun y hy=>ok.wo q hq y (by rw[ew] at hy;exact hy)
   have hl:(wordOf rows c).length<=8:=by rw[ew];exact(ok.wp q hq).2
   have:∀ (w:List Nat),(∀ y∈w,y∈rows.map (·.c))->(w.flatMap (gP rows r)).length<=w.length * 8 ^ r:=by
     intro w
     induction w with
     | nil=>intro _;simp
     | cons a w ih=>
       intro h
       rw[abh,aau,aaI,Nat.add_mul,Nat.one_mul]
       have h1:=Ln ok r (h a (by simp))
       have h2:=ih fun y hy=>h y (by simp[hy])
       omega
   have h3:=this _ hw
   have h4:(wordOf rows c).length * 8 ^ r<=8 * 8 ^ r:=Nat.mul_le_mul_right _ hl
   show((wordOf rows c).flatMap (gP rows r)).length<=8 ^ (r+1)
   rw[Nat.pow_succ];omega
theorem Pk {rows:List Row}{w:List Nat}(ok:mM rows w){age:Nat}(h:age<=200):(pO rows w age).length < 2 ^ 990:=by
 have:∀ (v:List Nat),(∀ y∈v,y∈rows.map (·.c))->(v.flatMap (gP rows age)).length<=v.length * 8 ^ age:=by
   intro v
   induction v with
   | nil=>intro _;simp
   | cons a v ih=>
     intro h
     rw[abh,aau,aaI,Nat.add_mul,Nat.one_mul]
     have h1:=Ln ok.ok age (h a (by simp))
     have h2:=ih fun y hy=>h y (by simp[hy])
     omega
 have h1:=this w ok.wm
 have h2:w.length * 8 ^ age<=8 * 8 ^ 200:=Nat.mul_le_mul ok.w8 (abM (by decide) h)
 have h3:8 * 8 ^ 200 < 2 ^ 990:=by decide +kernel
 exact aaK (aav h1 h2) h3
theorem Z5 {rows:List Row}(ok:bM rows){r c:Nat}(h:c∈rows.map (·.c))(hr:r<=200):(gP rows r c).length < 2 ^ 990:=by
 have h1:=Ln ok r h
 have h2:8 ^ r<=8 ^ 200:=abM (by decide) hr
 exact aaK (aav h1 h2) (by decide +kernel)
noncomputable def N7 (six:Bool)(rows:List Row)(i c:Nat):Tr:=bS six (xy rows (gP rows i c))
noncomputable def dN.qG (t:dN)(six:Bool)(rows:List Row)(i:Nat):List (Key×FD):=(rows.map (·.c)).map fun c=>(.inr (sg c),.obj t.av (t.ZM six (N7 six rows i c)))
theorem TN (t:dN)(six:Bool)(rows:List Row)(i:Nat):nW (t.qG six rows i)=kd (rows.map (·.c)) fun c=>t.lP six (N7 six rows i c):=by unfold nW dN.qG kd;rw[aam];rfl
noncomputable abbrev dN.Ar (t:dN)(six:Bool)(rows:List Row)(w:List Nat)(l':Addr)(ls':kg)(n':Nat):List (Str×Dt):=TL "growth" t.au (t.Ai six rows w) ["tallies","lengths"] l' ls' n'
noncomputable abbrev dN.Hz (t:dN)(six:Bool)(rows:List Row)(w:List Nat)(l':Addr)(ls':kg)(n':Nat)(l:Addr)(ls:kg)(n:Nat):List (Str×Dt):=tK (t.Ar six rows w l' ls' n') ["tracks"] l ls n
noncomputable abbrev dN.Wn (t:dN)(six:Bool)(rows:List Row)(w:List Nat)(l':Addr)(ls':kg)(n':Nat)(l:Addr)(ls:kg)(n:Nat):List (Str×Dt):=pR (t.Ar six rows w l' ls' n') ["tracks"] l ls n
theorem SU {l l':Addr}{ls':kg}{n':Nat}(h:l'≠l)(t:dN)(six:Bool)(rows:List Row)(w:List Nat):kH l (t.Ar six rows w l' ls' n')=true:=by
 have e:sG l (.memo l' ls' 0 n')=true/\sG l (.memo l' ls' 1 n')=true:=by
   unfold sG
   simp[h]
 show((sG l (t.x6 six rows) && (sG l (.str (tx w)) && (sG l (.memo l' ls' 0 n') && (sG l (.memo l' ls' 1 n') && true)))) && true)=true
 rw[DJ,e.1,e.2];rfl
theorem Lo (six:Bool)(xs:List (List Str)){k:Nat}(h:k < xs.length):jn six (bS six (xs.take k).flatten) (bS six xs[k])=bS six (xs.take (k+1)).flatten:=by
 rw[FO six _ _ _ rfl,aa6,k3 h,aby]
 simp
theorem SV {rows:List Row}{w:List Nat}(ok:mM rows w){age b e:Nat}(kl:age<=200)(rS:b<=e)(FF:e<=(pO rows w age).length):∃ k bt,(e<=(run rows b e (vj w age) k).place/\∀ j,j < k->(run rows b e (vj w age) j).place < e)/\(run rows b e (vj w age) k).bt=bt/\flat rows bt=cut (pO rows w age) b e/\bt.length<=4000/\∀ p∈bt,p.2∈rows.map (·.c)/\p.1<=age:=by
 obtain⟨k,Wk,SO⟩:=xn ok.ok _ (xp ok rS FF) (aae _)
 obtain⟨Ik,Jk⟩:=Am ok.ok (xp ok rS FF) SO k (aae _)
 have hmu:=DS ok (b:=b) (e:=e) kl
 have hp:(run rows b e (vj w age) k).place=e:=by have:=Ik.pe;omega
 refine⟨k,_,⟨Wk,SO⟩,rfl,by rw[Ik.fb,hp];rfl,?_,Ik.mt⟩
 have:(vj w age).bt.length=0:=rfl
 omega
def Hh (t:dN):Rl:=fun ds r=>∃ six rows w l ls n rest,∃ xs:List (List Str),ds=[.obj t.aC (("growth",Ci t six rows w l ls n)::rest),.lst (xs.map fun x=>t.lP six (bS six x))]/\xs.flatten.length < 2 ^ 990/\r=.ret (t.lP six (bS six xs.flatten))
def N8 (t:dN):Rl:=fun ds r=>∃ six rows w l ls n,ds=[Ci t six rows w l ls n]/\mM rows w/\r=.own (.se t.aC (t.Ar six rows w l ls n) [t.qG six rows] ["tracks"] 1)
structure SW (t:dN)(six:Bool)(rows:List Row)(w:List Nat)(ls' ls:kg):Prop where
 ok:mM rows w
 gs:ls'.map (·.2)=qE rows
 ts:ls.map (·.2)=[t.qG six rows]
def N9 (t:dN):Rl:=fun ds r=>∃ six rows w l' ls' n' l ls n age,ds=[.obj t.aC (t.Hz six rows w l' ls' n' l ls n),.int ((age:Nat):Int)]/\SW t six rows w ls' ls/\age<=200/\r=.ret (.uF l ls (age+1))
def mO (t:dN):Rl:=fun ds r=>∃ six rows w l' ls' n' l ls n age,∃ b e:Nat,ds=[.obj t.aC (t.Hz six rows w l' ls' n' l ls n),.int ((age:Nat):Int),.int (b:Int),.int (e:Int)]/\SW t six rows w ls' ls/\age<=200/\(b<=e/\e<=(pO rows w age).length)/\r=.ret (t.lP six (bS six (xy rows (cut (pO rows w age) b e))))
noncomputable abbrev Wo:Scope:=DK ((aA fW).getD 2 (.Pass ⟨0,0,0,0⟩))
theorem Pl:eU Wo (af fW) oG ["letter","rules"] ["letter"] [2]=true:=by decide +kernel
noncomputable abbrev wBd:List Stmt:=V3 ((aA bZ).getD 1 (.Pass ⟨0,0,0,0⟩))
noncomputable abbrev Wq:Scope:=Cb (wBd.getD 2 (.Pass ⟨0,0,0,0⟩))
theorem Pm:eU Wq (af bZ) kE ["younger","last"] ["younger"] [3]=true:=by decide +kernel
noncomputable abbrev Wr:Scope:=DL ((aA cC).getD 2 (.Pass ⟨0,0,0,0⟩))
theorem Pn:eU Wr (af cC) lX ["rounds","letter","self"] ["rounds","letter"] [0]=true:=by decide +kernel
theorem Cn {rows:List Row}(ok:bM rows){x:Nat}(h:x∈rows.map (·.c)):iM rows x∈mK:=by
 obtain⟨q,hq,_,e,_⟩:=g8 h
 rw[e];exact ok.dd q hq
theorem xv (T:Txt K mg t):MF P w K mg base CX 6 t.aC "join_all" 2 (Hh t):=by
 refine⟨T.b6.cl,_,_,_,iH T.fh.F kC rfl fun bj A outer s H E G ds r hr hl hR=>?_,T.cP,T.fh.b⟩
 obtain⟨six,rows,wd,l,ls,n,rest,xs,rfl,hx,rfl⟩:=hR
 have Af:=B5 (P:=P) (w:=w) (base:=base) T
 have xw:=vh (P:=P) (w:=w) (base:=base) T
 have Co:=z5 (P:=P) (w:=w) (base:=base) T
 have xa:=tf (P:=P) (w:=w) (base:=base) T
 have nd:=kC.nd
 let D:Dt:=.obj t.aC (("growth",Ci t six rows wd l ls n)::rest)
 let tr:List Str->Dt:=fun x=>t.lP six (bS six x)
 let S:Nat->List Slot:=fun k=>[.val D,.val (.lst (xs.map tr)),.val (t.lP six (bS six (xs.take k).flatten)),.aJ]
 have en:S (xs.map tr).length=[.val D,.val (.lst (xs.map tr)),.val (t.lP six (bS six xs.flatten)),.aJ]:=by
   show [_,_,Slot.val (t.lP six (bS six (xs.take (xs.map tr).length).flatten)),_]=_
   rw[k5,aa8]
 have hle:∀ k,(xs.take k).flatten.length < 2 ^ 990:=fun k=>by
   have e:=List.take_append_drop k xs
   rw[<- e,aby,aau] at hx
   omega
 refine⟨_,.rt _,ag (ar 2 nd (aX Af ax hr (ae (bR (fs:=t.wW six rows) (bR (fs:=t.iO six rows wd l ls n) (aH (fs:=("growth",Ci t six rows wd l ls n)::rest) (aa 0 rfl) T.b6.cl T.bX rfl) xw ax hr ⟨six,rows,wd,l,ls,n,rfl,rfl⟩) Co ax hr ⟨six,rows,rfl,rfl⟩) ai) ⟨six,rfl,rfl⟩))
   (ag (Em (m:=(xs.map tr).length) 3 S nd rfl PassesOwn.leaving (aa 1 rfl) (Le.of ⟨rfl,rfl,rfl,trivial⟩) (aae _) (fun k z hk hz=>?_) (.all rfl)) ?_)⟩
 . rw[k5] at hk
   rw[YL,k3 hk] at hz
   cases hz
   have h1:xs[k].length < 2 ^ 990:=by
     have:=hle (k+1)
     rw[aa6,k3 hk,aby,aau] at this
     simp at this
     omega
   refine .nx (ao (ar 2 nd (bE (fs:=t.jE six (bS six (xs.take k).flatten)) (kB (aa 2 rfl)) xa ax hr (ae (kB (x:=bS six xs[k]) (aa 3 rfl)) ai) ⟨six,_,bS six xs[k],rfl,⟨vg six (hle k),vg six h1⟩,rfl⟩))) (Le.of ⟨rfl,rfl,?_,trivial⟩)
   show Slot.val (t.lP six (bS six (xs.take (k+1)).flatten))=_
   rw[Lo six xs hk]
 . rw[en]
   exact ao (aF (aa 2 rfl))
theorem Lp (T:Txt K mg t):Tz P w K mg base CX 8 "Drawing" t.aC 2 (N8 t):=by
 refine⟨_,_,_,W5 T.ji.F nT rfl fun bj A outer s H E G z ds r hr hl hR=>?_,T.qB,(T.g T.b6.a),T.ji.b⟩
 obtain⟨six,rows,wd,l,ls,n,rfl,ok,rfl⟩:=hR
 have fD:=j9 (P:=P) (w:=w) (base:=base) T
 have xw:=vh (P:=P) (w:=w) (base:=base) T
 have Co:=z5 (P:=P) (w:=w) (base:=base) T
 have SY:=Ki (P:=P) (w:=w) (base:=base) T
 have Oa:=tX (P:=P) (w:=w) (base:=base) T
 have h6:=ok.ok.le
 let L:=rows.map (·.c)
 have hL:L.length<=6:=by show(rows.map (·.c)).length<=6;rw[k5];exact h6
 have nd:=nT.nd
 have e1:((L.filter fun _=>true).map fun x=>Dt.tup [.str (sg x),t.lP six (N7 six rows 0 x)])=(nW (t.qG six rows 0)).map LL:=by
   rw[aas.mpr (fun _ _=>rfl),TN]
   exact B8 L _
 have h7:∀ x∈L,x < 128:=fun x hx=>by
   obtain⟨r,hr,rfl⟩:=aaM.mp hx
   have:=ok.ok.sm r hr
   unfold small at this;omega
 refine⟨_,.Yp (fs:=t.Ar six rows wd l ls n) (gs:=[t.qG six rows]) (nm:=["tracks"]) (n:=1) rfl,ag (ki (aa 1 rfl) T.b6.cl T.bX) (ag (ar 2 nd (bR (fs:=t.iO six rows wd l ls n) (aa 1 rfl) xw ax hr ⟨six,rows,wd,l,ls,n,rfl,rfl⟩))
   (xF (f:=t.qG six rows) rfl T.b6.cl T.bY ?_))⟩
 refine my T.oO rfl (df e1 (de L (fun x=>Dt.str (sg x)) (fun x=>.tup [.str (sg x),t.lP six (N7 six rows 0 x)]) (fun x=>[.val (.str (sg x))]) (fun _=>true) rfl (aW Pl) (fU (bR (fs:=t.wW six rows) (aa 2 rfl) fD ax hr ⟨six,rows,rfl,ok.ok,rfl⟩)) (bg (aW Pl) rfl) (cU (cB (fw h7)) (dD L)) (fun a _=>bC) (.nil fun _ _=>rfl)
     (fun a ha _ C fp s' H' G'=>bQ (ae (aa 0 rfl) (ae (aX Oa ax hr (ae (bR (fs:=t.wW six rows) (aa 1 rfl) Co ax hr ⟨six,rows,rfl,rfl⟩) (ae (lz (ql (ae (bE (fs:=t.wW six rows) (aa 1 rfl) SY ax hr (ae (aa 0 rfl) ai) ⟨six,rows,a,rfl,ok.ok,ha,rfl⟩) ai) AA3)) ai)) ⟨six,[iM rows a],rfl,fun d hd=>by
       have:d=iM rows a:=by simpa using hd
       rw[this];exact Cn ok.ok ha,by simp,rfl⟩) ai)) AA3) (sY (by omega)))) (by rw[TN,rQ];exact lr ok.ok.nd) (by rw[TN];show(List.map _ _).length<=_;rw[k5,k5];exact sY (by omega))
theorem Lq (T:Txt K mg t):MF P w K mg base CX 7 t.aC "deepen_to" 2 (N9 t):=by
 refine⟨T.b6.cl,_,_,_,iH T.dW.F j8 rfl fun bj A outer s H E G ds r hr hl hR=>?_,T.cJ,T.dW.b⟩
 obtain⟨six,rows,wd,l',ls',n',l,ls,n,age,rfl,ok,kl,rfl⟩:=hR
 have n6:=ok.ts
 have Ob:=ok.ok.ok
 have xw:=vh (P:=P) (w:=w) (base:=base) T
 have fD:=j9 (P:=P) (w:=w) (base:=base) T
 have qF:=rL (P:=P) (w:=w) (base:=base) T
 have DV:=xv (P:=P) (w:=w) (base:=base) T
 have nd:=j8.nd
 have h6:=Ob.le
 let L:=rows.map (·.c)
 have hL:L.length<=6:=by show(rows.map (·.c)).length<=6;rw[k5];exact h6
 have h7:∀ x∈L,x < 128:=fun x hx=>by
   obtain⟨r,hr,rfl⟩:=aaM.mp hx
   have:=Ob.sm r hr
   unfold small at this;omega
 have hu:(A.deeper (envOfC "Drawing.deepen_to" (af bZ) s.heap.objs.size t.br bj)).units+1 < cLine:=by have:=hr.units;omega
 have e1:ls.length=1:=by have:=congrArg abd n6;simpa using this
 have e2:ls'.length=2:=by have:=congrArg abd ok.gs;simpa [qE] using this
 let tl:List Slot:=[.val (.int ((age:Nat):Int)),.val (t.x6 six rows),.aJ,.aJ,.aJ]
 refine⟨_,pv (C:=t.aC) (fs:=t.Ar six rows wd l' ls' n') (nm:=["tracks"]) (tl:=tl) (by rw[e1];exact aae 1),GU (nm:=["tracks"]) (nm':=["tallies","lengths"]) (C:=t.aC) (C':=t.au) (l:=l) (l':=l') (ls:=ls) (ls':=ls') (n:=n) (n':=n') (fs':=t.Ai six rows wd) (g:="growth") 0 (by decide) (by decide) (by omega) (fun Ax=>?_) rfl⟩
 have hs:=SU (ls':=ls') (n':=n') Ax t six rows wd
 have ht:rb l tl=true:=by
   have:rb l [.val (t.x6 six rows),.aJ,.aJ,.aJ]=true:=by
     unfold rb;rw[DJ];rfl
   exact this
 refine ag (dl1:=Au t.aC (t.Ar six rows wd l' ls' n') ["tracks"] l ls n tl) (ar 2 nd (bR (fs:=t.iO six rows wd l' ls' n') (aH (fs:=t.Hz six rows wd l' ls' n' l ls n) (aa 0 rfl) T.b6.cl T.bX rfl) xw ax hr ⟨six,rows,wd,l',ls',n',rfl,rfl⟩))
   (ao (yt (age:=age) PassesOwn.leaving hs ht (by decide) (by omega) (fun N G hx=>?_) (fun N hN hNa G0 hA hB=>?_)))
 . exact bO (tP (ET (N:=N) T.gD hx (aH (fs:=t.Wn six rows wd l' ls' n' l ls n) (aa 0 rfl) T.b6.cl T.bY rfl) (by rw[e1];rfl)) (aa 1 rfl)) (decide_eq_decide.mpr (by omega))
 . let Dk:Nat->Dt:=fun c=>t.lP six (N7 six rows N c)
   let O:Dt:=.obj t.aC (t.Wn six rows wd l' ls' n' l ls n)
   let S:Nat->List Slot:=fun k=>[.val O,.val (.int ((age:Nat):Int)),.val (t.x6 six rows),.val (.dM (nW (t.qG six rows (N - 1)))),.own (.eP (kd (L.take k) Dk)),.aJ]
   have eS:S L.length=[.val O,.val (.int ((age:Nat):Int)),.val (t.x6 six rows),.val (.dM (nW (t.qG six rows (N - 1)))),.own (.eP (nW (t.qG six rows N))),.aJ]:=by
     show [_,_,_,_,Slot.own (.eP (kd (L.take L.length) Dk)),_]=_
     rw[aa8,TN t six rows N]
   refine ag (ar 3 nd (By (f:=t.qG six rows) (N:=N) ak (aH (fs:=t.Wn six rows wd l' ls' n' l ls n) (aa 0 rfl) T.b6.cl T.bY rfl) (iG aj) (by rw[n6];rfl) (by rw[e1];rfl) hN)) (ag (jI 4 nd EI)
     (ag (dl1:=S L.length) (mX (o:=.nx (S L.length)) (m:=L.length) L (fun x=>Dt.str (sg x)) (fun x dl=>dl.set 5 (.val (.str (sg x)))) S rfl PassesOwn.leaving (fU (bR (fs:=t.wW six rows) (aa 2 rfl) fD ax hr ⟨six,rows,rfl,Ob,rfl⟩)) (cU (cB (fw h7)) (dD L)) (bT nd rfl (.inl rfl)) (fun a _=>qZ) (Le.of ⟨rfl,rfl,rfl,rfl,rfl,trivial⟩) (aae _) (fun k a hk ha=>?_) (.all rfl)) ?_))
   . rw[k3 hk] at ha
     cases ha
     have hm:L[k]∈L:=aaN hk
     obtain⟨q,hq,hc,_,ew⟩:=g8 hm
     have ZT:=Ob.wp q hq
     have V6:∀ y∈wordOf rows L[k],y∈L:=fun y hy=>Ob.wo q hq y (by rw[ew] at hy;exact hy)
     have QB:(wordOf rows L[k]).length<=8:=by rw[ew];exact ZT.2
     have Ve:(kd (L.take k) Dk).length < sizeLine:=by
       unfold kd
       rw[k5,aax];exact aao (show min k L.length < 2000 by omega) (by decide)
     let xs:List (List Str):=(wordOf rows L[k]).map fun y=>xy rows (gP rows (N - 1) y)
     have e3:(((wordOf rows L[k]).filter fun _=>true).map fun y=>t.lP six (N7 six rows (N - 1) y))=xs.map fun x=>t.lP six (bS six x):=by
       rw[aas.mpr (fun _ _=>rfl),aam];rfl
     have Ws:xs.flatten=xy rows (gP rows N L[k]):=by
       obtain⟨M,rfl⟩:∃ M,N=M+1:=⟨N - 1,by omega⟩
       show((wordOf rows L[k]).map fun y=>xy rows (gP rows M y)).flatten=((wordOf rows L[k]).flatMap (gP rows M)).map (iM rows)
       rw[List.map_flatMap,List.flatMap_def];rfl
     have ed:Dk L[k]=t.lP six (bS six xs.flatten):=by rw[Ws];rfl
     have hb:xs.flatten.length < 2 ^ 990:=by
       rw[Ws];unfold xy;rw[k5];exact Z5 Ob hm (by omega)
     refine .nx (ao (EJ (kds:=kd (L.take k) Dk) (d:=Dk L[k]) 4 hu (by rw[ed];exact bE (fs:=t.Wn six rows wd l' ls' n' l ls n) (aa 0 rfl) DV ax hr (ae (df e3 (de (wordOf rows L[k]) (fun x=>Dt.str (sg x)) (fun y=>t.lP six (N7 six rows (N - 1) y)) (fun x=>[.val (.str (sg x))]) (fun _=>true) rfl (aW Pm) (fU (bE (fs:=t.wW six rows) (aa 2 rfl) qF ax hr (ae (aa 5 rfl) ai) ⟨six,rows,L[k],rfl,Ob,hm,rfl⟩)) (bg (aW Pm) rfl) (cU (cB (rM Ob V6)) (dD _)) (fun a _=>bC) (.nil fun _ _=>rfl)
       (fun y hy _ C fp s' H' G'=>lE hu (aa 1 rfl) (aa 0 rfl) (by rw[TN];exact l5 (V6 y hy)) (fun _ _=>rfl)) (sY (by omega)))) ai) ⟨six,rows,wd,l',ls',n',_,xs,rfl,hb,rfl⟩) (aa 5 rfl) Ve)) (Le.of ⟨rfl,rfl,rfl,rfl,?_,trivial⟩)
     show Slot.own (.eP (kd (L.take (k+1)) Dk))=Slot.own (.eP (vQ (kd (L.take k) Dk) (.inr (sg L[k])) (Dk L[k])))
     rw[Kz Ob.nd hk]
   . rw[eS]
     exact El (dl1:=.val (.obj t.aC (t.Wn six rows wd l' ls' n' l ls n))::tl.set 3 (.own (.eP (nW (t.qG six rows N))))) (BE (f:=t.qG six rows) (tl:=tl) 3 hs ht rfl n6 (by omega) T.b6.cl T.bY hA hB) (Le.of ⟨rfl,rfl,rfl,rfl,trivial⟩)
theorem DW (T:Txt K mg t):MF P w K mg base CX 9 t.aC "stretch" 4 (mO t):=by
 refine⟨T.b6.cl,_,_,_,iH T.fR.F qy rfl fun bj A outer s H E G ds r hr hl hR=>?_,T.c8,T.fR.b⟩
 obtain⟨six,rows,wd,l',ls',n',l,ls,n,age,b,e,rfl,ok,kl,⟨rS,FF⟩,rfl⟩:=hR
 have SN:=Ph (P:=P) (w:=w) (base:=base) T
 have DM:=Lq (P:=P) (w:=w) (base:=base) T
 have DV:=xv (P:=P) (w:=w) (base:=base) T
 have xq:=yJ (P:=P) (w:=w) (base:=base) T
 have hu:(A.deeper (envOfC "Drawing.stretch" (af cC) s.heap.objs.size t.bW bj)).units+1 < cLine:=by have:=hr.units;omega
 obtain⟨k,bt,⟨Wk,SO⟩,Wl,Yt,hb4,Z4⟩:=SV ok.ok kl rS FF
 let xs:List (List Str):=bt.map fun p=>xy rows (gP rows p.1 p.2)
 have e3:((bt.filter fun _=>true).map fun p=>t.lP six (N7 six rows p.1 p.2))=xs.map fun x=>t.lP six (bS six x):=by
   rw[aas.mpr (fun _ _=>rfl),aam];rfl
 have Ws:xs.flatten=xy rows (cut (pO rows wd age) b e):=by
   rw[<- Yt]
   show(bt.map fun p=>xy rows (gP rows p.1 p.2)).flatten=(bt.flatMap fun p=>gP rows p.1 p.2).map (iM rows)
   rw[List.map_flatMap,List.flatMap_def];rfl
 have hb:xs.flatten.length < 2 ^ 990:=by
   rw[Ws];unfold xy cut
   rw[k5,aa0,aax]
   have:=Pk ok.ok kl
   omega
 rw[<- Ws]
 refine⟨_,.rt _,ag (GV (m:=age+1) (tl:=[.val (.int ((age:Nat):Int)),.val (.int (b:Int)),.val (.int (e:Int))]) (bE (fs:=t.iO six rows wd l' ls' n') (aH (fs:=t.Hz six rows wd l' ls' n' l ls n) (aa 0 rfl) T.b6.cl T.bX rfl) SN ax hr (ae (aa 1 rfl) (ae (aa 2 rfl) (ae (aa 3 rfl) ai))) ⟨six,rows,wd,l',ls',n',age,b,e,rfl,ok.ok,ok.gs,kl,⟨rS,FF⟩,rfl⟩))
   (ag (oA (m:=age+1) (fs:=t.Ar six rows wd l' ls' (age+1)) (nm:=["tracks"]) (tl:=[.val (.int ((age:Nat):Int)),.val (.int (b:Int)),.val (.int (e:Int))]) (bE (fs:=t.Hz six rows wd l' ls' (age+1) l ls n) (aa 0 rfl) DM ax hr (ae (aa 1 rfl) ai) ⟨six,rows,wd,l',ls',_,l,ls,n,age,rfl,ok,kl,rfl⟩))
   (ao (aF (bE (fs:=t.Hz six rows wd l' ls' (age+1) l ls (age+1)) (aa 0 rfl) DV ax hr (ae (df e3 (de bt tY (fun p=>t.lP six (N7 six rows p.1 p.2)) (fun p=>[.val (.int ((p.1:Nat):Int)),.val (.str (sg p.2))]) (fun _=>true) rfl (aW Pn) (fN (lz (Eu (ym (fs:=t.iO six rows wd l' ls' (age+1)) (aH (fs:=t.Hz six rows wd l' ls' (age+1) l ls (age+1)) (aa 0 rfl) T.b6.cl T.bX rfl) (MA xq) ax hr (ae (aa 1 rfl) (ae (aa 2 rfl) (ae (aa 3 rfl) ai))) ⟨six,rows,wd,l',ls',age+1,age,b,e,k,rfl,⟨ok.ok,ok.gs,by omega,by omega,kl⟩,⟨rS,FF⟩,⟨Wk,SO⟩,rfl⟩) (by rw[Wl])))) (Bo rfl (aW Pn) rfl) dZ (fun a _=>EC) (.nil fun _ _=>rfl)
     (fun p hp _ C fp s' H' G'=>?_) (aav hb4 (by decide)))) ai) ⟨six,rows,wd,l',ls',age+1,_,xs,rfl,hb,rfl⟩))))⟩
 obtain⟨m1,m2⟩:=Z4 p hp
 exact lE hu (Dh (n:=age+1) (j:=0) (f:=t.qG six rows) (aH (fs:=t.Hz six rows wd l' ls' (age+1) l ls (age+1)) (aa 2 rfl) T.b6.cl T.bY rfl) (aa 0 rfl) (by rw[ok.ts];rfl) (by omega) (by omega)) (aa 1 rfl) (by rw[TN];exact l5 m1) (fun _ _=>rfl)
noncomputable def Lr (ns:List Int)(k:Nat):Int:=(aV ns k % 10 ^ 59 * 10 ^ 59+aV ns (k+1) % 10 ^ 59) * 10 ^ 59+aV ns (k+2) % 10 ^ 59
def Wt:Rl:=fun ds r=>∃ (ns:List Int) (k:Nat),ds=[.oX ns,.int k]/\k<=90/\r=.ret (.int (Lr ns k))
theorem S5 (T:Txt K mg t):GF P w K mg base CX 2 "_law_big" 2 Wt:=by
 refine⟨_,_,_,iH T.yA.F JX rfl fun bj A outer s H E G ds r hr hl hR=>?_,(T.g T.yA.a),T.yA.F.kp,T.yA.b⟩
 obtain⟨ns,k,rfl,hk,rfl⟩:=hR
 have jo:=xf (P:=P) (w:=w) (base:=base) T
 have nd:=JX.nd
 have cl:∀ (j:Nat),j<=100->Aj [.oX ns,.int j] (.ret (.int (aV ns j))):=fun j hj=>⟨ns,j,rfl,hj,rfl⟩
 have fb:∀ z:Int,0<=z % 10 ^ 59/\z % 10 ^ 59 < 10 ^ 59:=fun z=>⟨aay _ (by decide),aaz _ (by decide)⟩
 have f59:(10 ^ 59:Int) < 2 ^ 200:=by decide
 have aeq:(10 ^ 59 * 10 ^ 59:Int) < 2 ^ 400:=by decide
 have h1:=fb (aV ns k)
 have h2:=fb (aV ns (k+1))
 exact⟨_,.rt _,ag (ar 2 nd (d:=.int (10 ^ 59)) (Ij aj aj ⟨by decide,by decide,by decide⟩))
   (ag (ar 3 nd (aK (fE (cN (aX jo ax hr (ae (aa 0 rfl) (ae (aa 1 rfl) ai)) (cl k (by omega))) (aa 2 rfl) (by decide)) (aa 2 rfl) (Fm (m:=200) (n:=200) (by omega) (by decide) (by decide))) (cN (aX jo ax hr (ae (aa 0 rfl) (ae (aM (aK (aa 1 rfl) aj) (congrArg Dt.int (show(k:Int)+1=((k+1:Nat):Int) by omega))) ai)) (cl (k+1) (by omega))) (aa 2 rfl) (by decide))))
   (ao (aF (aK (fE (aa 3 rfl) (aa 2 rfl) (Fm (m:=401) (n:=200) (by omega) (by decide) (by decide))) (cN (aX jo ax hr (ae (aa 0 rfl) (ae (aM (aK (aa 1 rfl) aj) (congrArg Dt.int (show(k:Int)+2=((k+2:Nat):Int) by omega))) ai)) (cl (k+2) (by omega))) (aa 2 rfl) (by decide))))))⟩
noncomputable def Oc (six:Bool)(p:Int×Int):List Dt:=if six then [.int (2 * p.1+p.2),.int (p.1+2 * p.2),.int (p.2 - p.1),.int (-2 * p.1 - p.2),.int (-p.1 - 2 * p.2),.int (p.1 - p.2)] else [.int p.1,.int p.2,.int (-p.1),.int (-p.2)]
theorem Lu (six:Bool)(p:Int×Int){z:Int}(h0:0<=z)(h1:z < wy six):oU (Oc six p) z=some (.int (iN six z p)):=by
 cases six with
 | false=>exact VT p h0 h1
 | true=>exact VU p h0 h1
def Lv:Rl:=fun ds r=>∃ six p,ds=[.int (wy six),sp p]/\r=.own (.lst (Oc six p))
theorem Hi (T:Txt K mg t):GF P w K mg base CX 1 "_law_along" 2 Lv:=by
 refine⟨_,_,_,iH T.pH.F BM rfl fun bj A outer s H E G ds r hr hl hR=>?_,(T.g T.pH.a),T.pH.F.kp,T.pH.b⟩
 obtain⟨six,p,rfl,rfl⟩:=hR
 have nd:=BM.nd
 cases six with
 | false=>
   exact⟨_,.ro _,ag (zk 2 3 nd rfl (aa 1 rfl)) (oY (aS (u:=true) (bO (l9 (aa 0 rfl) aj) (decide_eq_true rfl)) (fun h=>ao (lW (ql (ae (aa 2 rfl) (ae (aa 3 rfl) (ae (iG (aa 2 rfl)) (ae (iG (aa 3 rfl)) ai)))) AA3))) (fun h=>nomatch h)))⟩
 | true=>
   exact⟨_,.ro _,ag (zk 2 3 nd rfl (aa 1 rfl)) (ag (aS (u:=false) (bO (l9 (aa 0 rfl) aj) (decide_eq_false (by decide))) (fun h=>nomatch h) (fun h=>bJ))
     (ao (lW (ql (ae (aK (fE aj (aa 2 rfl) (pQ.ok (aaG ⟨by decide,by decide⟩))) (aa 3 rfl)) (ae (aK (aa 2 rfl) (fE aj (aa 3 rfl) (pQ.ok (aaG ⟨by decide,by decide⟩)))) (ae (gF (aa 3 rfl) (aa 2 rfl)) (ae (gF (fE (iG aj) (aa 2 rfl) (pQ.ok (aaG ⟨by decide,by decide⟩))) (aa 3 rfl)) (ae (gF (iG (aa 2 rfl)) (fE aj (aa 3 rfl) (pQ.ok (aaG ⟨by decide,by decide⟩)))) (ae (gF (aa 2 rfl) (aa 3 rfl)) ai)))))) AA3))))⟩
theorem FP (six:Bool)(xs:List Str)(w:Int):∀ n,∃ r,∃ tn:Nat,rec six xs w (n+1)=(r,(tn:Int))/\tn<=n/\iN six w (gU six xs tn)=r/\(∀ k,k<=n->iN six w (gU six xs k)<=r)/\∀ k,k < tn->iN six w (gU six xs k) < r
 | 0=>by
   have e:iN six w (gU six xs 0)=0:=xu six w
   refine⟨0,0,?_,aae _,e,fun k hk=>?_,fun k hk=>absurd hk (Nat.not_lt_zero _)⟩
   . rw[rec,e,rec];rfl
   . have:k=0:=by omega
     subst this;omega
 | n+1=>by
   obtain⟨r,tn,e,h1,h2,h3,h4⟩:=FP six xs w n
   rw[rec,e]
   by_cases c:r < iN six w (gU six xs (n+1))
   . refine⟨_,n+1,if_pos c,aae _,rfl,fun k hk=>?_,fun k hk=>?_⟩
     . by_cases z:k=n+1
       . subst z;exact Int.le_refl _
       . have:=h3 k (by omega);omega
     . have:=h3 k (by omega);omega
   . refine⟨r,tn,if_neg c,by omega,h2,fun k hk=>?_,h4⟩
     by_cases z:k=n+1
     . subst z;omega
     . exact h3 k (by omega)
theorem FQ {W:List Nat}{b e:Nat}(h:b<=e)(he:e<=W.length):(cut W b e).length=e - b:=by
 unfold cut;rw[aa0,aax];omega
theorem oQ:∀ xs:List Int,Cu (xs.map Dt.int)=xs.map PyData.int
 | []=>by simp[Cu]
 | x::xs=>by rw[aaq,Cu,oQ xs];simp[pd]
theorem rR (xs:List Int):LH (.lst (xs.map .int)):=by
 have h1:ly (xs.map Dt.int)=true:=by
   induction xs with
   | nil=>simp[ly]
   | cons x xs ih=>rw[aaq,ly,ih];simp[Sg.plain]
 have h2:∀ ys:List Int,PyData.canLayAll0 (ys.map PyData.int)=true/\PyData.depthAll (ys.map PyData.int)=0:=by
   intro ys
   induction ys with
   | nil=>simp[PyData.canLayAll0,PyData.depthAll]
   | cons y ys ih=>rw[aaq];simp[PyData.canLayAll0,PyData.depthAll,PyData.canLay0,PyData.depth,ih]
 refine⟨by rw[Sg.plain];exact h1,?_⟩
 unfold SeqAt.shaped
 rw[pd,oQ]
 simp[PyData.canLay0,PyData.depth,h2 xs]
theorem tZ (ys:List Int):PyData.depthAll (ys.map PyData.int)=0:=by
 induction ys with
 | nil=>simp[PyData.depthAll]
 | cons y ys ih=>rw[aaq];simp[PyData.depthAll,PyData.depth,ih]
noncomputable def kf (x:Tr):Dt:=.tup [.int x.many,.int x.turn,sp x.shift,.int x.aT,.lst (x.reach.map .int),.lst (x.aU.map .int),.int x.gC]
theorem lO (x:Tr):LH (kf x):=by
 have h1:=rR x.reach
 have h2:=rR x.aU
 have c1:=SeqAt.canLay_of_shaped h1.2
 have c2:=SeqAt.canLay_of_shaped h2.2
 have d1:(pd (.lst (x.reach.map Dt.int))).depth<=1:=by rw[pd,oQ];simp[PyData.depth,tZ]
 have d2:(pd (.lst (x.aU.map Dt.int))).depth<=1:=by rw[pd,oQ];simp[PyData.depth,tZ]
 have p1:=h1.1
 have p2:=h2.1
 unfold kf sp
 refine⟨by simp[Sg.plain,ly] at p1 p2 ⊢;exact⟨p1,p2⟩,?_⟩
 unfold SeqAt.shaped
 rw[pd]
 simp[Cu,pd] at c1 c2 d1 d2 ⊢
 simp[Cu,pd,PyData.canLay0,PyData.canLayAll0,PyData.depth,PyData.depthAll] at c1 c2 d1 d2 ⊢
 refine⟨⟨c1,c2⟩,?_⟩
 omega
def Lw (t:dN):Rl:=fun ds r=>∃ six x,ds=[t.Aw six x]/\WF six x/\(x.reach.length=wn six)/\r=.ret (kf x)
theorem Cp (six:Bool){ns:List Int}(h:ns.length=wn six):qd six ns 0=ns:=by
 refine list_eq (six:=six) (by unfold qd;simp) h fun v hv=>?_
 rw[Ao six _ _ hv]
 congr 1
 have hw:=rO six
 rw[Int.sub_zero,abu (by omega) (by omega),aaS]
def Hj:Rl:=fun ds r=>∃ six p b,ds=[.int (wy six),sp p,.int b]/\r=.ret (sp (tn six (b % wy six).toNat p))
def Lx:Rl:=fun ds r=>∃ six x,ds=[kf x,.int (wy six)]/\WF six x/\r=.ret (.bl true)
section
variable {X:Cx}{G:Gr}{dl:List Slot}{a:Expr}{pos p:Pos}{ds:List Dt}
theorem Ly (hm:X.mg "list"=none)(ha:EE X G dl a (.tup ds))(hg:Gl X "list":=by rfl)(he:starEach [a] X.env=[(false,eval a X.env)]:=by rfl):EO X G dl (.Call (.Name "list" p) [a] [] pos) (.lst ds):=
 gc (lp qO hg hm Sg.boot_list (ae ha ai he) (he:=he)) fun st H Q zq=>Bn zq fun Hf zq=>have S:=zq.1;have k:=zq.2;⟨Hf,S,fun vs Hf1 H1 g1 r1=>by
   cases r1 with
   | cons r t=>cases t;cases r with
     | @tup q vs _ z r=>exact⟨q,vs,rfl,.inr (bU g1.sub z),fun l hl=>k l Hf1 _ (g1.trans (.eX g1.sub hl)) (g1.big.free hl) (g1.sub.free hl) ⟨vs,ak,r⟩⟩⟩
end
noncomputable abbrev Wu:Scope:=DL ((aA rj).getD 3 (.Pass ⟨0,0,0,0⟩))
theorem Po:eU Wu (af rj) E3 ["_law_one"] ["_law_one"] []=true:=by decide +kernel
noncomputable def S6 (x:Tr):List Int:=[x.many,x.turn,x.aT,x.gC] ++ [x.shift.1,x.shift.2] ++ x.reach ++ x.aU
theorem Od (T:Txt K mg t):MF P w K mg base CX 5 t.av "told" 1 (Lw t):=by
 refine⟨T.ay.cl,_,_,_,iH T.lg.F xR rfl fun bj A outer s H E G ds r hr hl hR=>?_,T.gR,T.lg.b⟩
 obtain⟨six,x,rfl,hw,_,rfl⟩:=hR
 have Ab:=G4 (P:=P) (w:=w) (base:=base) T
 have Ac:=G5 (P:=P) (w:=w) (base:=base) T
 have Ad:=G6 (P:=P) (w:=w) (base:=base) T
 have DG:=Fn (P:=P) (w:=w) (base:=base) T
 have DH:=Fp (P:=P) (w:=w) (base:=base) T
 have tm:=wX (P:=P) (w:=w) (base:=base) T
 have DI:=Fq (P:=P) (w:=w) (base:=base) T
 have e0:tn six ((0:Int) % wy six).toNat x.shift=x.shift:=by cases six <;> rfl
 refine⟨_,.rt _,ao (aF (aM (bQ (ae (bR (fs:=t.jE six x) (aa 0 rfl) DG ax hr ⟨six,x,rfl,rfl⟩) (ae (bR (fs:=t.jE six x) (aa 0 rfl) DH ax hr ⟨six,x,rfl,rfl⟩) (ae (MB (fs:=t.jE six x) (aa 0 rfl) Ab ax hr ⟨six,x,0,rfl,rfl⟩)
   (ae (bR (fs:=t.jE six x) (aa 0 rfl) tm ax hr ⟨six,x,rfl,rfl⟩) (ae (lz (IQ (fs:=t.jE six x) (aa 0 rfl) Ac ax hr ⟨six,x,0,rfl,hw,rfl⟩)) (ae (lz (IQ (fs:=t.jE six x) (aa 0 rfl) Ad ax hr ⟨six,x,0,rfl,hw,rfl⟩))
   (ae (bR (fs:=t.jE six x) (aa 0 rfl) DI ax hr ⟨six,x,rfl,rfl⟩) ai))))))) AA3) ?_))⟩
 rw[e0,Cp six hw.rl,Cp six hw.tl];rfl
theorem DX (T:Txt K mg t):GF P w K mg base CX 1 "_law_turned" 3 Hj:=by
 refine⟨_,_,_,iH T.mJ.F yz rfl fun bj A outer s H E G ds r hr hl hR=>?_,(T.g T.mJ.a),T.mJ.F.kp,T.mJ.b⟩
 obtain⟨six,p,b,rfl,rfl⟩:=hR
 have nd:=yz.nd
 have Vu:=aay b (abf (eO six))
 have Y1:=aaz b (eO six)
 have hb3:wy six<=6:=by cases six <;> decide
 refine⟨_,.rt _,ag (zk 3 4 nd rfl (aa 1 rfl)) (ag (jw 5 (fun k=>[.val (.int (wy six)),.aJ,.val (.int b),.val (.int (tn six k p).1),.val (.int (tn six k p).2),.aJ]) nd rfl PassesOwn.leaving T.gB
   (ae (cN (aa 2 rfl) (aa 0 rfl) (eO six)) ai) ⟨by omega,by omega⟩ (Le.of ⟨rfl,rfl,rfl,rfl,trivial⟩) (aae _) (fun k hk=>?_) (.all rfl)) (ao (aF (bQ (ae (aa 3 rfl) (ae (aa 4 rfl) ai)) AA3))))⟩
 cases six with
 | false=>exact .nx (ao (aS (l9 (aa 0 rfl) aj) (fun h=>ao (Ja 3 4 nd rfl (ae (iG (aa 4 rfl)) (ae (aa 3 rfl) ai)))) (fun h=>absurd h (by decide)))) (Le.of ⟨rfl,rfl,rfl,rfl,trivial⟩)
 | true=>exact .nx (ao (aS (l9 (aa 0 rfl) aj) (fun h=>absurd h (by decide)) (fun h=>ao (Ja 3 4 nd rfl (ae (iG (aa 4 rfl)) (ae (aK (aa 3 rfl) (aa 4 rfl)) ai)))))) (Le.of ⟨rfl,rfl,rfl,rfl,trivial⟩)
theorem Hk (T:Txt K mg t):GF P w K mg base CX 2 "_law_track" 2 Lx:=by
 refine⟨_,_,_,iH T.pJ.F BO rfl fun bj A outer s H E G ds r hr hl hR=>?_,(T.g T.pJ.a),T.pJ.F.kp,T.pJ.b⟩
 obtain⟨six,x,rfl,wf,rfl⟩:=hR
 have Oe:=KQ (P:=P) (w:=w) (base:=base) T
 have nd:=BO.nd
 have Xs:=rO six
 have w6:wn six<=6:=by cases six <;> decide
 have Jn:=wf.rl
 have Qu:=wf.tl
 let lD:List Int->Dt:=fun l=>.lst (l.map .int)
 let S:Nat->List Slot:=fun _=>[.val (kf x),.val (.int (wy six)),.aJ,.aJ]
 have e1:([Dt.int x.many,.int x.turn,.int x.aT,.int x.gC] ++ [.int x.shift.1,.int x.shift.2] ++ x.reach.map Dt.int ++ x.aU.map Dt.int)=(S6 x).map Dt.int:=by
   unfold S6;simp
 have e2:(((S6 x).filter fun _=>true).map fun _=>Dt.bl true)=((S6 x).map fun _=>true).map Dt.bl:=by
   rw[aas.mpr (fun _ _=>rfl),aam];rfl
 have sz:∀ n:Nat,n<=100->n<=sizeLine:=fun n h=>aav h (by decide)
 refine⟨_,.rt _,ag (aS (u:=false) (vG (qR (u:=false) (v:=false) (si (u:=true) (qQ (qj (d:=kf x) T.cS (aa 0 rfl) (vI T.rK Sg.boot_tuple) rfl trivial rfl))) fun _=>(qR (u:=false) (v:=false) (bO (zc (Ep T.gD (aa 0 rfl)) aj) rfl) fun _=>
     (qR (u:=false) (v:=false) (si (u:=true) (qQ (qj (d:=sp x.shift) T.cS (aB (aa 0 rfl) aj rfl) (vI T.rK Sg.boot_tuple) rfl trivial rfl))) fun _=>(qi (bO (zc (Ep (ds:=[.int x.shift.1,.int x.shift.2]) T.gD (aB (aa 0 rfl) aj rfl)) aj) rfl)))))) (fun h=>nomatch h) (fun h=>bJ))
   (ag (dl1:=S 2) (mX (o:=.nx (S 2)) (m:=2) [x.reach,x.aU] lD (fun l dl=>dl.set 2 (.val (lD l))) S rfl PassesOwn.leaving (Qb (bQ (ae (aB (aa 0 rfl) aj rfl) (ae (aB (aa 0 rfl) aj rfl) ai)) AA3)) IT (bT nd rfl (.inl rfl)) (fun a _=>qZ) (Le.of ⟨rfl,rfl,trivial⟩) (aae _) (fun k a hk ha=>?_) (.all rfl))
   (ag (dl1:=[.val (kf x),.val (.int (wy six)),.aJ,.val (.lst ((S6 x).map Dt.int))]) (ar 3 nd (aM (lz (CZ (lz (CZ (lz (CZ (lz (ql (ae (aB (aa 0 rfl) aj rfl) (ae (aB (aa 0 rfl) aj rfl) (ae (aB (aa 0 rfl) aj rfl) (ae (aB (aa 0 rfl) aj rfl) ai)))) AA3)) (lz (Ly (ds:=[.int x.shift.1,.int x.shift.2]) T.sV (aB (aa 0 rfl) aj rfl))) (sz _ (show 4+2<=100 by decide)))) (aB (aa 0 rfl) aj rfl) (sz _ (by simp;omega)))) (aB (aa 0 rfl) aj rfl) (sz _ (by simp;omega)))) (congrArg Dt.lst e1)))
   (ao (aF (aM (Ji T.E8 rfl (df e2 (de (S6 x) Dt.int (fun _=>.bl true) (fun z=>[.val (.int z)]) (fun _=>true) rfl (aW Po) (fN (aa 3 rfl)) (bg (aW Po) rfl) dZ (fun a _=>bC) (.nil fun _ _=>rfl)
     (fun z hz _ C fp s' H' G'=>aX Oe ax hr (ae (aa 0 rfl) ai) ⟨z,rfl,rfl⟩) (sz _ (by unfold S6;simp;omega))))) (congrArg Dt.bl (by rw[List.all_map];simp)))))))⟩
 have hla:a.length=wn six:=by
   rcases List.mem_iff_getElem?.mpr ⟨k,ha⟩ |> (by simpa using ·) with h | h <;> rw[h] <;> assumption
 exact .nx (ao (aS (u:=false) (vG (qR (u:=false) (v:=false) (si (u:=true) (qQ (qj (d:=lD a) T.cS (aa 2 rfl) (vI T.sV Sg.boot_list) rfl trivial rfl))) fun _=>(qi (bO (zc (yZ (ds:=a.map Dt.int) T.gD (aa 2 rfl)) (aa 1 rfl)) (by rw[k5,hla,Xs,decide_eq_true rfl];rfl))))) (fun h=>nomatch h) (fun h=>bJ))) (Le.of ⟨rfl,rfl,trivial⟩)
theorem FR:∀ ns:List Int,(∀ z∈ns,z.natAbs < 2 ^ 100)->PyData.weightAll (ns.map PyData.int)<=101 * ns.length
 | [],_=>by simp[PyData.weightAll]
 | z::ns,h=>by
   have h1:=FR ns fun y hy=>h y (aaF _ hy)
   have h2:=h z aaX
   rw[aaq,PyData.weightAll,aaI]
   have h3:PyData.weight (.int z)<=100:=by
     rw[PyData.weight]
     split
     . omega
     . rename_i c
       have:z.natAbs≠0:=fun e=>c (by rw[Int.natAbs_eq_zero.mp e];rfl)
       have:=(Nat.log2_lt this).mpr h2
       omega
   omega
theorem lay_ints {ns:List Int}(h:∀ z∈ns,z.natAbs < 2 ^ 100)(hl:ns.length<=1000):PyData.layable0 (.list (ns.map .int))=true:=by
 have c:=SeqAt.canLay_of_shaped (rR ns).2
 have d:=SeqAt.depth_of_shaped (rR ns).2
 rw[pd,oQ] at c d
 have w:=FR ns h
 unfold PyData.layable0
 rw[c,decide_eq_true d,decide_eq_true (show PyData.weight (.list (ns.map .int))<=2 ^ 20 by rw[PyData.weight];omega)];rfl
theorem Hl {ns:List Int}{r:Int}{k:Nat}(hk:k < ns.length)(h1:ns[k]=r)(h2:∀ j (hj:j < k),ns[j]≠r):ns.idxOf r=k:=by
 induction ns generalizing k with
 | nil=>simp at hk
 | cons a ns ih=>
   cases k with
   | zero=>simp at h1;rw[h1];simp
   | succ k=>
     have h3:a≠r:=h2 0 (Nat.succ_pos k)
     rw[List.idxOf_cons,show(a == r)=false from beq_eq_false_iff_ne.mpr h3]
     have:=ih (k:=k) (by simpa using hk) (by simpa using h1) fun j hj=>by
       have:=h2 (j+1) (by omega)
       simpa using this
     simp[this]
noncomputable def FT (six:Bool)(xs:List Str)(v:Int):List Int:=(aaj (xs.length+1)).map fun j=>iN six v (gU six xs j)
theorem Wv (six:Bool)(v:Int)(p:Int×Int)(n:Nat)(h:p.1.natAbs<=n/\p.2.natAbs<=n):(iN six v p).natAbs<=3 * n:=by
 unfold iN
 cases six
 . simp only[aaY,if_false]
   split
   . omega
   . split
     . omega
     . split <;> omega
 . simp only[if_true]
   split
   . omega
   . split
     . omega
     . split
       . omega
       . split
         . omega
         . split <;> omega
theorem Ww {six:Bool}{xs:List Str}(h:xs.length<=999)(v:Int):∀ z∈FT six xs v,z.natAbs < 2 ^ 100:=fun z hz=>by
 obtain⟨j,hj,rfl⟩:=aaM.mp hz
 have h1:=Ae six _ (xs.take j) rfl
 have h2:(xs.take j).length<=999:=by rw[aax];omega
 have h3:=Wv six v (gU six xs j) 999 ⟨aav h1.1 h2,aav h1.2.1 h2⟩
 exact aaK h3 (by decide)
theorem FU (six:Bool)(xs:List Str){v:Nat}(hv:v < wn six):yx (FT six xs v)=(bS six xs).reach.getD v 0/\(bS six xs).reach.getD v 0∈FT six xs v/\(((FT six xs v).idxOf ((bS six xs).reach.getD v 0):Nat):Int)=(bS six xs).aU.getD v 0:=by
 have e:=(Aq six hv _ xs rfl).1
 obtain⟨r,tn,e1,h1,h2,h3,h4⟩:=FP six xs v xs.length
 rw[e] at e1
 have er:(bS six xs).reach.getD v 0=r:=(Prod.mk.inj e1).1
 have et:(bS six xs).aU.getD v 0=(tn:Int):=(Prod.mk.inj e1).2
 have hl:(FT six xs v).length=xs.length+1:=by unfold FT;simp
 have at_:∀ j (hj:j < (FT six xs v).length),(FT six xs v)[j]=iN six v (gU six xs j):=fun j hj=>by simp only[FT,aaO,List.getElem_range]
 have hm:r∈FT six xs v:=aaT.mpr ⟨tn,by omega,by rw[at_,h2]⟩
 rw[er,et]
 refine⟨JP (by omega) hm fun x hx=>?_,hm,congrArg _ (Hl (by omega) (by rw[at_,h2]) fun j hj=>?_)⟩
 . obtain⟨j,hj,rfl⟩:=aaT.mp hx
   rw[at_];exact h3 j (by omega)
 . rw[at_];exact Int.ne_of_lt (h4 j hj)
def S9:Rl:=fun ds r=>∃ rows q,ds=[.lst (rows.map nV),.str (sg q.c)]/\bM rows/\q∈rows/\r=.ret (nV q)
def Of:Rl:=fun ds r=>∃ six rows w,ds=[.int (wy six),.lst (rows.map nV),.str (tx w)]/\bM rows/\(∀ x∈w,x∈rows.map (·.c))/\w.length<=900/\r=.ret (kf (bS six (xy rows w)))
noncomputable abbrev Wx:Stmt->Scope
 | .Assign _ (.ListComp (.Call _ (.ListComp _ _ sc _::_) _ _) _ _ _) _=>sc
 | _=>af (.Pass ⟨0,0,0,0⟩)
noncomputable abbrev Wy:Stmt->Scope
 | .Assign _ (.ListComp (.Call (.Attribute (.ListComp _ _ sc _) _ _) _ _ _) _ _ _) _=>sc
 | _=>af (.Pass ⟨0,0,0,0⟩)
noncomputable abbrev Wz (i:Nat):Stmt:=(aA kJ).getD i (.Pass ⟨0,0,0,0⟩)
noncomputable abbrev WA:Scope:=OJ (Wz 6)
noncomputable abbrev Pp:Scope:=OJ (Wz 7)
noncomputable abbrev Ta:Scope:=Wx (Wz 7)
noncomputable abbrev Pq:Scope:=OJ (Wz 8)
noncomputable abbrev Tb:Scope:=Wy (Wz 8)
theorem Pr:eU WA (af kJ) uO ["_law_one","_law_ways"] ["_law_one"] [0]=true:=by decide +kernel
theorem Pt:Bx Pp (af kJ) uO ["_law_w","_law_alongs"] "_law_w" [11]=true:=by decide +kernel
theorem Lz:eU Ta (relabel Pp (Sq (af kJ))) ["_law_w","_law_alongs"] ["_law_along_here","_law_w"] ["_law_along_here"] [0]=true:=by decide +kernel
theorem Pu:Bx Pq (af kJ) uO ["_law_w","_law_alongs","_law_reach"] "_law_w" [11,12]=true:=by decide +kernel
theorem LA:eU Tb (relabel Pq (Sq (af kJ))) ["_law_w","_law_alongs","_law_reach"] ["_law_along_here","_law_w"] ["_law_along_here"] [0]=true:=by decide +kernel
theorem FV (T:Txt K mg t):GF P w K mg base CX 1 "_law_row" 2 S9:=by
 refine⟨_,_,_,iH T.yB.F JY rfl fun bj A outer s H E G ds r hr hl hR=>?_,(T.g T.yB.a),T.yB.F.kp,T.yB.b⟩
 obtain⟨rows,q,rfl,ok,hq,rfl⟩:=hR
 have nd:=JY.nd
 obtain⟨m,hm,rfl⟩:=aaT.mp hq
 have Ax:∀ k (hk:k < m),rows[k].c≠rows[m].c:=fun k hk z=>by
   have:=aaW.mp ok.nd k m (by rw[k5];omega) (by rw[k5];exact hm) hk
   rw[aaO,aaO] at this
   exact this z
 let S:Nat->List Slot:=fun _=>[.val (.lst (rows.map nV)),.val (.str (sg rows[m].c)),.aJ]
 refine⟨_,.rt _,oY (mX (m:=m) rows nV (fun r dl=>dl.set 2 (.val (nV r))) S rfl PassesOwn.leaving (fN (aa 0 rfl)) dZ (bT nd rfl (.inl rfl)) (fun a _=>qZ) (Le.of ⟨rfl,rfl,trivial⟩) (aa5 hm) (fun k a hk ha=>?_) (.rt (d:=nV rows[m]) hm ?_))⟩
 . rw[k3 (by omega)] at ha
   cases ha
   exact .nx (ao (aS (u:=false) (bO (gG (aB (aa 2 rfl) aj rfl) (aa 1 rfl)) (decide_eq_false fun z=>Ax k hk (qD z))) (fun h=>nomatch h) (fun h=>bJ))) (Le.of ⟨rfl,rfl,trivial⟩)
 . rw[k3 hm]
   exact ao (aS (u:=true) (bO (gG (aB (aa 2 rfl) aj rfl) (aa 1 rfl)) (decide_eq_true rfl)) (fun h=>ao (aF (aa 2 rfl))) (fun h=>nomatch h))
theorem LB (T:Txt K mg t):GF P w K mg base CX 2 "_law_drawn" 3 Of:=by
 refine⟨_,_,_,iH T.pI.F BN rfl fun bj A outer s H E G ds r hr hl hR=>?_,(T.g T.pI.a),T.pI.F.kp,T.pI.b⟩
 obtain⟨six,rows,wd,rfl,ok,hw,hl9,rfl⟩:=hR
 have FW:=FV (P:=P) (w:=w) (base:=base) T
 have Z6:=DX (P:=P) (w:=w) (base:=base) T
 have Z7:=Hi (P:=P) (w:=w) (base:=base) T
 have nd:=BN.nd
 have Xs:=rO six
 have w6:wn six<=6:=by cases six <;> decide
 obtain⟨xs,Np⟩:∃ xs,xs=xy rows wd:=⟨_,rfl⟩
 have Es:xs.length=wd.length:=by rw[Np];unfold xy;rw[k5]
 rw[<- Np]
 let X:Nat->Tr:=fun k=>bS six (xs.take k)
 have hX:∀ k (h:k < xs.length),X (k+1)=jn six (X k) (one six xs[k]):=fun k h=>by
   show bS six (xs.take (k+1))=_
   rw[aa6,k3 h];exact ka six _ _
 have hpj:∀ k (h:k < xs.length),pj (X (k+1))=ZP six (pj (X k)) xs[k]:=fun k h=>by rw[hX k h];exact VZ six _ _
 have nL:∀ k (h:k < xs.length),(X (k+1)).aT=(X k).aT+(if xs[k]="stroke" then 1 else 0):=fun k h=>by rw[hX k h];rfl
 let rD:Dt:=.lst (rows.map nV)
 let Pw:Nat->List Dt:=fun k=>(aaj (k+1)).map fun j=>sp (gU six xs j)
 have Z8:∀ k,Pw k ++ [sp (X (k+1)).shift]=Pw (k+1):=fun k=>by
   show(aaj (k+1)).map _ ++ _=(aaj (k+1+1)).map _
   rw[List.range_succ (n:=k+1),aa4];rfl
 let S:Nat->List Slot:=fun k=>[.val (.int (wy six)),.val rD,.val (.str (tx wd)),.val (.int (X k).turn),.val (sp (X k).shift),.val (.int (X k).aT),.val (.int (X k).gC),.own (.lst (Pw k)),.aJ,.aJ,.aJ,.aJ,.aJ,.aJ]
 have sz:∀ n:Nat,n<=2000->n<=sizeLine:=fun n h=>aav h (by decide)
 have h7:∀ x∈wd,x < 128:=fun x hx=>by
   obtain⟨q,hq,hc⟩:=aaM.mp (hw x hx)
   have:=ok.sm q hq
   rw[hc] at this
   unfold small at this;omega
 refine⟨_,.rt _,ag (ar 3 nd aj) (ag (ar 4 nd (d:=sp (0,0)) (bQ (ae aj (ae aj ai)) AA3)) (ag (ar 5 nd aj) (ag (ar 6 nd aj) (ag (jI 7 nd (ql (ae (aa 4 rfl) ai) AA3))
   (ag (dl1:=S wd.length) (mX (o:=.nx (S wd.length)) (m:=wd.length) wd (fun x=>Dt.str (sg x)) (fun x dl=>dl.set 8 (.val (.str (sg x)))) S rfl PassesOwn.leaving (fU (aa 2 rfl)) (cU (cB (fw h7)) (dD wd)) (bT nd rfl (.inl rfl)) (fun a _=>qZ) (Le.of ⟨rfl,rfl,rfl,rfl,rfl,rfl,rfl,rfl,trivial⟩) (aae _) (fun k a hk ha=>?_) (.all rfl)) ?_)))))⟩
 . rw[k3 hk] at ha
   cases ha
   have Z9:k < xs.length:=by omega
   obtain⟨q,hq,hc,ed,_⟩:=g8 (hw _ (aaN hk))
   have exk:xs[k]=q.d:=by
     have:xs[k]?=some (iM rows wd[k]):=by
       rw[Np];unfold xy;rw[YL,k3 hk];rfl
     rw[k3 Z9,ed] at this
     exact Option.some.inj this
   have hd5:q.d∈mK:=ok.dd q hq
   have hP:=hpj k Z9
   have hS:=nL k Z9
   rw[exk] at hP hS
   obtain⟨d,hdq⟩:∃ d,d=q.d:=⟨_,rfl⟩
   rw[<- hdq] at hP hS hd5
   obtain⟨st,Hm⟩:∃ st,st=tn six ((X k).turn % wy six).toNat (if d∈Cv then (1,0) else (0,0)):=⟨_,rfl⟩
   have hun:st.1.natAbs<=1/\st.2.natAbs<=1:=by
     rw[Hm]
     by_cases c:d∈Cv
     . rw[if_pos c];exact Fu six _
     . rw[if_neg c,pM];decide
   have e1:(X (k+1)).turn=((X k).turn+ju d) % wy six:=congrArg (·.1) hP
   have e2:(X (k+1)).shift=ad (X k).shift st:=by rw[Hm];exact congrArg (·.2.1) hP
   have e3:(X (k+1)).gC=(X k).gC+((X k).shift.1 * st.2 - (X k).shift.2 * st.1):=by rw[Hm];exact congrArg (·.2.2) hP
   let B:List Slot:=[.val (.int (wy six)),.val rD,.val (.str (tx wd)),.val (.int (X k).turn),.val (sp (X k).shift),.val (.int (X k).aT),.val (.int (X k).gC),.own (.lst (Pw k)),.val (.str (sg wd[k])),.val (.str d),.val (sp (0,0)),.aJ,.aJ,.aJ]
   let B1:Int->Int->Int×Int->List Slot:=fun a b s=>[.val (.int (wy six)),.val rD,.val (.str (tx wd)),.val (.int a),.val (sp (X k).shift),.val (.int b),.val (.int (X k).gC),.own (.lst (Pw k)),.val (.str (sg wd[k])),.val (.str d),.val (sp s),.aJ,.aJ,.aJ]
   have Jn:(Pw k).length < sizeLine:=by
     show((aaj (k+1)).map _).length < _
     rw[k5,aaH];exact aao (show k+1 < 2000 by omega) (by decide)
   refine .nx (ag (ar 9 nd (d:=.str d) (aB (ds:=[.str (sg q.c),.str q.d,.str (tx q.w)]) (aX FW ax hr (ae (aa 1 rfl) (ae (aa 8 rfl) ai)) ⟨rows,q,by rw[hc],ok,hq,rfl⟩) aj (by rw[hdq];rfl))) (ag (ar 10 nd (d:=sp (0,0)) (bQ (ae aj (ae aj ai)) AA3))
     (ag (dl1:=B1 (X (k+1)).turn (X (k+1)).aT st) ?iF (ag (ar 6 nd (d:=.int (X (k+1)).gC) (aM (gF (aK (aa 6 rfl) (fE (aB (ds:=[.int (X k).shift.1,.int (X k).shift.2]) (aa 4 rfl) aj rfl) (aB (ds:=[.int st.1,.int st.2]) (aa 10 rfl) aj rfl) (pQ.ok (aaD ⟨by omega,by omega⟩)))) (fE (aB (ds:=[.int (X k).shift.1,.int (X k).shift.2]) (aa 4 rfl) aj rfl) (aB (ds:=[.int st.1,.int st.2]) (aa 10 rfl) aj rfl) (pQ.ok (aaD ⟨by omega,by omega⟩)))) (congrArg Dt.int (by rw[e3];omega))))
     (ag (ar 4 nd (d:=sp (X (k+1)).shift) (aM (bQ (ae (aK (aB (ds:=[.int (X k).shift.1,.int (X k).shift.2]) (aa 4 rfl) aj rfl) (aB (ds:=[.int st.1,.int st.2]) (aa 10 rfl) aj rfl)) (ae (aK (aB (ds:=[.int (X k).shift.1,.int (X k).shift.2]) (aa 4 rfl) aj rfl) (aB (ds:=[.int st.1,.int st.2]) (aa 10 rfl) aj rfl)) ai)) AA3) (by rw[e2];rfl)))
     (ao (sy 7 (aa 4 rfl) Jn))))))) (Le.of ⟨rfl,rfl,rfl,rfl,rfl,rfl,rfl,by rw[Z8 k],trivial⟩)
   case iF=>
     show ES _ _ _ B _ (.nx (B1 (X (k+1)).turn (X (k+1)).aT st))
     have c5:d="stroke"\/d="step"\/d="left"\/d="right"\/d="rest":=by simpa [mK] using hd5
     have ht:=Ck six (xs.take k)
     have em:(X k).turn % wy six=(X k).turn:=abu ht.1 ht.2
     by_cases c:d∈Cv
     . have c2:d="stroke"\/d="step":=by simpa [Cv] using c
       have n1:d≠"left":=by rcases c2 with h | h <;> rw[h] <;> decide
       have n2:d≠"right":=by rcases c2 with h | h <;> rw[h] <;> decide
       have n3:d≠"rest":=by rcases c2 with h | h <;> rw[h] <;> decide
       have t0:ju d=0:=by unfold ju;rw[if_neg n1,if_neg n2]
       rw[if_pos c] at Hm
       rw[e1,t0,abq,em]
       refine aS (u:=false) (bO (gG (aa 9 rfl) bI) (decide_eq_false n1)) (fun h=>nomatch h) (fun _=>ao (aS (u:=false) (bO (gG (aa 9 rfl) bI) (decide_eq_false n2)) (fun h=>nomatch h) (fun _=>ao (aS (u:=true) (bO (Iy (aa 9 rfl) bI) (by rw[decide_eq_false n3];rfl)) (fun _=>ag (ar 10 nd (d:=sp st) (aM (aX Z6 ax hr (ae (aa 0 rfl) (ae (bQ (ae aj (ae aj ai)) AA3) (ae (aa 3 rfl) ai))) ⟨six,(1,0),(X k).turn,rfl,rfl⟩) (by rw[Hm])))
         (ao (ar 5 nd (d:=.int (X (k+1)).aT) (aM (aK (aa 5 rfl) (MR T.E9 (QT (aa 9 rfl) bI))) (congrArg Dt.int (by rw[hS];simp)))))) (fun h=>nomatch h)))))
     . have n0:d≠"stroke":=fun h=>c (by rw[h];decide)
       have s0:(X (k+1)).aT=(X k).aT:=by rw[hS,if_neg n0,abq]
       have z0:st=(0,0):=by rw[Hm,if_neg c,pM]
       rw[e1,s0,z0]
       rcases c5 with h | h | h | h | h
       . exact absurd h n0
       . exact absurd (show d∈Cv by rw[h];decide) c
       . have t0:ju d=1:=by rw[h];decide
         rw[t0]
         exact aS (u:=true) (bO (gG (aa 9 rfl) bI) (decide_eq_true h)) (fun _=>ao (ar 3 nd (cN (aK (aa 3 rfl) aj) (aa 0 rfl) (eO six)))) (fun h=>nomatch h)
       . have t0:ju d=-1:=by rw[h];decide
         rw[t0]
         exact aS (u:=false) (bO (gG (aa 9 rfl) bI) (decide_eq_false (by rw[h];decide))) (fun h=>nomatch h) (fun _=>ao (aS (u:=true) (bO (gG (aa 9 rfl) bI) (decide_eq_true h)) (fun _=>ao (ar 3 nd (cN (gF (aa 3 rfl) aj) (aa 0 rfl) (eO six)))) (fun h=>nomatch h)))
       . have t0:ju d=0:=by rw[h];decide
         rw[t0,abq,em]
         exact aS (u:=false) (bO (gG (aa 9 rfl) bI) (decide_eq_false (by rw[h];decide))) (fun h=>nomatch h) (fun _=>ao (aS (u:=false) (bO (gG (aa 9 rfl) bI) (decide_eq_false (by rw[h];decide))) (fun h=>nomatch h) (fun _=>ao (aS (u:=false) (bO (Iy (aa 9 rfl) bI) (by rw[decide_eq_true h];rfl)) (fun h=>nomatch h) (fun _=>bJ)))))
 . have hX0:X wd.length=bS six xs:=by show bS six (xs.take wd.length)=_;rw[<- Es,aa8]
   have LF:Pw wd.length=(aaj (xs.length+1)).map fun j=>sp (gU six xs j):=by show(aaj (wd.length+1)).map _=_;rw[Es]
   obtain⟨x,hx⟩:∃ x,x=bS six xs:=⟨_,rfl⟩
   let J:=aaj (xs.length+1)
   have hJ:J.length<=2000:=by show(aaj (xs.length+1)).length<=2000;rw[aaH];omega
   let S0:List Slot:=[.val (.int (wy six)),.val rD,.val (.str (tx wd)),.val (.int x.turn),.val (sp x.shift),.val (.int x.aT),.val (.int x.gC),.own (.lst (J.map fun j=>sp (gU six xs j))),.aJ,.aJ,.aJ,.aJ,.aJ,.aJ]
   have eS:S wd.length=S0:=by
     show [_,_,_,Slot.val (.int (X wd.length).turn),Slot.val (sp (X wd.length).shift),Slot.val (.int (X wd.length).aT),Slot.val (.int (X wd.length).gC),Slot.own (.lst (Pw wd.length)),_,_,_,_,_,_]=_
     rw[hX0,LF,<- hx]
   rw[eS]
   have Tc:x.reach.length=wn six/\x.aU.length=wn six:=by rw[hx];have:=Ae six _ xs rfl;exact this.2.2
   let aD:List Dt:=J.map fun j=>Dt.lst (Oc six (gU six xs j))
   have eA:((J.filter fun _=>true).map fun j=>Dt.lst (Oc six (gU six xs j)))=aD:=by rw[aas.mpr (fun _ _=>rfl)]
   have eV:∀ v:Nat,((J.filter fun _=>true).map fun j=>Dt.int (iN six v (gU six xs j)))=(FT six xs v).map .int:=fun v=>by
     rw[aas.mpr (fun _ _=>rfl)];unfold FT;rw[aam];rfl
   have lV:∀ v:Nat,(FT six xs v).length=xs.length+1:=fun v=>by unfold FT;simp
   have eR:(((aaj (wn six)).filter fun _=>true).map fun v=>Dt.int (x.reach.getD v 0))=x.reach.map .int:=by
     rw[aas.mpr (fun _ _=>rfl),show(fun v=>Dt.int (x.reach.getD v 0))=Dt.int ∘ fun v=>x.reach.getD v 0 from rfl,<- aam]
     exact congrArg (List.map Dt.int) (list_eq (six:=six) (by simp) Tc.1 fun v hv=>by rw[jG hv])
   have eT:(((aaj (wn six)).filter fun _=>true).map fun v=>Dt.int (x.aU.getD v 0))=x.aU.map .int:=by
     rw[aas.mpr (fun _ _=>rfl),show(fun v=>Dt.int (x.aU.getD v 0))=Dt.int ∘ fun v=>x.aU.getD v 0 from rfl,<- aam]
     exact congrArg (List.map Dt.int) (list_eq (six:=six) (by simp) Tc.2 fun v hv=>by rw[jG hv])
   have em:x.many=(wd.length:Int):=by rw[hx,(B6 six _ xs rfl).1,Es]
   refine qk 7 (w:=.lst (J.map fun j=>sp (gU six xs j))) (ag (jI 11 nd (de J (fun j=>sp (gU six xs j)) (fun j=>Dt.lst (Oc six (gU six xs j))) (fun j=>[.val (sp (gU six xs j))]) (fun _=>true) rfl (aW Pr) (fN (aa 7 rfl)) (bg (aW Pr) rfl) dZ (fun a _=>bC) (.nil fun _ _=>rfl)
     (fun j hj _ C fp s' H' G'=>lz (Bh Z7 ax hr (ae (aa 1 rfl) (ae (aa 0 rfl) ai)) ⟨six,gU six xs j,rfl,rfl⟩)) (sz _ hJ))) ?_)
   rw[eA]
   refine qk 11 (w:=.lst aD) (ag (jI 12 nd (Jw (aaj (wn six)) (fun(v:Nat)=>Dt.int (v:Nat)) (fun v=>Dt.int (x.reach.getD v 0)) (fun(v:Nat)=>[.val (.int (v:Nat))]) (fun _=>true) rfl (yq Pt) (mn rfl T.gB (ae (aM (aa 0 rfl) (congrArg Dt.int Xs.symm)) ai)) (vX (yq Pt)) (tQ (j:=wn six) ⟨by omega,by omega⟩) (fun a _=>bC) (.nil fun _ _=>rfl)
     (fun v hv _ cc C fp s' H' G'=>?iR) (sz _ (by rw[aaH];omega)))) ?_)
   case iR=>
     have Oz:v < wn six:=abo.mp hv
     have h3:=FU six xs Oz
     rw[<- hx] at h3
     exact aM (M9 T.Fb rfl (df (eV v) (de J (fun j=>Dt.lst (Oc six (gU six xs j))) (fun j=>Dt.int (iN six v (gU six xs j))) (fun j=>[.val (.lst (Oc six (gU six xs j)))]) (fun _=>true) rfl (aW Lz) (fN (aa 1 rfl)) (bg (aW Lz) rfl) dZ (fun a _=>bC) (.nil fun _ _=>rfl)
       (fun j hj _ C2 Vc s2 H2 G2=>CV (aa 0 rfl) (aa 1 rfl) (Lu six _ (by omega) (by omega))) (sz _ hJ))) (by rw[lV];omega)) (congrArg Dt.int h3.1)
   rw[eR]
   refine qk 12 (w:=.lst (x.reach.map .int)) (ag (Rg 13 (aaj (wn six)) (fun(v:Nat)=>Dt.int (v:Nat)) (fun v=>Dt.int (x.aU.getD v 0)) (fun(v:Nat)=>[.val (.int (v:Nat))]) (fun _=>true) rfl nd (yq Pu) (mn rfl T.gB (ae (aM (aa 0 rfl) (congrArg Dt.int Xs.symm)) ai)) (vX (yq Pu)) (tQ (j:=wn six) ⟨by omega,by omega⟩) (fun a _=>bC) (.nil fun _ _=>rfl)
     (fun v hv _ cc C fp s' H' G'=>?iT) (sz _ (by rw[aaH];omega))) ?_)
   case iT=>
     have Oz:v < wn six:=abo.mp hv
     have h3:=FU six xs Oz
     rw[<- hx] at h3
     exact aM (JO (k:=x.reach.getD v 0) (df (eV v) (de J (fun j=>Dt.lst (Oc six (gU six xs j))) (fun j=>Dt.int (iN six v (gU six xs j))) (fun j=>[.val (.lst (Oc six (gU six xs j)))]) (fun _=>true) rfl (aW LA) (fN (aa 1 rfl)) (bg (aW LA) rfl) dZ (fun a _=>bC) (.nil fun _ _=>rfl)
       (fun j hj _ C2 Vc s2 H2 G2=>CV (aa 0 rfl) (aa 1 rfl) (Lu six _ (by omega) (by omega))) (sz _ hJ))) (CV (aa 2 rfl) (aa 0 rfl) (NG (by omega) (by omega))) (lay_ints (Ww (by omega) v) (by rw[lV];omega)) h3.2.1) (congrArg Dt.int h3.2.2)
   rw[eT]
   refine qk 13 (w:=.lst (x.aU.map .int)) (ao (aF (aM (bQ (ae (lM T.gD (aa 2 rfl) (by omega)) (ae (aa 3 rfl) (ae (aa 4 rfl) (ae (aa 5 rfl) (ae (aa 12 rfl) (ae (aa 13 rfl) (ae (aa 6 rfl) ai))))))) AA3) ?_)))
   rw[<- hx];unfold kf;rw[em];rfl
section
variable {X:Cx}{G:Gr}{dl:List Slot}{a b:Expr}{pos:Pos}{c:Nat}{L:List Nat}
theorem Og:n9 X (compareOp .NotIn) (fun x y H Q=>∃ i j,x=.str i/\y=.str j/\Q (.bl (!(!(Builtin.Str.occurrences j i 0 j.length 1).isEmpty))) H):=by
 intro pins s σ H x y v u Q I rx ry h
 obtain⟨i,j,rfl,rfl,q⟩:=h
 obtain⟨t,rfl⟩:=rx
 obtain⟨t',rfl⟩:=ry
 exact PyProof.Rows.notIn_str (bA I q rfl)
theorem Oh (ha:EE X G dl a (.str (sg c)))(hb:EE X G dl b (.str (tx L)))(hm:behindInMarks .NotIn b=false:=by rfl):EE X G dl (.Compare a [.NotIn] [b] pos) (.bl (!decide (c∈L))):=
 aM (sh Og (fun v w Hf H Q s r1 r2 kk=>by
   cases r1;cases r2
   exact⟨sg c,tx L,rfl,rfl,kk _ Hf H (.refl s) (.bl _)⟩) hm ha hb) (by
   rw[show sg c=⟨#[c]⟩ from rfl,PySem.StrLaws.found_one]
   show Dt.bl (!decide (c∈L.toArray.toList))=_
   rw[abT])
end
noncomputable abbrev Xt (i:Nat):Stmt:=(aA tT).getD i (.Pass ⟨0,0,0,0⟩)
noncomputable abbrev aaa:Stmt->Scope
 | .Assign _ (.Call _ (.ListComp _ _ sc _::_) _ _) _=>sc
 | _=>af (.Pass ⟨0,0,0,0⟩)
noncomputable abbrev WB:Stmt->Scope
 | .Assign _ (.Call _ (_::.ListComp _ _ sc _::_) _ _) _=>sc
 | _=>af (.Pass ⟨0,0,0,0⟩)
noncomputable abbrev aab:Stmt->Scope
 | .If (.Call _ (.ListComp _ _ sc _::_) _ _) _ _ _=>sc
 | _=>af (.Pass ⟨0,0,0,0⟩)
noncomputable abbrev WC:Scope:=aaa (Xt 6)
noncomputable abbrev WD:Scope:=aab (Xt 8)
noncomputable abbrev WE:Scope:=WB (Xt 14)
noncomputable abbrev WG:Scope:=WB (Xt 16)
theorem Px:eU WC (af tT) BP ["_law_row_here"] ["_law_row_here"] []=true:=by decide +kernel
theorem Py:eU WD (af tT) BP ["_law_letter","_law_alphabet_here"] ["_law_letter"] [10]=true:=by decide +kernel
theorem Pz:eU WE (af tT) BP ["_law_letter","_law_rows"] ["_law_letter"] [2]=true:=by decide +kernel
theorem PB:eU WG (af tT) BP ["_law_letter","_law_rows"] ["_law_letter"] [2]=true:=by decide +kernel
theorem DY (T:Txt K mg t):MF P w K mg base CX 1 t.av "closed" 1 (BY t fun x=>.bl (decide (x.shift=(0,0)))):=by
 refine⟨T.ay.cl,_,_,_,iH T.jg.F uk rfl fun bj A outer s H E G ds r hr hl hR=>?_,T.fJ,T.jg.b⟩
 obtain⟨six,x,rfl,rfl⟩:=hR
 exact⟨_,.rt _,ao (aF (Iu hr.units (sZ T.hK (aH (fs:=t.jE six x) (aa 0 rfl) T.ay.cl T.aR rfl)) (bQ (ae aj (ae aj ai)) AA3) ⟨rfl,rfl⟩ ⟨rfl,rfl⟩ (B4 x.shift)))⟩
theorem Td (T:Txt K mg t):j4 P w K mg base CX 12 t.rE t.wC ["_law_script"] (KO K):=by
 refine iH T.BS.F J0 rfl fun bj A outer s H E G ds r hr hl hR=>?_
 obtain⟨ns,hlen,rfl,rfl⟩:=hR
 have jo:=xf (P:=P) (w:=w) (base:=base) T
 have WH:=S5 (P:=P) (w:=w) (base:=base) T
 have Oi:=KZ (P:=P) (w:=w) (base:=base) T
 have FW:=FV (P:=P) (w:=w) (base:=base) T
 have Oj:=LB (P:=P) (w:=w) (base:=base) T
 have Ol:=Hk (P:=P) (w:=w) (base:=base) T
 have Om:=Ke (P:=P) (w:=w) (base:=base) T
 have Te:=KI (P:=P) (w:=w) (base:=base) T
 have aac:=Lp (P:=P) (w:=w) (base:=base) T
 have Oa:=tX (P:=P) (w:=w) (base:=base) T
 have Kf:=yD (P:=P) (w:=w) (base:=base) T
 have Lh:=Fw (P:=P) (w:=w) (base:=base) T
 have Tf:=N4 (P:=P) (w:=w) (base:=base) T
 have Tg:=DW (P:=P) (w:=w) (base:=base) T
 have DZ:=Od (P:=P) (w:=w) (base:=base) T
 have xw:=vh (P:=P) (w:=w) (base:=base) T
 have Co:=z5 (P:=P) (w:=w) (base:=base) T
 have WI:=tf (P:=P) (w:=w) (base:=base) T
 have aad:=DY (P:=P) (w:=w) (base:=base) T
 have nd:=J0.nd
 let six:=FA ns
 let rows:=xk ns
 let wd:=vi ns
 have Oo:mM rows wd:=Wb ns
 have ok:bM rows:=Oo.ok
 have hb:=NV ns (far:=16) (by decide) (by decide)
 obtain⟨age,kl⟩:∃ age:Nat,qe ns 16=((age:Nat):Int):=⟨(qe ns 16).toNat,by omega⟩
 have MQ:age<=200:=by omega
 obtain⟨W,hW⟩:∃ W:List Nat,W=pO rows wd age:=⟨_,rfl⟩
 obtain⟨sz,hsz⟩:∃ sz:Nat,sz=W.length:=⟨_,rfl⟩
 have esz:((sz:Nat):Int)=ZV rows wd age:=by rw[hsz,hW];exact FE Oo age
 have hWb:sz < 2 ^ 990:=by rw[hsz,hW];exact Pk Oo MQ
 obtain⟨b,eb,hbs⟩:∃ b:Nat,Lr ns 9 % (((sz:Nat):Int)+1)=((b:Nat):Int)/\b<=sz:=by
   have a:=aay (Lr ns 9) (show((sz:Nat):Int)+1≠0 by omega)
   have b:=aaz (Lr ns 9) (show(0:Int) < ((sz:Nat):Int)+1 by omega)
   generalize Lr ns 9 % (((sz:Nat):Int)+1)=y at a b ⊢
   exact⟨y.toNat,by omega,by omega⟩
 obtain⟨e,ee,rS,hes,he6⟩:∃ e:Nat,(if aV ns 12 % 61+((b:Nat):Int) < ((sz:Nat):Int) then aV ns 12 % 61+((b:Nat):Int) else ((sz:Nat):Int))=((e:Nat):Int)/\b<=e/\e<=sz/\e - b<=60:=by
   have a:=aay (aV ns 12) (show(61:Int)≠0 by decide)
   have c:=aaz (aV ns 12) (show(0:Int) < 61 by decide)
   generalize aV ns 12 % 61=y at a c ⊢
   split
   . exact⟨(y+(b:Int)).toNat,by omega,by omega,by omega,by omega⟩
   . exact⟨sz,rfl,hbs,aae _,by omega⟩
 obtain⟨V,hV⟩:∃ V:List Nat,V=cut W b e:=⟨_,rfl⟩
 have hVl:V.length=e - b:=by rw[hV];exact FQ rS (by omega)
 have WJ:∀ x∈V,x∈rows.map (·.c):=fun x hx=>by
   rw[hV] at hx
   have:x∈W:=abO (abP hx)
   rw[hW] at this
   exact vk ok Oo.wm age x this
 obtain⟨c,ec,TH⟩:∃ c:Nat,aV ns 13 % (((V.length:Nat):Int)+1)=((c:Nat):Int)/\c<=V.length:=by
   have a:=aay (aV ns 13) (show((V.length:Nat):Int)+1≠0 by omega)
   have b:=aaz (aV ns 13) (show(0:Int) < ((V.length:Nat):Int)+1 by omega)
   generalize aV ns 13 % (((V.length:Nat):Int)+1)=y at a b ⊢
   exact⟨y.toNat,by omega,by omega⟩
 have eV1:cut W b (b+c)=V.take c:=by
   rw[hV];unfold cut
   rw[List.take_drop,List.take_take,Nat.min_eq_left (by omega)]
 have eV2:cut W (b+c) e=V.drop c:=by
   rw[hV];unfold cut
   rw[List.drop_drop]
 let nD:Nat->Dt:=fun a=>.int ((a:Nat):Int)
 let dd:List Nat->List Str:=xy rows
 have Xu:∀ v:List Nat,(dd v).length=v.length:=fun v=>by show(xy rows v).length=_;unfold xy;rw[k5]
 have ddm:∀ v:List Nat,(∀ x∈v,x∈rows.map (·.c))->∀ d∈dd v,d∈mK:=fun v hv d hd=>by
   obtain⟨x,hx,rfl⟩:=aaM.mp hd
   exact Cn ok (hv x hx)
 have wfV:∀ v:List Nat,v.length<=1000->WF six (bS six (dd v)):=fun v hv=>Ku six (by rw[Xu];omega)
 have wfC:∀ p q:Nat,p<=q->q<=sz->WF six (bS six (dd (cut W p q))):=fun p q h1 h2=>vg six (by rw[Xu,FQ h1 (by omega)];omega)
 have eJ:jn six (bS six (dd (V.take c))) (bS six (dd (V.drop c)))=bS six (dd V):=by
   rw[FO six _ _ _ rfl]
   show bS six (xy rows (V.take c) ++ xy rows (V.drop c))=bS six (xy rows V)
   unfold xy
   rw[<- aa4,List.take_append_drop]
 have eqR:∀ x:Tr,PyData.eqv (pd (kf x)) (pd (kf x))=true:=fun x=>eqv_refl _ (lO x).1
 have tdm:∀ x∈V.take c,x∈rows.map (·.c):=fun x hx=>WJ x (abO hx)
 have Th:∀ x∈V.drop c,x∈rows.map (·.c):=fun x hx=>WJ x (abP hx)
 have asc:∀ v:List Nat,(∀ x∈v,x∈rows.map (·.c))->∀ x∈v,x < 128:=fun v hv x hx=>by
   obtain⟨q,hq,hc⟩:=aaM.mp (hv x hx)
   have:=ok.sm q hq
   rw[hc] at this
   unfold small at this;omega
 have eD:∀ v:List Nat,((v.filter fun _=>true).map fun x=>Dt.str (iM rows x))=(dd v).map .str:=fun v=>by
   rw[aas.mpr (fun _ _=>rfl)];show _=(v.map (iM rows)).map Dt.str;rw[aam];rfl
 have eL:(((rows).filter fun _=>true).map fun q=>Dt.str (sg q.c))=((rows.map fun q=>[q.c]).map tx).map .str:=by
   rw[aas.mpr (fun _ _=>rfl),aam,aam];rfl
 have eF:(rows.map fun q=>[q.c]).flatten=rows.map (·.c):=by
   generalize rows=rs
   induction rs with
   | nil=>rfl
   | cons q rs ih=>rw[aaq,aaU,ih];rfl
 have h6:rows.length<=6:=ok.le
 have Xv:∀ n:Nat,n<=2000->n<=sizeLine:=fun n h=>aav h (by decide)
 have eB:((V.filter fun _=>true).map fun x=>Dt.bl false)=(V.map fun _=>false).map .bl:=by
   rw[aas.mpr (fun _ _=>rfl),aam];rfl
 refine⟨_,.rt _,?_⟩
 refine ag (M5 1 2 3 4 nd rfl (aM (aX Oi ax hr (ae (aa 0 rfl) (ae aj ai)) ⟨ns,16,rfl,⟨by decide,by decide⟩,rfl⟩) (by rw[kl]))) ?_
 refine ag (ar 5 nd (d:=t.ZR six rows wd 1) (Mw (Bg Te ax hr (ae (UY (uH Om ax hr (ae (aa 1 rfl) (ae (lz (My T.sV (aa 2 rfl))) ai)) ⟨six,rows,rfl,ok,rfl⟩)) (ae (aa 3 rfl) ai)) ⟨six,rows,wd,rfl,Oo,rfl⟩))) ?_
 refine BA 5 fun l' ls' n6=>?_
 let gE:Dt:=Ci t six rows wd l' ls' 1
 let D:Slot->Slot->Slot->Slot->Slot->Slot->Slot->Slot->Slot->Slot->Slot->Slot->List Slot:=fun a6 a7 a8 a9 a10 a11 a12 a13 a14 a15 a16 a17=>[.val (.oX ns),.val (.int (wy six)),.val (.lst (rows.map nV)),.val (.str (tx wd)),.val (nD age),.val gE,a6,a7,a8,a9,a10,a11,a12,a13,a14,a15,a16,a17]
 show nM _ _ _ (D .aJ .aJ .aJ .aJ .aJ .aJ .aJ .aJ .aJ .aJ .aJ .aJ) _ _
 refine ag (dl1:=D (.val (nD sz)) .aJ .aJ .aJ .aJ .aJ .aJ .aJ .aJ .aJ .aJ .aJ) (ar 6 nd (bE (fs:=t.iO six rows wd l' ls' 1) (aa 5 rfl) Lh ax hr (ae (aa 4 rfl) ai) ⟨six,rows,wd,l',ls',1,age,rfl,Oo,n6,MQ,by show Res.ret (.int ((sz:Nat):Int))=_;rw[esz]⟩)) ?_
 refine ag (dl1:=D (.val (nD sz)) (.val (nD b)) .aJ .aJ .aJ .aJ .aJ .aJ .aJ .aJ .aJ .aJ) (ar 7 nd (aM (cN (aX WH ax hr (ae (aa 0 rfl) (ae aj ai)) ⟨ns,9,rfl,by decide,rfl⟩) (aK (aa 6 rfl) aj) (by omega)) (congrArg Dt.int eb))) ?_
 refine ag (dl1:=D (.val (nD sz)) (.val (nD b)) (.val (nD e)) .aJ .aJ .aJ .aJ .aJ .aJ .aJ .aJ .aJ) (ar 8 nd (aM (IG T.Fc rfl (ae (aa 6 rfl) (ae (aK (aa 7 rfl) (cN (aX jo ax hr (ae (aa 0 rfl) (ae aj ai)) ⟨ns,12,rfl,by decide,rfl⟩) aj (by decide))) ai))) (congrArg Dt.int (by rw[<- ee,Int.add_comm])))) ?_
 have nZ:Ld t [gE,nD age,nD b,nD e] (.ret (.str (tx V))):=by
   refine⟨six,rows,wd,l',ls',1,age,b,e,rfl,Oo,n6,MQ,⟨rS,by rw[<- hW];omega,by omega⟩,?_⟩
   rw[hV,hW]
 refine ag (dl1:=D (.val (nD sz)) (.val (nD b)) (.val (nD e)) (.val (.str (tx V))) .aJ .aJ .aJ .aJ .aJ .aJ .aJ .aJ) (ar 9 nd (bE (fs:=t.iO six rows wd l' ls' 1) (aa 5 rfl) Tf ax hr (ae (aa 4 rfl) (ae (aa 7 rfl) (ae (aa 8 rfl) ai))) nZ)) ?_
 refine ag (dl1:=D (.val (nD sz)) (.val (nD b)) (.val (nD e)) (.val (.str (tx V))) (.val (.str (tx (rows.map (·.c))))) .aJ .aJ .aJ .aJ .aJ .aJ .aJ) (ar 10 nd (aM (pK (Ls:=rows.map fun q=>[q.c]) bI (df eL (de rows nV (fun q=>Dt.str (sg q.c)) (fun q=>[.val (nV q)]) (fun _=>true) rfl (aW Px) (fN (aa 2 rfl)) (bg (aW Px) rfl) dZ (fun a _=>bC) (.nil fun _ _=>rfl) (fun q hq _ C fp s' H' G'=>aB (ds:=[.str (sg q.c),.str q.d,.str (tx q.w)]) (aa 0 rfl) aj rfl) (Xv _ (by omega)))) (by rw[eF,k5,k5];omega)) (by rw[eF]))) ?_
 refine ag (aS (u:=false) (vG (qR (u:=false) (v:=false) (si (u:=true) (qQ (qj (d:=.str (tx V)) T.cS (aa 9 rfl) (vI T.J2 Sg.boot_str) rfl trivial rfl))) fun _=>(qi (bO (zc (lM T.gD (aa 9 rfl) (by omega)) (gF (aa 8 rfl) (aa 7 rfl))) (by rw[decide_eq_true (show((V.length:Nat):Int)=(e:Int) - (b:Int) by omega)];rfl))))) (fun h=>nomatch h) (fun h=>bJ)) ?_
 refine ag (aS (u:=false) (bO (qQ (RI T.J1 rfl (df eB (de V (fun x=>Dt.str (sg x)) (fun _=>Dt.bl false) (fun x=>[.val (.str (sg x))]) (fun _=>true) rfl (aW Py) (fU (aa 9 rfl)) (bg (aW Py) rfl) (cU (cB (fw (asc V WJ))) (dD V)) (fun a _=>bC) (.nil fun _ _=>rfl) (fun x hx _ C fp s' H' G'=>aM (Oh (aa 0 rfl) (aa 1 rfl)) (congrArg Dt.bl (by rw[decide_eq_true (WJ x hx)];rfl))) (Xv _ (by omega)))))) (by simp)) (fun h=>nomatch h) (fun h=>bJ)) ?_
 refine ag (dl1:=D (.val (nD sz)) (.val (nD b)) (.val (nD e)) (.val (.str (tx V))) (.val (.str (tx (rows.map (·.c))))) (.val (.vC t.aC (t.Ar six rows wd l' ls' 1) [t.qG six rows] ["tracks"] 1)) .aJ .aJ .aJ .aJ .aJ .aJ) (ar 11 nd (Mw (Bg aac ax hr (ae (aa 5 rfl) ai) ⟨six,rows,wd,l',ls',1,rfl,Oo,rfl⟩))) ?_
 refine BA 11 fun l ls hts=>?_
 have dok:SW t six rows wd ls' ls:=⟨Oo,n6,hts⟩
 let dE:Dt:=.obj t.aC (t.Hz six rows wd l' ls' 1 l ls 1)
 have stR:∀ p q:Nat,p<=q->q<=sz->mO t [dE,nD age,nD p,nD q] (.ret (t.lP six (bS six (dd (cut W p q))))):=fun p q h1 h2=>by
   show mO t [dE,nD age,nD p,nD q] (.ret (t.lP six (bS six (xy rows (cut W p q)))))
   rw[hsz,hW] at h2
   rw[hW]
   exact⟨six,rows,wd,l',ls',1,l,ls,1,age,p,q,rfl,dok,MQ,⟨h1,h2⟩,rfl⟩
 have tld:∀ x:Tr,WF six x->Lw t [t.Aw six x] (.ret (kf x)):=fun x h=>⟨six,x,rfl,h,h.rl,rfl⟩
 let x:Tr:=bS six (dd V)
 have Tc:WF six x:=wfV V (by omega)
 let E1:Slot->Slot->Slot->Slot->Slot->Slot->List Slot:=D (.val (nD sz)) (.val (nD b)) (.val (nD e)) (.val (.str (tx V))) (.val (.str (tx (rows.map (·.c))))) (.val dE)
 show nM _ _ _ (E1 .aJ .aJ .aJ .aJ .aJ .aJ) _ _
 refine ag (dl1:=E1 (.val (t.lP six x)) .aJ .aJ .aJ .aJ .aJ) (ar 12 nd (aM (bE (fs:=t.Hz six rows wd l' ls' 1 l ls 1) (aa 11 rfl) Tg ax hr (ae (aa 4 rfl) (ae (aa 7 rfl) (ae (aa 8 rfl) ai))) (stR b e rS hes)) (by rw[<- hV]))) ?_
 refine ag (dl1:=E1 (.val (t.lP six x)) (.val (kf x)) .aJ .aJ .aJ .aJ) (ar 13 nd (bR (fs:=t.jE six x) (kB (aa 12 rfl)) DZ ax hr (tld _ Tc))) ?_
 refine ag (aS (u:=false) (vG (qR (u:=false) (v:=false) (si (u:=true) (qQ (aX Ol ax hr (ae (aa 13 rfl) (ae (aa 1 rfl) ai)) ⟨six,_,rfl,Tc,rfl⟩))) fun _=>(qi (Iv hr.units (aa 13 rfl) (aX Oj ax hr (ae (aa 1 rfl) (ae (aa 2 rfl) (ae (aa 9 rfl) ai))) ⟨six,rows,V,rfl,ok,WJ,by omega,rfl⟩) (lO _) (lO _) (by rw[eqR];rfl))))) (fun h=>nomatch h) (fun h=>bJ)) ?_
 refine ag (dl1:=E1 (.val (t.lP six x)) (.val (kf x)) (.val (nD c)) .aJ .aJ .aJ) (ar 14 nd (aM (cN (aX jo ax hr (ae (aa 0 rfl) (ae aj ai)) ⟨ns,13,rfl,by decide,rfl⟩) (aK (lM T.gD (aa 9 rfl) (by omega)) aj) (by omega)) (congrArg Dt.int ec))) ?_
 let y1:Tr:=bS six (dd (V.drop c))
 let y0:Tr:=bS six (dd (V.take c))
 have l1:(V.drop c).length<=60:=by rw[aa0];omega
 have l0:(V.take c).length<=60:=by rw[aax];omega
 have WK:∀ v:List Nat,(∀ x∈v,x∈rows.map (·.c))->∀ x∈v,∃ q,q.c=x/\q∈rows/\iM rows x=q.d:=fun v hv x hx=>by
   obtain⟨q,hq,hc,ed,_⟩:=g8 (hv x hx)
   exact⟨q,hc,hq,ed⟩
 refine ag (dl1:=E1 (.val (t.lP six x)) (.val (kf x)) (.val (nD c)) (.val (t.lP six y1)) .aJ .aJ) (ar 15 nd (aX Oa ax hr (ae (bR (fs:=t.wW six rows) (bR (fs:=t.iO six rows wd l' ls' 1) (aa 5 rfl) xw ax hr ⟨six,rows,wd,l',ls',1,rfl,rfl⟩) Co ax hr ⟨six,rows,rfl,rfl⟩) (ae (df (eD (V.drop c)) (de (V.drop c) (fun x=>Dt.str (sg x)) (fun x=>Dt.str (iM rows x)) (fun x=>[.val (.str (sg x))]) (fun _=>true) rfl (aW Pz) (fU (yF (aa 9 rfl) (aa 14 rfl) TH (by omega))) (bg (aW Pz) rfl) (cU (cB (fw (asc _ Th))) (dD _)) (fun a _=>bC) (.nil fun _ _=>rfl) (fun x hx _ C fp s' H' G'=>?c3) (Xv _ (by omega)))) ai)) ⟨six,dd (V.drop c),rfl,ddm _ Th,by rw[Xu];omega,rfl⟩)) ?_
 case c3=>
   obtain⟨q,hc,hq,ed⟩:=WK _ Th x hx
   exact aM (aB (d:=.str q.d) (ds:=[.str (sg q.c),.str q.d,.str (tx q.w)]) (aX FW ax hr (ae (aa 1 rfl) (ae (aa 0 rfl) ai)) ⟨rows,q,by rw[hc],ok,hq,rfl⟩) aj rfl) (congrArg Dt.str ed.symm)
 have hbc:b+c<=sz:=by omega
 have s1:mO t [dE,nD age,nD b,.int (((b+c:Nat)):Int)] (.ret (t.lP six y0)):=by
   have:=stR b (b+c) (by omega) hbc
   rw[eV1] at this;exact this
 have s2:mO t [dE,nD age,.int (((b+c:Nat)):Int),nD e] (.ret (t.lP six y1)):=by
   have:=stR (b+c) e (by omega) hes
   rw[eV2] at this;exact this
 have jR:BZ t [t.Aw six y0,t.Aw six y1] (.ret (t.lP six x)):=⟨six,y0,y1,rfl,⟨wfV _ (by omega),wfV _ (by omega)⟩,by show _=Res.ret (t.lP six (jn six (bS six (dd (V.take c))) (bS six (dd (V.drop c)))));rw[eJ]⟩
 refine ag (aS (u:=false) (Iv hr.units (bR (fs:=t.jE six x) (kB (bE (fs:=t.jE six y0) (kB (bE (fs:=t.Hz six rows wd l' ls' 1 l ls 1) (aa 11 rfl) Tg ax hr (ae (aa 4 rfl) (ae (aa 7 rfl) (ae (aM (aK (aa 7 rfl) (aa 14 rfl)) (congrArg Dt.int (show(b:Int)+(c:Int)=((b+c:Nat):Int) by omega))) ai))) s1)) WI ax hr (ae (kB (x:=y1) (aa 15 rfl)) ai) jR)) DZ ax hr (tld _ Tc)) (aa 13 rfl) (lO _) (lO _) (by rw[eqR];rfl)) (fun h=>nomatch h) (fun h=>bJ)) ?_
 refine ag (dl1:=E1 (.val (t.lP six x)) (.val (kf x)) (.val (nD c)) (.val (t.lP six y1)) (.val (t.lP six y0)) .aJ) (ar 16 nd (aX Oa ax hr (ae (aX Kf ax hr (ae (aa 1 rfl) ai) ⟨six,rfl,rfl⟩) (ae (df (eD (V.take c)) (de (V.take c) (fun x=>Dt.str (sg x)) (fun x=>Dt.str (iM rows x)) (fun x=>[.val (.str (sg x))]) (fun _=>true) rfl (aW PB) (fU (Fh (aa 9 rfl) (aa 14 rfl) TH (by omega))) (bg (aW PB) rfl) (cU (cB (fw (asc _ tdm))) (dD _)) (fun a _=>bC) (.nil fun _ _=>rfl) (fun x hx _ C fp s' H' G'=>?c4) (Xv _ (by omega)))) ai)) ⟨six,dd (V.take c),rfl,ddm _ tdm,by rw[Xu];omega,rfl⟩)) ?_
 case c4=>
   obtain⟨q,hc,hq,ed⟩:=WK _ tdm x hx
   exact aM (aB (d:=.str q.d) (ds:=[.str (sg q.c),.str q.d,.str (tx q.w)]) (aX FW ax hr (ae (aa 1 rfl) (ae (aa 0 rfl) ai)) ⟨rows,q,by rw[hc],ok,hq,rfl⟩) aj rfl) (congrArg Dt.str ed.symm)
 refine ag (aS (u:=false) (Iv hr.units (bR (fs:=t.jE six x) (kB (bE (fs:=t.jE six y0) (kB (x:=y0) (aa 16 rfl)) WI ax hr (ae (kB (bE (fs:=t.Hz six rows wd l' ls' 1 l ls 1) (aa 11 rfl) Tg ax hr (ae (aa 4 rfl) (ae (aM (aK (aa 7 rfl) (aa 14 rfl)) (congrArg Dt.int (show(b:Int)+(c:Int)=((b+c:Nat):Int) by omega))) (ae (aa 8 rfl) ai))) s2)) ai) jR)) DZ ax hr (tld _ Tc)) (aa 13 rfl) (lO _) (lO _) (by rw[eqR];rfl)) (fun h=>nomatch h) (fun h=>bJ)) ?_
 let cb:Bool:=decide (x.shift=(0,0))
 refine ag (dl1:=E1 (.val (t.lP six x)) (.val (kf x)) (.val (nD c)) (.val (t.lP six y1)) (.val (t.lP six y0)) (.val (.bl cb))) (ar 17 nd (bR (fs:=t.jE six x) (kB (aa 12 rfl)) aad ax hr ⟨six,x,rfl,rfl⟩)) ?_
 exact ao (aF (vH (u:=true) (v:=true) (qj (d:=.bl cb) T.cS (aa 17 rfl) (vI T.zW Sg.boot_bool) rfl trivial rfl) fun _=>(qS (Iu hr.units (aa 17 rfl) (Iu (u:=cb) hr.units (aB (ds:=[.int x.many,.int x.turn,sp x.shift,.int x.aT,.lst (x.reach.map .int),.lst (x.aU.map .int),.int x.gC]) (aa 13 rfl) aj rfl) (bQ (ae aj (ae aj ai)) AA3) ⟨rfl,rfl⟩ ⟨rfl,rfl⟩ (B4 x.shift)) ⟨rfl,rfl⟩ ⟨rfl,rfl⟩ (by cases cb <;> rfl)))))
end Pf
end
local macro_rules | `(tactic| walk_at "b")=>`(tactic| first
 | exact fun _ _ _ _ _ _ us hl=>match us,hl with | [_],_=>rfl
 | exact fun _ _ _ _ _ _ us hl=>match us,hl with | [_,_],_=>rfl
 | exact fun _ _ _ _ _ _ us hl=>match us,hl with | [_,_,_],_=>rfl
 | exact fun _ _ _ _ _ _ us hl=>match us,hl with | [_,_,_,_],_=>rfl
 | exact fun _ _ _ _ _ _ us hl=>match us,hl with | [_,_,_,_,_],_=>rfl
 | exact fun _ _ _ _ _ _ us hl=>match us,hl with | [_,_,_,_,_,_],_=>rfl
 | exact fun _ _ _ _ _ _ us hl=>match us,hl with | [_,_,_,_,_,_,_],_=>rfl
 | exact fun _ _ _ _ _ _ us hl=>match us,hl with | [_,_,_,_,_,_,_,_],_=>rfl
 | exact fun _ _ _ _ _ _ us hl=>match us,hl with | [_,_,_,_,_,_,_,_,_],_=>rfl
 | exact fun _ _ _ _ _ _ us hl=>match us,hl with | [],_=>rfl)
local macro_rules | `(tactic| walk_at "z")=>`(tactic| first
 | (refine' Pf.RS ?a ?l ?c ?k ?b;(case a=>k_is);(case l=>k_is);(case c=>k_is);(case k=>k_is);(case b=>walk_at "b"))
 | (refine' Pf.RO ?l ?c ?k ?b;(case l=>k_is);(case c=>k_is);(case k=>k_is);(case b=>walk_at "b"))
 | (refine' Pf.RP ?l ?c ?k ?b;(case l=>k_is);(case c=>k_is);(case k=>k_is);(case b=>walk_at "b"))
 | (refine' Pf.RT ?a ?p ?h ?o ?s ?k;(case a=>k_is);(case p=>k_is);(case h=>k_is);(case o=>k_is);(case s=>k_is);(case k=>k_is))
 | (refine' L2.Meth.mk ?a ?i ?k;(case a=>k_is);(case i=>k_is);(case k=>k_is))
 | (refine' L2.Mk.mk ?a ?i ?f ?k;(case a=>k_is);(case i=>k_is);(case f=>k_is);(case k=>k_is))
 | (refine' Sg.QM.mk ?a ?i ?k;(case a=>k_is);(case i=>k_is);(case k=>k_is))
 | k_is | kernel_rfl)
namespace PySem.W.Fast
theorem tw15321150054833343966:True:=⟨⟩
theorem tw14147679347894473144:True:=⟨⟩
theorem tw8501592602302845538:True:=⟨⟩
theorem tw12438685828984311642:True:=⟨⟩
theorem tw1260181225984170589:True:=⟨⟩
theorem tw10778698177999033709:True:=⟨⟩
theorem tw16272538121968057596:True:=⟨⟩
theorem tw10345750076851056018:True:=⟨⟩
theorem tw11284369544562676200:True:=⟨⟩
theorem tw1213709542610582395:True:=⟨⟩
theorem tw17640380742848658656:True:=⟨⟩
theorem tw10494462270702735858:True:=⟨⟩
theorem tw12768977101808109967:True:=⟨⟩
theorem tw12246035816034113217:True:=⟨⟩
theorem tw8624839310000643509:True:=⟨⟩
theorem tw5773579975466001809:True:=⟨⟩
theorem tw14311989250553557860:True:=⟨⟩
theorem tw16620481379375380869:True:=⟨⟩
theorem tw7000388708776629779:True:=⟨⟩
theorem tw14774028682701247976:True:=⟨⟩
theorem tw8515221318190218244:True:=⟨⟩
theorem tw8791259064064895050:True:=⟨⟩
theorem tw10941878256200797667:True:=⟨⟩
theorem tw13817306928477257767:True:=⟨⟩
theorem tw2947412375628170390:True:=⟨⟩
theorem tw3356267043991339644:True:=⟨⟩
theorem tw4152215460773256252:True:=⟨⟩
theorem tw7486887138536348803:True:=⟨⟩
theorem tw13789672189606908926:True:=⟨⟩
theorem tw9222125457443031451:True:=⟨⟩
theorem tw11709786466901979818:True:=⟨⟩
theorem tw16242536393271510675:True:=⟨⟩
theorem tw2060985476697449700:True:=⟨⟩
theorem tw3965811911226671931:True:=⟨⟩
theorem tw13720343382287147561:True:=⟨⟩
theorem tw3769310041643105437:True:=⟨⟩
theorem tw1423696602822533385:True:=⟨⟩
theorem tw15190926487346285580:True:=⟨⟩
theorem tw18233270744235983852:True:=⟨⟩
theorem tw7723396391646084074:True:=⟨⟩
theorem tw18173672258176490787:True:=⟨⟩
theorem tw5165882602352324577:True:=⟨⟩
theorem tw17559651534493898214:True:=⟨⟩
theorem tw17663039453339111019:True:=⟨⟩
theorem tw10141373079295046839:True:=⟨⟩
theorem tw4244306369598871460:True:=⟨⟩
theorem tw12778177321748679628:True:=⟨⟩
theorem tw11489753422029176077:True:=⟨⟩
theorem tw2316361490242374560:True:=⟨⟩
theorem tw10324397230160378032:True:=⟨⟩
theorem tw6216230947062777620:True:=⟨⟩
theorem tw9937151317400167478:True:=⟨⟩
theorem tw12520789722749434978:True:=⟨⟩
theorem tw10101914748455984833:True:=⟨⟩
theorem tw18362584925504909329:True:=⟨⟩
theorem tw6007849268084957804:True:=⟨⟩
theorem tw9361553933484854329:True:=⟨⟩
theorem tw15528473319171568881:True:=⟨⟩
theorem tw15651037554538851532:True:=⟨⟩
theorem tw18280488678340303030:True:=⟨⟩
theorem tw316423919267091212:True:=⟨⟩
theorem tw13466701678983958536:True:=⟨⟩
theorem tw15333304472169967996:True:=⟨⟩
theorem tw11325434397218709695:True:=⟨⟩
theorem tw16055301326039165561:True:=⟨⟩
theorem tw16408469721941155181:True:=⟨⟩
theorem tw13163372951022011721:True:=⟨⟩
theorem tw11930636242814752607:True:=⟨⟩
theorem tw2253638465370860030:True:=⟨⟩
theorem tw10839390114263731610:True:=⟨⟩
theorem tw16293098261223943145:True:=⟨⟩
theorem tw1354598569449551614:True:=⟨⟩
theorem tw16649638381550422553:True:=⟨⟩
theorem tw2763636591062856765:True:=⟨⟩
theorem tw5708191845608389275:True:=⟨⟩
theorem tw17671418896748325254:True:=⟨⟩
theorem tw3691301180623373620:True:=⟨⟩
theorem tw17776617407545452382:True:=⟨⟩
theorem tw9714054441548469710:True:=⟨⟩
theorem tw5095261153234071075:True:=⟨⟩
theorem tw6889324324318947493:True:=⟨⟩
theorem tw872017512536656780:True:=⟨⟩
theorem tw1268689153472923422:True:=⟨⟩
theorem tw10421328472486379065:True:=⟨⟩
theorem tw9691517593809492352:True:=⟨⟩
theorem tw18276313373803177977:True:=⟨⟩
theorem tw5417502179664051602:True:=⟨⟩
theorem tw6047884282008335474:True:=⟨⟩
theorem tw5143914494986420551:True:=⟨⟩
theorem tw3726700853604117304:True:=⟨⟩
theorem tw7203978098879898972:True:=⟨⟩
theorem tw9316460525068541477:True:=⟨⟩
theorem tw1190744228210744774:True:=⟨⟩
theorem tw11828489918315794235:True:=⟨⟩
theorem tw6485925614701728661:True:=⟨⟩
theorem tw5627356068928656642:True:=⟨⟩
theorem tw4785383094874365279:True:=⟨⟩
theorem tw14773660774755403098:True:=⟨⟩
theorem tw1550968179376734447:True:=⟨⟩
theorem tw14600638657894373708:True:=⟨⟩
theorem tw834953879460939034:True:=⟨⟩
theorem tw8405226277946820822:True:=⟨⟩
theorem tw5000028684912354405:True:=⟨⟩
theorem tw13097438234846190445:True:=⟨⟩
theorem tw8102659844263982727:True:=⟨⟩
theorem tw5375462601435493009:True:=⟨⟩
theorem tw3388952101772138791:True:=⟨⟩
theorem tw7971470243838980078:True:=⟨⟩
theorem tw5991007667250964896:True:=⟨⟩
theorem tw9202041486422811293:True:=⟨⟩
theorem tw15571241774999527379:True:=⟨⟩
theorem tw16202405126420948112:True:=⟨⟩
theorem tw1503946361999829922:True:=⟨⟩
theorem tw13304903221308107963:True:=⟨⟩
theorem tw8608443687680497848:True:=⟨⟩
theorem tw6008968326857000788:True:=⟨⟩
theorem tw10714455943919541569:True:=⟨⟩
theorem tw12090288682116554136:True:=⟨⟩
theorem tw15486362613722956399:True:=⟨⟩
theorem tw2002508201923077227:True:=⟨⟩
theorem tw16462925072046598361:True:=⟨⟩
theorem tw2619618659340770785:True:=⟨⟩
theorem tw2013468498211282316:True:=⟨⟩
theorem tw13519395663893866336:True:=⟨⟩
theorem tw9872186069227726196:True:=⟨⟩
theorem tw12602717645504374123:True:=⟨⟩
theorem tw3450373571151719223:True:=⟨⟩
theorem tw11570391587001726705:True:=⟨⟩
theorem tw5617331630492493562:True:=⟨⟩
theorem tw11053968746291439444:True:=⟨⟩
theorem tw13097672222991417007:True:=⟨⟩
theorem tw12894298166420112382:True:=⟨⟩
theorem tw6752952440070192773:True:=⟨⟩
theorem tw3643819508301674497:True:=⟨⟩
theorem tw8739760533997247223:True:=⟨⟩
theorem tw8376923876962063226:True:=⟨⟩
theorem tw9451380294405503124:True:=⟨⟩
theorem tw14268626284241759242:True:=⟨⟩
theorem tw6431136607572132661:True:=⟨⟩
theorem tw4140752763826514074:True:=⟨⟩
theorem tw10243914732226007763:True:=⟨⟩
theorem tw9923210282464098876:True:=⟨⟩
theorem tw3066836221333968160:True:=⟨⟩
theorem tw12911408103369497835:True:=⟨⟩
theorem tw15308212967153759247:True:=⟨⟩
theorem tw11142031608993451389:True:=⟨⟩
theorem tw11684112328180780729:True:=⟨⟩
theorem tw15482228121009430306:True:=⟨⟩
theorem tw7283933694935592628:True:=⟨⟩
theorem tw14104592138246447245:True:=⟨⟩
theorem tw3761410549184267597:True:=⟨⟩
theorem tw8630224296442869809:True:=⟨⟩
theorem tw6787947548731115782:True:=⟨⟩
theorem tw14654512518183821353:True:=⟨⟩
theorem tw708048472628787188:True:=⟨⟩
theorem tw6774718256889836433:True:=⟨⟩
theorem tw3106328059290036789:True:=⟨⟩
theorem tw12398541113987578745:True:=⟨⟩
theorem tw9057756827738354541:True:=⟨⟩
theorem tw14293514012853451463:True:=⟨⟩
theorem tw2646846169031337090:True:=⟨⟩
theorem tw15338260860685328197:True:=⟨⟩
theorem tw4229618303108233094:True:=⟨⟩
theorem tw17160816512213795845:True:=⟨⟩
theorem tw5012838019838978664:True:=⟨⟩
theorem tw6811594223807129509:True:=⟨⟩
theorem tw16688530662203992978:True:=⟨⟩
theorem tw13621364728787478788:True:=⟨⟩
theorem tw11443930558090492756:True:=⟨⟩
theorem tw15219892698659849844:True:=⟨⟩
theorem tw2029978409881103133:True:=⟨⟩
theorem tw9223773510357115537:True:=⟨⟩
theorem tw9774717355468776884:True:=⟨⟩
theorem tw13598490748902324314:True:=⟨⟩
theorem tw16267909489634719922:True:=⟨⟩
theorem tw1766587233833466222:True:=⟨⟩
theorem tw17599860081582414772:True:=⟨⟩
theorem tw11695776236772428555:True:=⟨⟩
theorem tw13075327816675326179:True:=⟨⟩
theorem tw8759660573400839748:True:=⟨⟩
theorem tw3605274998207827612:True:=⟨⟩
theorem tw10059995564877730580:True:=⟨⟩
theorem tw11394745145963893938:True:=⟨⟩
theorem tw11386189258992794731:True:=⟨⟩
theorem tw13526099511837790244:True:=⟨⟩
theorem tw14861184349722401815:True:=⟨⟩
theorem tw1628580266720807370:True:=⟨⟩
theorem tw17079465223544088471:True:=⟨⟩
theorem tw12872615387593072227:True:=⟨⟩
theorem tw8324283459060780938:True:=⟨⟩
theorem tw12365123652410639792:True:=⟨⟩
theorem tw17830562236749059315:True:=⟨⟩
theorem tw11388226026895846761:True:=⟨⟩
theorem tw2664954909252197784:True:=⟨⟩
theorem tw16298470825620664672:True:=⟨⟩
theorem tw581382653205026559:True:=⟨⟩
theorem tw17549279144373750003:True:=⟨⟩
theorem tw480611205568726220:True:=⟨⟩
theorem tw4594895869442690439:True:=⟨⟩
theorem tw3796365716823873236:True:=⟨⟩
theorem tw8747505622778217917:True:=⟨⟩
theorem tw11907693275967766598:True:=⟨⟩
theorem tw513780342783649099:True:=⟨⟩
theorem tw15515202362506848841:True:=⟨⟩
theorem tw7787279979504236356:True:=⟨⟩
theorem tw18197952544844333909:True:=⟨⟩
theorem tw15078980397314873057:True:=⟨⟩
theorem tw11057581178395030968:True:=⟨⟩
theorem tw8964213448139984502:True:=⟨⟩
theorem tw45147369009223875:True:=⟨⟩
theorem tw7148187715971986691:True:=⟨⟩
theorem tw15303315559799632141:True:=⟨⟩
theorem tw3733737296958141327:True:=⟨⟩
theorem tw11073717128254737268:True:=⟨⟩
theorem tw6974868237159049799:True:=⟨⟩
theorem tw2701869877545900958:True:=⟨⟩
theorem tw16646042768220461706:True:=⟨⟩
theorem tw5139155940022628918:True:=⟨⟩
theorem tw156313148439820426:True:=⟨⟩
theorem tw16823896481615828064:True:=⟨⟩
theorem tw193942591541655796:True:=⟨⟩
theorem tw17159219718829198046:True:=⟨⟩
theorem tw4776304751167849577:True:=⟨⟩
theorem tw689836172444239649:True:=⟨⟩
theorem tw3437456459591298505:True:=⟨⟩
theorem tw7115754341711277374:True:=⟨⟩
theorem tw6622933441324447850:True:=⟨⟩
theorem tw5474394892490053069:True:=⟨⟩
theorem tw8044954213007306272:True:=⟨⟩
theorem tw11979126506433780517:True:=⟨⟩
theorem tw13751839752071916956:True:=⟨⟩
theorem tw3778473029576148795:True:=⟨⟩
theorem tw1780714089681145623:True:=⟨⟩
theorem tw5364375154278152640:True:=⟨⟩
theorem tw8616372370711340217:True:=⟨⟩
theorem tw10746561933537474666:True:=⟨⟩
theorem tw3076048762965493877:True:=⟨⟩
theorem tw883118079047641858:True:=⟨⟩
theorem tw15582243606045674252:True:=⟨⟩
theorem tw6807518389881968021:True:=⟨⟩
theorem tw15594603696813519502:True:=⟨⟩
theorem tw8471455834301871247:True:=⟨⟩
theorem tw18252478325219059732:True:=⟨⟩
theorem tw7815601378378053566:True:=⟨⟩
theorem tw15946704355977782610:True:=⟨⟩
theorem tw8393227581099718521:True:=⟨⟩
theorem tw17530416579149081405:True:=⟨⟩
theorem tw16147046199154307916:True:=⟨⟩
theorem tw16833761258740839013:True:=⟨⟩
theorem tw10685117247919524624:True:=⟨⟩
theorem tw15815481945989151310:True:=⟨⟩
theorem tw14409437057943068446:True:=⟨⟩
theorem tw11393133165503012191:True:=⟨⟩
theorem tw2425307286334577983:True:=⟨⟩
theorem tw8050738696796925918:True:=⟨⟩
theorem tw13398590713933416720:True:=⟨⟩
theorem tw10119957293563962754:True:=⟨⟩
theorem tw13674069132508824556:True:=⟨⟩
theorem tw12015099872696415109:True:=⟨⟩
theorem tw2216611096650184522:True:=⟨⟩
theorem tw17032881745139031273:True:=⟨⟩
theorem tw14992242849653995000:True:=⟨⟩
theorem tw3128197333069859423:True:=⟨⟩
theorem tw1474858331836917662:True:=⟨⟩
theorem tw3506435555703197155:True:=⟨⟩
theorem tw8779527944850244498:True:=⟨⟩
theorem tw5892177175580378096:True:=⟨⟩
theorem tw11760173366578871018:True:=⟨⟩
theorem tw2167264804840140535:True:=⟨⟩
theorem tw8536811754970944061:True:=⟨⟩
theorem tw18271452793678635772:True:=⟨⟩
theorem tw16550162618703223842:True:=⟨⟩
theorem tw7408634402183824271:True:=⟨⟩
theorem tw17327241567412135637:True:=⟨⟩
theorem tw14605759983110340158:True:=⟨⟩
theorem tw5800733208329162591:True:=⟨⟩
theorem tw13162300555339239962:True:=⟨⟩
theorem tw17055768200505559402:True:=⟨⟩
theorem tw12915290606058002331:True:=⟨⟩
theorem tw5834868338464250573:True:=⟨⟩
theorem tw2373997578162329653:True:=⟨⟩
theorem tw7876289185186592995:True:=⟨⟩
theorem tw14539824457251490324:True:=⟨⟩
theorem tw8090499730428009471:True:=⟨⟩
theorem tw13616592584764975021:True:=⟨⟩
theorem tw18339164989125791981:True:=⟨⟩
theorem tw6224007076461357010:True:=⟨⟩
theorem tw7580347383494482196:True:=⟨⟩
theorem tw13822469043733757889:True:=⟨⟩
theorem tw7924428015872246274:True:=⟨⟩
theorem tw12668082802317904841:True:=⟨⟩
theorem tw14365750566912555843:True:=⟨⟩
theorem tw9946566056203124769:True:=⟨⟩
theorem tw16534965714249568802:True:=⟨⟩
theorem tw13691088329095871422:True:=⟨⟩
theorem tw13815691883897219209:True:=⟨⟩
theorem tw18430609700501547234:True:=⟨⟩
theorem tw15284907361910112315:True:=⟨⟩
theorem tw4181402516545767817:True:=⟨⟩
theorem tw11693133128212988412:True:=⟨⟩
theorem tw13558961006172137743:True:=⟨⟩
theorem tw5694116643074233471:True:=⟨⟩
theorem tw10079899904449596068:True:=⟨⟩
theorem tw14443918183867281686:True:=⟨⟩
theorem tw4302888374862171396:True:=⟨⟩
theorem tw335414518644969128:True:=⟨⟩
theorem tw16511917818910419288:True:=⟨⟩
theorem tw2228486667106667997:True:=⟨⟩
theorem tw17511362274835298840:True:=⟨⟩
theorem tw15793526450333132510:True:=⟨⟩
theorem tw343635889980437066:True:=⟨⟩
theorem tw2439647423589958177:True:=⟨⟩
theorem tw1314078151427168932:True:=⟨⟩
theorem tw4636451875290846041:True:=⟨⟩
theorem tw14997945704626656849:True:=⟨⟩
theorem tw13871635326739326383:True:=⟨⟩
theorem tw3937780843475344329:True:=⟨⟩
theorem tw18393692565739538471:True:=⟨⟩
theorem tw11353524991918799590:True:=⟨⟩
theorem tw14563952799801923993:True:=⟨⟩
theorem tw11281678723363680350:True:=⟨⟩
theorem tw6786621640579509723:True:=⟨⟩
theorem tw15506894108910231752:True:=⟨⟩
theorem tw2723908558886298686:True:=⟨⟩
theorem tw15789245621124942702:True:=⟨⟩
theorem tw16168251052492288043:True:=⟨⟩
theorem tw5114550653015537426:True:=⟨⟩
theorem tw6439284546354077449:True:=⟨⟩
theorem tw16945997510715278881:True:=⟨⟩
theorem tw864260384630640271:True:=⟨⟩
theorem tw11072675648248309494:True:=⟨⟩
theorem tw4423801187591023116:True:=⟨⟩
theorem tw11886623288624646014:True:=⟨⟩
theorem tw12661218733514547944:True:=⟨⟩
theorem tw10309035366112526901:True:=⟨⟩
theorem tw14703208837549938606:True:=⟨⟩
theorem tw15117294358567439620:True:=⟨⟩
theorem tw4088684566564779982:True:=⟨⟩
theorem tw13256358839570142658:True:=⟨⟩
theorem tw3264594966806318853:True:=⟨⟩
theorem tw791714473717767740:True:=⟨⟩
theorem tw6448493297917328276:True:=⟨⟩
theorem tw985410614058731258:True:=⟨⟩
theorem tw14774742997047890261:True:=⟨⟩
theorem tw10767441896778233111:True:=⟨⟩
theorem tw7426425219033975187:True:=⟨⟩
theorem tw11876224987377042716:True:=⟨⟩
theorem tw17216658114379706201:True:=⟨⟩
theorem tw8790256010101000095:True:=⟨⟩
theorem tw6195447174081425588:True:=⟨⟩
theorem tw3402994288359247764:True:=⟨⟩
theorem tw18195645502578784433:True:=⟨⟩
theorem tw14688470424653206124:True:=⟨⟩
theorem tw13414300202000897590:True:=⟨⟩
theorem tw13219053189851838460:True:=⟨⟩
theorem tw18060382314068447951:True:=⟨⟩
theorem tw7554204463953823015:True:=⟨⟩
theorem tw11755442471578857305:True:=⟨⟩
theorem tw6176905842181469380:True:=⟨⟩
theorem tw16487516644903385856:True:=⟨⟩
theorem tw1451916093227660410:True:=⟨⟩
theorem tw955774382781132568:True:=⟨⟩
theorem tw3940438526752995803:True:=⟨⟩
theorem tw4591477772419096235:True:=⟨⟩
theorem tw8948734190558121312:True:=⟨⟩
theorem tw3217093185945290182:True:=⟨⟩
theorem tw5802807275169391378:True:=⟨⟩
theorem tw3677404789952335977:True:=⟨⟩
theorem tw4319979915818753077:True:=⟨⟩
theorem tw4276540942571548738:True:=⟨⟩
theorem tw10005681129283865875:True:=⟨⟩
theorem tw9481114147204585899:True:=⟨⟩
theorem tw16612819976416692324:True:=⟨⟩
theorem tw3500297247004276333:True:=⟨⟩
theorem tw15997578150243165171:True:=⟨⟩
theorem tw13113831662484935132:True:=⟨⟩
theorem tw8186191234148972879:True:=⟨⟩
theorem tw5210951572932095366:True:=⟨⟩
theorem tw12262785964880647917:True:=⟨⟩
theorem tw2868947082524465930:True:=⟨⟩
theorem tw15877397109079779278:True:=⟨⟩
theorem tw13713954933266680789:True:=⟨⟩
theorem tw5188517140056016583:True:=⟨⟩
theorem tw642344384903401284:True:=⟨⟩
theorem tw4050295719157975419:True:=⟨⟩
theorem tw11954839640307936312:True:=⟨⟩
theorem tw16476335063326136123:True:=⟨⟩
theorem tw15167357983906392438:True:=⟨⟩
theorem tw3349459682190598905:True:=⟨⟩
theorem tw3845262678851139485:True:=⟨⟩
theorem tw1826356663995961447:True:=⟨⟩
theorem tw17470069307290630542:True:=⟨⟩
theorem tw10911704542228890285:True:=⟨⟩
theorem tw11127377694701561082:True:=⟨⟩
theorem tw17842940999950340343:True:=⟨⟩
theorem tw17788854592585753516:True:=⟨⟩
theorem tw11515756000030856387:True:=⟨⟩
theorem tw6587672450758401997:True:=⟨⟩
theorem tw9619380540193156647:True:=⟨⟩
theorem tw212445354522972657:True:=⟨⟩
theorem tw9152047958101482805:True:=⟨⟩
theorem tw3486224570945311779:True:=⟨⟩
theorem tw12265619685973602666:True:=⟨⟩
theorem tw793012954716804116:True:=⟨⟩
theorem tw17585523893722669738:True:=⟨⟩
theorem tw10094741956175101204:True:=⟨⟩
theorem tw11202764746151328499:True:=⟨⟩
theorem tw2785930098954204190:True:=⟨⟩
theorem tw17899477151820633477:True:=⟨⟩
theorem tw10444941486604318601:True:=⟨⟩
theorem tw17423625502419152687:True:=⟨⟩
theorem tw11819334420987832018:True:=⟨⟩
theorem tw6854368049845965023:True:=⟨⟩
theorem tw11846644196088636771:True:=⟨⟩
theorem tw7027822777507474699:True:=⟨⟩
theorem tw13740579324230158029:True:=⟨⟩
theorem tw4333807113915018218:True:=⟨⟩
theorem tw13118203113357964603:True:=⟨⟩
theorem tw10839035973147909440:True:=⟨⟩
theorem tw2477063909189105494:True:=⟨⟩
theorem tw16014879413982107929:True:=⟨⟩
theorem tw7669030398778257450:True:=⟨⟩
theorem tw6297784012356236715:True:=⟨⟩
theorem tw18439017184472399067:True:=⟨⟩
theorem tw3028212861637499216:True:=⟨⟩
theorem tw11253118983870905917:True:=⟨⟩
theorem tw11052320219447454185:True:=⟨⟩
theorem tw13686527356976160113:True:=⟨⟩
theorem tw13352019313252254367:True:=⟨⟩
theorem tw16152227161692542689:True:=⟨⟩
theorem tw1926209591807805346:True:=⟨⟩
theorem tw696271806736796911:True:=⟨⟩
theorem tw10288935117305350583:True:=⟨⟩
theorem tw15947114650828539811:True:=⟨⟩
theorem tw1424194289453069072:True:=⟨⟩
theorem tw3808359751150577364:True:=⟨⟩
theorem tw6924484239127029151:True:=⟨⟩
theorem tw4023294145658850457:True:=⟨⟩
theorem tw563814049207766508:True:=⟨⟩
theorem tw10278789484262789769:True:=⟨⟩
theorem tw15865118317572715880:True:=⟨⟩
theorem tw1319764816870307116:True:=⟨⟩
theorem tw7003612347420178729:True:=⟨⟩
theorem tw13588501360047737307:True:=⟨⟩
theorem tw8865747469823597295:True:=⟨⟩
theorem tw14591075012453621808:True:=⟨⟩
theorem tw1608281435478124373:True:=⟨⟩
theorem tw10673012263613552814:True:=⟨⟩
theorem tw15490086955118786880:True:=⟨⟩
theorem tw16359474855642098802:True:=⟨⟩
theorem tw9157164174311122404:True:=⟨⟩
theorem tw2007144026358553100:True:=⟨⟩
theorem tw11016741997697228462:True:=⟨⟩
theorem tw2150471110714166744:True:=⟨⟩
theorem tw14996903635246257222:True:=⟨⟩
theorem tw8916830188474067971:True:=⟨⟩
theorem tw13233269802973540349:True:=⟨⟩
theorem tw10426608788724675947:True:=⟨⟩
theorem tw13207173225465533591:True:=⟨⟩
theorem tw7553697234001313615:True:=⟨⟩
theorem tw14072492786123097549:True:=⟨⟩
theorem tw13109332400998383360:True:=⟨⟩
theorem tw12373560519225494294:True:=⟨⟩
theorem tw18122599199965175081:True:=⟨⟩
theorem tw10610646066399683484:True:=⟨⟩
theorem tw4003401662795362063:True:=⟨⟩
theorem tw16472544031894165106:True:=⟨⟩
theorem tw1415287352743056706:True:=⟨⟩
theorem tw4470942140216437512:True:=⟨⟩
theorem tw15348112871808465297:True:=⟨⟩
theorem tw2311885732672793465:True:=⟨⟩
theorem tw5805980487837786710:True:=⟨⟩
theorem tw7746330977842795348:True:=⟨⟩
theorem tw9107216235518482041:True:=⟨⟩
theorem tw13639517394651125480:True:=⟨⟩
theorem tw13825288796697149107:True:=⟨⟩
theorem tw12874039423247504835:True:=⟨⟩
theorem tw4945664885704269167:True:=⟨⟩
theorem tw8305556855329998596:True:=⟨⟩
theorem tw5895499403676839239:True:=⟨⟩
theorem tw12567941517728335557:True:=⟨⟩
theorem tw12586339006907277668:True:=⟨⟩
theorem tw17474417358527705253:True:=⟨⟩
theorem tw18322455843742889822:True:=⟨⟩
theorem tw6853983294863085634:True:=⟨⟩
theorem tw18437009829064790335:True:=⟨⟩
theorem tw3915663736231020022:True:=⟨⟩
theorem tw2284783661422345497:True:=⟨⟩
theorem tw1229495612114209193:True:=⟨⟩
theorem tw11817318496333087287:True:=⟨⟩
theorem tw12148270245221312374:True:=⟨⟩
theorem tw12754992877067934436:True:=⟨⟩
theorem tw5841926395557485460:True:=⟨⟩
theorem tw4507029320656698324:True:=⟨⟩
theorem tw16303483583278322232:True:=⟨⟩
theorem tw14137864734890230976:True:=⟨⟩
theorem tw9575532974490055089:True:=⟨⟩
theorem tw2914453321451189745:True:=⟨⟩
theorem tw754626712557406840:True:=⟨⟩
theorem tw3090025713081055650:True:=⟨⟩
theorem tw11320271739971451490:True:=⟨⟩
theorem tw13847757597507138587:True:=⟨⟩
theorem tw14917928668703784763:True:=⟨⟩
theorem tw15424207115540882670:True:=⟨⟩
theorem tw279775210761479771:True:=⟨⟩
theorem tw3645943840939280871:True:=⟨⟩
theorem tw11989867103849634196:True:=⟨⟩
theorem tw17651214593469725769:True:=⟨⟩
theorem tw12666482404426100093:True:=⟨⟩
theorem tw2007267028542911824:True:=⟨⟩
theorem tw17197229665375902371:True:=⟨⟩
theorem tw6204741699972767941:True:=⟨⟩
theorem tw1246044759420040538:True:=⟨⟩
theorem tw2109252827739482880:True:=⟨⟩
theorem tw756078140701830076:True:=⟨⟩
theorem tw8891217532142816487:True:=⟨⟩
theorem tw13747306916470785711:True:=⟨⟩
theorem tw1531289784527636038:True:=⟨⟩
theorem tw5755031133489787873:True:=⟨⟩
theorem tw503152782923499275:True:=⟨⟩
theorem tw2752779815648878857:True:=⟨⟩
theorem tw5434654385795963535:True:=⟨⟩
theorem tw7638560272122082115:True:=⟨⟩
theorem tw10478735789757026083:True:=⟨⟩
theorem tw10239391810495890733:True:=⟨⟩
theorem tw12771931704262585290:True:=⟨⟩
theorem tw6708321217532935637:True:=⟨⟩
theorem tw13093805654122848243:True:=⟨⟩
theorem tw5274217014986665395:True:=⟨⟩
theorem tw7959703209125457253:True:=⟨⟩
theorem tw4960651922908747205:True:=⟨⟩
theorem tw9679236099775799505:True:=⟨⟩
theorem tw17310427507496217311:True:=⟨⟩
theorem tw13566588344283496052:True:=⟨⟩
theorem tw1084920439907301428:True:=⟨⟩
theorem tw8875785560861078068:True:=⟨⟩
theorem tw15532709149895072041:True:=⟨⟩
theorem tw6480959265768731572:True:=⟨⟩
theorem tw5659956434422060085:True:=⟨⟩
theorem tw7626680843979925374:True:=⟨⟩
theorem tw5703730154162423288:True:=⟨⟩
theorem tw166316359460990683:True:=⟨⟩
theorem tw16838064506332327210:True:=⟨⟩
theorem tw3248221521865503904:True:=⟨⟩
theorem tw1628088224851203344:True:=⟨⟩
theorem tw11332774540472602938:True:=⟨⟩
theorem tw16148570806594097771:True:=⟨⟩
theorem tw344379647628512233:True:=⟨⟩
theorem tw13157559038965688230:True:=⟨⟩
theorem tw5230755808373075935:True:=⟨⟩
theorem tw2285470173029798743:True:=⟨⟩
theorem tw3890294825186028311:True:=⟨⟩
theorem tw16005896741120188277:True:=⟨⟩
theorem tw13081904179015000080:True:=⟨⟩
theorem tw14030647761802526880:True:=⟨⟩
theorem tw13229357639440474782:True:=⟨⟩
theorem tw11694723185722251413:True:=⟨⟩
theorem tw2651099432885170145:True:=⟨⟩
theorem tw8482290235536170286:True:=⟨⟩
theorem tw10199027832645609088:True:=⟨⟩
theorem tw2484656748120191261:True:=⟨⟩
theorem tw4451973442796725709:True:=⟨⟩
theorem tw15014962867642719314:True:=⟨⟩
theorem tw13157095716231470584:True:=⟨⟩
theorem tw15792405193492438008:True:=⟨⟩
theorem tw13828634689342515364:True:=⟨⟩
theorem tw17173619032987062780:True:=⟨⟩
theorem tw12815042645279541327:True:=⟨⟩
theorem tw1119135925219336651:True:=⟨⟩
theorem tw493910211622817964:True:=⟨⟩
theorem tw11059217321165848907:True:=⟨⟩
theorem tw5248785024728765000:True:=⟨⟩
theorem tw3004141566172530921:True:=⟨⟩
theorem tw4920330410014926805:True:=⟨⟩
theorem tw14522622866839742104:True:=⟨⟩
theorem tw10138229025878984120:True:=⟨⟩
theorem tw2462939508278406034:True:=⟨⟩
theorem tw52561142871714894:True:=⟨⟩
theorem tw18026030424127890369:True:=⟨⟩
theorem tw15441076300344296960:True:=⟨⟩
theorem tw3727804807813426492:True:=⟨⟩
theorem tw16823379108187027401:True:=⟨⟩
theorem tw18159193013794012943:True:=⟨⟩
theorem tw4418530628527882624:True:=⟨⟩
theorem tw873253959974958373:True:=⟨⟩
theorem tw18204752704693088573:True:=⟨⟩
theorem tw18189275553875770262:True:=⟨⟩
theorem tw15145667421455749891:True:=⟨⟩
theorem tw3216849994609286897:True:=⟨⟩
theorem tw10369187856847052313:True:=⟨⟩
theorem tw8538421404265912486:True:=⟨⟩
theorem tw10186307186129518361:True:=⟨⟩
theorem tw11878920497999555448:True:=⟨⟩
theorem tw6584917300181365738:True:=⟨⟩
theorem tw16317339052323731772:True:=⟨⟩
theorem tw6575209251605623048:True:=⟨⟩
theorem tw2731658707001873016:True:=⟨⟩
theorem tw6971451306893119254:True:=⟨⟩
theorem tw9547669128036757212:True:=⟨⟩
theorem tw12698401678763862890:True:=⟨⟩
theorem tw17656041228745140947:True:=⟨⟩
theorem tw9213541998287932216:True:=⟨⟩
theorem tw1990699249068665130:True:=⟨⟩
theorem tw4126196035383536949:True:=⟨⟩
theorem tw9723777619755555758:True:=⟨⟩
theorem tw5067866529660535447:True:=⟨⟩
theorem tw9159879901242180095:True:=⟨⟩
theorem tw11082147763529656539:True:=⟨⟩
theorem tw14955658454957121999:True:=⟨⟩
theorem tw2320753697081066136:True:=⟨⟩
theorem tw17995408527781197305:True:=⟨⟩
theorem tw5588933879927666946:True:=⟨⟩
theorem tw15264460352870590358:True:=⟨⟩
theorem tw1546381688422194520:True:=⟨⟩
theorem tw2074414240635013858:True:=⟨⟩
theorem tw15519854144738828002:True:=⟨⟩
theorem tw2979393419539639673:True:=⟨⟩
theorem tw3820154762737953809:True:=⟨⟩
theorem tw5954771208745136373:True:=⟨⟩
theorem tw901501309776844730:True:=⟨⟩
theorem tw15545471670572946910:True:=⟨⟩
theorem tw15344030495062420352:True:=⟨⟩
theorem tw2883432938398708169:True:=⟨⟩
theorem tw6102731845394372002:True:=⟨⟩
theorem tw8291334994849941758:True:=⟨⟩
theorem tw3388362351969963546:True:=⟨⟩
theorem tw7151198473686441356:True:=⟨⟩
theorem tw12071841079083891657:True:=⟨⟩
theorem tw18164729111498502520:True:=⟨⟩
theorem tw13539739166628903738:True:=⟨⟩
theorem tw18391269036635783609:True:=⟨⟩
theorem tw6469841170922567543:True:=⟨⟩
theorem tw5200934784464335573:True:=⟨⟩
theorem tw11789911057267344492:True:=⟨⟩
theorem tw11153533931941917834:True:=⟨⟩
theorem tw9360118746354122518:True:=⟨⟩
theorem tw5635926276706682799:True:=⟨⟩
theorem tw6472275102112145306:True:=⟨⟩
theorem tw4086105576358010312:True:=⟨⟩
theorem tw13144742193588529264:True:=⟨⟩
theorem tw11385068067685730186:True:=⟨⟩
theorem tw17926209725496992687:True:=⟨⟩
theorem tw6627164370586438236:True:=⟨⟩
theorem tw740677722502961018:True:=⟨⟩
theorem tw2595985992793151219:True:=⟨⟩
theorem tw14371384927407527798:True:=⟨⟩
theorem tw15374856226727653241:True:=⟨⟩
theorem tw14275716745405085263:True:=⟨⟩
theorem tw3500831559548673658:True:=⟨⟩
theorem tw7163768353398588586:True:=⟨⟩
theorem tw11152800445897867593:True:=⟨⟩
theorem tw2107267205115076396:True:=⟨⟩
theorem tw11899863572547200911:True:=⟨⟩
theorem tw1585166715293452730:True:=⟨⟩
theorem tw4244765518703382635:True:=⟨⟩
theorem tw9773080182311535897:True:=⟨⟩
theorem tw10974660025532484151:True:=⟨⟩
theorem tw11401921006114582281:True:=⟨⟩
theorem tw11157774588317032691:True:=⟨⟩
theorem tw8378929865232324228:True:=⟨⟩
theorem tw10458109580984494742:True:=⟨⟩
theorem tw18269120678869142518:True:=⟨⟩
theorem tw16210991045479833620:True:=⟨⟩
theorem tw10834514835772671990:True:=⟨⟩
theorem tw5616532075152151650:True:=⟨⟩
theorem tw6352178473476172611:True:=⟨⟩
theorem tw3197857904604516576:True:=⟨⟩
theorem tw13233802168130083383:True:=⟨⟩
theorem tw15015159147633262228:True:=⟨⟩
theorem tw15078329604157562133:True:=⟨⟩
theorem tw18112237684323707884:True:=⟨⟩
theorem tw5228659621540202310:True:=⟨⟩
theorem tw13939669213352010275:True:=⟨⟩
theorem tw4779740448939509797:True:=⟨⟩
theorem tw6776195406690309160:True:=⟨⟩
theorem tw1100769680177816634:True:=⟨⟩
theorem tw18085364320817386353:True:=⟨⟩
theorem tw3025226563054427670:True:=⟨⟩
theorem tw3683574835181922262:True:=⟨⟩
theorem tw4472849514383732818:True:=⟨⟩
theorem tw501225110356810550:True:=⟨⟩
theorem tw13199231206190200887:True:=⟨⟩
theorem tw11939598134659557509:True:=⟨⟩
theorem tw7757756508066757545:True:=⟨⟩
theorem tw15020284440223895666:True:=⟨⟩
theorem tw5656209082014290449:True:=⟨⟩
theorem tw4809726806670225062:True:=⟨⟩
theorem tw2076585199931386240:True:=⟨⟩
theorem tw11985656857971565437:True:=⟨⟩
theorem tw14964716318505983717:True:=⟨⟩
theorem tw9259913760221598460:True:=⟨⟩
theorem tw6177527564453453739:True:=⟨⟩
theorem tw9826446691708512865:True:=⟨⟩
theorem tw4818767351893509955:True:=⟨⟩
theorem tw12682632586220416130:True:=⟨⟩
theorem tw18290779805575355776:True:=⟨⟩
theorem tw1589010897289065302:True:=⟨⟩
theorem tw53013593013862183:True:=⟨⟩
theorem tw13237809642029843887:True:=⟨⟩
theorem tw17584596971588265394:True:=⟨⟩
theorem tw3876216972320786149:True:=⟨⟩
theorem tw13900710382235455380:True:=⟨⟩
theorem tw4522582211751240504:True:=⟨⟩
theorem tw9994228185146193146:True:=⟨⟩
theorem tw5713867674606988427:True:=⟨⟩
theorem tw17446649884077650607:True:=⟨⟩
theorem tw8301949782906331950:True:=⟨⟩
theorem tw9430760193611573632:True:=⟨⟩
theorem tw6085806219729361822:True:=⟨⟩
theorem tw3407132293276272630:True:=⟨⟩
theorem tw7952349352131089035:True:=⟨⟩
theorem tw13881769567695957152:True:=⟨⟩
theorem tw15368149088080976109:True:=⟨⟩
theorem tw9084790438080291911:True:=⟨⟩
theorem tw7859863914059089529:True:=⟨⟩
theorem tw8724553322155274016:True:=⟨⟩
theorem tw7034083709998401524:True:=⟨⟩
theorem tw9441679019446562685:True:=⟨⟩
theorem tw1772494294785982717:True:=⟨⟩
theorem tw17485062578181981449:True:=⟨⟩
theorem tw9438843734344185663:True:=⟨⟩
theorem tw13971345979210943835:True:=⟨⟩
theorem tw3856359233119091455:True:=⟨⟩
theorem tw14963720985094645339:True:=⟨⟩
theorem tw7059609026114046194:True:=⟨⟩
theorem tw3579802230016303361:True:=⟨⟩
theorem tw7581246480584204169:True:=⟨⟩
theorem tw17501332018070102202:True:=⟨⟩
theorem tw9549205675471579194:True:=⟨⟩
theorem tw7066761725626359718:True:=⟨⟩
theorem tw13739809422766555509:True:=⟨⟩
theorem tw3215254997607267075:True:=⟨⟩
theorem tw3252354438853134227:True:=⟨⟩
theorem tw1989702847880258305:True:=⟨⟩
theorem tw12876870015067675944:True:=⟨⟩
theorem tw18270324506364546287:True:=⟨⟩
theorem tw13610077405509637039:True:=⟨⟩
theorem tw599124474282520433:True:=⟨⟩
theorem tw1656093223972153613:True:=⟨⟩
theorem tw14201599502401780235:True:=⟨⟩
theorem tw16432294096105799813:True:=⟨⟩
theorem tw13424983547340766052:True:=⟨⟩
theorem tw10619900886047330186:True:=⟨⟩
theorem tw7074186021037558732:True:=⟨⟩
theorem tw7921364329337677027:True:=⟨⟩
theorem tw5194359124781830226:True:=⟨⟩
theorem tw15196280564350846659:True:=⟨⟩
theorem tw10741116556133790583:True:=⟨⟩
theorem tw5302712356079374625:True:=⟨⟩
theorem tw4456219548869486278:True:=⟨⟩
theorem tw7211052314356829876:True:=⟨⟩
theorem tw4239382160496806063:True:=⟨⟩
theorem tw4689827861048098664:True:=⟨⟩
theorem tw4289066754646923317:True:=⟨⟩
theorem tw5415551551387521746:True:=⟨⟩
theorem tw8795185625631748723:True:=⟨⟩
theorem tw6855616972213064945:True:=⟨⟩
theorem tw1732243544655573079:True:=⟨⟩
theorem tw11374151713136056092:True:=⟨⟩
theorem tw14293302634706719884:True:=⟨⟩
theorem tw12457008976887512499:True:=⟨⟩
theorem tw1580995479367466071:True:=⟨⟩
theorem tw5893584893844638538:True:=⟨⟩
theorem tw5399985537007045695:True:=⟨⟩
theorem tw17242303604108290635:True:=⟨⟩
theorem tw9720758843649819451:True:=⟨⟩
theorem tw7033385725791283060:True:=⟨⟩
theorem tw8052108011929095878:True:=⟨⟩
theorem tw16890891773864988052:True:=⟨⟩
theorem tw5567833322128490175:True:=⟨⟩
theorem tw10785066908953291565:True:=⟨⟩
theorem tw14447743095674866560:True:=⟨⟩
theorem tw5798716620853737042:True:=⟨⟩
theorem tw17012395299387921521:True:=⟨⟩
theorem tw2141395003940763926:True:=⟨⟩
theorem tw5012690034755008191:True:=⟨⟩
theorem tw1522614608285376287:True:=⟨⟩
theorem tw14382066330955605339:True:=⟨⟩
theorem tw11808510414271622442:True:=⟨⟩
theorem tw7689368447254998778:True:=⟨⟩
theorem tw9287163540619901078:True:=⟨⟩
theorem tw16342577667811358573:True:=⟨⟩
theorem tw13279251637603052327:True:=⟨⟩
theorem tw16231525276020704395:True:=⟨⟩
theorem tw9413576028466945249:True:=⟨⟩
theorem tw3585443645460617513:True:=⟨⟩
theorem tw16096265244388988548:True:=⟨⟩
theorem tw4836409929155446586:True:=⟨⟩
theorem tw8217947429916947171:True:=⟨⟩
theorem tw16710101300152284313:True:=⟨⟩
theorem tw12496763760294327104:True:=⟨⟩
theorem tw6565001309957787310:True:=⟨⟩
theorem tw5285630216907445937:True:=⟨⟩
theorem tw7008884843631400694:True:=⟨⟩
theorem tw5953892108655037026:True:=⟨⟩
theorem tw12820998379345827242:True:=⟨⟩
theorem tw4377981487625478127:True:=⟨⟩
theorem tw3423902028514209104:True:=⟨⟩
theorem tw10750039800359708711:True:=⟨⟩
theorem tw15786816081211073196:True:=⟨⟩
theorem tw3946946155567031269:True:=⟨⟩
theorem tw5563460995045148953:True:=⟨⟩
theorem tw15395884387509692004:True:=⟨⟩
theorem tw7025569651302116152:True:=⟨⟩
theorem tw16943206982435282345:True:=⟨⟩
theorem tw4262582188146236917:True:=⟨⟩
theorem tw692494540623410870:True:=⟨⟩
theorem tw1978788821262939556:True:=⟨⟩
theorem tw1697510444121411612:True:=⟨⟩
theorem tw6807566779852966257:True:=⟨⟩
theorem tw1867923106692586529:True:=⟨⟩
theorem tw17933228190526469493:True:=⟨⟩
theorem tw6120493719033272380:True:=⟨⟩
theorem tw16861306962466809424:True:=⟨⟩
theorem tw17234937502554820681:True:=⟨⟩
theorem tw12098641898125878274:True:=⟨⟩
theorem tw18272746010960370875:True:=⟨⟩
theorem tw7142410958335548705:True:=⟨⟩
theorem tw5307435041909625113:True:=⟨⟩
theorem tw13762418692541360036:True:=⟨⟩
theorem tw642654963262230039:True:=⟨⟩
theorem tw11112674032177090360:True:=⟨⟩
theorem tw14238892564168197114:True:=⟨⟩
theorem tw156266774697220957:True:=⟨⟩
theorem tw4577353641410968805:True:=⟨⟩
theorem tw6293839021297011324:True:=⟨⟩
theorem tw1926312002000813091:True:=⟨⟩
theorem tw16736752678113522526:True:=⟨⟩
theorem tw6174236308089260558:True:=⟨⟩
theorem tw13819139432363556278:True:=⟨⟩
theorem tw7293992777719765762:True:=⟨⟩
theorem tw12514600038579706803:True:=⟨⟩
theorem tw11579994586121783578:True:=⟨⟩
theorem tw15514503970833258274:True:=⟨⟩
theorem tw5948912259706163157:True:=⟨⟩
theorem tw15927497362909406324:True:=⟨⟩
theorem tw14811677668045488416:True:=⟨⟩
theorem tw15024612721057917867:True:=⟨⟩
theorem tw1472485069867299614:True:=⟨⟩
theorem tw9641439315831830972:True:=⟨⟩
theorem tw14444046094960057706:True:=⟨⟩
theorem tw3531607442038419532:True:=⟨⟩
theorem tw1959930714320987508:True:=⟨⟩
theorem tw12715316140384730308:True:=⟨⟩
theorem tw833178552673929641:True:=⟨⟩
theorem tw5890266998113199482:True:=⟨⟩
theorem tw5744527054676913879:True:=⟨⟩
theorem tw12298418261302965396:True:=⟨⟩
theorem tw7762708999545175719:True:=⟨⟩
theorem tw6919675896229472848:True:=⟨⟩
theorem tw8919653251478399397:True:=⟨⟩
theorem tw922854405633473143:True:=⟨⟩
theorem tw12684832318285701230:True:=⟨⟩
theorem tw11896362835511400301:True:=⟨⟩
theorem tw7956844423346950125:True:=⟨⟩
theorem tw16514902371134123545:True:=⟨⟩
end PySem.W.Fast
open PySem PySem.W PyProof.Rows
set_option maxRecDepth 100000 in
set_option maxHeartbeats 0 in
theorem PySem.Challenge.cw_strokegrow_k53_whole_part_drawn_holds : PySem.Challenge.rw_strokegrow_k53_whole_part_drawn.Holds := by
 w_on;o_law;k_head;(case hw=>w_witness2)
 k_fill
 refine L2.Ie (l:=PySem.Challenge.rw_strokegrow_k53_whole_part_drawn) (n:=63) (k:=12) (x:="_law_script") (CX:=Pf.CX) (sp:=fun K=>Pf.KO K) rfl (by decide) rfl ⟨rfl,by decide,by decide⟩ (fun w h Y=>PySem.W.kIn_of Y) ?F ?S ?C
 case F=>
   intro w mg fa h KX G UE
   have T:∃ t,Pf.Txt (L2.KOf KX) mg t∧t.rE=fa:=by
     dsimp only [L2.KOf]
     obtain⟨t,T,e⟩:∃ t,Pf.Txt _ mg t∧t.rE=_:=by
       refine' Pf.RW KX G ?_ ?_ ?_ ?_ ?_ ?_ ?_ ?_ ?_ ?_ ?_ ?_ ?_ ?_ ?_ ?_ ?_ ?_ ?_ ?_ ?_ ?_ ?_ ?_ ?_ ?_ ?_ ?_ ?_ ?_ ?_ ?_ ?_ ?_ ?_ ?_ ?_ ?_ ?_ ?_ ?_ ?_ ?_ ?_ ?_ ?_ ?_ ?_ ?_ ?_ ?_ ?_ ?_ ?_ ?_ ?_ ?_ ?_ ?_ ?_ ?_ ?_ ?_ ?_ ?_ ?_ ?_ ?_ ?_ ?_ ?_ ?_ ?_ ?_ ?_ ?_ ?_ ?_ ?_ ?_ ?_ ?_ ?_ ?_ ?_ ?_ ?_ ?_ ?_ ?_ ?_ ?_ ?_ ?_ ?_ ?_ ?_ ?_ ?_ ?_ ?_ ?_ ?_ ?_ ?_ ?_ ?_ ?_ ?_ ?_ ?_ ?_ ?_ ?_ ?_ ?_ ?_ ?_ ?_ ?_ ?_ ?_ ?_ ?_ ?_ ?_ ?_ ?_ ?_ ?_ ?_ ?_ ?_ ?_ ?_ ?_ ?_ ?_ ?_ ?_ ?_ ?_ ?_ ?_ ?_ ?_ ?_ ?_ ?_ ?_ ?_ ?_ ?_ ?_ ?_ ?_ ?_ ?_ ?_ ?_ ?_ ?_ ?_ ?_ ?_ ?_ ?_ ?_ ?_ ?_ ?_ ?_ ?_ ?_ ?_ ?_ ?_
       any_goals walk_at "z"
     refine⟨t,T,?_⟩
     have e0:=UE.symm.trans (T.g T.BS.a)
     cases e0
     rfl
   obtain⟨t,T,e⟩:=T
   subst e
   refine' ⟨t.wC,?b,fun base kb nb=>Pf.Td T⟩
   exact Pf.RX T
 case S=>exact fun K H a ns hl hO hS=>Pf.Sz hl hS
 case C=>exact fun H s e s' h=>h
