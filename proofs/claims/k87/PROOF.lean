import PyProof.Rows.All
import Wide.All
import OpenK.AllK
import Wide.FinOn
import Lean
import PyProof.EqAt
import PyProof.EqKinds
import PyProof.TupleCall
import PyProof.WalksEnum
import PyProof.EnumMake
import PyProof.ZipIter
import PyProof.ReprStr
import PyProof.StrBlockG
import PyProof.StrWalks
import PyProof.FString5
import PyProof.ConsumeWalk
import PyProof.SumAny
import PyProof.StrCalls2
import KE.KDictList
import PyProof.Draws
import PyProof.StrBlock2
import PyProof.DictIter
import PyProof.ExcInit
import PyProof.ExcClass3
import PyProof.FString
import PyProof.FitsInt
import PyProof.StrLawsRepr
import PyProof.Rows.Range3
import PyProof.StrCalls
import PyProof.ListRange
import PyProof.AttrMissHeap
import KE.KDictOf
import PyProof.StrCalls3
import PyProof.FactsAll.dict_2
import PyProof.MeetsIn
import PyProof.Cells
import KE.KDictSum
import PyProof.DictWalks
import KE.KRevIter
import PyProof.FactsAll.subtypes_3
import PyProof.Rows.SortWalk
import KE.KSortedM
import PyProof.Rows.SortStr
import PyProof.MinMaxWalk
import PyProof.WalkInts
import PyProof.SeqI3
import PyProof.Rows.CallKwBuiltin
import KE.KUnpack
import PyProof.Rows.SeqMore2
import PyProof.LongRange
import PySem.Challenge.RW_strokegrow_k87_whole_path_shows_what_tab
theorem AA3 {a b:Nat}(h:Nat.ble a b=true:=by rfl):a<=b:=Nat.le_of_ble_eq_true h
set_option Elab.async false
set_option linter.all false
set_option maxRecDepth 100000
section
set_option genSizeOf false
set_option genInjectivity false
open List renaming getElem?_eq_getElem→k3, length_map→Bn, getD_eq_getElem?_getD→WY, getElem?_map→aab, getElem?_eq_some_iff→aad, getElem?_set_self→aae, getElem?_set_ne→aaf, range→aag, replicate→aah, map_map→aam, size_toArray→aan, map_cons→aao, mem_append_right→aaq, getElem?_range→aar, length_append→aas, length_take→aat, mem_cons→aau, getElem?_eq_none→aaw, getElem?_append_left→aay, getElem?_append_right→aaz, length_range→aaA, filter_eq_self→aaC, mem_cons_of_mem→aaG, length_cons→aaI, getElem_mem→aaJ, getElem_map→aaK, mem_map→aaM, lookup_cons→aaO, map_append→aaP, getElem?_replicate→aaR, append_nil→aaS, eq_nil_of_length_eq_zero→aaU, pairwise_iff_getElem→aaV, length_drop→aaW, flatten_cons→aaZ, take_add_one→aa0, getElem?_cons_succ→aa1, mem_cons_self→aa3, mem_iff_getElem→aa4, take_of_length_le→aa6, take_length→aa7, find?_cons→aa9, dropLast_concat_getLast→aba, replicate_succ→abc, mem_append→abd, length→abf, mem_of_getElem?→abi, flatMap_cons→abj, length_dropLast→abl, getElem_take→abm, sum_cons→abn, mem_range→abp, nodup_cons→abr, not_mem_nil→abv, length_reverse→abw, map_congr_left→abx, flatten_append→aby, any_cons→abz, forIn_cons→abA, lookup→abB, filter_cons_of_neg→abD, filter_cons_of_pos→abE, ext_getElem?→abH, all_eq_true→abL, ext_getElem→abM, all_cons→abN, range'→abP, length_set→abR, range_succ→abS, countP_map→abT, filterMap_cons→abU, forIn_nil→abV, drop_zero→abW, map_take→abX
open PySem.Heap renaming get?_push_of_some→Vf, get?_push_size→aai, lt_size→aaj, size_push→aaT, SameBut→aaX, get?_update_other→abF, get?_update_self→abI
open Exists renaming elim→aaa
open Nat renaming le_refl→aac, lt_of_lt_of_le→aak, ne_of_lt→aap, le_trans→aav, le_of_ble_eq_true→aaD, lt_of_le_of_lt→aaH, zero_le→aaQ, le_of_lt→aa5, lt_irrefl→aa8, le_succ→abe, lt_succ_self→abg, ne_of_gt→abk, le_add_right→abq, succ_ne_self→abu, lt_succ_of_lt→abG, le_of_not_lt→abK, pow_le_pow_right→abO
open Bool renaming false_ne_true→aal, and_eq_true→aaN, false_eq_true→abh, eq_iff_iff→abQ
open Or renaming inr→aaB, inl→aaL
open Int renaming emod_nonneg→aaE, emod_lt_of_pos→aaF, toNat_natCast→aaY, ne_of_gt→abb
open Array renaming length_toList→abo, getElem?_eq_some_iff→abt, getElem?_toList→abJ
namespace L2
open PySem PySem.Spec PyProof.Rows
noncomputable abbrev Key:=Sum Int Str
noncomputable def xf:Key->Value->Bool
 | .inl k,v=>Value.isInt k v
 | .inr x,v=>Value.isStrOf x v
noncomputable def VV (w:World):Key->Int
 | .inl k=>hashInt k
 | .inr x=>hashStr w x
theorem cH:∀ {k:Key} {v:Value},xf k v=true->(∃ i t,k=Sum.inl i/\v=Value.int i t)\/(∃ x t,k=Sum.inr x/\v=Value.str x t)
 | .inl i,v,h=>by
   obtain⟨t,e⟩:=Value.isInt_shape (k:=i) (v:=v) h
   exact .inl ⟨i,t,rfl,e⟩
 | .inr x,v,h=>by
   obtain⟨t,e⟩:=Value.isStrOf_shape (x:=x) (v:=v) h
   exact .inr ⟨x,t,rfl,e⟩
theorem Em (i:Int)(t:Tok):xf (.inl i) (.int i t)=true:=by simp[xf,Value.isInt]
theorem En (x:Str)(t:Tok):xf (.inr x) (.str x t)=true:=by simp[xf,Value.isStrOf]
theorem NX (a b:Int):decide ((Sum.inl a:Key)=Sum.inl b)=(a == b):=by
 by_cases e:a=b
 . subst e;simp
 . have h:¬ (Sum.inl a:Key)=Sum.inl b:=fun q=>e (Sum.inl.inj q)
   rw[decide_eq_false h]
   exact(beq_eq_false_iff_ne.mpr e).symm
theorem NY (a b:Str):decide ((Sum.inr a:Key)=Sum.inr b)=decide (a=b):=by
 by_cases e:a=b
 . subst e;simp
 . have h:¬ (Sum.inr a:Key)=Sum.inr b:=fun q=>e (Sum.inr.inj q)
   rw[decide_eq_false h,decide_eq_false e]
theorem NZ (a:Int)(b:Str):decide ((Sum.inl a:Key)=Sum.inr b)=false:=decide_eq_false (fun q=>nomatch q)
theorem N1 (a:Str)(b:Int):decide ((Sum.inr a:Key)=Sum.inl b)=false:=decide_eq_false (fun q=>nomatch q)
noncomputable def cz (prog:Program)(w:World):PySem.KeyKind prog w Key where
 is:=xf
 hash:=VV w
 inj:=fun v a b ha hb=>by
   rcases cH ha with⟨i,t,rfl,rfl⟩ | ⟨x,t,rfl,rfl⟩
   . rcases cH hb with⟨j,u,rfl,e⟩ | ⟨y,u,rfl,e⟩
     . injection e with e1 _;rw[e1]
     . exact nomatch e
   . rcases cH hb with⟨j,u,rfl,e⟩ | ⟨y,u,rfl,e⟩
     . exact nomatch e
     . injection e with e1 _;rw[e1]
 byValue:=fun k v h=>by
   rcases cH h with⟨i,t,rfl,rfl⟩ | ⟨x,t,rfl,rfl⟩ <;> rfl
 pyHash:=fun hv h=>by
   rcases cH hv with⟨i,t,rfl,rfl⟩ | ⟨x,t,rfl,rfl⟩
   . exact wpAny_pyHash_int h
   . exact wpAny_pyHash_str h
 eqBool:=fun hu hv h=>by
   rcases cH hu with⟨i,t,rfl,rfl⟩ | ⟨x,t,rfl,rfl⟩
   . rcases cH hv with⟨j,u,rfl,rfl⟩ | ⟨y,u,rfl,rfl⟩
     . rw[NX] at h;exact wpAny_eqBool_int h
     . rw[NZ] at h;exact SeqAt.EqAt.int_str i t y u _ _ _ _ h
   . rcases cH hv with⟨j,u,rfl,rfl⟩ | ⟨y,u,rfl,rfl⟩
     . rw[N1] at h;exact SeqAt.EqAt.str_int x t j u _ _ _ _ h
     . rw[NY] at h;exact wpAny_eqBool_str h
 «strs»:=fun k x t v h=>by
   rcases cH h with⟨i,u,rfl,e⟩ | ⟨y,u,rfl,e⟩
   . exact nomatch e
   . injection e with e1 _
     subst e1
     cases v <;> rfl
theorem zP (prog:Program)(w:World)(i:Int)(t:Tok):(cz prog w).is (.inl i) (.int i t)=true:=Em i t
theorem zQ (prog:Program)(w:World)(x:Str)(t:Tok):(cz prog w).is (.inr x) (.str x t)=true:=En x t
set_option genInjectivity true in
inductive V where
 | cy | bl (b:Bool) | int (i:Int) | str (x:Str) | F3 (b:Array UInt8) | Rn (b:UInt64) | ref (a:Addr) | ty (n:String)
 deriving DecidableEq
def RelV:V->Value->Prop
 | .cy,u=>u=Value.none
 | .bl b,u=>u=Value.bool b
 | .int i,u=>∃ t,u=Value.int i t
 | .str x,u=>∃ t,u=Value.str x t
 | .F3 b,u=>∃ t,u=Value.bytes b t
 | .Rn b,u=>∃ t,u=Value.float b t
 | .ref a,u=>u=Value.ref a
 | .ty n,u=>u=Value.type n
abbrev Vals:List V->List Value->Prop:=Paired RelV
theorem Vals.length {xs:List V}{us:List Value}(r:Vals xs us):xs.length=us.length:=Paired.length r
theorem Vals.get:∀ {xs:List V} {us:List Value} {i:Nat} {x:V},Vals xs us->xs[i]?=some x->∃ u,us[i]?=some u/\RelV x u
 | _,_,_,_,.nil,e=>by simp at e
 | _,_,0,_,.cons r _,e=>by simp at e;subst e;exact⟨_,rfl,r⟩
 | _,_,i+1,x,.cons _ t,e=>by
   obtain⟨u,h1,h2⟩:=Vals.get (i:=i) (x:=x) t (by simpa using e)
   exact⟨u,by simpa using h1,h2⟩
theorem Vals.set {x:V}{u:Value}(r:RelV x u):∀ {xs:List V} {us:List Value} (i:Nat),Vals xs us->Vals (xs.set i x) (us.set i u)
 | _,_,_,.nil=>.nil
 | _,_,0,.cons _ t=>.cons r t
 | _,_,i+1,.cons q t=>.cons q (Vals.set r i t)
theorem Vals.append:∀ {xs ys:List V} {us ws:List Value},Vals xs us->Vals ys ws->Vals (xs ++ ys) (us ++ ws)
 | _,_,_,_,.nil,s=>s
 | _,_,_,_,.cons r t,s=>.cons r (Vals.append t s)
theorem Vals.take:∀ {xs:List V} {us:List Value} (n:Nat),Vals xs us->Vals (xs.take n) (us.take n)
 | _,_,0,_=>.nil
 | _,_,_+1,.nil=>.nil
 | _,_,n+1,.cons r t=>.cons r (Vals.take n t)
theorem Vals.drop:∀ {xs:List V} {us:List Value} (n:Nat),Vals xs us->Vals (xs.drop n) (us.drop n)
 | _,_,0,r=>r
 | _,_,_+1,.nil=>.nil
 | _,_,n+1,.cons _ t=>Vals.drop n t
def o4:Option V->Option Value->Prop
 | some v,some u=>RelV v u
 | none,none=>True
 | _,_=>False
def KV {κ:Type}:List (κ×V)->List (κ×Value)->Prop:=Paired fun(p:κ×V) (q:κ×Value)=>p.1=q.1/\RelV p.2 q.2
noncomputable def kV:Key->V
 | .inl i=>.int i
 | .inr x=>.str x
inductive FD where
 | int (i:Int)
 | cV (kds:List (Key×Int))
 | lst (ns:List Int)
 | tup (K:W.Frag) (ns:List Int)
 | obj (C:Addr) (fs:List (Str×FD))
noncomputable abbrev iR:=List (Addr×(Nat->List (Key×FD)))
set_option genInjectivity true in
inductive HO where
   | lst (xs:List V)
   | tup (xs:List V)
   | dK (kvs:List (Key×V)) | dT (kvs:List (List Key×V))
   | set (S:Int->Bool) (n:Nat)
   | ins (C dx:Addr) (fs:List (Str×V))
   | own (x:Addr)
   | xd (fs:List (Str×V))
   | met (f x:Addr)
   | VW (lo hi:Int)
   | bj (o:Obj) (u:HO)
   | N2 (ps:Array Value)
   | ext (φ:Heap->Prop)
   | memo (ls:iR)
 | bo (ls:iR) (ns:List Nat)
   | part (p:Addr)
   | kd (tg:Option (Addr×Nat)) (o:Obj) (kvs:List (Key×V))
   | kx (o:Obj) (u:HO)
noncomputable abbrev Hp:=Addr->Option HO
noncomputable def upd (H:Hp)(a:Addr)(o:HO):Hp:=fun b=>if b=a then some o else H b
theorem ak {H:Hp}{a:Addr}{o:HO}:upd H a o a=some o:=by unfold upd;rw[if_pos rfl]
theorem ag {H:Hp}{a b:Addr}{o:HO}(h:b≠a):upd H a o b=H b:=by unfold upd;rw[if_neg h]
theorem tP {H:Hp}{a:Addr}{o u:HO}:upd (upd H a o) a u=upd H a u:=by
 funext b;unfold upd;split <;> rfl
theorem RO {H:Hp}{a b:Addr}{o u:HO}(h:H a=some o)(h':H b=some u)(d:o≠u):a≠b:=by
 intro e;subst e;rw[h] at h';exact d (Option.some.inj h')
theorem au {H:Hp}{a b:Addr}{o:HO}(h:H a=some o)(h':H b=none):a≠b:=by
 intro e;subst e;rw[h] at h';cases h'
def lG:Option HO->Prop
 | some (.memo _)=>True
 | some (.bo _ _)=>True
 | some (.part _)=>True
 | _=>False
def Kept:HO->Prop
 | .kd _ _ _=>True
 | .kx _ _=>True
 | .tup _=>True
 | _=>False
def TupAt (K:W.Frag)(H:Hp)(a:Addr)(xs:List V):Prop:=
 H a=some (.tup xs) \/
   ∃ (o:Obj) (aE:Array Value) (n:Nat),K.lookup a=some o/\o.cls=.type "tuple"/\o.data=.seq aE n/\aE.size<=sizeLine/\Vals xs aE.toList
mutual
inductive Fz (H:Hp):V->FD->Prop
 | int (i:Int):Fz H (.int i) (.int i)
 | cV {a:Addr} {tg:Option (Addr×Nat)} {o:Obj} {kds:List (Key×Int)}:H a=some (.kd tg o (kds.map fun kd=>(kd.1,V.int kd.2)))->Fz H (.ref a) (.cV kds)
 | lst {a:Addr} {o:Obj} {ns:List Int}:H a=some (.kx o (.lst (ns.map V.int)))->Fz H (.ref a) (.lst ns)
 | tup {a:Addr} {K:W.Frag} {ns:List Int}:TupAt K H a (ns.map V.int)->Fz H (.ref a) (.tup K ns)
 | obj {a C dx:Addr} {o:Obj} {fv:List (Str×V)} {fs:List (Str×FD)}:H a=some (.kx o (.ins C dx fv))->Gf H fv fs->Fz H (.ref a) (.obj C fs)
inductive Gf (H:Hp):List (Str×V)->List (Str×FD)->Prop
 | nil:Gf H [] []
 | cons {k:Str} {v:V} {d:FD} {vs:List (Str×V)} {ds:List (Str×FD)}:Fz H v d->Gf H vs ds->Gf H ((k,v)::vs) ((k,d)::ds)
end
inductive rg (H:Hp):List (Key×V)->List (Key×FD)->Prop
 | nil:rg H [] []
 | cons {k:Key} {v:V} {d:FD} {kvs:List (Key×V)} {kds:List (Key×FD)}:Fz H v d->rg H kvs kds->rg H ((k,v)::kvs) ((k,d)::kds)
def N3 (H:Hp)(p:Addr)(i:Nat)(aE:List Value)(fd:List (Key×FD)):Prop:=∃ q o kvs,aE[i]?=some (.ref q)/\H q=some (.kd (some (p,i)) o kvs)/\rg H kvs fd
def C0 (H:Hp)(h:Heap)(p:Addr)(f:Nat->List (Key×FD))(n:Nat):Prop:=∃ aE c,h.get? p=some { cls:=.type "list",data:=.seq (aE:List Value).toArray c}/\aE.length=n/\∀ i,i < n->N3 H p i aE (f i)
def uA (H:Hp)(h:Heap)(a:Addr)(ls:iR)(ns:List Nat):Prop:=(∃ f,ls[0]?=some (a,f))/\ls.length=ns.length/\(∀ (j:Nat) (p:Addr) (f:Nat->List (Key×FD)),ls[j]?=some (p,f)->(p=a\/H p=some (.part a)))/\(ls.map (·.1)).Nodup/\(∀ n∈ns,n<=10000)/\∀ (j:Nat) (p:Addr) (f:Nat->List (Key×FD)) (n:Nat),ls[j]?=some (p,f)->ns[j]?=some n->C0 H h p f n
section
variable (P:Program)(w:World)
def aO (H:Hp)(h:Heap)(a:Addr):HO->Prop
 | .lst xs=>xs.length<=sizeLine/\∃ (aE:List Value) (n:Nat),Vals xs aE/\h.get? a=some { cls:=.type "list",data:=.seq aE.toArray n}
 | .tup xs=>xs.length<=sizeLine/\∃ aE:List Value,Vals xs aE/\IsTup h a aE.toArray
 | .dK kvs=>kvs.length<=sizeLine/\(a == sysModules)=false/\∃ vs,KV kvs vs/\h.DictOf (cz P w) a vs
 | .dT kvs=>kvs.length<=sizeLine/\(a == sysModules)=false/\∃ xs:List (List Key×Addr×Value),
     Paired (fun(p:List Key×V) (q:List Key×Addr×Value)=>p.1=q.1/\H q.2.1=some (.tup (p.1.map kV))/\RelV p.2 q.2.2) kvs xs /\
     ∃ o es ep,h.get? a=some o/\o.ExactDict/\o.data=.dict es ep/\es.toList=xs.map (entryOfKey (tupleKind (cz P w)))/\(xs.map (·.1)).Nodup
 | .set S n=>h.SetOf (intKind P w) a S n
 | .ins C dx fs=>H dx=some (.own a)/\fs.length<=1000/\dx≠a/\h.get? a=some (W.instObj C dx) /\
     ∃ mA,h.Ns1 dx mA/\(∀ f,o4 (fs.lookup f) (mA f))/\PySem.Within mA (fs.map (·.1))
 | .own _=>∃ o,h.get? a=some o
 | .xd fs=>∃ mA,h.Ns1 a mA/\∀ f,o4 (fs.lookup f) (mA f)
 | .VW lo hi=>∃ t u v,h.get? a=some { cls:=.type "range",data:=.fields #[.int lo t,.int hi u,.int 1 v]}
 | .bj o u=>h.get? a=some o/\aO H h a u
 | .N2 ps=>h.get? a=some { cls:=.none,data:=.fields ps}
 | .met f x=>h.get? a=some (W.methodObj (.ref f) (.ref x))
 | .ext φ=>φ h/\(∃ o,h.get? a=some o)/\∀ h1 h2:Heap,φ h1->(∀ o,h1.get? a=some o->h2.get? a=some o)->φ h2
 | .memo ls=>(∃ o,h.get? a=some o)/\∃ n,0 < n/\uA H h a ls (aah ls.length n)
 | .bo ls ns=>(∃ o,h.get? a=some o)/\uA H h a ls ns
 | .part _=>∃ o,h.get? a=some o
 | .kd tg o kvs=>h.get? a=some o/\(kvs.length<=sizeLine/\(a == sysModules)=false/\∃ vs,KV kvs vs/\h.DictOf (cz P w) a vs) /\
     ∀ p i,tg=some (p,i)->lG (H p)/\∃ aE c,h.get? p=some { cls:=.type "list",data:=.seq (aE:List Value).toArray c}/\aE[i]?=some (.ref a)
 | .kx o u=>h.get? a=some o/\aO H h a u
def qe (H:Hp)(h:Heap):Prop:=∀ a o,H a=some o->aO P w H h a o
end
section
variable {P:Program}{w:World}{H H':Hp}{h h':Heap}{a:Addr}{o:HO}
theorem aO.lt (x:aO P w H h a o):a < h.objs.size:=by
 cases o with
 | lst xs=>obtain⟨_,_,_,_,e⟩:=x;exact aaj e
 | tup xs=>obtain⟨_,_,_,p⟩:=x;exact p.lt
 | dK kvs=>obtain⟨_,_,_,_,o,_,_,e,_⟩:=x;exact aaj e
 | dT kvs=>obtain⟨_,_,_,_,o,_,_,e,_⟩:=x;exact aaj e
 | set S n=>obtain⟨o,_,_,_,e,_⟩:=x;exact aaj e
 | ins C dx fs=>obtain⟨_,_,_,e,_⟩:=x;exact aaj e
 | own y=>obtain⟨_,e⟩:=x;exact aaj e
 | xd fs=>obtain⟨_,⟨_,_,_,e,_⟩,_⟩:=x;exact aaj e
 | VW lo hi=>obtain⟨_,_,_,e⟩:=x;exact aaj e
 | bj ob u=>obtain⟨e,_⟩:=x;exact aaj e
 | N2 ps=>exact aaj (show h.get? a=some _ from x)
 | met f y=>exact aaj (show h.get? a=some _ from x)
 | ext φ=>obtain⟨_,⟨_,e⟩,_⟩:=x;exact aaj e
 | memo ls=>obtain⟨⟨_,e⟩,_⟩:=x;exact aaj e
 | bo ls ns=>obtain⟨⟨_,e⟩,_⟩:=x;exact aaj e
 | part y=>obtain⟨_,e⟩:=x;exact aaj e
 | kd tg ob kvs=>exact aaj x.1
 | kx ob u=>exact aaj x.1
theorem Paired.N4 {α β:Type}{F G:α->β->Prop}:∀ {l₁:List α} {l₂:List β},Paired F l₁ l₂->(∀ a b,F a b->G a b)->Paired G l₁ l₂
 | _,_,.nil,_=>.nil
 | _,_,.cons r t,f=>.cons (f _ _ r) (Paired.N4 t f)
structure Kp (H H':Hp):Prop where
 st:∀ b u,H b=some u->Kept u->H' b=some u
 mem:∀ b,lG (H b)->lG (H' b)
 part:∀ b x,H b=some (.part x)->H' b=some (.part x)
theorem Kp.kd (kp:Kp H H')(b:Addr)(tg:Option (Addr×Nat))(o:Obj)(kvs:List (Key×V))(e:H b=some (.kd tg o kvs)):H' b=some (.kd tg o kvs):=kp.st b _ e trivial
theorem Kp.refl:Kp H H:=⟨fun _ _ e _=>e,fun _ e=>e,fun _ _ e=>e⟩
theorem Kp.of (s:∀ b u,H b=some u->H' b=some u):Kp H H':=⟨fun _ _ e _=>s _ _ e,fun b e=>by
 cases q:H b with
 | none=>rw[q] at e;exact e.elim
 | some u=>rw[s b u q,<- q];exact e,fun _ _ e=>s _ _ e⟩
theorem TupAt.kp {K:W.Frag}{xs:List V}(k:∀ b u,H b=some u->Kept u->H' b=some u)(h:TupAt K H a xs):TupAt K H' a xs:=h.imp (fun e=>k _ _ e trivial) id
mutual
theorem Fz.st (k:∀ b u,H b=some u->Kept u->H' b=some u):∀ {v:V} {d:FD},Fz H v d->Fz H' v d
 | _,_,.int i=>.int i
 | _,_,.cV e=>.cV (k _ _ e trivial)
 | _,_,.lst e=>.lst (k _ _ e trivial)
 | _,_,.tup e=>.tup (e.kp k)
 | _,_,.obj e f=>.obj (k _ _ e trivial) (Gf.st k f)
theorem Gf.st (k:∀ b u,H b=some u->Kept u->H' b=some u):∀ {v:List (Str×V)} {d:List (Str×FD)},Gf H v d->Gf H' v d
 | _,_,.nil=>.nil
 | _,_,.cons h t=>.cons (Fz.st k h) (Gf.st k t)
end
theorem Fz.kp (kp:Kp H H'){v:V}{d:FD}(h:Fz H v d):Fz H' v d:=h.st kp.st
theorem rg.kp (kp:Kp H H'):∀ {kvs:List (Key×V)} {kds:List (Key×FD)},rg H kvs kds->rg H' kvs kds
 | _,_,.nil=>.nil
 | _,_,.cons h t=>.cons (h.kp kp) (rg.kp kp t)
theorem C0.kp {p:Addr}{f:Nat->List (Key×FD)}{n:Nat}(kp:Kp H H')(x:C0 H h p f n)(k:∀ u,h.get? p=some u->h'.get? p=some u):C0 H' h' p f n:=by
 obtain⟨aE,c,e,hl,hi⟩:=x
 exact⟨aE,c,k _ e,hl,fun i hn=>let ⟨q,o,kvs,h1,h2,h3⟩:=hi i hn;⟨q,o,kvs,h1,kp.kd _ _ _ _ h2,h3.kp kp⟩⟩
theorem uA.kp {ls:iR}{ns:List Nat}(kp:Kp H H')(x:uA H h a ls ns)(k:∀ b u,b=a\/H b=some (.part a)->h.get? b=some u->h'.get? b=some u):uA H' h' a ls ns:=by
 obtain⟨h1,h2,h3,h4,h5,h6⟩:=x
 exact⟨h1,h2,fun j p f e=>(h3 j p f e).imp id fun z=>kp.part _ _ z,h4,h5,fun j p f n e1 e2=>(h6 j p f n e1 e2).kp kp fun u e=>k p u (h3 j p f e1) e⟩
def RP (h:Heap)(p:Addr)(i:Nat)(c:Addr):Prop:=∃ aE n,h.get? p=some { cls:=.type "list",data:=.seq (aE:List Value).toArray n}/\aE[i]?=some (.ref c)
theorem aO.MZ (x:aO P w H h a o)(k:∀ b u,(b=a\/H b=some (.own a)\/H b=some (.part a))->h.get? b=some u->h'.get? b=some u)(ho:∀ b,H b=some (.own a)->H' b=some (.own a))(ht:∀ b xs,H b=some (.tup xs)->H' b=some (.tup xs))(kp:Kp H H')(hl:∀ p i c,lG (H p)->RP h p i c->RP h' p i c):aO P w H' h' a o:=by
 induction o with
 | lst xs=>obtain⟨z,aE,n,r,e⟩:=x;exact⟨z,aE,n,r,k _ _ (.inl rfl) e⟩
 | tup xs=>obtain⟨z,aE,r,ob,e,c⟩:=x;exact⟨z,aE,r,ob,k _ _ (.inl rfl) e,c⟩
 | dK kvs=>obtain⟨z,y,vs,r,ob,es,ep,e,c⟩:=x;exact⟨z,y,vs,r,ob,es,ep,k _ _ (.inl rfl) e,c⟩
 | dT kvs=>
   obtain⟨z,y,xs,r,ob,es,ep,e,c⟩:=x
   exact⟨z,y,xs,Paired.N4 r fun p q z=>⟨z.1,ht _ _ z.2.1,z.2.2⟩,ob,es,ep,k _ _ (.inl rfl) e,c⟩
 | set S n=>obtain⟨ob,es,ep,t,e,c⟩:=x;exact⟨ob,es,ep,t,k _ _ (.inl rfl) e,c⟩
 | ins C dx fs=>
   obtain⟨d,z,ne,e,mA,⟨od,es,ep,e2,c⟩,r⟩:=x
   exact⟨ho _ d,z,ne,k _ _ (.inl rfl) e,mA,⟨od,es,ep,k _ _ (.inr (.inl d)) e2,c⟩,r⟩
 | own y=>obtain⟨ob,e⟩:=x;exact⟨ob,k _ _ (.inl rfl) e⟩
 | xd fs=>obtain⟨mA,⟨od,es,ep,e,c⟩,r⟩:=x;exact⟨mA,⟨od,es,ep,k _ _ (.inl rfl) e,c⟩,r⟩
 | VW lo hi=>obtain⟨t,u,v,e⟩:=x;exact⟨t,u,v,k _ _ (.inl rfl) e⟩
 | bj ob u ih=>obtain⟨e,q⟩:=x;exact⟨k _ _ (.inl rfl) e,ih q⟩
 | N2 ps=>
   have e:h.get? a=some { cls:=.none,data:=.fields ps}:=x
   show h'.get? a=some { cls:=.none,data:=.fields ps}
   exact k a _ (.inl rfl) e
 | met f y=>
   have e:h.get? a=some (W.methodObj (.ref f) (.ref y)):=x
   show h'.get? a=some (W.methodObj (.ref f) (.ref y))
   exact k a _ (.inl rfl) e
 | ext φ=>obtain⟨p,⟨o,e⟩,st⟩:=x;exact⟨st _ _ p fun o q=>k _ _ (.inl rfl) q,⟨o,k _ _ (.inl rfl) e⟩,st⟩
 | memo ls=>
   obtain⟨⟨o,e⟩,n,hn,q⟩:=x
   refine⟨⟨o,k _ _ (.inl rfl) e⟩,n,hn,q.kp kp fun b u hb=>k b u ?_⟩
   rcases hb with z | z
   . exact .inl z
   . exact .inr (.inr z)
 | bo ls ns=>
   obtain⟨⟨o,e⟩,q⟩:=x
   refine⟨⟨o,k _ _ (.inl rfl) e⟩,q.kp kp fun b u hb=>k b u ?_⟩
   rcases hb with z | z
   . exact .inl z
   . exact .inr (.inr z)
 | part y=>obtain⟨o,e⟩:=x;exact⟨o,k _ _ (.inl rfl) e⟩
 | kd tg ob kvs=>
   obtain⟨e,⟨z,y,vs,r,ob',es,ep,e',c⟩,q⟩:=x
   refine⟨k _ _ (.inl rfl) e,⟨z,y,vs,r,ob',es,ep,k _ _ (.inl rfl) e',c⟩,fun p i ht=>?_⟩
   obtain⟨q1,q2⟩:=q p i ht
   exact⟨kp.mem _ q1,hl p i _ q1 q2⟩
 | kx ob u ih=>obtain⟨e,q⟩:=x;exact⟨k _ _ (.inl rfl) e,ih q⟩
theorem aO.wg (x:aO P w H h a o)(k:∀ b u,(b=a\/H b=some (.own a)\/lG (H b))->h.get? b=some u->h'.get? b=some u)(ho:∀ b,H b=some (.own a)->H' b=some (.own a))(ht:∀ b xs,H b=some (.tup xs)->H' b=some (.tup xs))(kp:Kp H H'):aO P w H' h' a o:=
 x.MZ (fun b u hb=>k b u (by
   rcases hb with z | z | z
   . exact .inl z
   . exact .inr (.inl z)
   . exact .inr (.inr (by rw[z];trivial)))) ho ht kp fun p i c hm ⟨aE,n,e,q⟩=>⟨aE,n,k p _ (.inr (.inr hm)) e,q⟩
theorem qe.lt (x:qe P w H h)(e:H a=some o):a < h.objs.size:=(x a o e).lt
theorem qe.fresh (x:qe P w H h)(e:h.objs.size<=a):H a=none:=by
 cases q:H a with
 | none=>rfl
 | some u=>exact absurd (aak (x.lt q) e) (aa8 _)
theorem qe.kept (x:qe P w H h)(k:∀ b u,h.get? b=some u->h'.get? b=some u):qe P w H h':=fun a o e=>
 (x a o e).wg (fun b u _ q=>k b u q) (fun _ q=>q) (fun _ _ q=>q) .refl
theorem qe.laid (x:qe P w H h)(k:∀ b u,h.get? b=some u->h'.get? b=some u)(hp:h.objs.size<=a)(new:aO P w (upd H a o) h' a o):qe P w (upd H a o) h':=fun b u e=>by
 have hn:=x.fresh hp
 by_cases hb:b=a
 . subst hb;rw[ak] at e;cases e;exact new
 . rw[ag hb] at e
   exact(x b u e).wg (fun c v _ q=>k c v q) (fun c q=>by rw[ag (au q hn)];exact q) (fun c xs q=>by rw[ag (au q hn)];exact q) (.of fun c u q=>by rw[ag (au q hn)];exact q)
end
def Rd (H:Hp)(a:Addr)(u:HO):Prop:=H a=some u\/(∃ o,H a=some (.bj o u))\/(∃ tg o kvs,H a=some (.kd tg o kvs)/\u=.dK kvs)\/∃ o,H a=some (.kx o u)
theorem Rd.of {H:Hp}{a:Addr}{u:HO}(h:H a=some u):Rd H a u:=.inl h
theorem Rd.ok {P:Program}{w:World}{H:Hp}{h:Heap}{a:Addr}{u:HO}(r:Rd H a u)(x:qe P w H h):aO P w H h a u:=by
 rcases r with r | ⟨o,r⟩ | ⟨tg,o,kvs,r,rfl⟩ | ⟨o,r⟩
 . exact x a u r
 . obtain⟨_,q⟩:=x a _ r
   exact q
 . obtain⟨_,q,_⟩:=x a _ r
   exact q
 . obtain⟨_,q⟩:=x a _ r
   exact q
def Ro:Option HO->Prop
 | some (.lst _)=>True
 | some (.dK _)=>True
 | some (.dT _)=>True
 | some (.set _ _)=>True
 | some (.ins _ _ _)=>True
 | some (.ext _)=>True
 | _=>False
section
variable {P:Program}{w:World}{H:Hp}{h h':Heap}{x e:Addr}{o':HO}
theorem qe.write (ok:qe P w H h)(mu:Ro (H x))(he:e=x\/H e=some (.own x))(k:∀ b u,b≠e->h.get? b=some u->h'.get? b=some u)(Rp:∃ u,h'.get? e=some u)(new:aO P w (upd H x o') h' x o'):qe P w (upd H x o') h':=fun b u q=>by
 have xY:∀ c y,H c=some (.own y)->c≠x:=fun c y r z=>by subst z;rw[r] at mu;exact mu
 have VX:∀ c xs,H c=some (.tup xs)->c≠x:=fun c xs r z=>by subst z;rw[r] at mu;exact mu
 by_cases hb:b=x
 . subst hb;rw[ak] at q;cases q;exact new
 . rw[ag hb] at q
   by_cases zR:b=e
   . have q':H b=some (.own x):=by
       rcases he with z | z
       . exact absurd (zR.trans z) hb
       . rw[zR];exact z
     rw[q] at q';cases q'
     obtain⟨v,hv⟩:=Rp
     exact⟨v,by rw[zR];exact hv⟩
   . have YA:∀ c u,H c=some u->¬ Ro (some u)->c≠x:=fun c u r nm z=>by subst z;rw[r] at mu;exact nm mu
     have YB:∀ c,lG (H c)->c≠x:=fun c r z=>by
       subst z
       cases qq:H c with
       | none=>rw[qq] at r;exact r
       | some u=>rw[qq] at r mu;cases u <;> first | exact mu | exact r
     refine(ok b u q).wg (fun c v hc r=>k c v ?_ r) (fun c r=>by rw[ag (xY c b r)];exact r) (fun c xs r=>by rw[ag (VX c xs r)];exact r) ⟨fun c u r kq=>by rw[ag (YA c _ r (by cases u <;> first | exact(show False from kq).elim | exact fun z=>z))];exact r,fun c r=>by rw[ag (YB c r)];exact r,fun c y r=>by rw[ag (YA c _ r fun z=>z)];exact r⟩
     rcases hc with rfl | hc | hc
     . exact zR
     . rintro rfl
       rcases he with z | z
       . exact xY c b hc z
       . rw[hc] at z;cases z;exact hb rfl
     . rintro rfl
       rcases he with z | z
       . exact YB c hc z
       . rw[z] at hc;exact hc
end
structure Un (fs ex:List Addr)(H H':Hp)(h h':Heap):Prop where
 keep:∀ b o,h.get? b=some o->H b=none->b ∉ fs->b ∉ ex->h'.get? b=some o
 slot:∀ b o,h.get? b=some o->H b=none->b∈fs->b ∉ ex->∃ sl,h'.get? b=some { o with slots:=sl}
 free:∀ b o,h.get? b=some o->H b=none->b ∉ ex->H' b=none
 there:∀ b o,h.get? b=some o->b ∉ ex->∃ o',h'.get? b=some o'
 zS:∀ b xs,H b=some (.tup xs)->H' b=some (.tup xs)
 xZ:∀ b o u,H b=some (.bj o u)->H' b=some (.bj o u)
 zT:∀ b ps,H b=some (.N2 ps)->∃ more,H' b=some (.N2 (ps ++ more))
section
variable {fs ex:List Addr}{H H1:Hp}{h h1 h':Heap}{a x e:Addr}{o:HO}
theorem Un.any (u:Un fs ex H H1 h h1){b:Addr}{ob:Obj}(q:h.get? b=some ob)(n:H b=none)(hx:b ∉ ex):∃ sl,h1.get? b=some { ob with slots:=sl}:=by
 by_cases hb:b∈fs
 . exact u.slot b ob q n hb hx
 . exact⟨ob.slots,u.keep b ob q n hb hx⟩
theorem Un.kept (k:∀ b u,h.get? b=some u->h'.get? b=some u):Un fs ex H H h h':=
 ⟨fun b ob q _ _ _=>k b ob q,fun b ob q _ _ _=>⟨ob.slots,k b ob q⟩,fun _ _ _ n _=>n,fun b ob q _=>⟨ob,k b ob q⟩,fun _ _ q=>q,fun _ _ _ q=>q,fun _ ps q=>⟨#[],by rw[q];simp⟩⟩
theorem Un.refl:Un fs ex H H h h:=Un.kept fun _ _ q=>q
theorem Un.laid (k:∀ b u,h.get? b=some u->h'.get? b=some u)(hp:h.objs.size<=a)(hn:H a=none):Un fs ex H (upd H a o) h h' where
 keep:=fun b u q _ _ _=>k b u q
 slot:=fun b u q _ _ _=>⟨u.slots,k b u q⟩
 free:=fun b u q n _=>by rw[ag (aap (aak (aaj q) hp))];exact n
 there:=fun b u q _=>⟨u,k b u q⟩
 zS:=fun b xs q=>by rw[ag (au q hn)];exact q
 xZ:=fun b u xs q=>by rw[ag (au q hn)];exact q
 zT:=fun b ps q=>⟨#[],by rw[ag (au q hn),q];simp⟩
theorem Un.write (mu:Ro (H x))(he:e=x\/H e=some (.own x))(k:∀ b u,b≠e->h.get? b=some u->h'.get? b=some u)(Rp:∃ u,h'.get? e=some u):Un fs ex H (upd H x o) h h':=by
 have hx:∀ b,H b=none->b≠x:=fun b n z=>by subst z;rw[n] at mu;exact mu
 have hb:∀ b,H b=none->b≠e:=fun b n z=>by
   subst z
   rcases he with r | r
   . exact hx b n r
   . rw[n] at r;cases r
 have hm:∀ b u,H b=some u->¬ Ro (some u)->b≠x:=fun b u q nm z=>by subst z;rw[q] at mu;exact nm mu
 refine⟨fun b u q n _ _=>k b u (hb b n) q,fun b u q n _ _=>⟨u.slots,k b u (hb b n) q⟩,fun b u q n _=>by rw[ag (hx b n)];exact n,fun b u q _=>?_,
   fun b xs q=>by rw[ag (hm b _ q fun z=>z)];exact q,fun b u xs q=>by rw[ag (hm b _ q fun z=>z)];exact q,fun b ps q=>⟨#[],by rw[ag (hm b _ q fun z=>z),q];simp⟩⟩
 by_cases zR:b=e
 . subst zR;exact Rp
 . exact⟨u,k b u zR q⟩
end
noncomputable def bL (h:Heap)(H:Hp):List Addr:=(aag h.objs.size).filter fun a=>(H a).isSome
noncomputable def x3 (h:Heap)(H:Hp):Heap:=PySem.W.hideAll h (bL h H)
theorem Eo (h:Heap)(H:Hp):(x3 h H).objs.size=h.objs.size:=W.hideAll_size _ _
theorem Gg {h:Heap}{H:Hp}{b:Addr}{o:Obj}(e:h.get? b=some o)(n:H b=none):(x3 h H).get? b=some o:=
 W.hideAll_get _ e fun hm=>by
   have q:(H b).isSome=true:=(List.mem_filter.mp hm).2
   rw[n] at q;simp at q
theorem KD {h:Heap}{H:Hp}{b:Addr}{o:Obj}(e:(x3 h H).get? b=some o):h.get? b=some o/\H b=none:=by
 have e':h.get? b=some o:=W.of_hideAll (bL h H) e
 refine⟨e',?_⟩
 cases q:H b with
 | none=>rfl
 | some x=>
   have hm:b∈bL h H:=List.mem_filter.mpr ⟨abp.mpr (aaj e'),by simp[q]⟩
   have z:(x3 h H).get? b=none:=W.hideAll_none (bL h H) hm
   rw[z] at e;cases e
noncomputable def KG (g h:Heap)(L:Addr):List (Addr×Obj):=(aag h.objs.size).filterMap fun a=>if a=L\/(g.get? a).isSome=true then none else (h.get? a).map fun o=>(a,o)
noncomputable def rest (g h:Heap)(L d:Addr):List (Addr×Obj):=(KG g h L).filter fun p=>decide (p.1≠d)
structure Mod (K:W.Frag)(mg:Str->Option Value)(base:Heap):Prop where
 RS:K.In base
 glob:base.Ns mainGlobals mg
 blt:∃ mb,base.Ns builtinsNs mb/\∀ x:Str,x≠"__name__"->mb x=bootBuiltins x
 nolimit:base.NoLimit
structure Cx where
 prog:Program
 w:World
 K:W.Frag
 mg:Str->Option Value
 base:Heap
 A:Around
 N:List Str
 s₀:Shared
 H₀:Hp
 env:Env
 outer:List Env
 stack:List Env
 ex:List Addr
 fn:Str->Bool
 calm:Bool
 pn:List (Addr×Obj)
 xe:Value->Shared->Prop
noncomputable def Gh (l:List Env):List Addr:=l.filterMap (·.frame)
noncomputable abbrev Cx.fs (X:Cx):List Addr:=Gh X.outer
def uB (sc:Scope)(x:Str):Prop:=sc.names.lookup x=some .local\/sc.names.lookup x=some .cell\/sc.names.lookup x=some .free
def Loc (sc:Scope)(x:Str):Prop:=sc.names.lookup x=some .local\/sc.names.lookup x=some .cell
def Look (env:Env)(h:Heap)(m:Str->Option Value)(x:Str)(u:Value):Prop:=
 (env.kindOf x=some .local/\m x=some u)\/((env.kindOf x=some .cell\/env.kindOf x=some .free)/\∃ c,env.cells.lookup x=some c/\h.IsCell c (some u))
structure Cx.Ok (X:Cx):Prop where
 mod:Mod X.K X.mg X.base
 kind:X.env.scope.kind=.function
 glob:X.env.globals=mainGlobals
 blt:X.env.builtins=builtinsNs
 above:X.s₀.heap.objs.size<=X.env.locals
 inj:∀ x y c,X.env.cells.lookup x=some c->X.env.cells.lookup y=some c->x=y
 has:∀ x,(X.env.kindOf x=some .cell\/X.env.kindOf x=some .free)->∃ c,X.env.cells.lookup x=some c
 Rq:∀ x c,X.fn x=true->X.env.cells.lookup x=some c->X.s₀.heap.objs.size<=c
 hd:X.calm=true->X.A.handled=none
 frames:X.A.frames=some X.stack
 RT:X.stack=X.outer\/(X.stack=X.env::X.outer/\X.env.frame=some X.env.locals)
 KH:∀ b∈X.ex,b≠X.env.locals/\∀ x c,X.env.cells.lookup x=some c->c≠b
 bs:∀ b o,X.base.get? b=some o->X.s₀.heap.get? b=some o/\X.H₀ b=none
 C1:X.base.objs.size<=X.s₀.heap.objs.size
 zU:∀ b o,X.base.get? b=some o->b ∉ X.ex
 zV:∀ b∈X.ex,b ∉ X.fs
 rh:X.s₀.heap.FunFrames X.base X.outer
 M0:∀ b∈X.fs,X.H₀ b=none
structure Inv (X:Cx)(pins:List (Addr×Obj))(σ:List (Option V))(H:Hp)(s:Shared):Prop where
 ok:X.Ok
 os:s.os=X.s₀.os
 bare:AllBare s.gens
 base:Un X.fs X.ex X.H₀ H X.s₀.heap s.heap
 loc:∃ m,s.heap.Ns X.env.locals m/\∀ (i:Nat) (x:Str) (v:V),X.N[i]?=some x->σ[i]?=some (some v)->uB X.env.scope x->∃ u,RelV v u/\Look X.env s.heap m x u
 cell:∀ x c,X.env.cells.lookup x=some c->∃ v,s.heap.IsCell c v
 free:H X.env.locals=none
 pf:∀ x c,X.env.cells.lookup x=some c->H c=none
 pin:∀ p∈X.pn ++ pins,s.heap.get? p.1=some p.2/\H p.1=none/\p.1≠X.env.locals/\p.1 ∉ X.fs/\∀ v,p.2.data≠.cell v
 bh:qe X.prog X.w H s.heap
 len:σ.length=X.N.length
section
variable {X:Cx}{pins:List (Addr×Obj)}{σ:List (Option V)}{H H':Hp}{s:Shared}{h':Heap}
theorem Cx.Ok.N5 (ok:X.Ok){b:Addr}{o:Obj}(e:X.base.get? b=some o):b ∉ X.fs:=fun hb=>by
 have:=(ok.rh.mem hb).1
 rw[e] at this;cases this
theorem Inv.bs (I:Inv X pins σ H s):∀ b o,X.base.get? b=some o->s.heap.get? b=some o/\H b=none:=fun b o e=>
 ⟨I.base.keep b o (I.ok.bs b o e).1 (I.ok.bs b o e).2 (I.ok.N5 e) (I.ok.zU b o e),I.base.free b o (I.ok.bs b o e).1 (I.ok.bs b o e).2 (I.ok.zU b o e)⟩
theorem Inv.bk (I:Inv X pins σ H s):∀ b o,X.base.get? b=some o->s.heap.get? b=some o:=fun b o e=>(I.bs b o e).1
theorem Inv.mod (I:Inv X pins σ H s):Mod X.K X.mg X.base:=I.ok.mod
theorem Inv.zW (I:Inv X pins σ H s):X.K.In s.heap:=I.ok.mod.RS.keeps I.bk
theorem Inv.lt (I:Inv X pins σ H s):X.env.locals < s.heap.objs.size:=let ⟨_,hn,_⟩:=I.loc;hn.lt
theorem Inv.sz (I:Inv X pins σ H s):X.s₀.heap.objs.size<=s.heap.objs.size:=aav I.ok.above (aa5 I.lt)
theorem Inv.VY (I:Inv X pins σ H s){a:Addr}(h:s.heap.objs.size<=a):a ∉ X.fs:=fun hb=>by
 obtain⟨_,o,ho,_⟩:=I.ok.rh.mem hb
 exact absurd (aak (aaj ho) (aav I.sz h)) (aa8 _)
theorem Inv.BC (I:Inv X pins σ H s):∀ x c,X.env.cells.lookup x=some c->c≠X.env.locals:=fun x c e z=>by
 obtain⟨v,o,ho,hd⟩:=I.cell x c e
 obtain⟨m,⟨o',es,ep,Gi,Rr,_⟩,_⟩:=I.loc
 rw[z,Gi] at ho;cases ho;rw[Rr] at hd;cases hd
theorem Inv.rh (I:Inv X pins σ H s):s.heap.FunFrames X.base X.outer:=by
 have all:∀ (l:List Env),(∀ b∈Gh l,b∈X.fs)->X.s₀.heap.FunFrames X.base l->s.heap.FunFrames X.base l:=by
   intro l
   induction l with
   | nil=>intro _ _;trivial
   | cons env r ih=>
     intro hs hl
     obtain⟨hk,⟨L,o,hf,hn,ho,hd⟩,hr⟩:=hl
     have hL:L∈X.fs:=hs L (by unfold Gh;rw[abU,hf];exact aa3)
     obtain⟨sl,e⟩:=I.base.slot L o ho (I.ok.M0 L hL) hL fun z=>I.ok.zV L z hL
     exact⟨hk,⟨L,_,hf,hn,e,hd⟩,ih (fun b hb=>hs b (by unfold Gh;rw[abU,hf];exact aaG _ hb)) hr⟩
 exact all X.outer (fun _ hb=>hb) I.ok.rh
theorem Inv.stack (I:Inv X pins σ H s):s.heap.FunFrames X.base X.stack:=by
 rcases I.ok.RT with e | ⟨e,hf⟩
 . rw[e];exact I.rh
 . rw[e]
   obtain⟨m,hn,_⟩:=I.loc
   refine .cons (by rw[I.ok.kind];decide) hf hn ?_ I.rh
   exact Heap.get?_none_of_le (aav I.ok.C1 I.ok.above)
theorem Inv.uC (I:Inv X pins σ H s):∀ b∈Gh X.stack,b∈X.env.locals::X.fs:=fun b hb=>by
 rcases I.ok.RT with e | ⟨e,hf⟩
 . rw[e] at hb;exact aaG _ hb
 . rw[e] at hb
   unfold Gh at hb
   rw[abU,hf] at hb
   exact hb
theorem Inv.tQ (I:Inv X pins σ H s):∀ b∈Gh X.stack,H b=none:=fun b hb=>by
 rcases aau.mp (I.uC b hb) with e | hb
 . rw[e];exact I.free
 . obtain⟨_,o,ho,_⟩:=I.ok.rh.mem hb
   exact I.base.free b o ho (I.ok.M0 b hb) fun z=>I.ok.zV b z hb
theorem Inv.step {g':Array GenState}{t':Nat}{d':Drawn}{ch:List Addr}(I:Inv X pins σ H s)(sF:∀ b∈ch,(b∈X.ex\/X.s₀.heap.objs.size<=b)/\b≠X.env.locals/\(∀ x c,X.env.cells.lookup x=some c->c≠b)/\∀ p∈X.pn ++ pins,p.1≠b)(keep:∀ b o,b≠X.env.locals->b ∉ X.fs->b ∉ ch->s.heap.get? b=some o->H b=none->h'.get? b=some o)(slot:∀ b o,b≠X.env.locals->b∈X.fs->b ∉ ch->s.heap.get? b=some o->H b=none->∃ sl,h'.get? b=some { o with slots:=sl})(free:∀ b o,b ∉ ch->s.heap.get? b=some o->H b=none->H' b=none)(there:∀ b o,b ∉ ch->s.heap.get? b=some o->∃ o',h'.get? b=some o')(zS:∀ b xs,H b=some (.tup xs)->H' b=some (.tup xs))(xZ:∀ b o u,H b=some (.bj o u)->H' b=some (.bj o u))(zT:∀ b ps,H b=some (.N2 ps)->∃ more,H' b=some (.N2 (ps ++ more)))(ns:∀ m,s.heap.Ns X.env.locals m->h'.Ns X.env.locals m)(bh:qe X.prog X.w H' h')(hg:AllBare g'):Inv X pins σ H' { s with heap:=h',gens:=g',drawn:=d',toks:=t'}:=by
 have YC:∀ b o,X.s₀.heap.get? b=some o->b≠X.env.locals:=fun b o e=>aap (aak (aaj e) I.ok.above)
 have U4:∀ b o,X.s₀.heap.get? b=some o->b ∉ X.ex->b ∉ ch:=fun b o e hx hb=>by
   rcases (sF b hb).1 with z | z
   . exact hx z
   . exact absurd (aak (aaj e) z) (aa8 _)
 have cellK:∀ x c,X.env.cells.lookup x=some c->∀ v,s.heap.IsCell c v->h'.IsCell c v:=fun x c e v ⟨o,ho,hd⟩=>by
   have RU:c ∉ ch:=fun z=>(sF c z).2.2.1 x c e rfl
   by_cases hc:c∈X.fs
   . obtain⟨sl,q⟩:=slot c o (I.BC x c e) hc RU ho (I.pf x c e)
     exact⟨_,q,hd⟩
   . exact⟨o,keep c o (I.BC x c e) hc RU ho (I.pf x c e),hd⟩
 refine⟨I.ok,I.os,hg,⟨fun b o e n hb hx=>?_,fun b o e n hb hx=>?_,fun b o e n hx=>?_,fun b o e hx=>?_,fun b xs e=>zS b xs (I.base.zS b xs e),fun b o xs e=>xZ b o xs (I.base.xZ b o xs e),fun b ps e=>?_⟩,?_,fun x c e=>?_,?_,fun x c e=>?_,fun p hp=>?_,bh,I.len⟩
 . exact keep b o (YC b o e) hb (U4 b o e hx) (I.base.keep b o e n hb hx) (I.base.free b o e n hx)
 . obtain⟨sl,e1⟩:=I.base.slot b o e n hb hx
   obtain⟨sl',e2⟩:=slot b _ (YC b o e) hb (U4 b o e hx) e1 (I.base.free b o e n hx)
   exact⟨sl',e2⟩
 . obtain⟨o',e1⟩:=I.base.there b o e hx
   exact free b o' (U4 b o e hx) e1 (I.base.free b o e n hx)
 . obtain⟨o',e1⟩:=I.base.there b o e hx
   exact there b o' (U4 b o e hx) e1
 . obtain⟨m1,e1⟩:=I.base.zT b ps e
   obtain⟨m2,e2⟩:=zT b _ e1
   exact⟨m1 ++ m2,by rw[e2,Array.append_assoc]⟩
 . obtain⟨m,hn,hl⟩:=I.loc
   refine⟨m,ns m hn,fun i x v e1 e2 e3=>?_⟩
   obtain⟨u,r,l⟩:=hl i x v e1 e2 e3
   refine⟨u,r,?_⟩
   rcases l with l | ⟨k,c,e,z⟩
   . exact .inl l
   . exact .inr ⟨k,c,e,cellK x c e _ z⟩
 . obtain⟨v,z⟩:=I.cell x c e
   exact⟨v,cellK x c e v z⟩
 . obtain⟨m,⟨o,_,_,ho,_⟩,_⟩:=I.loc
   exact free _ o (fun z=>(sF _ z).2.1 rfl) ho I.free
 . obtain⟨v,o,ho,hd⟩:=I.cell x c e
   exact free c o (fun z=>(sF c z).2.2.1 x c e rfl) ho (I.pf x c e)
 . obtain⟨e,n,ne,nf,d⟩:=I.pin p hp
   have RU:p.1 ∉ ch:=fun z=>(sF p.1 z).2.2.2 p hp rfl
   exact⟨keep p.1 p.2 ne nf RU e n,free p.1 p.2 RU e n,ne,nf,d⟩
theorem Inv.un {t':Nat}(I:Inv X pins σ H s)(u:Un X.fs [] H H' s.heap h')(bh:qe X.prog X.w H' h'):Inv X pins σ H' { s with heap:=h',toks:=t'}:=by
 obtain⟨m,⟨o,es,ep,ho,r⟩,_⟩:=id I.loc
 obtain⟨sl,hL⟩:=u.any ho I.free (by simp)
 exact I.step (g':=s.gens) (d':=s.drawn) (ch:=[]) (fun _ z=>nomatch z) (fun b o _ hb _ e n=>u.keep b o e n hb (by simp)) (fun b o _ hb _ e n=>u.slot b o e n hb (by simp)) (fun b o _ e n=>u.free b o e n (by simp)) (fun b o _ e=>u.there b o e (by simp)) u.zS u.xZ u.zT (fun m' hm=>by
   obtain⟨o',KI,VZ,Gi,r'⟩:=hm
   rw[ho] at Gi;cases Gi
   exact⟨_,KI,VZ,hL,r'⟩) bh I.bare
theorem Inv.call {g':Array GenState}{t':Nat}{d':Drawn}{ch:List Addr}(I:Inv X pins σ H s)(u:Un (Gh X.stack) ch H H' s.heap h')(bh:qe X.prog X.w H' h')(hg:AllBare g')(sF:∀ b∈ch,(b∈X.ex\/X.s₀.heap.objs.size<=b)/\b≠X.env.locals/\(∀ x c,X.env.cells.lookup x=some c->c≠b)/\∀ p∈X.pn ++ pins,p.1≠b):Inv X pins σ H' { s with heap:=h',gens:=g',drawn:=d',toks:=t'}:=by
 obtain⟨m,⟨o,es,ep,ho,r⟩,_⟩:=id I.loc
 obtain⟨sl,hL⟩:=u.any ho I.free fun z=>(sF _ z).2.1 rfl
 exact I.step (ch:=ch) sF (fun b o hL hb hc e n=>u.keep b o e n (fun z=>(aau.mp (I.uC b z)).elim hL hb) hc) (fun b o _ _ hc e n=>u.any e n hc) (fun b o hc e n=>u.free b o e n hc) (fun b o hc e=>u.there b o e hc) u.zS u.xZ u.zT (fun m' hm=>by
   obtain⟨o',KI,VZ,Gi,r'⟩:=hm
   rw[ho] at Gi;cases Gi
   exact⟨_,KI,VZ,hL,r'⟩) bh hg
theorem Inv.turned {t':Nat}{it:Addr}(I:Inv X pins σ H s)(k:∀ b o,b≠it->s.heap.get? b=some o->h'.get? b=some o)(hn:H it=none)(hL:it≠X.env.locals)(h1:it∈X.ex\/X.s₀.heap.objs.size<=it)(h2:∀ x c,X.env.cells.lookup x=some c->c≠it)(h3:∀ p∈X.pn ++ pins,p.1≠it):Inv X pins σ H { s with heap:=h',toks:=t'}:=by
 have M3:∀ b u,H b=some u->b≠it:=fun b u e z=>by rw[z,hn] at e;cases e
 refine I.step (g':=s.gens) (d':=s.drawn) (ch:=[it]) (fun b hb=>?_) (fun b o _ _ hc e _=>k b o (fun z=>hc (by simp[z])) e) (fun b o _ _ hc e _=>⟨o.slots,k b o (fun z=>hc (by simp[z])) e⟩) (fun _ _ _ _ n=>n)
   (fun b o hc e=>⟨o,k b o (fun z=>hc (by simp[z])) e⟩) (fun _ _ e=>e) (fun _ _ _ e=>e) (fun b ps e=>⟨#[],by rw[e];simp⟩) (fun m hm=>?_) (fun b u e=>?_) I.bare
 . have e:b=it:=by simpa using hb
   subst e
   exact⟨h1,hL,h2,h3⟩
 . obtain⟨o,es,ep,ho,r⟩:=hm
   exact⟨o,es,ep,k _ o (Ne.symm hL) ho,r⟩
 . refine(I.bh b u e).wg (fun c v hc q=>k c v ?_ q) (fun _ q=>q) (fun _ _ q=>q) .refl
   rcases hc with z | z | z
   . rw[z];exact M3 b u e
   . exact M3 c _ z
   . exact fun z'=>by rw[z',hn] at z;exact z
theorem Inv.tok (I:Inv X pins σ H s)(t:Nat):Inv X pins σ H { s with toks:=t}:=I.un (h':=s.heap) (t':=t) Un.refl I.bh
theorem Inv.kept {t':Nat}(I:Inv X pins σ H s)(k:∀ b u,s.heap.get? b=some u->h'.get? b=some u):Inv X pins σ H { s with heap:=h',toks:=t'}:=I.un (Un.kept k) (I.bh.kept k)
theorem Inv.laid {a:Addr}{o:HO}{t':Nat}(I:Inv X pins σ H s)(k:∀ b u,s.heap.get? b=some u->h'.get? b=some u)(hp:s.heap.objs.size<=a)(new:aO X.prog X.w (upd H a o) h' a o):Inv X pins σ (upd H a o) { s with heap:=h',toks:=t'}:=I.un (Un.laid k hp (I.bh.fresh hp)) (I.bh.laid k hp new)
theorem Inv.write {x e:Addr}{o:HO}{t':Nat}(I:Inv X pins σ H s)(mu:Ro (H x))(he:e=x\/H e=some (.own x))(k:∀ b u,b≠e->s.heap.get? b=some u->h'.get? b=some u)(Rp:∃ u,h'.get? e=some u)(new:aO X.prog X.w (upd H x o) h' x o):Inv X pins σ (upd H x o) { s with heap:=h',toks:=t'}:=I.un (Un.write mu he k Rp) (I.bh.write mu he k Rp new)
theorem Inv.C3 {Gj:List (Addr×Obj)}(I:Inv X pins σ H s)(h:∀ p∈Gj,s.heap.get? p.1=some p.2/\H p.1=none/\p.1≠X.env.locals/\p.1 ∉ X.fs/\∀ v,p.2.data≠.cell v):Inv X Gj σ H s:=
 ⟨I.ok,I.os,I.bare,I.base,I.loc,I.cell,I.free,I.pf,fun p hp=>(abd.mp hp).elim (fun z=>I.pin p (List.mem_append_left _ z)) (h p),I.bh,I.len⟩
theorem zX {N:List Str}(hN:N.Nodup){i j:Nat}{x:Str}(a:N[i]?=some x)(b:N[j]?=some x):i=j:=by
 obtain⟨h1,e1⟩:=aad.mp a
 obtain⟨h2,e2⟩:=aad.mp b
 exact(List.getElem_inj hN).mp (e1.trans e2.symm)
theorem rj {M:Model}{A:Around}{E:Value->Shared->Prop}{i:Nat}{x:Str}{v:V}{u:Value}{Q:Unit->Shared->Prop}(I:Inv X pins σ H s)(hN:X.N.Nodup)(hi:X.N[i]?=some x)(hx:Loc X.env.scope x)(r:RelV v u)(h:∀ s',Inv X pins (σ.set i (some v)) H s'->(∃ a,aaX a s.heap s'.heap/\(a=X.env.locals\/X.env.cells.lookup x=some a))->Q () s')(hf:X.fn x=true\/X.env.scope.names.lookup x=some .local:=by first | exact .inl rfl | exact .inr rfl | assumption):wpAny M A (storeName X.env x u) Q E s:=by
 obtain⟨m,hn,hl⟩:=id I.loc
 have V0:(X.env.scope.kind == .class || (X.env.scope.kind == .module && X.env.locals != X.env.globals))=false:=by rw[I.ok.kind];rfl
 have YD:i < σ.length:=by rw[I.len];exact(aad.mp hi).1
 have BC:=I.BC
 have tracked:∀ {a:Addr} {h':Heap},(∃ o,s.heap.get? a=some o/\H a=none)->aaX a s.heap h'->qe X.prog X.w H h':=fun {a h'} ha hs b ob e=>by
   obtain⟨_,_,Gk⟩:=ha
   refine(I.bh b ob e).wg (fun c w' hc q=>(hs.2 c ?_).trans q) (fun _ q=>q) (fun _ _ q=>q) .refl
   rintro rfl
   rcases hc with rfl | hc | hc
   . rw[Gk] at e;cases e
   . rw[Gk] at hc;cases hc
   . rw[Gk] at hc;exact hc
 rcases hx with hk | hk
 . refine wpAny_storeName_local hk hn (fun h' N6 hs=>?_) V0
   obtain⟨oL,_,_,hoL,_⟩:=id hn
   refine h _ ⟨I.ok,I.os,I.bare,⟨fun b o e n hb hx=>?_,fun b o e n hb hx=>?_,I.base.free,fun b o e hx=>?_,I.base.zS,I.base.xZ,I.base.zT⟩,⟨_,N6,fun j y v' e1 e2 e3=>?_⟩,fun y c e=>?_,I.free,I.pf,fun p hp=>?_,tracked ⟨oL,hoL,I.free⟩ hs,by simpa using I.len⟩ ⟨_,hs,.inl rfl⟩
   . exact(hs.2 b (aap (aak (aaj e) I.ok.above))).trans (I.base.keep b o e n hb hx)
   . obtain⟨sl,e1⟩:=I.base.slot b o e n hb hx
     exact⟨sl,(hs.2 b (aap (aak (aaj e) I.ok.above))).trans e1⟩
   . obtain⟨o',e1⟩:=I.base.there b o e hx
     exact⟨o',(hs.2 b (aap (aak (aaj e) I.ok.above))).trans e1⟩
   . by_cases hj:j=i
     . subst hj
       rw[hi] at e1;cases e1
       rw[aae YD] at e2
       cases e2
       exact⟨u,r,.inl ⟨hk,by simp⟩⟩
     . rw[aaf (Ne.symm hj)] at e2
       obtain⟨u',r',q⟩:=hl j y v' e1 e2 e3
       refine⟨u',r',?_⟩
       rcases q with⟨k,e⟩ | ⟨k,c,e,z⟩
       . refine .inl ⟨k,?_⟩
         have:y≠x:=fun e=>hj (zX hN e1 (e ▸ hi))
         simp[this,e]
       . exact .inr ⟨k,c,e,z.sameBut hs (BC y c e)⟩
   . obtain⟨w',z⟩:=I.cell y c e
     exact⟨w',z.sameBut hs (BC y c e)⟩
   . obtain⟨e,n,ne,nf,d⟩:=I.pin p hp
     exact⟨(hs.2 p.1 ne).trans e,n,ne,nf,d⟩
 . have V1:X.fn x=true:=by
     rcases hf with z | z
     . exact z
     . rw[z] at hk;cases hk
   obtain⟨c,hc⟩:=I.ok.has x (.inl hk)
   obtain⟨w',z⟩:=I.cell x c hc
   refine wpAny_storeName_cell I.ok.kind hk hc z (fun h' BD hs=>?_)
   obtain⟨oc,C4,V2⟩:=id z
   refine h { s with heap:=h'} ⟨I.ok,I.os,I.bare,⟨fun b o e n hb hx=>?_,fun b o e n hb hx=>?_,I.base.free,fun b o e hx=>?_,I.base.zS,I.base.xZ,I.base.zT⟩,⟨m,hn.sameBut hs (Ne.symm (BC x c hc)),fun j y v' e1 e2 e3=>?_⟩,fun y c' e=>?_,I.free,I.pf,fun p hp=>?_,tracked ⟨oc,C4,I.pf x c hc⟩ hs,by simpa using I.len⟩ ⟨c,hs,.inr hc⟩
   . exact(hs.2 b (aap (aak (aaj e) (I.ok.Rq x c V1 hc)))).trans (I.base.keep b o e n hb hx)
   . obtain⟨sl,e1⟩:=I.base.slot b o e n hb hx
     exact⟨sl,(hs.2 b (aap (aak (aaj e) (I.ok.Rq x c V1 hc)))).trans e1⟩
   . obtain⟨o',e1⟩:=I.base.there b o e hx
     exact⟨o',(hs.2 b (aap (aak (aaj e) (I.ok.Rq x c V1 hc)))).trans e1⟩
   . by_cases hj:j=i
     . subst hj
       rw[hi] at e1;cases e1
       rw[aae YD] at e2
       cases e2
       exact⟨u,r,.inr ⟨.inl hk,c,hc,BD⟩⟩
     . rw[aaf (Ne.symm hj)] at e2
       obtain⟨u',r',q⟩:=hl j y v' e1 e2 e3
       refine⟨u',r',?_⟩
       rcases q with q | ⟨k,c',e,z'⟩
       . exact .inl q
       . refine .inr ⟨k,c',e,z'.sameBut hs ?_⟩
         rintro rfl
         exact hj (zX hN e1 (I.ok.inj _ _ _ e hc ▸ hi))
   . by_cases RV:c'=c
     . subst RV;exact⟨_,BD⟩
     . obtain⟨w2,z2⟩:=I.cell y c' e
       exact⟨w2,z2.sameBut hs RV⟩
   . obtain⟨e,n,ne,nf,d⟩:=I.pin p hp
     refine⟨(hs.2 p.1 ?_).trans e,n,ne,nf,d⟩
     intro q
     rw[q,C4] at e
     have q':oc=p.2:=Option.some.inj e
     exact d w' (by rw[<- q'];exact V2)
theorem qg {M:Model}{A:Around}{E:Value->Shared->Prop}{i:Nat}{x:Str}{v:V}{u:Value}{Q:Unit->Shared->Prop}(I:Inv X pins σ H s)(hN:X.N.Nodup)(hi:X.N[i]?=some x)(hx:Loc X.env.scope x)(r:RelV v u)(h:∀ s',Inv X pins (σ.set i (some v)) H s'->Q () s')(hf:X.fn x=true\/X.env.scope.names.lookup x=some .local:=by first | exact .inl rfl | exact .inr rfl | assumption):wpAny M A (storeName X.env x u) Q E s:=
 rj I hN hi hx r (fun s' I' _=>h s' I') hf
theorem Inv.Gm {s':Shared}{ch:List Addr}(I:Inv X pins σ H s)(ho:s'.os=s.os)(u:Un (Gh X.stack) ch H H' s.heap s'.heap)(bh:qe X.prog X.w H' s'.heap)(hg:AllBare s'.gens)(sF:∀ b∈ch,(b∈X.ex\/X.s₀.heap.objs.size<=b)/\b≠X.env.locals/\(∀ x c,X.env.cells.lookup x=some c->c≠b)/\∀ p∈X.pn ++ pins,p.1≠b):Inv X pins σ H' s':=by
 obtain⟨h',g',d',t',o'⟩:=s'
 have e:o'=s.os:=ho
 subst e
 exact I.call (g':=g') (t':=t') (d':=d') u bh hg sF
end
abbrev XK:=Value->Option Addr->Hp->Prop
noncomputable abbrev St:=List (Option V)
abbrev VK:=V->Hp->Prop
abbrev TE:=St->Hp->VK->Prop
abbrev TT:=St->Hp->(Bool->Hp->Prop)->Prop
abbrev TA:=St->Hp->(List V->Hp->Prop)->Prop
structure Ends where
 nx:St->Hp->Prop
 rt:VK
 bk:St->Hp->Prop:=fun _ _=>False
 ct:St->Hp->Prop:=fun _ _=>False
abbrev TS:=Ends->St->Hp->Prop
def EP (X:Cx)(pins:List (Addr×Obj))(σ:St)(Q:VK)(u:Value)(s':Shared):Prop:=∃ v H',Inv X pins σ H' s'/\RelV v u/\Q v H'
def TP (X:Cx)(pins:List (Addr×Obj))(σ:St)(Q:Bool->Hp->Prop)(b:Bool)(s':Shared):Prop:=∃ H',Inv X pins σ H' s'/\Q b H'
def AP (X:Cx)(pins:List (Addr×Obj))(σ:St)(Q:List V->Hp->Prop)(us:List Value)(s':Shared):Prop:=∃ vs H',Inv X pins σ H' s'/\Vals vs us/\Q vs H'
def SP (X:Cx)(pins:List (Addr×Obj))(D:Ends)(f:Flow)(s':Shared):Prop:=
 match f with
 | .next=>∃ σ' H',Inv X pins σ' H' s'/\D.nx σ' H'
 | .brk=>∃ σ' H',Inv X pins σ' H' s'/\D.bk σ' H'
 | .cont=>∃ σ' H',Inv X pins σ' H' s'/\D.ct σ' H'
 | .ret u=>∃ v σ' H',Inv X pins σ' H' s'/\RelV v u/\D.rt v H'
def PE (X:Cx)(e:Expr)(t:TE):Prop:=
 ∀ (pins:List (Addr×Obj)) (s:Shared) (σ:St) (H:Hp) (Q:VK),Inv X pins σ H s->t σ H Q->wpAny (model X.prog X.w) X.A (eval e X.env) (EP X pins σ Q) X.xe s
def PT (X:Cx)(e:Expr)(t:TT):Prop:=
 ∀ (pins:List (Addr×Obj)) (s:Shared) (σ:St) (H:Hp) (Q:Bool->Hp->Prop),Inv X pins σ H s->t σ H Q->wpAny (model X.prog X.w) X.A (isTrue e X.env (eval e X.env)) (TP X pins σ Q) X.xe s
def PW (X:Cx)(e:Expr)(t:TT):Prop:=
 ∀ (whole:Sem Value) (pins:List (Addr×Obj)) (s:Shared) (σ:St) (H:Hp) (Q:Bool->Hp->Prop),Inv X pins σ H s->t σ H Q->wpAny (model X.prog X.w) X.A (isTrue e X.env whole) (TP X pins σ Q) X.xe s
theorem PW.pt {X:Cx}{e:Expr}{t:TT}(h:PW X e t):PT X e t:=h _
def PA (X:Cx)(es:List Expr)(t:TA):Prop:=
 ∀ (pos:Pos) (pins:List (Addr×Obj)) (s:Shared) (σ:St) (H:Hp) (Q:List V->Hp->Prop),Inv X pins σ H s->t σ H Q->wpAny (model X.prog X.w) X.A (spliced (backTo pos (starEach es X.env))) (AP X pins σ Q) X.xe s
def PS (X:Cx)(st:Stmt)(t:TS):Prop:=
 ∀ (pins:List (Addr×Obj)) (s:Shared) (σ:St) (H:Hp) (D:Ends),Inv X pins σ H s->t D σ H->wpAny (model X.prog X.w) X.A (exec st X.env) (SP X pins D) X.xe s
def BE (X:Cx)(st:List Stmt)(t:TS):Prop:=
 ∀ (pins:List (Addr×Obj)) (s:Shared) (σ:St) (H:Hp) (D:Ends),Inv X pins σ H s->t D σ H->wpAny (model X.prog X.w) X.A (execs st X.env) (SP X pins D) X.xe s
theorem bM {α:Type}{t:Sem α}{Q Q':α->Shared->Prop}{M:Model}{A:Around}{E:Value->Shared->Prop}{s:Shared}(h:wpAny M A t Q E s)(hQ:∀ a s,Q a s->Q' a s):wpAny M A t Q' E s:=wpAny_mono h hQ fun _ _ x=>x
section
variable {X:Cx}
def V3 (i:Nat):TE:=fun σ H Q=>∃ v,σ[i]?=some (some v)/\Q v H
def tC (v:V):TE:=fun _ H Q=>Q v H
theorem iU {i:Nat}{x:Str}{pos:Pos}(hN:X.N[i]?=some x)(hv:uB X.env.scope x)(hd:(x == ("__debug__":Str))=false:=by decide)(lV:(x == ("__classdict__":Str))=false:=by decide):PE X (.Name x pos) (V3 i):=by
 intro pins s σ H Q I h
 obtain⟨v,e,h⟩:=h
 obtain⟨m,hn,hl⟩:=I.loc
 obtain⟨u,r,l⟩:=hl i x v hN e hv
 have fin:EP X pins σ Q u s:=⟨v,H,I,r,h⟩
 rcases l with⟨hk,hm⟩ | ⟨hk,c,hc,M4⟩
 . exact wpAny_Name (wpAny_loadName_local I.ok.kind hk hn hm fin) hd
 . rcases hk with hk | hk
   . exact wpAny_Name (wpAny_loadName_cell I.ok.kind hk hc M4 fin) hd
   . exact wpAny_Name (wpAny_loadName_free I.ok.kind hk hc M4 fin lV) hd
theorem N7 {i j pos}:PE X (.Constant (.int i) j pos) (tC (.int i)):=fun _ _ _ H _ I h=>wpAny_Constant_int ⟨.int i,H,I.tok _,⟨_,rfl⟩,h⟩
theorem N8 {x j pos}:PE X (.Constant (.str x) j pos) (tC (.str x)):=fun _ _ _ H _ I h=>Calls.Constant_str ⟨.str x,H,I.tok _,⟨_,rfl⟩,h⟩
def Gl (X:Cx)(x:Str):Prop:=X.env.kindOf x=some .globalImplicit
theorem tR {E:Value->Shared->Prop}{pins:List (Addr×Obj)}{s:Shared}{σ:St}{H:Hp}{x:Str}{u:Value}{pos:Pos}{Q:Value->Shared->Prop}(I:Inv X pins σ H s)(hg:Gl X x)(hm:X.mg x=some u)(h:Q u s)(hd:(x == ("__debug__":Str))=false:=by decide):wpAny (model X.prog X.w) X.A (eval (.Name x pos) X.env) Q E s:=
 Calls.Name_function_global I.ok.kind hg (Calls.loadGlobal_global (by rw[I.ok.glob];exact I.mod.glob.keeps I.bk) hm h) hd
theorem nE {E:Value->Shared->Prop}{pins:List (Addr×Obj)}{s:Shared}{σ:St}{H:Hp}{x:Str}{u:Value}{pos:Pos}{Q:Value->Shared->Prop}(I:Inv X pins σ H s)(hg:Gl X x)(hm:X.mg x=none)(hv:bootBuiltins x=some u)(h:Q u s)(hn:x≠"__name__":=by decide)(hd:(x == ("__debug__":Str))=false:=by decide):wpAny (model X.prog X.w) X.A (eval (.Name x pos) X.env) Q E s:=by
 obtain⟨mb,h1,h2⟩:=I.mod.blt
 exact Calls.Name_function_global I.ok.kind hg (Calls.loadGlobal_builtin (by rw[I.ok.glob];exact I.mod.glob.keeps I.bk) hm (by rw[I.ok.blt];exact h1.keeps I.bk) ((h2 x hn).trans hv) h) hd
theorem KJ {x:Str}{v:V}{u:Value}{pos:Pos}(hg:Gl X x)(hm:X.mg x=some u)(r:RelV v u)(hd:(x == ("__debug__":Str))=false:=by decide):PE X (.Name x pos) (tC v):=
 fun _ _ _ H _ I h=>tR I hg hm ⟨v,H,I,r,h⟩ hd
variable {a b:Expr}{ta tb:TE}{pos:Pos}
def PC (X:Cx)(op:CmpOp)(a b:Expr)(t:TE):Prop:=
 ∀ (pins:List (Addr×Obj)) (s:Shared) (σ:St) (H:Hp) (Q:VK),Inv X pins σ H s->t σ H Q ->
   wpAny (model X.prog X.w) X.A (eval a X.env) (fun v s₁=>wpAny (model X.prog X.w) X.A (eval b X.env) (fun u s₂=>wpAny (model X.prog X.w) X.A (compareOp op v u) (EP X pins σ Q) X.xe s₂) X.xe s₁) X.xe s
def tB (t:TE):TT:=fun σ H Q=>t σ H fun x H1=>∃ c,x=.bl c/\Q c H1
theorem N9 {op:CmpOp}{t:TE}(h:PC X op a b t)(h1:behindInMarks op b=false:=by first | exact RW _ (by decide) (by decide) | rfl):PT X (.Compare a [op] [b] pos) (tB t):=by
 intro pins s σ H Q I hw
 refine wpAny_isTrue_Compare1 (bM (h pins s σ H _ I hw) fun v s1 h1=>bM h1 fun u s2 h2=>bM h2 fun c s3 ⟨x,H1,I1,r1,q1⟩=>?_) h1
 obtain⟨d,rfl,q⟩:=q1
 cases r1
 exact wpAny_truthy_bool ⟨H1,I1,q⟩
theorem Oa {e:Expr}{t:TE}(h:PE X e t)(he:∀ whole,isTrue e X.env whole=(do let v <- whole;standAt e.pos;holding [v] (truthy v)):=by intro _;rfl):PT X e (tB t):=by
 intro pins s σ H Q I hw
 refine isTrue_plain (bM (h pins s σ H _ I hw) fun v s1 ⟨x,H1,I1,r1,q1⟩=>?_) (he _)
 obtain⟨d,rfl,q⟩:=q1
 cases r1
 exact wpAny_truthy_bool ⟨H1,I1,q⟩
variable {tA U5:TT}{rest:List Expr}
def V4 (t u:TT):TT:=fun σ H Q=>t σ H fun c H1=>if c=true then u σ H1 Q else Q false H1
def tOr (t u:TT):TT:=fun σ H Q=>t σ H fun c H1=>if c=true then Q true H1 else u σ H1 Q
def V5 (t:TT):TT:=fun σ H Q=>t σ H fun c H1=>Q (!c) H1
theorem pw_and1 (ha:PT X a tA):PW X (.BoolOp .And [a] pos) tA:=by
 intro wh pins s σ H Q I h
 refine isTrue_and (bM (ha pins s σ H Q I h) fun c s1 e=>?_)
 cases c with
 | true=>exact isTrue_and_nil e
 | false=>exact e
theorem pw_or1 (ha:PT X a tA):PW X (.BoolOp .Or [a] pos) tA:=by
 intro wh pins s σ H Q I h
 refine isTrue_or (bM (ha pins s σ H Q I h) fun c s1 e=>?_)
 cases c with
 | false=>exact isTrue_or_nil e
 | true=>exact e
theorem pw_and (ha:PT X a tA)(hb:PW X (.BoolOp .And (b::rest) pos) U5):PW X (.BoolOp .And (a::b::rest) pos) (V4 tA U5):=by
 intro wh pins s σ H Q I h
 refine isTrue_and (bM (ha pins s σ H _ I h) fun c s1 ⟨H1,I1,q1⟩=>?_)
 cases c with
 | true=>exact hb wh pins s1 σ H1 Q I1 q1
 | false=>exact⟨H1,I1,q1⟩
theorem pw_or (ha:PT X a tA)(hb:PW X (.BoolOp .Or (b::rest) pos) U5):PW X (.BoolOp .Or (a::b::rest) pos) (tOr tA U5):=by
 intro wh pins s σ H Q I h
 refine isTrue_or (bM (ha pins s σ H _ I h) fun c s1 ⟨H1,I1,q1⟩=>?_)
 cases c with
 | true=>exact⟨H1,I1,q1⟩
 | false=>exact hb wh pins s1 σ H1 Q I1 q1
theorem Ob (ha:PT X a tA):PT X (.UnaryOp .Not a pos) (V5 tA):=by
 intro pins s σ H Q I h
 exact isTrue_not (ha pins s σ H (fun c H1=>Q (!c) H1) I h)
def RX (ta tb:TE):TE:=fun σ H Q=>ta σ H fun x H1=>∃ c,x=.bl c/\if c=true then tb σ H1 Q else Q (.bl false) H1
theorem Oc {op}{t:TE}(h:PE X a t):PE X (.BoolOp op [a] pos) t:=fun pins s σ H Q I hw=>BoolOp_one (h pins s σ H Q I hw)
theorem Gn (ha:PE X a ta)(hb:PE X (.BoolOp .And (b::rest) pos) tb):PE X (.BoolOp .And (a::b::rest) pos) (RX ta tb):=by
 intro pins s σ H Q I h
 refine BoolOp_and (bM (ha pins s σ H _ I h) fun v s1 ⟨x,H1,I1,r1,q1⟩=>?_)
 obtain⟨c,rfl,q1⟩:=q1
 cases r1
 refine wpAny_truthy_bool ?_
 cases c with
 | true=>exact hb pins s1 σ H1 Q I1 q1
 | false=>exact⟨.bl false,H1,I1,rfl,q1⟩
def tIf (t:TT)(ta tb:TE):TE:=fun σ H Q=>t σ H fun c H1=>if c=true then ta σ H1 Q else tb σ H1 Q
theorem zY {c:Expr}(hc:PT X c tA)(ha:PE X a ta)(hb:PE X b tb):PE X (.IfExp c a b pos) (tIf tA ta tb):=by
 intro pins s σ H Q I h
 refine wpAny_IfExp (bM (hc pins s σ H _ I h) fun d s1 ⟨H1,I1,q1⟩=>?_)
 cases d with
 | true=>exact ha pins s1 σ H1 Q I1 q1
 | false=>exact hb pins s1 σ H1 Q I1 q1
end
def lS (K:PySem.W.Frag)(H:Hp)(a:Addr)(xs:List V):Prop:=
 Rd H a (.lst xs) \/
   ∃ (o:Obj) (aE:Array Value) (n:Nat),K.lookup a=some o/\o.cls=.type "list"/\o.dict=none/\o.data=.seq aE n/\aE.size<=sizeLine/\Vals xs aE.toList
abbrev BF (K:PySem.W.Frag)(H:Hp)(a:Addr)(xs:List V):Prop:=TupAt K H a xs
noncomputable def V6:Value->Option V
 | .none=>some .cy
 | .bool b=>some (.bl b)
 | .int i _=>some (.int i)
 | .str x _=>some (.str x)
 | .bytes b _=>some (.F3 b)
 | .float b _=>some (.Rn b)
 | .ref a=>some (.ref a)
 | .type n=>some (.ty n)
 | _=>none
theorem RelV.abs {x:V}{u:Value}(r:RelV x u):V6 u=some x:=by
 cases x with
 | cy=>cases r;rfl
 | bl _=>cases r;rfl
 | int _=>obtain⟨t,rfl⟩:=r;rfl
 | str _=>obtain⟨t,rfl⟩:=r;rfl
 | F3 _=>obtain⟨t,rfl⟩:=r;rfl
 | Rn _=>obtain⟨t,rfl⟩:=r;rfl
 | ref _=>cases r;rfl
 | ty _=>cases r;rfl
theorem RelV.inj {x y:V}{u:Value}(r:RelV x u)(q:RelV y u):x=y:=Option.some.inj (r.abs.symm.trans q.abs)
theorem Vals.inj:∀ {xs ys:List V} {us:List Value},Vals xs us->Vals ys us->xs=ys
 | _,_,_,.nil,.nil=>rfl
 | _,_,_,.cons r t,.cons r' t'=>by rw[r.inj r',Vals.inj t t']
section
variable {X:Cx}{pins:List (Addr×Obj)}{σ:St}{H:Hp}{s:Shared}{a:Addr}{xs ys:List V}
theorem lS.of {K:W.Frag}(h:H a=some (.lst xs)):lS K H a xs:=.inl (.inl h)
theorem BF.of {K:W.Frag}(h:H a=some (.tup xs)):BF K H a xs:=.inl h
theorem Inv.list (I:Inv X pins σ H s)(h:lS X.K H a xs):∃ aE:List Value,Vals xs aE/\PlainL s.heap a aE.toArray/\xs.length<=sizeLine:=by
 rcases h with h | ⟨o,aE,n,hk,hc,hd,hs,hz,r⟩
 . obtain⟨z,aE,n,r,e⟩:=h.ok I.bh
   exact⟨aE,r,⟨_,n,e,rfl,rfl,rfl⟩,z⟩
 . refine⟨aE.toList,r,⟨o,n,I.zW a o hk,hc,hd,by simpa using hs⟩,?_⟩
   have e:=r.length
   simp only[abo] at e
   omega
theorem Inv.tuple (I:Inv X pins σ H s)(h:BF X.K H a xs):∃ aE:List Value,Vals xs aE/\IsTup s.heap a aE.toArray/\xs.length<=sizeLine:=by
 rcases h with h | ⟨o,aE,n,hk,hc,hs,hz,r⟩
 . obtain⟨z,aE,r,p⟩:=(show aO X.prog X.w H s.heap a (.tup xs) from I.bh a _ h)
   exact⟨aE,r,p,z⟩
 . refine⟨aE.toList,r,⟨o,I.zW a o hk,hc,n,by simpa using hs⟩,?_⟩
   have e:=r.length
   simp only[abo] at e
   omega
theorem Inv.uD (I:Inv X pins σ H s)(h:lS X.K H a xs)(h':lS X.K H a ys):xs=ys:=by
 obtain⟨aE,r,⟨o,n,e,_,_,d⟩,_⟩:=I.list h
 obtain⟨its',r',⟨o',n',e',_,_,d'⟩,_⟩:=I.list h'
 rw[e] at e';cases e'
 rw[d] at d'
 injection d' with d1 _
 have:aE=its':=by simpa using congrArg Array.toList d1
 subst this
 exact r.inj r'
end
section
variable {X:Cx}{st:Stmt}{rest:List Stmt}{t u:TS}{e:Expr}{te:TE}{pos:Pos}
def RY:TS:=fun D σ H=>D.nx σ H
def V7 (t u:TS):TS:=fun D σ H=>t { D with nx:=u D} σ H
theorem KL:BE X [] RY:=fun _ _ σ H _ I h=>wpAny_execs_nil ⟨σ,H,I,h⟩
theorem lW (h1:PS X st t)(h2:BE X rest u):BE X (st::rest) (V7 t u):=by
 intro pins s σ H D I h
 refine wpAny_execs_cons (bM (h1 pins s σ H { D with nx:=u D} I h) fun f s1 q=>?_)
 cases f with
 | next=>
   obtain⟨σ',H',I',q⟩:=q
   exact h2 pins s1 σ' H' D I' q
 | ret v=>exact q
 | brk=>exact q
 | cont=>exact q
theorem mC (h1:PS X st t):BE X [st] t:=by
 intro pins s σ H D I h
 refine wpAny_execs_cons (bM (h1 pins s σ H D I h) fun f s1 q=>?_)
 cases f with
 | next=>exact wpAny_execs_nil q
 | ret v=>exact q
 | brk=>exact q
 | cont=>exact q
theorem Inv.quiet {pins:List (Addr×Obj)}{σ:St}{H:Hp}{s:Shared}(I:Inv X pins σ H s):interactive X.env=false:=by simp[interactive,I.ok.kind]
def RZ (te:TE):TS:=fun D σ H=>te σ H fun _ H1=>D.nx σ H1
theorem lg (he:PE X e te)(hs:swapsWith e none pos.line X.env=pure false:=by rfl):PS X (.Expr e pos) (RZ te):=by
 intro pins s σ H D I h
 exact wpAny_Expr_any (bM (he pins s σ H _ I h) fun v s1 ⟨x,H1,I1,r1,q1⟩=>⟨σ,H1,I1,q1⟩) I.quiet hs
def V8 (te:TE):TS:=fun D σ H=>te σ H D.rt
theorem BJ (he:PE X e te):PS X (.Return (some e) pos) (V8 te):=by
 intro pins s σ H D I h
 exact wpAny_Return_some (bM (he pins s σ H _ I h) fun v s1 ⟨x,H1,I1,r1,q1⟩=>⟨x,σ,H1,I1,r1,q1⟩)
def V9 (c:TT)(t u:TS):TS:=fun D σ H=>c σ H fun b H1=>if b=true then t D σ H1 else u D σ H1
theorem M5 {c:Expr}{a b:List Stmt}{tc:TT}(hc:PT X c tc)(ha:BE X a t)(hb:BE X b u):PS X (.If c a b pos) (V9 tc t u):=by
 intro pins s σ H D I h
 refine wpAny_If (bM (hc pins s σ H _ I h) fun d s1 ⟨H1,I1,q1⟩=>?_)
 cases d with
 | true=>exact ha pins s1 σ H1 D I1 q1
 | false=>exact hb pins s1 σ H1 D I1 q1
def Od:TS:=fun _ _ _=>False
theorem rm {sts:List Stmt}:BE X sts Od:=fun _ _ _ _ _ _ h=>h.elim
end
abbrev TG:=V->St->Hp->(St->Hp->Prop)->Prop
abbrev Oe:=List V->St->Hp->(St->Hp->Prop)->Prop
def PG (X:Cx)(target:Expr)(t:TG):Prop:=
 ∀ (pins:List (Addr×Obj)) (s:Shared) (σ:St) (H:Hp) (v:V) (u:Value) (Q:St->Hp->Prop),Inv X pins σ H s->RelV v u->t v σ H Q ->
   wpAny (model X.prog X.w) X.A (assign target X.env u) (fun _ s'=>∃ σ' H',Inv X pins σ' H' s'/\Q σ' H') X.xe s
def U6 (X:Cx)(ts:List Expr)(t:Oe):Prop:=
 ∀ (pins:List (Addr×Obj)) (s:Shared) (σ:St) (H:Hp) (vs:List V) (us:List Value) (Q:St->Hp->Prop),Inv X pins σ H s->Vals vs us->t vs σ H Q ->
   wpAny (model X.prog X.w) X.A (assignInOrder ((assignEach ts X.env).map (·.2)) us) (fun _ s'=>∃ σ' H',Inv X pins σ' H' s'/\Q σ' H') X.xe s
abbrev Of:=V->V->V->Hp->(Hp->Prop)->Prop
def R0 (X:Cx)(t:Of):Prop:=
 ∀ (pins:List (Addr×Obj)) (s:Shared) (σ:St) (H:Hp) (o i v:V) (ov iv u:Value) (Q:Hp->Prop),Inv X pins σ H s->RelV o ov->RelV i iv->RelV v u->t o i v H Q ->
   wpAny (model X.prog X.w) X.A (setItem ov iv u) (fun _ s'=>∃ H',Inv X pins σ H' s'/\Q H') X.xe s
section
variable {X:Cx}{pos:Pos}
def lX (i:Nat):TG:=fun v σ H Q=>Q (σ.set i (some v)) H
theorem bX {i:Nat}{x:Str}(hN:X.N.Nodup)(hi:X.N[i]?=some x)(hx:Loc X.env.scope x)(hf:X.fn x=true\/X.env.scope.names.lookup x=some .local:=by first | exact .inl rfl | exact .inr rfl | assumption):PG X (.Name x pos) (lX i):=by
 intro pins s σ H v u Q I r h
 exact wpAny_assign_Name (qg I hN hi hx r (fun s' I'=>⟨_,H,I',h⟩) hf)
def KN:Oe:=fun vs σ H Q=>vs=[]/\Q σ H
def sG (t:TG)(u:Oe):Oe:=fun vs σ H Q=>∃ v r,vs=v::r/\t v σ H fun σ' H'=>u r σ' H' Q
theorem qh:U6 X [] KN:=by
 intro pins s σ H vs us Q I r h
 obtain⟨e,h⟩:=h
 subst e
 cases r
 exact assignInOrder_nil ⟨σ,H,I,h⟩
theorem fh {e:Expr}{es:List Expr}{t:TG}{u:Oe}(h1:PG X e t)(h2:U6 X es u)(hs:(assignEach (e::es) X.env).map (·.2)=assign e X.env::(assignEach es X.env).map (·.2):=by rfl):U6 X (e::es) (sG t u):=by
 intro pins s σ H vs us Q I r h
 obtain⟨v,vr,e1,h⟩:=h
 subst e1
 cases r with
 | cons r rr=>
   rw[hs]
   refine assignInOrder_cons (bM (h1 pins s σ H _ _ _ I r h) fun _ s1 ⟨σ1,H1,I1,q1⟩=>?_)
   exact h2 pins s1 σ1 H1 _ _ Q I1 rr q1
def KO (K:W.Frag)(n:Nat)(t:Oe):TG:=fun v σ H Q=>∃ a xs,v=.ref a/\BF K H a xs/\xs.length=n/\t xs σ H Q
theorem uE {es:List Expr}{k:Nat}{t:Oe}{n:Nat}(hc:X.calm=true)(h:U6 X es t)(hn:(assignEach es X.env).length=n:=by rfl)(pK:(assignEach es X.env).findIdx? (·.1)=none:=by rfl):PG X (.Tuple es k pos) (KO X.K n t):=by
 intro pins s σ H v u Q I r hw
 obtain⟨a,xs,e1,hq,hl,hw⟩:=hw
 subst e1
 cases r
 obtain⟨aE,rv,ht,hz⟩:=I.tuple hq
 refine assign_Tuple_tuple (I.ok.hd hc) ht (by simp[hn,<- hl,rv.length]) pK fun h' hx=>?_
 have I1:Inv X pins σ H { s with heap:=h'}:=I.kept (t':=s.toks) fun b o e=>hx b o (aap (aaj e)) e
 exact h pins _ σ H xs _ Q I1 (by simpa using rv) hw
def Wa (to ti:TE)(t:Of):TG:=fun v σ H Q=>to σ H fun o H1=>ti σ H1 fun i H2=>t o i v H2 fun H3=>Q σ H3
theorem Og {o i:Expr}{to ti:TE}{t:Of}(ho:PE X o to)(hi:PE X i ti)(hs:R0 X t)
   (ha:∀ v,assign (.Subscript o i pos) X.env v=(do
     let ov <- holding [v] (eval o X.env)
     let iv <- holding [v,ov] (eval i X.env)
     standAt pos
     holding [v,ov,iv] (setItem ov iv v)
     release [v,ov,iv] []):=by intro _;rfl):PG X (.Subscript o i pos) (Wa to ti t):=by
 intro pins s σ H v u Q I r h
 rw[ha]
 refine wpAny_bind (wpAny_holding (bM (ho pins s σ H _ I h) fun ov s1 ⟨x,H1,I1,r1,q1⟩=>?_))
 refine wpAny_bind (wpAny_holding (bM (hi pins s1 σ H1 _ I1 q1) fun iv s2 ⟨y,H2,I2,r2,q2⟩=>?_))
 refine wpAny_bind (wpAny_standAt (wpAny_bind (wpAny_holding (bM (hs pins s2 σ H2 x y v ov iv u _ I2 r1 r2 r q2) fun _ s3 ⟨H3,I3,q3⟩=>?_))))
 exact wpAny_release ⟨σ,H3,I3,q3⟩
def R1 (te:TE)(g:TG):TS:=fun D σ H=>te σ H fun x H1=>g x σ H1 D.nx
theorem Gp {tg e:Expr}{te:TE}{g:TG}(he:PE X e te)(hg:PG X tg g)(hs:swapsWithSole [tg] e pos.line X.env=pure false:=by rfl)(hw:swappedStores [tg] e X.env=pure none:=by rfl)(h1:(assignEach [tg] X.env).map (·.2)=[assign tg X.env]:=by rfl):PS X (.Assign [tg] e pos) (R1 te g):=by
 intro pins s σ H D I h
 refine wpAny_Assign_stores (bM (he pins s σ H _ I h) fun v s1 ⟨x,H1,I1,r1,q1⟩=>?_) hs hw
 rw[h1]
 exact bM (hg pins s1 σ H1 x v _ I1 r1 q1) fun _ s2 q=>q
theorem x4 {i:Nat}{x:Str}{e:Expr}{te:TE}{pos':Pos}(hN:X.N.Nodup)(hi:X.N[i]?=some x)(hx:Loc X.env.scope x)(he:PE X e te)(hs:swapsWith e (some (.Name x pos')) pos.line X.env=pure false:=by rfl)(hf:X.fn x=true\/X.env.scope.names.lookup x=some .local:=by first | exact .inl rfl | exact .inr rfl | assumption):PS X (.Assign [.Name x pos'] e pos) (R1 te (lX i)):=by
 intro pins s σ H D I h
 refine wpAny_Assign_Name (bM (he pins s σ H _ I h) fun v s1 ⟨y,H1,I1,r1,q1⟩=>?_) hs
 exact qg I1 hN hi hx r1 (fun s2 I2=>⟨_,H1,I2,q1⟩) hf
def Wb (i j:Nat)(ta:TA):TS:=fun D σ H=>ta σ H fun vs H1=>∃ v w,vs=[v,w]/\D.nx ((σ.set i (some v)).set j (some w)) H1
theorem Oh {i j:Nat}{x y:Str}{a b:Expr}{ta:TA}{px py pt:Pos}{kt k2 Oi}(hc:X.calm=true)(hN:X.N.Nodup)(hi:X.N[i]?=some x)(hj:X.N[j]?=some y)(R3:i≠j)(hx:X.env.scope.names.lookup x=some .local)(hy:X.env.scope.names.lookup y=some .local)(ha:PA X [a,b] ta)(hw:swappedStores [.Tuple [.Name x px,.Name y py] kt pt] (.Tuple [a,b] k2 Oi) X.env=pure (some [x,y]))(hs:swapsWithSole [.Tuple [.Name x px,.Name y py] kt pt] (.Tuple [a,b] k2 Oi) pos.line X.env=pure false:=by rfl):PS X (.Assign [.Tuple [.Name x px,.Name y py] kt pt] (.Tuple [a,b] k2 Oi) pos) (Wb i j ta):=by
 intro pins s σ H D I h
 rw[exec_Assign_arm]
 refine wpAny_bind (wpAny_standAt ?_)
 rw[hs]
 refine wpAny_bind (wpAny_pure ?_)
 rw[if_neg (by decide)]
 refine wpAny_bind (Tuple_ (bM (ha _ pins s σ H _ I h) fun us s1 ⟨vs,H1,I1,r1,q1⟩=>?_))
 obtain⟨v,w,e1,q1⟩:=q1
 subst e1
 obtain⟨u1,u2,rfl,rv,Gq⟩:∃ u1 u2,us=[u1,u2]/\RelV v u1/\RelV w u2:=by
   cases r1 with
   | cons p q=>
     cases q with
     | cons p' q'=>
       cases q'
       exact⟨_,_,rfl,p,p'⟩
 refine wpAny_newObj_type ?_ (by show 2<=sizeLine;decide)
 have I2:Inv X pins σ H1 { s1 with heap:=s1.heap.push { cls:=.type "tuple",data:=.seq [u1,u2].toArray}}:=I1.kept (t':=s1.toks) fun b o e=>Vf _ e
 rw[hw]
 refine wpAny_bind (wpAny_pure ?_)
 show wpAny (model X.prog X.w) X.A (do rule "assign.swapped-stores";let items <- unpackItems (.ref s1.heap.objs.size) 2 none;assignInOrder [fun v=>bindName X.env y v,fun v=>bindName X.env x v] items.reverse;pure Flow.next) _ _ _
 refine wpAny_bind (wpAny_rule (wpAny_bind (unpackItems_tuple (items:=#[u1,u2]) (I.ok.hd hc) (IsTup.new s1.heap _) fun h' C5=>?_)))
 have I3:=I2.kept (h':=h') (t':=s1.toks) fun b o e=>C5 b o (aap (aaj e)) e
 show wpAny _ _ (assignInOrder [fun v=>bindName X.env y v,fun v=>bindName X.env x v] [u2,u1] >>= fun _=>pure Flow.next) _ _ _
 refine wpAny_bind (assignInOrder_cons (wpAny_bindName (qg I3 hN hj (.inl hy) Gq (fun s2 I4=>?_) (.inr hy))))
 refine assignInOrder_cons (wpAny_bindName (qg I4 hN hi (.inl hx) rv (fun s3 I5=>assignInOrder_nil (wpAny_pure ?_)) (.inr hx)))
 rw[List.set_comm _ _ (Ne.symm R3)] at I5
 exact⟨_,H1,I5,q1⟩
end
section
variable {X:Cx}{pos:Pos}
def Oj (c:TT)(tb:TS):TS:=fun D σ H=>∃ W:Nat->St->Hp->Prop,(∃ m,W m σ H)/\∀ m σ H,W m σ H ->
 c σ H fun b H1=>if b=true then ∃ N:St->Hp->Prop,(∀ σ' H',N σ' H'->∃ m',m' < m/\W m' σ' H')/\tb { D with nx:=N,ct:=N,bk:=D.nx} σ H1 else D.nx σ H1
theorem zZ {c:Expr}{body:List Stmt}{tc:TT}{tb:TS}(hp:PassesOwn (model X.prog X.w) X.A X.env X.xe)(hc:PT X c tc)(hb:BE X body tb):PS X (.While c body [] pos) (Oj tc tb):=by
 intro pins s σ H D I h
 obtain⟨W,⟨m0,w0⟩,turn⟩:=h
 refine wpAny_While (codeAny_whileLoop (fun n s'=>∃ σ' H',Inv X pins σ' H' s'/\W n σ' H') ?_ m0 ⟨σ,H,I,w0⟩)
 rintro n s1 ⟨σ1,H1,I1,w1⟩
 refine wpAny_passesOwn hp (bM (hc pins s1 σ1 H1 _ I1 (turn n σ1 H1 w1)) fun b s2 ⟨H2,I2,q2⟩=>?_)
 cases b with
 | true=>
   obtain⟨N,hN,q2⟩:=q2
   rw[if_pos rfl]
   refine wpAny_passesOwn hp (bM (hb pins s2 σ1 H2 _ I2 q2) fun f s3 q3=>?_)
   cases f with
   | next=>
     obtain⟨σ3,H3,I3,n3⟩:=q3
     obtain⟨m',hm,w3⟩:=hN σ3 H3 n3
     exact⟨m',hm,σ3,H3,I3,w3⟩
   | cont=>
     obtain⟨σ3,H3,I3,n3⟩:=q3
     obtain⟨m',hm,w3⟩:=hN σ3 H3 n3
     exact⟨m',hm,σ3,H3,I3,w3⟩
   | brk=>exact q3
   | ret v=>exact q3
 | false=>
   rw[if_neg aal]
   exact wpAny_execs_nil ⟨σ1,H2,I2,q2⟩
end
structure It where
 go:Nat->Hp->Prop
 Gs:Nat->Hp->V->Hp->Prop
 stop:Nat->Hp->Prop
def jT (X:Cx)(pins:List (Addr×Obj))(H:Hp)(b:Addr):Prop:=
 H b=none/\b≠X.env.locals/\b ∉ X.fs/\(b∈X.ex\/X.s₀.heap.objs.size<=b)/\(∀ x c,X.env.cells.lookup x=some c->c≠b)/\∀ p∈X.pn ++ pins,p.1≠b
theorem Inv.rq {X:Cx}{pins:List (Addr×Obj)}{σ:St}{H H':Hp}{s:Shared}{b:Addr}(I:Inv X pins σ H s)(hb:s.heap.objs.size<=b)(hn:H' b=none):jT X pins H' b:=by
 refine⟨hn,abk (aak I.lt hb),I.VY hb,.inr (aav I.sz hb),fun x c e z=>?_,fun p hp z=>?_⟩
 . obtain⟨v,q⟩:=I.cell x c e
   exact absurd (aak q.lt (by rw[z];exact hb)) (aa8 _)
 . exact absurd (aak (aaj (I.pin p hp).1) (by rw[z];exact hb)) (aa8 _)
structure Turn (P:Program)(w:World)(K:W.Frag)(tg:Expr)(J:It)(fp:List Addr)(it:Addr)(tn:Nat->Heap->Prop):Prop where
 mem:it∈fp
 obj:∀ i h,tn i h->∀ b∈fp,∃ o,h.get? b=some o/\∀ v,o.data≠.cell v
 keep:∀ i h h',tn i h->(∀ b∈fp,∀ o,h.get? b=some o->h'.get? b=some o)->tn i h'
 item:∀ (X:Cx),X.prog=P->X.w=w->X.K=K->X.calm=true->∀ (i:Nat) (pins:List (Addr×Obj)) (s:Shared) (σ:St) (H:Hp) (E:Value->Shared->Prop),Inv X pins σ H s->(∀ b∈fp,jT X pins H b)->tn i s.heap->J.go i H ->
   wpAny (model P w) X.A (pyNext (.ref it)) (fun r s1=>∃ u,r=some u /\
     wpAny (model P w) X.A (letOwnedTupleGo tg (.ref it) u) (fun _ s2=>∃ x H',Inv X pins σ H' s2/\RelV x u/\J.Gs i H x H'/\tn (i+1) s2.heap/\∀ b∈fp,H' b=none) E s1) E s
 done:∀ (X:Cx),X.prog=P->X.w=w->X.K=K->X.calm=true->∀ (i:Nat) (pins:List (Addr×Obj)) (s:Shared) (σ:St) (H:Hp) (E:Value->Shared->Prop),Inv X pins σ H s->(∀ b∈fp,jT X pins H b)->tn i s.heap->J.stop i H ->
   wpAny (model P w) X.A (pyNext (.ref it)) (fun r s1=>r=none/\Inv X pins σ H s1) E s
 self:∀ (A:Around) (i:Nat) (s:Shared) (Q:Value->Shared->Prop) (E:Value->Shared->Prop),tn i s.heap->Q (.ref it) s->wpAny (model P w) A (pyIter (.ref it)) Q E s
abbrev TI:=St->Hp->(It->Hp->Prop)->Prop
def Wc (X:Cx)(pins:List (Addr×Obj))(σ:St)(tg:Expr)(R:It->Hp->Prop)(Ol:Value)(s2:Shared):Prop:=
 ∃ (it:Addr) (fp:List Addr) (tn:Nat->Heap->Prop) (J:It) (H':Hp),Ol=.ref it/\Inv X pins σ H' s2/\Turn X.prog X.w X.K tg J fp it tn/\tn 0 s2.heap/\(∀ b∈fp,jT X pins H' b)/\R J H'
def PI (X:Cx)(tg iter:Expr)(wi:TI):Prop:=
 ∀ (pins:List (Addr×Obj)) (s:Shared) (σ:St) (H:Hp) (R:It->Hp->Prop),Inv X pins σ H s->wi σ H R ->
   wpAny (model X.prog X.w) X.A (eval iter X.env) (fun v s1=>wpAny (model X.prog X.w) X.A (pyIter v) (Wc X pins σ tg R) X.xe s1) X.xe s
theorem z5 {M:Model}{A:Around}{E:Value->Shared->Prop}{s:Shared}{tg:Expr}{it:Addr}{u:Value}{o:Obj}{n:String}{vs:Array Value}{Q:Unit->Shared->Prop}(ho:s.heap.get? it=some o)(hc:o.cls=.type n)(hd:o.data=.fields vs)(hn:["enumerate","zip","dict_itemiterator","dict_reverseitemiterator","odict_iterator","itertools.zip_longest","itertools.pairwise"].contains n=false)(hQ:Q () s):wpAny M A (letOwnedTupleGo tg (.ref it) u) Q E s:=by
 unfold letOwnedTupleGo
 cases tg <;> first
   | exact wpAny_pure hQ
   | (cases u <;> first
       | exact wpAny_pure hQ
       | (refine wpAny_bind (wpAny_load ho ?_)
          rw[hc,hd]
          show wpAny M A (if (["enumerate","zip","dict_itemiterator","dict_reverseitemiterator","odict_iterator","itertools.zip_longest","itertools.pairwise"].contains n && vs[0]? == some (rawInt _))=true then _ else _) Q E s
          rw[if_neg (by intro h;rw[hn,Bool.false_and] at h;cases h)]
          exact wpAny_pure hQ))
noncomputable def R4 (K:W.Frag)(a:Addr):It:=
 ⟨fun i H=>∃ xs x,lS K H a xs/\xs[i]?=some x,fun i H x H'=>H'=H/\∀ xs,lS K H a xs->xs[i]?=some x,fun i H=>∃ xs,lS K H a xs/\xs.length<=i⟩
noncomputable def Ep (lo:Int)(n:Nat):It:=⟨fun i _=>i < n,fun i H x H'=>H'=H/\x=.int (lo+i),fun i _=>n<=i⟩
theorem Er {P:Program}{w:World}{K:W.Frag}{tg:Expr}(a it:Addr):Turn P w K tg (R4 K a) [it] it (fun i h=>h.IsListIter it a i) where
 mem:=by simp
 obj:=fun i h st b hb=>by
   have e:b=it:=by simpa using hb
   subst e
   obtain⟨o,e,c,d⟩:=st
   exact⟨o,e,fun v z=>by rw[d] at z;cases z⟩
 keep:=fun i h h' st k=>st.at fun o e=>k it (by simp) o e
 item:=by
   intro X hP hw hK hc i pins s σ H E I hf st hg
   subst hP hw hK
   obtain⟨xs,x,hq,hx⟩:=hg
   obtain⟨aE,rv,p,hz⟩:=I.list hq
   obtain⟨u,hu,ru⟩:=rv.get hx
   obtain⟨f0,f1,f2,f3,f4,f5⟩:=hf it (by simp)
   refine wpAny_pyNext_list_item st p.isList (x:=u) (by simpa using hu) fun h' jq sb=>?_
   have I1:Inv X pins σ H { s with heap:=h'}:=I.turned (t':=s.toks) (fun b o hb e=>(sb.2 b hb).trans e) f0 f1 f3 f4 f5
   obtain⟨o,e,c,d⟩:=id jq
   exact⟨u,rfl,z5 (s:={ s with heap:=h'}) e c d (by decide) ⟨x,H,I1,ru,⟨rfl,fun ys hy=>by rw[I.uD hy hq];exact hx⟩,jq,fun b hb=>(hf b hb).1⟩⟩
 done:=by
   intro X hP hw hK hc i pins s σ H E I hf st hg
   subst hP hw hK
   obtain⟨xs,hq,hx⟩:=hg
   obtain⟨aE,rv,p,hz⟩:=I.list hq
   obtain⟨f0,f1,f2,f3,f4,f5⟩:=hf it (by simp)
   have hl:=rv.length
   exact wpAny_pyNext_list_end (I.ok.hd hc) st p.isList (by simp;omega) fun h' eb=>⟨rfl,I.turned (t':=s.toks) (fun b o hb e=>eb b o hb e) f0 f1 f3 f4 f5⟩
 self:=fun _ _ _ _ _ st h=>wpAny_pyIter_listiter st h
theorem uF {P:Program}{w:World}{K:PySem.W.Frag}{tg:Expr}(it:Addr)(lo:Int)(n:Nat):Turn P w K tg (Ep lo n) [it] it (fun i h=>IsRangeIter h it (lo+(i:Nat) * 1) ((n:Int) - (i:Nat)) 1) where
 mem:=by simp
 obj:=fun i h st b hb=>by
   have e:b=it:=by simpa using hb
   subst e
   exact⟨_,st,fun v z=>by
     have z':Data.fields _=Data.cell v:=z
     cases z'⟩
 keep:=fun i h h' st k=>k it (by simp) _ st
 item:=by
   intro X hP hw hK hc i pins s σ H E I hf st hg
   subst hP hw hK
   obtain⟨f0,f1,f2,f3,f4,f5⟩:=hf it (by simp)
   have W:=Walks.range (prog:=X.prog) (w:=X.w) (I.ok.hd hc) it lo 1 n
   refine W.item i s _ _ hg st fun v h' tk hv jq kk=>?_
   obtain⟨t,rfl⟩:=hv
   have I1:Inv X pins σ H { s with heap:=h',toks:=tk}:=I.turned (fun b o hb e=>kk b o (by simpa using hb) e) f0 f1 f3 f4 f5
   refine⟨_,rfl,z5 (s:={ s with heap:=h',toks:=tk}) (n:="range_iterator") jq rfl rfl (by decide) ⟨.int (lo+i),H,I1,⟨t,?_⟩,⟨rfl,rfl⟩,jq,fun b hb=>(hf b hb).1⟩⟩
   rw[Int.mul_one]
 done:=by
   intro X hP hw hK hc i pins s σ H E I hf st hg
   subst hP hw hK
   obtain⟨f0,f1,f2,f3,f4,f5⟩:=hf it (by simp)
   exact wpAny_pyNext_range_end (I.ok.hd hc) st (by have:n<=i:=hg;omega) fun h' eb=>⟨rfl,I.turned (t':=s.toks) (fun b o hb e=>eb b o hb e) f0 f1 f3 f4 f5⟩
 self:=fun _ _ _ _ _ st h=>wpAny_pyIter_rangeiter st h
section
variable {X:Cx}{tg:Expr}
def Gu (K:W.Frag)(tl:TE):TI:=fun σ H R=>tl σ H fun x H1=>∃ a,x=.ref a/\(∃ xs,lS K H1 a xs)/\R (R4 K a) H1
theorem lh {l:Expr}{tl:TE}(hl:PE X l tl):PI X tg l (Gu X.K tl):=by
 intro pins s σ H R I h
 refine bM (hl pins s σ H _ I h) fun v s1 ⟨x,H1,I1,r1,q1⟩=>?_
 obtain⟨a,e,⟨xs,hq⟩,q⟩:=q1
 subst e
 cases r1
 obtain⟨aE,rv,p,hz⟩:=I1.list hq
 refine wpAny_pyIter_list p.isList ?_
 refine⟨s1.heap.objs.size,[s1.heap.objs.size],_,_,H1,rfl,I1.kept (t':=s1.toks) fun b o e=>Vf _ e,Er a _,⟨_,aai _ rfl,rfl,rfl⟩,fun b hb=>?_,q⟩
 have e:b=s1.heap.objs.size:=by simpa using hb
 subst e
 exact I1.rq (aac _) (I1.bh.fresh (aac _))
theorem Gv {pins:List (Addr×Obj)}{σ:St}{H:Hp}{s:Shared}{R:It->Hp->Prop}{E:Value->Shared->Prop}{lo hi:Int}{t u v:Tok}{tk:Nat}(I:Inv X pins σ H s)(h1:-(2 ^ 62)<=lo)(h2:lo < 2 ^ 62)(h3:-(2 ^ 62)<=hi)(h4:hi < 2 ^ 62)(q:R (Ep lo (hi - lo).toNat) H):wpAny (model X.prog X.w) X.A (pyIter (.ref s.heap.objs.size)) (Wc X pins σ tg R) E { s with heap:=s.heap.push { cls:=.type "range",data:=.fields #[.int lo t,.int hi u,.int 1 v]},toks:=tk}:=by
 refine wpAny_pyIter_range (IsRange.new ..) (small_one h1 h2 h3 h4) ?_
 have I1:Inv X pins σ H { s with heap:=s.heap.push { cls:=.type "range",data:=.fields #[.int lo t,.int hi u,.int 1 v]},toks:=tk}:=I.kept fun b o e=>Vf _ e
 refine⟨(s.heap.push { cls:=.type "range",data:=.fields #[.int lo t,.int hi u,.int 1 v]}).objs.size,[(s.heap.push { cls:=.type "range",data:=.fields #[.int lo t,.int hi u,.int 1 v]}).objs.size],_,_,H,rfl,
   I1.kept (t':=tk) fun b o e=>Vf _ e,uF _ lo (hi - lo).toNat,?_,fun b hb=>?_,q⟩
 . have e1:lo+((0:Nat):Int) * 1=lo:=by simp
   have e2:(((hi - lo).toNat:Nat):Int) - ((0:Nat):Int)=Builtin.Range.rangeSize lo hi 1:=by rw[rangeSize_one];split <;> omega
   show IsRangeIter _ _ (lo+((0:Nat):Int) * 1) ((((hi - lo).toNat:Nat):Int) - ((0:Nat):Int)) 1
   rw[e1,e2]
   exact aai _ rfl
 . have e:b=(s.heap.push { cls:=.type "range",data:=.fields #[.int lo t,.int hi u,.int 1 v]}).objs.size:=by simpa using hb
   subst e
   exact I1.rq (aac _) (I1.bh.fresh (aac _))
def M6 (ta:TA):TI:=fun σ H R=>ta σ H fun vs H1=>∃ j:Int,vs=[.int j]/\-(2 ^ 62)<=j/\j < 2 ^ 62/\R (Ep 0 j.toNat) H1
theorem oi {a:Expr}{ta:TA}{p pos:Pos}(hg:Gl X "range")(hm:X.mg "range"=none)(ha:PA X [a] ta)(hs:starEach [a] X.env=[(false,eval a X.env)]:=by rfl):PI X tg (.Call (.Name "range" p) [a] [] pos) (M6 ta):=by
 intro pins s σ H R I h
 refine Call_ (nE I hg hm boot_range (PyProof.Rows.callWith_type1 (bM (ha pos pins s σ H _ I h) fun us s1 ⟨vs,H1,I1,r1,q1⟩=>?_) hs rfl))
 obtain⟨j,e,q1,q2,q⟩:=q1
 subst e
 cases r1 with
 | cons r rr=>
   cases rr
   obtain⟨t,rfl⟩:=r
   exact call_range_1 (Gv I1 (by omega) (by omega) q1 q2 (by simpa using q))
def Wd (wi:TI)(g:TG)(tb:TS):TS:=fun D σ H=>wi σ H fun J H1=>∃ W:Nat->Nat->St->Hp->Prop,(∃ m,W 0 m σ H1)/\∀ i m σ H,W i m σ H ->
 (J.stop i H/\D.nx σ H)\/(J.go i H/\∃ N:St->Hp->Prop,(∀ σ' H',N σ' H'->∃ m',m' < m/\W (i+1) m' σ' H')/\∀ x H',J.Gs i H x H'->g x σ H' fun σ2 H2=>tb { D with nx:=N,ct:=N,bk:=D.nx} σ2 H2)
noncomputable def rA (fp:List Addr)(h:Heap):List (Addr×Obj):=fp.filterMap fun b=>(h.get? b).map fun o=>(b,o)
theorem fi {fp:List Addr}{h:Heap}{b:Addr}{o:Obj}(hb:b∈fp)(e:h.get? b=some o):(b,o)∈rA fp h:=List.mem_filterMap.mpr ⟨b,hb,by rw[e];rfl⟩
theorem Es {fp:List Addr}{h:Heap}{p:Addr×Obj}(hp:p∈rA fp h):p.1∈fp/\h.get? p.1=some p.2:=by
 obtain⟨b,hb,e⟩:=List.mem_filterMap.mp hp
 cases q:h.get? b with
 | none=>rw[q] at e;cases e
 | some o=>
   rw[q] at e
   have e':(b,o)=p:=Option.some.inj e
   subst e'
   exact⟨hb,q⟩
theorem Inv.pinned {pins:List (Addr×Obj)}{σ:St}{H:Hp}{s:Shared}{fp:List Addr}(I:Inv X pins σ H s)(hf:∀ b∈fp,jT X pins H b)(ho:∀ b∈fp,∃ o,s.heap.get? b=some o/\∀ v,o.data≠.cell v):Inv X (pins ++ rA fp s.heap) σ H s:=
 I.C3 fun p hp=>(abd.mp hp).elim (fun z=>I.pin p (aaq _ z)) fun z=>by
   obtain⟨hb,e⟩:=Es z
   obtain⟨f0,f1,f2,_⟩:=hf p.1 hb
   obtain⟨o,e',d⟩:=ho p.1 hb
   rw[e] at e';cases e'
   exact⟨e,f0,f1,f2,d⟩
theorem Inv.jr {pins pl:List (Addr×Obj)}{σ:St}{H:Hp}{s:Shared}(I:Inv X (pins ++ pl) σ H s):Inv X pins σ H s:=I.C3 fun p hp=>I.pin p (aaq _ (List.mem_append_left _ hp))
theorem x5 {iter:Expr}{body:List Stmt}{wi:TI}{g:TG}{tb:TS}{pos:Pos}(hp:PassesOwn (model X.prog X.w) X.A X.env X.xe)(hc:X.calm=true)(hi:PI X tg iter wi)(hg:PG X tg g)(hb:BE X body tb)(hs:∀ x,foldedSetIterable iter X.env x=pure x:=by intro _;rfl):PS X (.For tg iter body [] pos) (Wd wi g tb):=by
 intro pins s σ H D I h
 refine wpAny_For (bM (hi pins s σ H _ I h) fun v s1 h1=>bM h1 fun Ol s2 h2=>?_) hs
 obtain⟨it,fp,tn,J,H2,e,I2,T,F4,f2,W,⟨m0,w0⟩,turn⟩:=h2
 subst e
 have pL:∀ {H':Hp},(∀ b∈fp,H' b=none)->∀ b∈fp,jT X pins H' b:=fun hn b hb=>⟨hn b hb,(f2 b hb).2⟩
 refine codeAny_forLoop_any (fun n s'=>∃ i σ' H',Inv X pins σ' H' s'/\tn i s'.heap/\(∀ b∈fp,H' b=none)/\W i n σ' H') ?_ m0 ⟨0,σ,H2,I2,F4,fun b hb=>(f2 b hb).1,w0⟩
 rintro n s3 ⟨i,σ3,H3,I3,U7,YE,w3⟩
 rcases turn i n σ3 H3 w3 with⟨stop,qn⟩ | ⟨go,N,hN,step⟩
 . refine wpAny_passesOwn hp (bM (T.done X rfl rfl rfl hc i pins s3 σ3 H3 X.xe I3 (pL YE) U7 stop) fun r s4 ⟨hr,I4⟩=>?_)
   subst hr
   exact wpAny_execs_nil ⟨σ3,H3,I4,qn⟩
 . refine wpAny_passesOwn hp (bM (T.item X rfl rfl rfl hc i pins s3 σ3 H3 X.xe I3 (pL YE) U7 go) fun r s4 ⟨u,hr,h4⟩=>?_)
   subst hr
   refine wpAny_passesOwn hp (bM h4 fun _ s5 ⟨x,H5,I5,r5,y5,F5,Kl⟩=>?_)
   have I5':=I5.pinned (pL Kl) (T.obj _ _ F5)
   refine wpAny_passesOwn hp (bM (hg _ s5 σ3 H5 x u _ I5' r5 (step x H5 y5)) fun _ s6 ⟨σ6,H6,I6,q6⟩=>?_)
   refine wpAny_passesOwn hp (bM (hb _ s6 σ6 H6 _ I6 q6) fun f s7 q7=>?_)
   have again:∀ {σ7:St} {H7:Hp},Inv X (pins ++ rA fp s5.heap) σ7 H7 s7->N σ7 H7->∃ m,m < n/\∃ i σ' H',Inv X pins σ' H' s7/\tn i s7.heap/\(∀ b∈fp,H' b=none)/\W i m σ' H':=fun {σ7 H7} I7 n7=>by
     obtain⟨m',hm,w7⟩:=hN σ7 H7 n7
     refine⟨m',hm,i+1,σ7,H7,I7.jr,T.keep _ _ _ F5 fun b hb o e=>(I7.pin (b,o) (aaq _ (aaq _ (fi hb e)))).1,fun b hb=>?_,w7⟩
     obtain⟨o,e,d⟩:=T.obj _ _ F5 b hb
     exact(I7.pin (b,o) (aaq _ (aaq _ (fi hb e)))).2.1
   cases f with
   | next=>obtain⟨σ7,H7,I7,n7⟩:=q7;exact again I7 n7
   | cont=>obtain⟨σ7,H7,I7,n7⟩:=q7;exact again I7 n7
   | brk=>obtain⟨σ7,H7,I7,q7⟩:=q7;exact⟨σ7,H7,I7.jr,q7⟩
   | ret v=>obtain⟨x7,σ7,H7,I7,r7,q7⟩:=q7;exact⟨x7,σ7,H7,I7.jr,r7,q7⟩
end
theorem z6 {K:PySem.W.Frag}{a:Addr}{xs:List V}{g:TG}{tb:TS}{D:Ends}{σ:St}{H:Hp}(Pv:Nat->St->Hp->Prop)(h0:Pv 0 σ H)(hl:∀ i σ H,i<=xs.length->Pv i σ H->lS K H a xs)(hs:∀ i x σ H,xs[i]?=some x->Pv i σ H->g x σ H fun σ2 H2=>tb { D with nx:=Pv (i+1),ct:=Pv (i+1),bk:=D.nx} σ2 H2)(hd:∀ σ H,Pv xs.length σ H->D.nx σ H):∃ W:Nat->Nat->St->Hp->Prop,(∃ m,W 0 m σ H)/\∀ i m σ H,W i m σ H->((R4 K a).stop i H/\D.nx σ H)\/((R4 K a).go i H/\∃ N:St->Hp->Prop,(∀ σ' H',N σ' H'->∃ m',m' < m/\W (i+1) m' σ' H')/\∀ x H',(R4 K a).Gs i H x H'->g x σ H' fun σ2 H2=>tb { D with nx:=N,ct:=N,bk:=D.nx} σ2 H2):=by
 refine⟨fun i m σ H=>m=xs.length - i/\i<=xs.length/\Pv i σ H,⟨xs.length,by simp,aaQ _,h0⟩,?_⟩
 rintro i m σ H ⟨rfl,hi,p⟩
 have q:=hl i σ H hi p
 by_cases cX:i < xs.length
 . refine .inr ⟨⟨xs,xs[i],q,by simp[cX]⟩,Pv (i+1),fun σ' H' p'=>⟨xs.length - (i+1),by omega,rfl,cX,p'⟩,fun x H' y=>?_⟩
   obtain⟨e,y⟩:=y
   subst e
   exact hs i x σ _ (y xs q) p
 . have e:i=xs.length:=by omega
   subst e
   exact .inl ⟨⟨xs,q,aac _⟩,hd σ H p⟩
theorem Et {lo:Int}{n:Nat}{g:TG}{tb:TS}{D:Ends}{σ:St}{H:Hp}(Pv:Nat->St->Hp->Prop)(h0:Pv 0 σ H)(hs:∀ i σ H,i < n->Pv i σ H->g (.int (lo+i)) σ H fun σ2 H2=>tb { D with nx:=Pv (i+1),ct:=Pv (i+1),bk:=D.nx} σ2 H2)(hd:∀ σ H,Pv n σ H->D.nx σ H):∃ W:Nat->Nat->St->Hp->Prop,(∃ m,W 0 m σ H)/\∀ i m σ H,W i m σ H->((Ep lo n).stop i H/\D.nx σ H)\/((Ep lo n).go i H/\∃ N:St->Hp->Prop,(∀ σ' H',N σ' H'->∃ m',m' < m/\W (i+1) m' σ' H')/\∀ x H',(Ep lo n).Gs i H x H'->g x σ H' fun σ2 H2=>tb { D with nx:=N,ct:=N,bk:=D.nx} σ2 H2):=by
 refine⟨fun i m σ H=>m=n - i/\i<=n/\Pv i σ H,⟨n,by simp,aaQ _,h0⟩,?_⟩
 rintro i m σ H ⟨rfl,hi,p⟩
 by_cases cX:i < n
 . refine .inr ⟨cX,Pv (i+1),fun σ' H' p'=>⟨n - (i+1),by omega,rfl,cX,p'⟩,fun x H' y=>?_⟩
   obtain⟨e,y⟩:=y
   subst e y
   exact hs i σ _ cX p
 . have e:i=n:=by omega
   subst e
   exact .inl ⟨aac _,hd σ H p⟩
abbrev R2:=V->V->Hp->VK->Prop
def pj (X:Cx)(f:Value->Value->Sem Value)(r:R2):Prop:=
 ∀ (pins:List (Addr×Obj)) (s:Shared) (σ:St) (H:Hp) (x y:V) (v u:Value) (Q:VK),Inv X pins σ H s->RelV x v->RelV y u->r x y H Q ->
   wpAny (model X.prog X.w) X.A (f v u) (EP X pins σ Q) X.xe s
def We (X:Cx)(f:Value->Sem Value)(r:V->Hp->VK->Prop):Prop:=
 ∀ (pins:List (Addr×Obj)) (s:Shared) (σ:St) (H:Hp) (x:V) (v:Value) (Q:VK),Inv X pins σ H s->RelV x v->r x H Q ->
   wpAny (model X.prog X.w) X.A (f v) (EP X pins σ Q) X.xe s
def lY (X:Cx)(f:Value)(r:List V->Hp->VK->Prop):Prop:=
 ∀ (pins:List (Addr×Obj)) (s:Shared) (σ:St) (H:Hp) (xs:List V) (us:List Value) (Q:VK),Inv X pins σ H s->Vals xs us->r xs H Q ->
   wpAny (model X.prog X.w) X.A (call f us) (EP X pins σ Q) X.xe s
def R5 (r:R2)(ta tb:TE):TE:=fun σ H Q=>ta σ H fun x H1=>tb σ H1 fun y H2=>r x y H2 Q
def tUn (r:V->Hp->VK->Prop)(ta:TE):TE:=fun σ H Q=>ta σ H fun x H1=>r x H1 Q
def rI (C:Int->Int->Prop)(g:Int->Int->V):R2:=fun x y H Q=>∃ i j,x=.int i/\y=.int j/\C i j/\Q (g i j) H
def KP (g:Int->Int->V):R2:=fun x y H Q=>∃ i j,x=.int i/\y=.int j/\Q (g i j) H
def rU (g:Int->V):V->Hp->VK->Prop:=fun x H Q=>∃ i,x=.int i/\Q (g i) H
section
variable {X:Cx}{a b:Expr}{ta tb:TE}{pos:Pos}
theorem Om (ha:PE X a ta)(hb:PE X b tb){pins:List (Addr×Obj)}{s:Shared}{σ:St}{H:Hp}{R:V->V->Hp->Prop}(I:Inv X pins σ H s)(h:ta σ H fun x H1=>tb σ H1 fun y H2=>R x y H2){Q:Value->Shared->Prop}{f:Value->Value->Sem Value}(hf:∀ v u s2 x y H2,Inv X pins σ H2 s2->RelV x v->RelV y u->R x y H2->wpAny (model X.prog X.w) X.A (f v u) Q X.xe s2):wpAny (model X.prog X.w) X.A (eval a X.env) (fun v s₁=>wpAny (model X.prog X.w) X.A (eval b X.env) (fun u s₂=>wpAny (model X.prog X.w) X.A (f v u) Q X.xe s₂) X.xe s₁) X.xe s:=by
 refine bM (ha pins s σ H _ I h) fun v s1 ⟨x,H1,I1,r1,q1⟩=>?_
 refine bM (hb pins s1 σ H1 _ I1 q1) fun u s2 ⟨y,H2,I2,r2,q2⟩=>?_
 exact hf v u s2 x y H2 I2 r1 r2 q2
theorem M7 {op:Operator}{r:R2}(ho:pj X (binaryOp op) r)(ha:PE X a ta)(hb:PE X b tb):PE X (.BinOp a op b pos) (R5 r ta tb):=by
 intro pins s σ H Q I h
 exact wpAny_BinOp (Om ha hb I h fun v u s2 x y H2 I2 rx ry q=>ho pins s2 σ H2 x y v u Q I2 rx ry q)
theorem R6 {op:UnaryOp}{r:V->Hp->VK->Prop}(ho:We X (unaryOp op) r)(ha:PE X a ta):PE X (.UnaryOp op a pos) (tUn r ta):=by
 intro pins s σ H Q I h
 exact UnaryOp_ (bM (ha pins s σ H _ I h) fun v s1 ⟨x,H1,I1,r1,q1⟩=>ho pins s1 σ H1 x v Q I1 r1 q1)
theorem U8 {f:Value->Value->Sem Value}{C:Int->Int->Prop}{g:Int->Int->Int}(rule:∀ (i j:Int) (t u:Tok) (s:Shared) (Q:Value->Shared->Prop) (E:Value->Shared->Prop),C i j->Q (.int (g i j) s.toks) { s with toks:=s.toks+1}->wpAny (model X.prog X.w) X.A (f (.int i t) (.int j u)) Q E s):pj X f (rI C fun i j=>.int (g i j)):=by
 intro pins s σ H x y v u Q I rx ry h
 obtain⟨i,j,rfl,rfl,hc,q⟩:=h
 obtain⟨t,rfl⟩:=rx
 obtain⟨t',rfl⟩:=ry
 exact rule i j t t' s _ _ hc ⟨.int (g i j),H,I.tok _,⟨_,rfl⟩,q⟩
theorem R7 {f:Value->Value->Sem Value}{g:Int->Int->Int}(rule:∀ (i j:Int) (t u:Tok) (s:Shared) (Q:Value->Shared->Prop) (E:Value->Shared->Prop),Q (.int (g i j) s.toks) { s with toks:=s.toks+1}->wpAny (model X.prog X.w) X.A (f (.int i t) (.int j u)) Q E s):pj X f (KP fun i j=>.int (g i j)):=by
 intro pins s σ H x y v u Q I rx ry h
 obtain⟨i,j,rfl,rfl,q⟩:=h
 obtain⟨t,rfl⟩:=rx
 obtain⟨t',rfl⟩:=ry
 exact rule i j t t' s _ _ ⟨.int (g i j),H,I.tok _,⟨_,rfl⟩,q⟩
theorem KQ {f:Value->Value->Sem Value}{g:Int->Int->Bool}(rule:∀ (i j:Int) (t u:Tok) (s:Shared) (Q:Value->Shared->Prop) (E:Value->Shared->Prop),Q (.bool (g i j)) s->wpAny (model X.prog X.w) X.A (f (.int i t) (.int j u)) Q E s):pj X f (KP fun i j=>.bl (g i j)):=by
 intro pins s σ H x y v u Q I rx ry h
 obtain⟨i,j,rfl,rfl,q⟩:=h
 obtain⟨t,rfl⟩:=rx
 obtain⟨t',rfl⟩:=ry
 exact rule i j t t' s _ _ ⟨.bl (g i j),H,I,rfl,q⟩
def R8 (i j:Int):Prop:=0<=j/\j<=1000000/\i.natAbs < 2 ^ 64
def uG (i j:Int):Prop:=(-(2 ^ 64) < i/\i < 2 ^ 64)\/(-(2 ^ 64) < j/\j < 2 ^ 64)
theorem uG.ok {i j:Int}(h:uG i j):IntMulOk i j:=by
 rcases h with⟨h1,h2⟩ | ⟨h1,h2⟩
 . exact .of_left (intBits_le_64 h1 h2)
 . exact .of_right (intBits_le_64 h1 h2)
theorem Oo:pj X (binaryOp .Add) (KP fun i j=>.int (i+j)):=R7 fun _ _ _ _ _ _ _ q=>add_int q
theorem Oq:pj X (binaryOp .Sub) (KP fun i j=>.int (i - j)):=R7 fun _ _ _ _ _ _ _ q=>sub_int q
theorem Ot:pj X (binaryOp .Mod) (rI (fun _ j=>0 < j) fun i j=>.int (i % j)):=U8 fun i j _ _ _ _ _ hc q=>by
 have h1:(0:Int) < j:=hc
 exact mod_int' (by omega) (by rw[Int.fmod_eq_emod_of_nonneg i (by omega)];exact q)
theorem Ou:pj X (binaryOp .Pow) (rI R8 fun i j=>.int (i ^ j.toNat)):=U8 fun _ _ _ _ _ _ _ hc q=>pow_int_small hc.1 hc.2.1 hc.2.2 q
theorem unI {f:Value->Sem Value}{g:Int->Int}(rule:∀ (i:Int) (t:Tok) (s:Shared) (Q:Value->Shared->Prop) (E:Value->Shared->Prop),Q (.int (g i) s.toks) { s with toks:=s.toks+1}->wpAny (model X.prog X.w) X.A (f (.int i t)) Q E s):We X f (rU fun i=>.int (g i)):=by
 intro pins s σ H x v Q I rx h
 obtain⟨i,rfl,q⟩:=h
 obtain⟨t,rfl⟩:=rx
 exact rule i t s _ _ ⟨.int (g i),H,I.tok _,⟨_,rfl⟩,q⟩
theorem Ov:We X (unaryOp .USub) (rU fun i=>.int (-i)):=unI fun _ _ _ _ _ q=>neg_int q
end
noncomputable def KR:V->V->Bool
 | .cy,.cy=>true | .cy,.int _=>true | .int _,.cy=>true | .cy,.bl _=>true | .bl _,.cy=>true | .cy,.str _=>true | .str _,.cy=>true
 | .int _,.int _=>true | .bl _,.bl _=>true | .str _,.str _=>true | .F3 _,.F3 _=>true
 | .int _,.str _=>true | .str _,.int _=>true | .bl _,.str _=>true | .str _,.bl _=>true
 | _,_=>false
def rEq:R2:=fun x y H Q=>KR x y=true/\Q (.bl (decide (x=y))) H
def rNe:R2:=fun x y H Q=>KR x y=true/\Q (.bl (!decide (x=y))) H
theorem oj {i j:Int}:decide (V.int i=V.int j)=(i == j):=by
 rw[abQ]
 simp
theorem Gw {i j:Bool}:decide (V.bl i=V.bl j)=(i == j):=by
 rw[abQ]
 simp
theorem tS {i j:Str}:decide (V.str i=V.str j)=(i == j):=by
 rw[abQ]
 simp
theorem C6 {i j:Array UInt8}:decide (V.F3 i=V.F3 j)=(i.toList == j.toList):=by
 rw[abQ]
 cases i
 cases j
 simp
section
variable {X:Cx}{a b c:Expr}{ta tb tc:TE}{pos:Pos}
theorem br {pins:List (Addr×Obj)}{σ:St}{H:Hp}{s:Shared}{Q:VK}{k k':Bool}(I:Inv X pins σ H s)(q:Q (.bl k) H)(e:k=k'):EP X pins σ Q (.bool k') s:=by
 subst e
 exact⟨.bl k,H,I,rfl,q⟩
theorem Gx:pj X (compareOp .Eq) rEq:=by
 intro pins s σ H x y v u Q I rx ry h
 obtain⟨hs,q⟩:=h
 cases x with
 | cy=>
   cases rx
   cases y with
   | cy=>cases ry;exact PySem.EqNone.eq_none_none (br I q (by simp))
   | bl j=>cases ry;exact PySem.EqNone.eq_none_bool (br I q (by simp))
   | int j=>obtain⟨t',rfl⟩:=ry;exact PySem.EqNone.eq_none_int (br I q (by simp))
   | str j=>obtain⟨t',rfl⟩:=ry;exact PySem.EqNone.eq_none_str (br I q (by simp))
   | _=>exact absurd (show false=true from hs) aal
 | bl i=>
   cases rx
   cases y with
   | cy=>cases ry;exact PySem.EqNone.eq_bool_none (br I q (by simp))
   | bl j=>cases ry;exact eq_bool (br I q Gw)
   | str j=>obtain⟨t',rfl⟩:=ry;exact PySem.EqMixed.eq_bool_str (br I q (by simp))
   | _=>exact absurd (show false=true from hs) aal
 | int i=>
   obtain⟨t,rfl⟩:=rx
   cases y with
   | cy=>cases ry;exact PySem.EqNone.eq_int_none (br I q (by simp))
   | int j=>obtain⟨t',rfl⟩:=ry;exact eq_int (br I q oj)
   | str j=>obtain⟨t',rfl⟩:=ry;exact PySem.EqMixed.eq_int_str (br I q (by simp))
   | _=>exact absurd (show false=true from hs) aal
 | str i=>
   obtain⟨t,rfl⟩:=rx
   cases y with
   | cy=>cases ry;exact PySem.EqNone.eq_str_none (br I q (by simp))
   | bl j=>cases ry;exact PySem.EqMixed.eq_str_bool (br I q (by simp))
   | int j=>obtain⟨t',rfl⟩:=ry;exact PySem.EqMixed.eq_str_int (br I q (by simp))
   | str j=>obtain⟨t',rfl⟩:=ry;exact eq_str (br I q tS)
   | _=>exact absurd (show false=true from hs) aal
 | F3 i=>
   obtain⟨t,rfl⟩:=rx
   cases y with
   | F3 j=>obtain⟨t',rfl⟩:=ry;exact W.eq_bytes (br I q C6)
   | _=>exact absurd (show false=true from hs) aal
 | _=>cases y <;> exact absurd (show false=true from hs) aal
theorem R9:pj X (compareOp .NotEq) rNe:=by
 intro pins s σ H x y v u Q I rx ry h
 obtain⟨hs,q⟩:=h
 cases x with
 | cy=>
   cases rx
   cases y with
   | cy=>cases ry;exact PySem.EqNone.ne_none_none (br I q (by simp))
   | bl j=>cases ry;exact PySem.EqNone.ne_none_bool (br I q (by simp))
   | int j=>obtain⟨t',rfl⟩:=ry;exact PySem.EqNone.ne_none_int (br I q (by simp))
   | str j=>obtain⟨t',rfl⟩:=ry;exact PySem.EqNone.ne_none_str (br I q (by simp))
   | _=>exact absurd (show false=true from hs) aal
 | bl i=>
   cases rx
   cases y with
   | cy=>cases ry;exact PySem.EqNone.ne_bool_none (br I q (by simp))
   | bl j=>cases ry;exact ne_bool (br I q (congrArg not Gw))
   | str j=>obtain⟨t',rfl⟩:=ry;exact PySem.EqMixed.ne_bool_str (br I q (by simp))
   | _=>exact absurd (show false=true from hs) aal
 | int i=>
   obtain⟨t,rfl⟩:=rx
   cases y with
   | cy=>cases ry;exact PySem.EqNone.ne_int_none (br I q (by simp))
   | int j=>obtain⟨t',rfl⟩:=ry;exact ne_int (br I q (congrArg not oj))
   | str j=>obtain⟨t',rfl⟩:=ry;exact PySem.EqMixed.ne_int_str (br I q (by simp))
   | _=>exact absurd (show false=true from hs) aal
 | str i=>
   obtain⟨t,rfl⟩:=rx
   cases y with
   | cy=>cases ry;exact PySem.EqNone.ne_str_none (br I q (by simp))
   | bl j=>cases ry;exact PySem.EqMixed.ne_str_bool (br I q (by simp))
   | int j=>obtain⟨t',rfl⟩:=ry;exact PySem.EqMixed.ne_str_int (br I q (by simp))
   | str j=>obtain⟨t',rfl⟩:=ry;exact ne_str (br I q (congrArg not tS))
   | _=>exact absurd (show false=true from hs) aal
 | F3 i=>
   obtain⟨t,rfl⟩:=rx
   cases y with
   | F3 j=>obtain⟨t',rfl⟩:=ry;exact W.ne_bytes (br I q (congrArg not C6))
   | _=>exact absurd (show false=true from hs) aal
 | _=>cases y <;> exact absurd (show false=true from hs) aal
theorem Sa:pj X (compareOp .Lt) (KP fun i j=>.bl (decide (i < j))):=KQ fun _ _ _ _ _ _ _ q=>lt_int q
theorem Gy:pj X (compareOp .LtE) (KP fun i j=>.bl (decide (i<=j))):=KQ fun _ _ _ _ _ _ _ q=>le_int q
theorem Sb:pj X (compareOp .Gt) (KP fun i j=>.bl (decide (j < i))):=KQ fun _ _ _ _ _ _ _ q=>gt_int q
theorem Sd:pj X (compareOp .GtE) (KP fun i j=>.bl (decide (j<=i))):=KQ fun _ _ _ _ _ _ _ q=>ge_int q
theorem mD (b:Expr){op:CmpOp}(h:op≠.In:=by decide)(h2:op≠.NotIn:=by decide):behindInMarks op b=false:=by
 have e1:(op == CmpOp.In)=false:=by cases op <;> first | rfl | exact absurd rfl h
 have e2:(op == CmpOp.NotIn)=false:=by cases op <;> first | rfl | exact absurd rfl h2
 cases b <;> simp[behindInMarks,e1,e2]
theorem KS {op:CmpOp}{r:R2}(ho:pj X (compareOp op) r)(ha:PE X a ta)(hb:PE X b tb)(hm:behindInMarks op b=false):PE X (.Compare a [op] [b] pos) (R5 r ta tb):=by
 intro pins s σ H Q I h
 exact wpAny_Compare1 (Om ha hb I h fun v u s2 x y H2 I2 rx ry q=>ho pins s2 σ H2 x y v u Q I2 rx ry q) hm
def Se (t:TE):TT:=fun σ H Q=>t σ H fun x H'=>∃ k,x=.bl k/\Q k H'
theorem KU {op:CmpOp}{r:R2}(ho:pj X (compareOp op) r)(ha:PE X a ta)(hb:PE X b tb)(hm:behindInMarks op b=false):PT X (.Compare a [op] [b] pos) (Se (R5 r ta tb)):=by
 intro pins s σ H Q I h
 refine wpAny_isTrue_Compare1 (bM (ha pins s σ H _ I h) fun v s1 ⟨x,H1,I1,r1,q1⟩=>bM (hb pins s1 σ H1 _ I1 q1) fun u s2 ⟨y,H2,I2,r2,q2⟩=>
   bM (ho pins s2 σ H2 x y v u _ I2 r1 r2 q2) fun c s3 ⟨z,H3,I3,r3,k,e,q3⟩=>?_) hm
 subst e
 cases r3
 exact wpAny_truthy_bool ⟨H3,I3,q3⟩
def Ow (r r':R2)(ta tb tc:TE):TE:=fun σ H Q=>ta σ H fun x H1=>tb σ H1 fun y H2=>r x y H2 fun z H3=>∃ k,z=.bl k /\
 (if k=true then tc σ H3 fun w' H4=>r' y w' H4 Q else Q (.bl false) H3)
theorem Gz {op Ox:CmpOp}{r r':R2}(ho:pj X (compareOp op) r)(Gi:pj X (compareOp Ox) r')(ha:PE X a ta)(hb:PE X b tb)(hc:PE X c tc)(hm:lastMarks [op,Ox] [b,c]=false:=by with_unfolding_all rfl):PE X (.Compare a [op,Ox] [b,c] pos) (Ow r r' ta tb tc):=by
 intro pins s σ H Q I h
 refine Compare_chain (bM (ha pins s σ H _ I h) fun v s1 ⟨x,H1,I1,r1,q1⟩=>chain_link (bM (hb pins s1 σ H1 _ I1 q1) fun u s2 ⟨y,H2,I2,r2,q2⟩=>
   bM (ho pins s2 σ H2 x y v u _ I2 r1 r2 q2) fun d s3 ⟨z,H3,I3,r3,k,e,q3⟩=>?_)) hm
 subst e
 cases r3
 refine wpAny_truthy_bool ?_
 cases k with
 | false=>exact ite_ff ⟨.bl false,H3,I3,rfl,q3⟩
 | true=>exact ite_tt (chain_last (bM (hc pins s3 σ H3 _ I3 q3) fun w' s4 ⟨z',H4,I4,r4,q4⟩=>Gi pins s4 σ H4 y z' u w' Q I4 r2 r4 q4))
theorem lH:(sizeLine:Nat) < 2 ^ 63:=by rw[sizeLine_eq];decide
theorem BK:pj X (binaryOp .Add) (fun x y H Q=>∃ i j,x=.str i/\y=.str j/\i.length+j.length<=sizeLine/\Q (.str (i ++ j)) H):=by
 intro pins s σ H x y v u Q I rx ry h
 obtain⟨i,j,rfl,rfl,hz,q⟩:=h
 obtain⟨t,rfl⟩:=rx
 obtain⟨t',rfl⟩:=ry
 exact add_str (fun t' tk=>⟨.str (i ++ j),H,I.tok _,⟨_,rfl⟩,q⟩) hz
theorem vals1 {x:V}{us:List Value}(r:Vals [x] us):∃ u,us=[u]/\RelV x u:=by
 cases r with
 | cons r1 r2=>cases r2;exact⟨_,rfl,r1⟩
theorem vals2 {x y:V}{us:List Value}(r:Vals [x,y] us):∃ u w',us=[u,w']/\RelV x u/\RelV y w':=by
 cases r with
 | cons r1 r2=>
   cases r2 with
   | cons r3 r4=>cases r4;exact⟨_,_,rfl,r1,r3⟩
theorem Eu (hc:X.calm=true):lY X (.builtin "max") (fun xs H Q=>∃ i j,xs=[.int i,.int j]/\Q (.int (if j > i then j else i)) H):=by
 intro pins s σ H xs us Q I r h
 obtain⟨i,j,rfl,q⟩:=h
 obtain⟨u,w',rfl,⟨t,rfl⟩,⟨t',rfl⟩⟩:=vals2 r
 refine max_two_ints (I.ok.hd hc) fun h' tk k=>⟨_,H,I.kept k,?_,q⟩
 by_cases hj:j > i
 . rw[if_pos hj,if_pos hj];exact⟨_,rfl⟩
 . rw[if_neg hj,if_neg hj];exact⟨_,rfl⟩
theorem Ew (hc:X.calm=true):lY X (.builtin "min") (fun xs H Q=>∃ i j,xs=[.int i,.int j]/\Q (.int (if j < i then j else i)) H):=by
 intro pins s σ H xs us Q I r h
 obtain⟨i,j,rfl,q⟩:=h
 obtain⟨u,w',rfl,⟨t,rfl⟩,⟨t',rfl⟩⟩:=vals2 r
 refine min_two_ints (I.ok.hd hc) fun h' tk k=>⟨_,H,I.kept k,?_,q⟩
 by_cases hj:j < i
 . rw[if_pos hj,if_pos hj];exact⟨_,rfl⟩
 . rw[if_neg hj,if_neg hj];exact⟨_,rfl⟩
end
structure BL (h:Heap)(x dx C:Addr)(mA:Str->Option Value):Prop where
 obj:h.get? x=some (W.instObj C dx)
 ns:h.Ns1 dx mA
 ne:dx≠x
theorem Ex {h:Heap}{dx:Addr}{mA:Str->Option Value}(n:h.Ns1 dx mA):∃ od,h.get? dx=some od/\∀ name,W.lookIn name od=some (mA name):=by
 obtain⟨o,es,ep,ho,hd,hk,_,hm⟩:=n
 refine⟨o,ho,fun name=>?_⟩
 have e:=hm name
 unfold nsFind findBy at e
 rw[<- Array.find?_toList] at e
 unfold W.lookIn
 rw[hd]
 dsimp only
 split
 . rename_i y q
   rw[q] at e
   exact congrArg some e
 . rename_i q
   rw[q] at e
   have a:es.toList.any (·.refKey)=false:=by
     rw[List.any_eq_false]
     intro y hy
     obtain⟨z,t,Wf⟩:=hk y (Array.mem_toList_iff.mp hy)
     simp[DictEntry.refKey,Wf]
   have a':¬ es.toList.any (·.refKey)=true:=by rw[a];exact aal
   rw[if_neg a']
   exact congrArg some e
theorem BL.look {h:Heap}{x dx C:Addr}{mA:Str->Option Value}(I:BL h x dx C mA):∃ od,W.InstAt h x (W.instObj C dx) C (some od)/\∀ name,W.lookIn name od=some (mA name):=
 let ⟨od,ho,hl⟩:=Ex I.ns
 ⟨od,⟨I.obj,rfl,rfl,ho⟩,hl⟩
section
variable {prog:Program}{w:World}{A:Around}{E:Value->Shared->Prop}{s:Shared}{K:W.Frag}{x dx C f:Addr}{mA:Str->Option Value}{name:Str}{v:Value}
theorem get_map {expr:Bool}{Q:Value->Shared->Prop}(X:K.In s.heap)(I:BL s.heap x dx C mA)(hg:W.plainGet K C name=true)(hh:W.hasDictIn K C=true)(ha:W.findIn K (.ref C) name=some none)(hv:mA name=some v)(U9:W.handedIn v=true)(h:Q v { s with toks:=s.toks+1}):wpAny (model prog w) A (getAttr (.ref x) name expr) Q E s:=by
 obtain⟨od,J,hl⟩:=I.look
 exact W.get_value X J (W.plainGet_of hg).1 (W.findObj_own hh ha rfl (by rw[hl,hv])) U9 h
theorem GA {pl:Sem Bool}{Q:Value×List Value->Shared->Prop}(X:K.In s.heap)(I:BL s.heap x dx C mA)(hg:W.plainGet K C name=true)(hf:W.findIn K (.ref C) name=some (some (.ref f)))(ht:W.isFn K (.ref f)=true)(hv:mA name=none)(h:Q (.ref f,[.ref x]) s):wpAny (model prog w) A (getMethod (.ref x) name pl) Q E s:=by
 obtain⟨od,J,hl⟩:=I.look
 exact W.method_fn X J (W.plainGet_of hg).1 (W.plainGet_of hg).2 hf (beq_iff_eq.mp ht) (by show(W.lookIn name od).map (·.isSome)=some false;rw[hl,hv];rfl) h
theorem KW {ns:List Str}{Q:Unit->Shared->Prop}(X:K.In s.heap)(I:BL s.heap x dx C mA)
   (hs:W.findIn K (.ref C) "__setattr__"=some (some (.builtin "object.__setattr__"))) (hp:W.plainOver K C=true) (ht:W.takerIn K C name=some none) (hh:W.hasDictIn K C=true)
   (hw:PySem.Within mA ns) (hsz:ns.length<=sizeLine)
   (h:∀ h',BL h' x dx C (fun y=>if y=name then some v else mA y)->aaX dx s.heap h'->Q () { s with heap:=h',toks:=s.toks+2}) :
   wpAny (model prog w) A (setAttr (.ref x) name v) Q E s:=by
 obtain⟨od,J,hl⟩:=I.look
 refine W.set_plain X J hs (W.osa_open (s:={ s with toks:=s.toks+1}) (r:=none) X J hp ht fun b=>?_)
 obtain⟨cd,hc,Rr⟩:=W.any_some hh
 have hx:s.heap.get? x=some ⟨.ref C,some dx,.plain,#[]⟩:=I.obj
 refine wpAny_bind (wpAny_pure (wpAny_bind (wpAny_bind (wpAny_loadPart hx (wpAny_bind (W.Looks.here (s:={ s with toks:=s.toks+1}) (W.looks_clsIn X hc) ?_))))))
 rw[Rr]
 refine wpAny_pure (a:=some dx) (wpAny_bind (wpAny_pure (wpAny_bind ?_)))
 refine wpAny_nsSet1 (s:={ s with toks:=s.toks+1}) I.ns fun h' Rt sH=>?_
 obtain⟨oD,esD,epD,hoD,hdD,hcD⟩:=Rt.count (PySem.Within.cons name v hw)
 refine wpAny_bind (wpAny_lookBehind hoD (by rw[hdD];exact pastItsLine_dict (aav hcD (by rw[aaI];omega))) ?_)
 exact wpAny_pure (h _ ⟨(sH.2 _ (Ne.symm I.ne)).trans I.obj,Rt,I.ne⟩ sH)
theorem GB {R:Result->Shared->Prop}{vs:List Value}{kw:List (Str×Value)}(X:K.In s.heap)(hm:W.makesIn K C=true)(hi:W.findIn K (.ref C) "__init__"=some (some (.ref f)))(hf:W.typeIn K (.ref f)=some (.type "function"))(h:codeAny (model prog w) (A.under (.builtin "type.__call__" ⟨.ref C::vs,kw⟩)) (.call (.ref f) ⟨.ref (s.heap.objs.size+1)::vs,kw⟩) (W.InitBack (s.heap.objs.size+1) R) { s with heap:=(s.heap.push W.emptyDict).push (W.instObj C s.heap.objs.size)}):codeAny (model prog w) A (.call (.ref C) ⟨vs,kw⟩) R s:=by
 obtain⟨hh,g,d,t,os⟩:=s
 exact W.make_core (W.makes_of X hm) (W.looks_findIn X hi) (fun self=>W.bind_fn X self hf) (.inl rfl) h
theorem Ey {R:Result->Shared->Prop}(X:K.In s.heap)(hm:W.makesIn K C=true)(hi:W.findIn K (.ref C) "__init__"=some (some (.builtin "object.__init__")))(hb:∀ self,W.Looks (model prog w) s.heap (bindSpecial (.builtin "object.__init__") self) (.builtin "object.__init__",[self]))(h:codeAny (model prog w) (A.under (.builtin "type.__call__" ⟨[.ref C],[]⟩)) (.call (.builtin "object.__init__") ⟨[.ref (s.heap.objs.size+1)],[]⟩) (W.InitBack (s.heap.objs.size+1) R) { s with heap:=(s.heap.push W.emptyDict).push (W.instObj C s.heap.objs.size)}):codeAny (model prog w) A (.call (.ref C) ⟨[],[]⟩) R s:=by
 obtain⟨hh,g,d,t,os⟩:=s
 exact W.make_core (W.makes_of X hm) (W.looks_findIn X hi) hb (.inr ⟨rfl,rfl⟩) h
end
noncomputable def eJ (f:Str)(v:V):List (Str×V)->List (Str×V)
 | []=>[(f,v)]
 | (g,x)::r=>if g=f then (g,v)::r else (g,x)::eJ f v r
theorem nF (f g:Str)(v:V):∀ fs:List (Str×V),(eJ f v fs).lookup g=if g=f then some v else fs.lookup g
 | []=>by
   show abB g [(f,v)]=_
   by_cases h:g=f
   . have hb:(g == f)=true:=beq_iff_eq.mpr h
     simp only[abB,hb,if_pos h]
   . have hb:(g == f)=false:=beq_eq_false_iff_ne.mpr h
     simp only[abB,hb,if_neg h]
 | (k,x)::r=>by
   have ih:=nF f g v r
   rw[show eJ f v ((k,x)::r)=(if k=f then (k,v)::r else (k,x)::eJ f v r) from rfl]
   by_cases hk:k=f
   . rw[if_pos hk]
     by_cases h:g=k
     . have hb:(g == k)=true:=beq_iff_eq.mpr h
       simp only[abB,hb,if_pos (h.trans hk)]
     . have hb:(g == k)=false:=beq_eq_false_iff_ne.mpr h
       simp only[abB,hb,if_neg (fun e:g=f=>h (e.trans hk.symm))]
   . rw[if_neg hk]
     by_cases h:g=k
     . have hb:(g == k)=true:=beq_iff_eq.mpr h
       simp only[abB,hb,if_neg (fun e:g=f=>hk (h.symm.trans e))]
     . have hb:(g == k)=false:=beq_eq_false_iff_ne.mpr h
       simp only[abB,hb]
       exact ih
theorem rB (f:Str)(v:V):∀ fs:List (Str×V),f∈(eJ f v fs).map (·.1)/\∀ g,g∈fs.map (·.1)->g∈(eJ f v fs).map (·.1)
 | []=>⟨by simp[eJ],fun g h=>by simp at h⟩
 | (k,x)::r=>by
   obtain⟨i1,i2⟩:=rB f v r
   rw[show eJ f v ((k,x)::r)=(if k=f then (k,v)::r else (k,x)::eJ f v r) from rfl]
   by_cases hk:k=f
   . rw[if_pos hk]
     subst hk
     exact⟨by simp,fun g h=>by simpa using h⟩
   . rw[if_neg hk]
     refine⟨?_,fun g h=>?_⟩
     . rw[aao]
       exact aaG _ i1
     . rw[aao] at h ⊢
       rcases aau.mp h with e | e
       . exact aau.mpr (.inl e)
       . exact aaG _ (i2 g e)
theorem sI (f:Str)(v:V):∀ fs:List (Str×V),(eJ f v fs).length<=fs.length+1
 | []=>by simp[eJ]
 | (k,x)::r=>by
   have ih:=sI f v r
   rw[show eJ f v ((k,x)::r)=(if k=f then (k,v)::r else (k,x)::eJ f v r) from rfl]
   by_cases hk:k=f
   . rw[if_pos hk,aaI,aaI];omega
   . rw[if_neg hk,aaI,aaI];omega
theorem o4.some_of {v:V}{o:Option Value}(r:o4 (some v) o):∃ u,o=some u/\RelV v u:=by
 cases o with
 | none=>exact(show False from r).elim
 | some u=>exact⟨u,rfl,r⟩
theorem o4.none_of {o:Option Value}(r:o4 none o):o=none:=by
 cases o with
 | none=>rfl
 | some u=>exact(show False from r).elim
theorem Ez {v:V}{u:Value}(r:RelV v u):W.handedIn u=true:=by
 cases v with
 | cy=>cases (show u=Value.none from r);rfl
 | bl b=>cases (show u=Value.bool b from r);rfl
 | int i=>obtain⟨t,e⟩:=(show ∃ t,u=Value.int i t from r);cases e;rfl
 | str x=>obtain⟨t,e⟩:=(show ∃ t,u=Value.str x t from r);cases e;rfl
 | F3 b=>obtain⟨t,e⟩:=(show ∃ t,u=Value.bytes b t from r);cases e;rfl
 | Rn b=>obtain⟨t,e⟩:=(show ∃ t,u=Value.float b t from r);cases e;rfl
 | ref a=>cases (show u=Value.ref a from r);rfl
 | ty n=>cases (show u=Value.type n from r);rfl
section
variable {P:Program}{w:World}{H:Hp}{h:Heap}{a C dx:Addr}{fs:List (Str×V)}
theorem x6 (bh:qe P w H h)(e:Rd H a (.ins C dx fs)):∃ mA,BL h a dx C mA/\(∀ f,o4 (fs.lookup f) (mA f))/\PySem.Within mA (fs.map (·.1))/\fs.length<=1000/\H dx=some (.own a):=by
 obtain⟨d,z,ne,ob,mA,n,r,q⟩:=(show aO P w H h a (.ins C dx fs) from e.ok bh)
 exact⟨mA,⟨ob,n,ne⟩,r,q,z,d⟩
end
structure tT (K:W.Frag)(C:Addr):Prop where
 pg:W.plainGet K C Str.empty=true
 hd:W.hasDictIn K C=true
 po:W.plainOver K C=true
 sa:W.findIn K (.ref C) "__setattr__"=some (some (.builtin "object.__setattr__"))
theorem tT.get {K:W.Frag}{C:Addr}(c:tT K C)(f:Str):W.plainGet K C f=true:=c.pg
def bu (K:W.Frag)(C:Addr)(f:Str):Prop:=W.findIn K (.ref C) f=some none
theorem bu.Sf {K:W.Frag}{C:Addr}{f:Str}(n:bu K C f):W.takerIn K C f=some none:=by
 unfold W.takerIn
 rw[show W.findIn K (.ref C) f=some none from n]
 rfl
structure Con (K:W.Frag)(C:Addr)(f:Str)(v:V)(u:Value):Prop where
 at_:W.findIn K (.ref C) f=some (some u)
 rel:RelV v u
 get:W.specialIn K u "__get__"=some none
 cp:W.copiedNames.contains f=false
structure Meth (K:W.Frag)(C:Addr)(m:Str)(f:Addr):Prop where
 at_:W.findIn K (.ref C) m=some (some (.ref f))
 fn:W.isFn K (.ref f)=true
 kp:W.keepIn K (.ref f)=true
section
variable {X:Cx}{pins:List (Addr×Obj)}{σ:St}{H:Hp}{s:Shared}{a C dx:Addr}{fs:List (Str×V)}{f:Str}{v:V}{A:Around}{E:Value->Shared->Prop}
theorem BM {b:Bool}{Q:Value->Shared->Prop}(I:Inv X pins σ H s)(e:Rd H a (.ins C dx fs))(c:tT X.K C)(n:bu X.K C f)(l:fs.lookup f=some v)(h:∀ u s',Inv X pins σ H s'->RelV v u->Q u s'):wpAny (model X.prog X.w) A (getAttr (.ref a) f b) Q E s:=by
 obtain⟨mA,O,r,_,_,_⟩:=x6 I.bh e
 obtain⟨u,hu,ru⟩:=o4.some_of (v:=v) (o:=mA f) (by rw[<- l];exact r f)
 exact get_map I.zW O (c.get f) c.hd n hu (Ez ru) (h u _ (I.tok _) ru)
theorem uH {m:Str}{g:Addr}{pl:Sem Bool}{Q:Value×List Value->Shared->Prop}(I:Inv X pins σ H s)(e:Rd H a (.ins C dx fs))(c:tT X.K C)(k:Meth X.K C m g)(l:fs.lookup m=none)(h:Q (.ref g,[.ref a]) s):wpAny (model X.prog X.w) A (getMethod (.ref a) m pl) Q E s:=by
 obtain⟨mA,O,r,_,_,_⟩:=x6 I.bh e
 have hn:mA m=none:=o4.none_of (by rw[<- l];exact r m)
 exact GA I.zW O (c.get m) k.at_ k.fn hn h
theorem BN {y:V}{u:Value}{Q:Unit->Shared->Prop}(I:Inv X pins σ H s)(e:H a=some (.ins C dx fs))(c:tT X.K C)(n:bu X.K C f)(hl:fs.length < 1000)(ry:RelV y u)(h:∀ s',Inv X pins σ (upd H a (.ins C dx (eJ f y fs))) s'->Q () s'):wpAny (model X.prog X.w) A (setAttr (.ref a) f u) Q E s:=by
 obtain⟨mA,O,r,wi,_,ho⟩:=x6 I.bh (.of e)
 have hz:(fs.map (·.1)).length<=sizeLine:=by rw[Bn,sizeLine_eq];omega
 refine KW I.zW O c.sa c.po n.Sf c.hd wi hz fun h' O' sb=>h _ ?_
 have hd:∃ o,h'.get? dx=some o:=let ⟨o,_,_,e',_⟩:=O'.ns;⟨o,e'⟩
 refine I.write (x:=a) (e:=dx) (by rw[e];exact True.intro) (.inr ho) (fun b q hb z=>(sb.2 b hb).trans z) hd ?_
 refine⟨by rw[ag O.ne];exact ho,?_,O.ne,O'.obj,_,O'.ns,fun g=>?_,fun g hg=>?_⟩
 . have:=sI f y fs;omega
 . show o4 ((eJ f y fs).lookup g) (if g=f then some u else mA g)
   rw[nF]
   by_cases q:g=f
   . rw[if_pos q,if_pos q];exact ry
   . rw[if_neg q,if_neg q];exact r g
 . by_cases q:g=f
   . rw[q];exact(rB f y fs).1
   . refine(rB f y fs).2 g (wi g fun z=>hg ?_)
     show(if g=f then some u else mA g)=none
     rw[if_neg q];exact z
theorem Inv.made (I:Inv X pins σ H s):Inv X pins σ (upd (upd H s.heap.objs.size (.own (s.heap.objs.size+1))) (s.heap.objs.size+1) (.ins C s.heap.objs.size [])) { s with heap:=(s.heap.push W.emptyDict).push (W.instObj C s.heap.objs.size)}:=by
 have e1:(s.heap.push W.emptyDict).get? s.heap.objs.size=some W.emptyDict:=aai s.heap rfl
 have e2:((s.heap.push W.emptyDict).push (W.instObj C s.heap.objs.size)).get? (s.heap.objs.size+1)=some (W.instObj C s.heap.objs.size):=by
   have:=aai (s.heap.push W.emptyDict) (o:=W.instObj C s.heap.objs.size) rfl
   rwa [aaT] at this
 have e3:(s.heap.push W.emptyDict).Ns s.heap.objs.size (fun _=>none):=⟨W.emptyDict,#[],_,e1,rfl,(fun e he=>absurd he (by simp)),fun _=>rfl⟩
 have I1:=I.laid (a:=s.heap.objs.size) (o:=.own (s.heap.objs.size+1)) (h':=s.heap.push W.emptyDict) (t':=s.toks) (fun b u q=>Vf _ q) (aac _) ⟨_,e1⟩
 refine I1.laid (a:=s.heap.objs.size+1) (o:=.ins C s.heap.objs.size []) (t':=s.toks) (fun b u q=>Vf _ q) (Nat.le_of_eq (aaT _ _)) ?_
 have ne:s.heap.objs.size≠s.heap.objs.size+1:=aap (abg _)
 refine⟨by rw[ag ne,ak],aaQ _,ne,e2,fun _=>none,(Heap.Ns1.of_empty e3).at fun o q=>Vf _ q,fun _=>True.intro,fun y hy=>absurd rfl hy⟩
theorem KY {prog:Program}{w:World}{env:Env}{e:Expr}{f:Str}{pos:Pos}{s:Shared}{Q:Value->Shared->Prop}(hb:attributeBase e f env (eval e env)=eval e env)(h:wpAny (model prog w) A (eval e env) (fun o s₁=>wpAny (model prog w) A (getAttr o f true) Q E s₁) E s):wpAny (model prog w) A (eval (.Attribute e f pos) env) Q E s:=
 Attribute_any_ h (by rw[arm_eval_Attribute,hb])
end
def Wg (K:PySem.W.Frag)(ta:TE)(f:Str):TE:=fun σ H Q=>ta σ H fun x H1=>∃ a C dx fs v,x=.ref a/\Rd H1 a (.ins C dx fs)/\tT K C/\bu K C f/\fs.lookup f=some v/\Q v H1
def Wh (K:PySem.W.Frag)(ta tv:TE)(f:Str):TS:=fun D σ H=>tv σ H fun y H1=>ta σ H1 fun x H2=>∃ a C dx fs,x=.ref a/\H2 a=some (.ins C dx fs)/\tT K C/\bu K C f/\fs.length < 1000 /\
 D.nx σ (upd H2 a (.ins C dx (eJ f y fs)))
section
variable {X:Cx}{o e value:Expr}{f:Str}{pos pos':Pos}{ta tv:TE}
theorem uI (he:PE X e ta)(hb:attributeBase e f X.env (eval e X.env)=eval e X.env):PE X (.Attribute e f pos) (Wg X.K ta f):=by
 intro pins s σ H Q I h
 refine KY hb (bM (he pins s σ H _ I h) fun u s1 ⟨x,H1,I1,rx,a,C,dx,fs,v,ex,ea,c,n,l,q⟩=>?_)
 subst ex
 obtain rfl:u=Value.ref a:=rx
 exact BM I1 ea c n l fun u' s2 I2 ru=>⟨v,H1,I2,ru,q⟩
theorem uJ (ha:PE X o ta)(hv:PE X value tv)(hs:swapsWith value (some (.Attribute o f pos')) pos.line X.env=pure false):PS X (.Assign [.Attribute o f pos'] value pos) (Wh X.K ta tv f):=by
 intro pins s σ H D I h
 refine plainObj_wpAny_Assign_Attribute (bM (hv pins s σ H _ I h) fun u s1 ⟨y,H1,I1,ry,q⟩=>bM (ha pins s1 σ H1 _ I1 q) fun ov s2 ⟨x,H2,I2,rx,a,C,dx,fs,ex,ea,c,n,l,q2⟩=>?_) hs
 subst ex
 obtain rfl:ov=Value.ref a:=rx
 exact BN I2 ea c n l ry fun s3 I3=>⟨σ,_,I3,q2⟩
end
section
variable {H:Hp}
inductive uK (K:W.Frag)(H:Hp):V->Value->Prop where
 | cy:uK K H .cy (.type "NoneType")
 | bl (x:Bool):uK K H (.bl x) (.type "bool")
 | int (i:Int):uK K H (.int i) (.type "int")
 | str (x:Str):uK K H (.str x) (.type "str")
 | Rn (x:UInt64):uK K H (.Rn x) (.type "float")
 | lst {a:Addr} {xs:List V} (e:H a=some (.lst xs)):uK K H (.ref a) (.type "list")
 | bj {a:Addr} {o:Obj} {xs:List V} (e:H a=some (.bj o (.lst xs))):uK K H (.ref a) (.type "list")
 | tup {a:Addr} {xs:List V} (e:H a=some (.tup xs)):uK K H (.ref a) (.type "tuple")
 | dK {a:Addr} {kvs:List (Key×V)} (e:H a=some (.dK kvs)):uK K H (.ref a) (.type "dict")
 | dT {a:Addr} {kvs:List (List Key×V)} (e:H a=some (.dT kvs)):uK K H (.ref a) (.type "dict")
 | ins {a C dx:Addr} {fs:List (Str×V)} (e:Rd H a (.ins C dx fs)) (cl:tT K C) (ha:W.findIn K (.ref C) "__class__"=some (some (.builtin "object.__class__")))
     (hn:W.specialIn K (.builtin "object.__class__") "__get__"=some (some (.builtin "getset_descriptor.__get__"))) (YF:W.takesIn K (.builtin "object.__class__")=some true)
     (hm:W.mroIn K C (.type "object")=some true):uK K H (.ref a) (.ref C)
end
structure d0 (k:Nat)(A:Around):Prop where
 hd:A.handled=none
 dp:A.depth+3 * k+5 < recursionLimit
 un:A.units+16 * k+200 < cLine
theorem d0.mono {j k:Nat}{A:Around}(r:d0 k A)(h:j<=k):d0 j A:=⟨r.hd,by have:=r.dp;omega,by have:=r.un;omega⟩
theorem d0.deeper {k:Nat}{A:Around}(r:d0 (k+1) A)(env:Env):d0 k (A.deeper env):=
 ⟨r.hd,by have:=r.dp;show A.depth+1+3 * k+5 < _;omega,by have:=r.un;show A.units+3+16 * k+200 < _;omega⟩
theorem BO {A:Around}{C:Addr}{us:List Value}{kw:List (Str×Value)}:(A.under (.builtin "type.__call__" ⟨.ref C::us,kw⟩)).depth=A.depth+1:=by
 first | rfl | simp[Around.under,Code.weight,Code.isCreation,Code.isGuard,Code.isCaller,Code.frames,Code.isFrame,guardIds]
theorem BP {A:Around}{C:Addr}{us:List Value}{kw:List (Str×Value)}:(A.under (.builtin "type.__call__" ⟨.ref C::us,kw⟩)).units=A.units+1:=by
 first | rfl | simp[Around.under,Code.cUnits,Code.frames,Code.isFrame]
theorem d0.make {k:Nat}{A:Around}(r:d0 (k+1) A)(C:Addr)(us:List Value)(kw:List (Str×Value)):d0 k (A.under (.builtin "type.__call__" ⟨.ref C::us,kw⟩)):=
 ⟨r.hd,by have:=r.dp;rw[BO];omega,by have:=r.un;rw[BP];omega⟩
theorem d0.depth {k:Nat}{A:Around}(r:d0 k A):A.depth < recursionLimit:=by have:=r.dp;omega
theorem d0.units {k:Nat}{A:Around}(r:d0 k A):A.units+64 < cLine:=by have:=r.un;omega
def Sh:TA:=fun _ H Q=>Q [] H
def Si (ta:TE)(tr:TA):TA:=fun σ H Q=>ta σ H fun x H1=>tr σ H1 fun xs H2=>Q (x::xs) H2
section
variable {X:Cx}{e:Expr}{es:List Expr}{te:TE}{t:TA}{pos:Pos}
theorem nG:PA X [] Sh:=fun _ _ _ _ H Q I h=>Calls.spliced_nil ⟨[],H,I,.nil,h⟩
theorem lj (ha:PE X e te)(hr:PA X es t)(hs:starEach (e::es) X.env=(false,eval e X.env)::starEach es X.env:=by rfl):PA X (e::es) (Si te t):=by
 intro pos pins s σ H Q I h
 rw[hs]
 show wpAny _ _ (spliced ((false,eval e X.env)::backTo pos (starEach es X.env))) _ _ s
 refine Calls.spliced_cons (bM (ha pins s σ H _ I h) fun u s1 ⟨x,H1,I1,r1,q1⟩=>?_)
 exact bM (hr pos pins s1 σ H1 _ I1 q1) fun us s2 ⟨xs,H2,I2,r2,q2⟩=>⟨x::xs,H2,I2,.cons r1 r2,q2⟩
def Wi (t:TA):TE:=fun σ H Q=>t σ H fun xs H1=>xs.length<=sizeLine/\∀ p,H1 p=none->Q (.ref p) (upd H1 p (.tup xs))
def Wj (t:TA):TE:=fun σ H Q=>t σ H fun xs H1=>xs.length<=sizeLine/\∀ p,H1 p=none->Q (.ref p) (upd H1 p (.lst xs))
theorem Oy {x1}(h:PA X es t):PE X (.Tuple es x1 pos) (Wi t):=by
 intro pins s σ H Q I hq
 refine wpAny_Tuple_spliced (bM (h pos pins s σ H _ I hq) fun us s1 ⟨xs,H1,I1,r,z,q⟩=>⟨by rw[<- r.length];exact z,?_⟩)
 have hf:H1 s1.heap.objs.size=none:=I1.bh.fresh (aac _)
 refine⟨.ref s1.heap.objs.size,upd H1 s1.heap.objs.size (.tup xs),I1.laid (t':=s1.toks) (fun b u e=>Vf _ e) (aac _) ?_,rfl,q _ hf⟩
 exact⟨z,us,r,⟨_,aai _ rfl,rfl,_,rfl⟩⟩
theorem uL (h:PA X es t):PE X (.List es pos) (Wj t):=by
 intro pins s σ H Q I hq
 refine wpAny_List_spliced (bM (h pos pins s σ H _ I hq) fun us s1 ⟨xs,H1,I1,r,z,q⟩=>⟨by rw[<- r.length];exact z,?_⟩)
 have hf:H1 s1.heap.objs.size=none:=I1.bh.fresh (aac _)
 refine⟨.ref s1.heap.objs.size,upd H1 s1.heap.objs.size (.lst xs),I1.laid (t':=s1.toks) (fun b u e=>Vf _ e) (aac _) ?_,rfl,q _ hf⟩
 exact⟨z,us,0,r,aai _ rfl⟩
end
abbrev Sp:=List V->Hp->VK->XK->Prop
abbrev q8:=List Env->Hp->Shared->XK->Value->Shared->Prop
structure z7 (P:Program)(w:World)(K:W.Frag)(mg:Str->Option Value)(base:Heap)(A:Around)(outer:List Env)(s:Shared)(H:Hp):Prop where
 frames:A.frames=some outer
 mod:Mod K mg base
 bs:∀ b o,base.get? b=some o->s.heap.get? b=some o/\H b=none
 C1:base.objs.size<=s.heap.objs.size
 rh:s.heap.FunFrames base outer
 M0:∀ b∈Gh outer,H b=none
 bh:qe P w H s.heap
 bare:AllBare s.gens
def CE (outer:List Env)(P:Program)(w:World)(H:Hp)(s:Shared)(Q:VK)(u:Value)(s':Shared):Prop:=
 ∃ v H',s'.os=s.os/\AllBare s'.gens/\Un (Gh outer) [] H H' s.heap s'.heap/\qe P w H' s'.heap/\RelV v u/\Q v H'
def CR (CX:q8)(outer:List Env)(P:Program)(w:World)(H:Hp)(s:Shared)(Q:VK)(E:XK)(r:Result)(s':Shared):Prop:=
 match r with
 | .ok (.ret u)=>CE outer P w H s Q u s'
 | .ok _=>False
 | .error e=>CX outer H s E e s'
structure jt (P:Program)(w:World)(K:W.Frag)(mg:Str->Option Value)(base:Heap)(CX:q8)(k:Nat)(f:Addr)(fd:FuncData)(ps:List Str)(sp:Sp):Prop where
 len:∀ vs H Q E,sp vs H Q E->vs.length=ps.length
 run:∀ (A:Around) (outer:List Env) (s:Shared) (H:Hp) (args:Args) (us:List Value) (vs:List V) (Q:VK) (E:XK),d0 k A->z7 P w K mg base A outer s H->BindsTo s fd args (ps.zip us)->Vals vs us->sp vs H Q E ->
   codeAny (model P w) A (.call (.ref f) args) (CR CX outer P w H s Q E) s
theorem z7.make {P:Program}{w:World}{K:W.Frag}{mg:Str->Option Value}{base:Heap}{A:Around}{outer:List Env}{s:Shared}{H:Hp}(e:z7 P w K mg base A outer s H)(C:Addr)(us:List Value)(kw:List (Str×Value)):z7 P w K mg base (A.under (.builtin "type.__call__" ⟨.ref C::us,kw⟩)) outer s H:=⟨by first | exact e.frames | (simpa [Around.under,Code.envs,Code.isFrame,pushEnvs] using e.frames),e.mod,e.bs,e.C1,e.rh,e.M0,e.bh,e.bare⟩
section
variable {X:Cx}{pins:List (Addr×Obj)}{σ:St}{H:Hp}{s s':Shared}
theorem Inv.Sl (I:Inv X pins σ H s):z7 X.prog X.w X.K X.mg X.base X.A X.stack s H:=
 ⟨I.ok.frames,I.ok.mod,I.bs,aav I.ok.C1 I.sz,I.stack,I.tQ,I.bh,I.bare⟩
theorem Inv.after {Q:VK}{u:Value}(I:Inv X pins σ H s)(h:CE X.stack X.prog X.w H s Q u s'):EP X pins σ Q u s':=by
 obtain⟨v,H',os,bare,un,bh,r,q⟩:=h
 obtain⟨hh,g,d,t,Wk⟩:=s'
 obtain rfl:Wk=s.os:=os
 exact⟨v,H',I.call (h':=hh) (g':=g) (d':=d) (t':=t) (ch:=[]) un bh bare (fun b z=>absurd z (by simp)),r,q⟩
end
def Sm (sp:Sp)(dvs:List V)(E:XK)(t:TA):TE:=fun σ H Q=>t σ H fun vs H1=>sp (vs ++ dvs) H1 Q E
def M8 (C:Addr)(m:Str)(sp:Sp)(dvs:List V)(E:XK)(ta:TE)(t:TA):TE:=fun σ H Q=>ta σ H fun x H1=>∃ a dx fs,x=.ref a/\Rd H1 a (.ins C dx fs)/\fs.lookup m=none /\
 t σ H1 fun vs H2=>sp (x::(vs ++ dvs)) H2 Q E
def So (C:Addr)(sp:Sp)(dvs:List V)(E:XK)(t:TA):TE:=fun σ H Q=>t σ H fun vs H1=>∀ x dx,H1 x=none->H1 dx=none->dx≠x ->
 sp (.ref x::(vs ++ dvs)) (upd (upd H1 dx (.own x)) x (.ins C dx [])) (fun v H2=>v=.cy/\Q (.ref x) H2) E
def Binds (K:PySem.W.Frag)(fd:FuncData)(ps:List Str)(ds:List Value):Prop:=
 ∀ (s:Shared) (us:List Value),K.In s.heap->(us ++ ds).length=ps.length->BindsTo s fd ⟨us,[]⟩ (ps.zip (us ++ ds))
theorem Binds.all {K:W.Frag}{fd:FuncData}{ps:List Str}(h:∀ us:List Value,us.length=ps.length->bindArgs fd ⟨us,[]⟩=pure (ps.zip us)):Binds K fd ps []:=fun s us _ hl=>by
 rw[aaS] at hl ⊢
 exact .of_eq (h us hl)
def Passes (CX:q8)(X:Cx)(E:XK):Prop:=∀ (pins:List (Addr×Obj)) (σ:St) (H:Hp) (s:Shared) (e:Value) (s':Shared),Inv X pins σ H s->CX X.stack H s E e s'->X.xe e s'
section
variable {X:Cx}{CX:q8}{k:Nat}{f C:Addr}{fd:FuncData}{ps:List Str}{sp:Sp}{dvs:List V}{ds:List Value}{E:XK}{x m:Str}{p pos apos:Pos}{e o:Expr}{es:List Expr}{ta:TE}{t:TA}
theorem BQ {pins:List (Addr×Obj)}{σ:St}{H:Hp}{s:Shared}{Q:VK}{us:List Value}{vs:List V}(F:jt X.prog X.w X.K X.mg X.base CX k f fd ps sp)(hr:d0 k X.A)(hb:Binds X.K fd ps ds)(hd:Vals dvs ds)(hx:Passes CX X E)(I:Inv X pins σ H s)(r:Vals vs us)(h:sp (vs ++ dvs) H Q E):wpAny (model X.prog X.w) X.A (call (.ref f) us) (EP X pins σ Q) X.xe s:=by
 have r2:Vals (vs ++ dvs) (us ++ ds):=r.append hd
 have hl:(us ++ ds).length=ps.length:=by rw[<- r2.length];exact F.len _ _ _ _ h
 refine wpAny_call (codeAny_mono (F.run X.A X.stack s H ⟨us,[]⟩ (us ++ ds) (vs ++ dvs) Q E hr I.Sl (hb s us I.zW hl) r2 h) fun r s' hq=>?_)
 cases r with
 | error e=>exact hx pins σ H s e s' I hq
 | ok fl=>
   cases fl with
   | ret u=>exact I.after hq
   | next=>exact False.elim hq
   | brk=>exact False.elim hq
   | cont=>exact False.elim hq
theorem C7 (F:jt X.prog X.w X.K X.mg X.base CX k f fd ps sp)(hr:d0 k X.A)(hg:Gl X x)(hm:X.mg x=some (.ref f))(hk:W.keepIn X.K (.ref f)=true)(hb:Binds X.K fd ps ds)(hd:Vals dvs ds)(hx:Passes CX X E)(ha:PA X (e::es) t)(lU:(x == ("__debug__":Str))=false:=by decide)(he:starEach (e::es) X.env=(false,eval e X.env)::starEach es X.env:=by rfl)(nC:(backTo pos (starEach es X.env)).any (·.1)=false:=by rfl):PE X (.Call (.Name x p) (e::es) [] pos) (Sm sp dvs E t):=by
 intro pins s σ H Q I h
 refine wpAny_Call_Name_kw (tR I hg hm ?_ lU)
 refine W.callWith_K (h₀:=X.base) I.ok.mod.RS hk (bM (ha pos pins s σ H _ I h) fun us s1 ⟨vs,H1,I1,r,q⟩=>⟨I1.zW,?_⟩) he nC
 exact BQ F hr hb hd hx I1 r q
theorem C8 {pl:Sem Bool}(he:PE X o ta)(c:tT X.K C)(hm:Meth X.K C m f)(F:jt X.prog X.w X.K X.mg X.base CX k f fd ps sp)(hr:d0 k X.A)(hb:Binds X.K fd ps ds)(hd:Vals dvs ds)(hx:Passes CX X E)(ha:PA X (e::es) t)
   (pK:starEach (e::es) X.env=(false,eval e X.env)::starEach es X.env:=by rfl) (nC:(backTo pos (starEach es X.env)).any (·.1)=false:=by rfl)
   (ht:eval (.Call (.Attribute o m apos) (e::es) [] pos) X.env=(do
     let ov <- eval o X.env
     standAt apos.atName
     let (f,first) <- holding [ov] (getMethod ov m pl)
     callWith pos f first (backTo pos (starEach (e::es) X.env)) (backToKw pos (keywordEach [] X.env))):=by rfl) :
   PE X (.Call (.Attribute o m apos) (e::es) [] pos) (M8 C m sp dvs E ta t):=by
 intro pins s σ H Q I h
 refine W.methodCall_KW (pl:=pl) (bM (he pins s σ H _ I h) fun u s1 ⟨x,H1,I1,rx,a,dx,fs,ex,ea,l,q⟩=>?_) ht
 subst ex
 obtain rfl:u=Value.ref a:=rx
 refine uH I1 ea c hm l ?_
 refine W.callWith_K (first:=[.ref a]) (h₀:=X.base) I.ok.mod.RS hm.kp (bM (ha pos pins s1 σ H1 _ I1 q) fun us s2 ⟨vs,H2,I2,r,q2⟩=>⟨I2.zW,?_⟩) pK nC
 exact BQ (us:=.ref a::us) (vs:=.ref a::vs) F hr hb hd hx I2 (.cons rfl r) q2
theorem GC {pl:Sem Bool}(he:PE X o ta)(c:tT X.K C)(hm:Meth X.K C m f)(F:jt X.prog X.w X.K X.mg X.base CX k f fd ps sp)(hr:d0 k X.A)(hb:Binds X.K fd ps ds)(hd:Vals dvs ds)(hx:Passes CX X E)
   (ht:eval (.Call (.Attribute o m apos) [] [] pos) X.env=(do
     let ov <- eval o X.env
     standAt apos.atName
     let (f,first) <- holding [ov] (getMethod ov m pl)
     callWith pos f first (backTo pos (starEach [] X.env)) (backToKw pos (keywordEach [] X.env))):=by rfl) :
   PE X (.Call (.Attribute o m apos) [] [] pos) (M8 C m sp dvs E ta Sh):=by
 intro pins s σ H Q I h
 refine W.methodCall_KW (pl:=pl) (bM (he pins s σ H _ I h) fun u s1 ⟨x,H1,I1,rx,a,dx,fs,ex,ea,l,q⟩=>?_) ht
 subst ex
 obtain rfl:u=Value.ref a:=rx
 refine uH I1 ea c hm l ?_
 exact W.callWith_K0 (first:=[.ref a]) I1.zW hm.kp (BQ (us:=[.ref a]) (vs:=[.ref a]) F hr hb hd hx I1 (.cons rfl .nil) q)
structure Mk (K:W.Frag)(C f:Addr):Prop where
 makes:W.makesIn K C=true
 init:W.findIn K (.ref C) "__init__"=some (some (.ref f))
 fn:W.isFn K (.ref f)=true
 kp:W.keepIn K (.ref C)=true
theorem GD {pins:List (Addr×Obj)}{σ:St}{H:Hp}{s:Shared}{Q:VK}{us:List Value}{vs:List V}(M:Mk X.K C f)(F:jt X.prog X.w X.K X.mg X.base CX k f fd ps sp)(hr:d0 (k+1) X.A)(hb:Binds X.K fd ps ds)(hd:Vals dvs ds)(hx:Passes CX X E)(I:Inv X pins σ H s)(r:Vals vs us)(h:∀ x dx,H x=none->H dx=none->dx≠x->sp (.ref x::(vs ++ dvs)) (upd (upd H dx (.own x)) x (.ins C dx [])) (fun v H2=>v=.cy/\Q (.ref x) H2) E):wpAny (model X.prog X.w) X.A (call (.ref C) us) (EP X pins σ Q) X.xe s:=by
 have hq:=h (s.heap.objs.size+1) s.heap.objs.size (I.bh.fresh (abe _)) (I.bh.fresh (aac _)) (aap (abg _))
 have I2:=Inv.made (C:=C) I
 have r2:Vals (V.ref (s.heap.objs.size+1)::(vs ++ dvs)) (Value.ref (s.heap.objs.size+1)::(us ++ ds)):=.cons rfl (r.append hd)
 have hl:(Value.ref (s.heap.objs.size+1)::us ++ ds).length=ps.length:=by
   have e:=r2.length
   rw[F.len _ _ _ _ hq] at e
   exact e.symm
 refine wpAny_call (GB (f:=f) I.zW M.makes M.init (beq_iff_eq.mp M.fn) (codeAny_mono (F.run _ X.stack _ _ ⟨Value.ref (s.heap.objs.size+1)::us,[]⟩ (Value.ref (s.heap.objs.size+1)::(us ++ ds)) _ _ E (hr.make C us [])
   (I2.Sl.make C us []) (hb _ (Value.ref (s.heap.objs.size+1)::us) I2.zW hl) r2 hq) fun r s' Sq=>?_))
 cases r with
 | error e=>exact hx pins σ _ _ e s' I2 Sq
 | ok fl=>
   cases fl with
   | ret u=>
     obtain⟨v,H',I3,rv,ev,q3⟩:=I2.after Sq
     subst ev
     exact⟨rv,⟨V.ref (s.heap.objs.size+1),H',I3,rfl,q3⟩⟩
   | next=>exact False.elim Sq
   | brk=>exact False.elim Sq
   | cont=>exact False.elim Sq
theorem x8 (M:Mk X.K C f)(F:jt X.prog X.w X.K X.mg X.base CX k f fd ps sp)(hr:d0 (k+1) X.A)(hg:Gl X x)(hm:X.mg x=some (.ref C))(hb:Binds X.K fd ps ds)(hd:Vals dvs ds)(hx:Passes CX X E)(ha:PA X (e::es) t)(lU:(x == ("__debug__":Str))=false:=by decide)(he:starEach (e::es) X.env=(false,eval e X.env)::starEach es X.env:=by rfl)(nC:(backTo pos (starEach es X.env)).any (·.1)=false:=by rfl):PE X (.Call (.Name x p) (e::es) [] pos) (So C sp dvs E t):=by
 intro pins s σ H Q I h
 refine wpAny_Call_Name_kw (tR I hg hm ?_ lU)
 refine W.callWith_K (h₀:=X.base) I.ok.mod.RS M.kp (bM (ha pos pins s σ H _ I h) fun us s1 ⟨vs,H1,I1,r,q⟩=>⟨I1.zW,?_⟩) he nC
 exact GD M F hr hb hd hx I1 r q
end
section
variable {fd:FuncData}{ps ks:List Str}
structure Wl (K:W.Frag)(fd:FuncData)(ps ks:List Str)(g:List Value->List Value->List Value)(gV:List V->List V->List V):Prop where
 to:∀ (s:Shared) (us ws:List Value),K.In s.heap->(g us ws).length=ps.length->BindsTo s fd ⟨us,ks.zip ws⟩ (ps.zip (g us ws))
 rel:∀ {vs:List V} {us:List Value} {zs:List V} {ws:List Value},Vals vs us->Vals zs ws->Vals (gV vs zs) (g us ws)
end
structure aq (N P:List Str)(sc:Scope):Prop where
 kind:sc.kind=.function
 co:sc.isCoroutine=false
 gen:sc.isGenerator=false
 nd:N.Nodup
 pre:N.take P.length=P
 par:∀ x∈P,sc.names.lookup x=some .local\/sc.names.lookup x=some .cell
 Oz:∀ y∈sc.names,y.2≠.free
theorem xh {kindOf:Str->Option NameKind}{x:Str}:∀ {binds:List (Str×Value)} {m:Str->Option Value},(∀ v,(x,v) ∉ binds)->bindL kindOf binds m x=m x
 | [],_,_=>rfl
 | (n,v)::r,m,h=>by
   unfold bindL
   rw[xh fun w hw=>h w (aaG _ hw)]
   split
   . have:x≠n:=by rintro rfl;exact h v aa3
     simp[this]
   . rfl
theorem xi {kindOf:Str->Option NameKind}{x:Str}:∀ {binds:List (Str×Value)} {m:Str->Option Value},(∀ v,(x,v) ∉ binds)->bindC kindOf binds m x=m x
 | [],_,_=>rfl
 | (n,v)::r,m,h=>by
   unfold bindC
   rw[xi fun w hw=>h w (aaG _ hw)]
   split
   . rfl
   . have:x≠n:=by rintro rfl;exact h v aa3
     simp[this]
theorem xj {kindOf:Str->Option NameKind}{x:Str}{v:Value}:∀ {P:List Str} {vs:List Value} {i:Nat} {m:Str->Option Value},P.Nodup->P[i]?=some x->vs[i]?=some v->kindOf x=some .local->bindL kindOf (P.zip vs) m x=some v
 | [],_,_,_,_,h,_,_=>by simp at h
 | _::_,[],_,_,_,_,h,_=>by simp at h
 | p::P,w::vs,0,m,nd,h1,h2,hk=>by
   simp at h1 h2;subst h1;subst h2
   show bindL kindOf ((p,w)::P.zip vs) m p=_
   unfold bindL
   rw[xh fun v hv=>(abr.mp nd).1 (List.of_mem_zip hv).1,if_pos hk]
   simp
 | p::P,w::vs,i+1,m,nd,h1,h2,hk=>by
   show bindL kindOf ((p,w)::P.zip vs) m x=_
   unfold bindL
   exact xj (i:=i) (abr.mp nd).2 (by simpa using h1) (by simpa using h2) hk
theorem xk {kindOf:Str->Option NameKind}{x:Str}{v:Value}:∀ {P:List Str} {vs:List Value} {i:Nat} {m:Str->Option Value},P.Nodup->P[i]?=some x->vs[i]?=some v->kindOf x≠some .local->bindC kindOf (P.zip vs) m x=some v
 | [],_,_,_,_,h,_,_=>by simp at h
 | _::_,[],_,_,_,_,h,_=>by simp at h
 | p::P,w::vs,0,m,nd,h1,h2,hk=>by
   simp at h1 h2;subst h1;subst h2
   show bindC kindOf ((p,w)::P.zip vs) m p=_
   unfold bindC
   rw[xi fun v hv=>(abr.mp nd).1 (List.of_mem_zip hv).1,if_neg hk]
   simp
 | p::P,w::vs,i+1,m,nd,h1,h2,hk=>by
   show bindC kindOf ((p,w)::P.zip vs) m x=_
   unfold bindC
   exact xk (i:=i) (abr.mp nd).2 (by simpa using h1) (by simpa using h2) hk
noncomputable def start (N:List Str)(vs:List V):St:=vs.map some ++ aah (N.length - vs.length) none
noncomputable def z8 (CX:q8)(P:Program)(w:World)(K:W.Frag)(mg:Str->Option Value)(base:Heap)(N:List Str)(qual:Str)(scope:Scope)(f:Addr)(cd:Value)(A:Around)(outer:List Env)(s:Shared)(H:Hp)(E:XK):Cx where
 prog:=P
 w:=w
 K:=K
 mg:=mg
 base:=base
 A:=A.deeper (envOfC qual scope s.heap.objs.size f cd)
 N:=N
 s₀:=s
 H₀:=H
 env:=envOfC qual scope s.heap.objs.size f cd
 outer:=outer
 stack:=envOfC qual scope s.heap.objs.size f cd::outer
 ex:=[]
 calm:=true
 fn:=fun _=>true
 pn:=[]
 xe:=fun e s'=>wpAny (model P w) (A.deeper (envOfC qual scope s.heap.objs.size f cd)) (leaving (envOfC qual scope s.heap.objs.size f cd) e) (fun _ OA=>CX outer H s E e OA) (fun e' OA=>CX outer H s E e' OA) s'
theorem z9 {sc:Scope}{n:Nat}{x:Str}(h:sc.names.lookup x=some .cell):∃ c,(cellsFrom n sc.names []).lookup x=some c:=by
 have q:=W.cellsFrom_some sc.names n [] (.inl h)
 exact Option.isSome_iff_exists.mp q
theorem EC {CX:q8}{P:Program}{w:World}{K:W.Frag}{mg:Str->Option Value}{base:Heap}{N ps:List Str}{qual:Str}{scope:Scope}{f:Addr}{cd:Value}{A:Around}{outer:List Env}{s s1:Shared}{H:Hp}{E:XK}{us:List Value}{vs:List V}(S:aq N ps scope)(hd:A.handled=none)(e0:z7 P w K mg base A outer s H)(hl:vs.length=ps.length)(r:Vals vs us)(x:InCallC s s.heap.objs.size (bindL (envOfC qual scope s.heap.objs.size f cd).kindOf (ps.zip us) fun _=>none) (cellsFrom (s.heap.objs.size+1) scope.names []) (bindC (envOfC qual scope s.heap.objs.size f cd).kindOf (ps.zip us) fun _=>none) s1):Inv (z8 CX P w K mg base N qual scope f cd A outer s H E) [] (start N vs) H s1:=by
 have nC:ps.length<=N.length:=by have:=congrArg abf S.pre;rw[aat] at this;omega
 obtain⟨h1,tk,rfl,hk⟩:=x.done
 have Sr:∀ b:Addr,b ∉ (z8 CX P w K mg base N qual scope f cd A outer s H E).ex:=fun b z=>absurd (show b∈([]:List Addr) from z) (by simp)
 refine⟨⟨e0.mod,S.kind,rfl,rfl,aac _,fun y z c h1 h2=>?_,fun y hy=>?_,fun y c _ h=>?_,fun _=>hd,Around.frames_deeper e0.frames,.inr ⟨rfl,rfl⟩,fun b z=>absurd z (Sr b),e0.bs,e0.C1,fun b _ _=>Sr b,fun b z=>absurd z (Sr b),e0.rh,e0.M0⟩,
   rfl,e0.bare,Un.kept hk,⟨_,x.toInCall.ns,fun i y v h1 h2 h3=>?_⟩,fun y c h=>⟨_,x.cell y c h⟩,e0.bh.fresh (aac _),fun y c h=>?_,fun p hp=>absurd (show p∈([]:List (Addr×Obj)) from hp) (by simp),e0.bh.kept hk,?_⟩
 . exact name_of_addr x.apart (PySem.mem_of_lookup h1) (PySem.mem_of_lookup h2)
 . have hy:scope.names.lookup y=some .cell\/scope.names.lookup y=some .free:=hy
   rcases hy with hy | hy
   . exact z9 hy
   . exact absurd rfl (S.Oz _ (PySem.mem_of_lookup hy))
 . exact aa5 (x.above y c (PySem.mem_of_lookup h))
 . have hi:i < vs.length:=by
     unfold start at h2
     by_cases hi:i < vs.length
     . exact hi
     . rw[aaz (by simpa using hi)] at h2
       rw[aaR] at h2
       split at h2 <;> cases h2
   have ha:vs[i]?=some v:=by
     unfold start at h2
     rw[aay (by simpa using hi),aab] at h2
     cases e:vs[i]? with
     | none=>rw[e] at h2;cases h2
     | some a=>rw[e] at h2;cases h2;rfl
   obtain⟨u,hu,rv⟩:=r.get ha
   have hp:ps[i]?=some y:=by
     rw[<- S.pre,List.getElem?_take_of_lt (by omega)];exact h1
   have YG:ps.Nodup:=by rw[<- S.pre];exact S.nd.sublist (List.take_sublist _ _)
   refine⟨u,rv,?_⟩
   rcases S.par y (abi hp) with k | k
   . exact .inl ⟨k,xj YG hp hu k⟩
   . obtain⟨c,e⟩:=z9 (n:=s.heap.objs.size+1) k
     refine .inr ⟨.inl k,c,e,?_⟩
     have q:=x.cell y c e
     rw[xk YG hp hu (by show scope.names.lookup y≠_;rw[k];decide)] at q
     exact q
 . exact e0.bh.fresh (aa5 (x.above y c (PySem.mem_of_lookup h)))
 . unfold start
   show _=N.length
   rw[aas,Bn,List.length_replicate]
   omega
theorem GG {CX:q8}{P:Program}{w:World}{K:W.Frag}{mg:Str->Option Value}{base:Heap}{k:Nat}{f:Addr}{name qual:Str}{params:Arguments}{body:List Stmt}{scope:Scope}{dV kV doc pm bc ct oc:Value}{an od:Option Addr}{xl:Array (Option Value)}{N ps:List Str}{sp:Sp}(lk:K.lookup f=some ⟨oc,od,.func (W.fnOf name qual params body scope dV kV doc pm an bc ct),xl⟩)(lV:W.codeIn K bc qual=true)(S:aq N ps scope)(len:∀ vs H Q E,sp vs H Q E->vs.length=ps.length)(qi:∀ (A:Around) (outer:List Env) (s:Shared) (H:Hp) (vs:List V) (Q:VK) (E:XK),d0 k (A.deeper (envOfC qual scope s.heap.objs.size f bc))->sp vs H Q E->∃ t,BE (z8 CX P w K mg base N qual scope f bc A outer s H E) body t/\t { nx:=fun _ H'=>Q .cy H',rt:=Q} (start N vs) H):jt P w K mg base CX (k+1) f (W.fnOf name qual params body scope dV kV doc pm an bc ct) ps sp:=by
 refine⟨len,fun A outer s H args us vs Q E hr e0 hb r M9=>?_⟩
 have hl:=len _ _ _ _ M9
 have KX:K.In s.heap:=e0.mod.RS.keeps fun b o e=>(e0.bs b o e).1
 have lim:s.heap.NoLimit:=e0.mod.nolimit.keeps fun b o e=>(e0.bs b o e).1
 have Ss:∀ y∈ps.zip us,scope.names.lookup y.1=some .local\/(scope.names.lookup y.1=some .cell/\((cellsFrom (s.heap.objs.size+1) scope.names []).lookup y.1).isSome=true):=fun⟨n,v⟩ hy=>by
   rcases S.par n (List.of_mem_zip hy).1 with q | q
   . exact .inl q
   . exact .inr ⟨q,W.cellsFrom_some _ _ _ (.inl q)⟩
 refine codeAny_call_function hr.depth (KX _ _ lk) rfl S.co S.gen rfl (W.codeRec_of KX lV) (hb _ _ _ _ ?_)
 refine wpAny_newFunctionEnv_cells S.kind Ss fun env he s1 x=>?_
 subst he
 refine⟨lim.keeps x.toInCall.keep,codeAny_func ?_⟩
 obtain⟨t,ht,hq⟩:=qi A outer s H vs Q E (hr.deeper _) M9
 have I:Inv (z8 CX P w K mg base N qual scope f bc A outer s H E) [] (start N vs) H s1:=EC S hr.hd e0 hl r x
 refine wpAny_mono (ht [] s1 (start N vs) H _ I hq) (fun fl s' hs=>?_) fun e s' hs=>hs
 have fin:∀ {σ':St} {H':Hp} {v:V} {u:Value},Inv (z8 CX P w K mg base N qual scope f bc A outer s H E) [] σ' H' s'->RelV v u->Q v H'->CE outer P w H s Q u s':=
   fun {σ' H' v u} J rv q=>⟨v,H',J.os,J.bare,J.base,J.bh,rv,q⟩
 cases fl with
 | ret u=>
   obtain⟨v,σ',H',J,rv,q⟩:=hs
   exact fin J rv q
 | next=>
   obtain⟨σ',H',J,q⟩:=hs
   exact fin (v:=V.cy) (u:=Value.none) J rfl q
 | brk=>
   obtain⟨_,_,_,q⟩:=hs
   exact False.elim q
 | cont=>
   obtain⟨_,_,_,q⟩:=hs
   exact False.elim q
section
variable {X:Cx}{x:Str}{p pos:Pos}{e:Expr}{es:List Expr}{t:TA}{id T:String}{r:List V->Hp->VK->Prop}
def YH (r:List V->Hp->VK->Prop)(t:TA):TE:=fun σ H Q=>t σ H fun vs H1=>r vs H1 Q
theorem hZ (hc:lY X (.builtin id) r)(hg:Gl X x)(hm:X.mg x=none)(hv:bootBuiltins x=some (.builtin id))(ha:PA X (e::es) t)(hn:x≠"__name__":=by decide)(lU:(x == ("__debug__":Str))=false:=by decide)(he:starEach (e::es) X.env=(false,eval e X.env)::starEach es X.env:=by rfl)(nC:(backTo pos (starEach es X.env)).any (·.1)=false:=by rfl):PE X (.Call (.Name x p) (e::es) [] pos) (YH r t):=by
 intro pins s σ H Q I h
 refine wpAny_Call_Name_kw (nE I hg hm hv ?_ hn lU)
 exact PyProof.Rows.callWith_builtin1 (bM (ha pos pins s σ H _ I h) fun us s1 ⟨vs,H1,I1,r1,q1⟩=>hc pins s1 σ H1 vs us Q I1 r1 q1) he nC
theorem rD (hc:lY X (.type T) r)(hg:Gl X x)(hm:X.mg x=none)(hv:bootBuiltins x=some (.type T))(ha:PA X (e::es) t)(hn:x≠"__name__":=by decide)(lU:(x == ("__debug__":Str))=false:=by decide)(he:starEach (e::es) X.env=(false,eval e X.env)::starEach es X.env:=by rfl)(nC:(backTo pos (starEach es X.env)).any (·.1)=false:=by rfl):PE X (.Call (.Name x p) (e::es) [] pos) (YH r t):=by
 intro pins s σ H Q I h
 refine wpAny_Call_Name_kw (nE I hg hm hv ?_ hn lU)
 exact PyProof.Rows.callWith_type1 (bM (ha pos pins s σ H _ I h) fun us s1 ⟨vs,H1,I1,r1,q1⟩=>hc pins s1 σ H1 vs us Q I1 r1 q1) he nC
end
end L2
namespace HT
open PySem PyProof.Rows
section
noncomputable def wb (n d:Nat):Option Int->Nat
 | none=>d
 | some v=>if v < 0 then (v+(n:Int)).toNat else min v.toNat n
theorem GH (n d:Nat):wb n d none=d:=rfl
theorem qj (n d k:Nat):wb n d (some (k:Int))=min k n:=by
 show(if (k:Int) < 0 then ((k:Int)+(n:Int)).toNat else min (k:Int).toNat n)=min k n
 rw[if_neg (by omega),aaY]
end
end HT
namespace L2
open PySem PySem.Spec PyProof.Rows
abbrev TO:=St->Hp->(Option Int->Hp->Prop)->Prop
def PO (X:Cx)(e:Option Expr)(t:TO):Prop:=
 ∀ (pins:List (Addr×Obj)) (s:Shared) (σ:St) (H:Hp) (Q:Option Int->Hp->Prop),Inv X pins σ H s->t σ H Q ->
   wpAny (model X.prog X.w) X.A (evalPart e X.env) (fun u s'=>∃ o H',Inv X pins σ H' s'/\IsPart u o/\Q o H') X.xe s
def KZ:TO:=fun _ H Q=>Q none H
def Sv (t:TE):TO:=fun σ H Q=>t σ H fun x H1=>∃ i,x=.int i/\Q (some i) H1
section
variable {X:Cx}{e:Expr}{te:TE}{lo hi:Option Expr}{tl th:TO}{pos p2:Pos}
theorem C9:PO X none KZ:=by
 intro pins s σ H Q I h
 rw[evalPart_none]
 exact wpAny_pure ⟨none,H,I,.none,h⟩
theorem tU (h:PE X e te):PO X (some e) (Sv te):=by
 intro pins s σ H Q I hw
 rw[evalPart_some]
 refine bM (h pins s σ H _ I hw) fun u s1 ⟨x,H1,I1,r1,q1⟩=>?_
 obtain⟨i,rfl,q⟩:=q1
 obtain⟨t,rfl⟩:=r1
 exact⟨some i,H1,I1,.int i t,q⟩
def Wm (X:Cx)(r:V->Option Int->Option Int->Hp->VK->Prop):Prop:=
 ∀ (pins:List (Addr×Obj)) (s:Shared) (σ:St) (H:Hp) (x:V) (v vl vu:Value) (lo hi:Option Int) (sl:Addr) (Q:VK),Inv X pins σ H s->RelV x v->s.heap.IsSliceOf sl vl vu .none->IsPart vl lo->IsPart vu hi->r x lo hi H Q ->
   ∃ T id,typeLookup (.type T) "__getitem__"=pure (some (.builtin id))/\s.TypeIs v T/\wpAny (model X.prog X.w) X.A (getItem v (.ref sl)) (EP X pins σ Q) X.xe s
def tSl (r:V->Option Int->Option Int->Hp->VK->Prop)(te:TE)(tl th:TO):TE:=fun σ H Q=>te σ H fun x H1=>tl σ H1 fun l H2=>th σ H2 fun u H3=>r x l u H3 Q
theorem qk {r:V->Option Int->Option Int->Hp->VK->Prop}(hr:Wm X r)(he:PE X e te)(hl:PO X lo tl)(hu:PO X hi th):PE X (.Subscript e (.Slice lo hi none p2) pos) (tSl r te tl th):=by
 intro pins s σ H Q I h
 refine Subscript_ (bM (he pins s σ H _ I h) fun v s1 ⟨x,H1,I1,r1,q1⟩=>?_)
 refine wpAny_Slice (bM (hl pins s1 σ H1 _ I1 q1) fun vl s2 ⟨l,H2,I2,pl,q2⟩=>bM (hu pins s2 σ H2 _ I2 q2) fun vu s3 ⟨u,H3,I3,pu,q3⟩=>?_)
 rw[evalPart_none]
 refine wpAny_pure ?_
 have I4:Inv X pins σ H3 { s3 with heap:=s3.heap.push { cls:=.type "slice",data:=.fields #[vl,vu,.none]}}:=I3.kept (t':=s3.toks) fun b ob q=>Vf _ q
 obtain⟨T,id,hT,ht,hg⟩:=hr pins { s3 with heap:=s3.heap.push { cls:=.type "slice",data:=.fields #[vl,vu,.none]}} σ H3 x v vl vu l u s3.heap.objs.size Q I4 r1 (Heap.IsSliceOf.new ..) pl pu q3
 show wpAny (model X.prog X.w) X.A (subscriptTail e (.Slice lo hi none p2) v (.ref s3.heap.objs.size)) (EP X pins σ Q) X.xe { s3 with heap:=s3.heap.push { cls:=.type "slice",data:=.fields #[vl,vu,.none]}}
 exact tail_any (ops:=[.ref s3.heap.objs.size,v]) ht hT hg (by with_unfolding_all rfl)
noncomputable def wj (xs:List V)(lo hi:Option Int):List V:=(xs.drop (HT.wb xs.length 0 lo)).take (HT.wb xs.length xs.length hi - HT.wb xs.length 0 lo)
theorem Aa (xs:List V)(lo hi:Option Int):(wj xs lo hi).length<=xs.length:=by
 unfold wj
 rw[aat,aaW]
 omega
theorem Ab:lY X (.type "tuple") (fun xs H Q=>∃ a ys,xs=[.ref a]/\BF X.K H a ys/\Q (.ref a) H):=by
 intro pins s σ H xs us Q I r h
 obtain⟨a,ys,rfl,ha,q⟩:=h
 obtain⟨u,rfl,ru⟩:=vals1 r
 cases ru
 obtain⟨aE,_,p1,_⟩:=I.tuple ha
 exact call_tuple_same (items:=aE.toArray) p1 ⟨.ref a,H,I,rfl,q⟩
end
noncomputable def Ac (n:Nat)(i:Int):Option Nat:=if 0<=i then (if i < n then some i.toNat else none) else if -(n:Int)<=i then some (i+n).toNat else none
noncomputable def lZ {α:Type}(xs:List α)(i:Int):Option α:=(Ac xs.length i).bind fun j=>xs[j]?
theorem Dc {n:Nat}{i:Int}{j:Nat}(h:Ac n i=some j):seqIndex? i n=some j/\j < n/\-(n:Int)<=i/\i < n:=by
 unfold Ac at h
 by_cases h0:0<=i
 . rw[if_pos h0] at h
   by_cases h1:i < n
   . rw[if_pos h1] at h
     have e:i.toNat=j:=Option.some.inj h
     exact⟨by rw[seqIndex_of h0 h1,e],by omega,by omega,h1⟩
   . rw[if_neg h1] at h;cases h
 . rw[if_neg h0] at h
   by_cases h1:-(n:Int)<=i
   . rw[if_pos h1] at h
     have e:(i+n).toNat=j:=Option.some.inj h
     exact⟨by rw[seqIndex_neg (by omega) h1,e],by omega,h1,by omega⟩
   . rw[if_neg h1] at h;cases h
theorem x9 {α:Type}{xs:List α}{i:Int}{v:α}(h:lZ xs i=some v):∃ j,seqIndex? i xs.length=some j/\xs[j]?=some v/\j < xs.length/\-(xs.length:Int)<=i/\i < xs.length:=by
 unfold lZ at h
 cases e:Ac xs.length i with
 | none=>rw[e] at h;cases h
 | some j=>
   rw[e] at h
   obtain⟨h1,h2,h3,h4⟩:=Dc e
   exact⟨j,h1,h,h2,h3,h4⟩
theorem ll {α:Type}{xs:List α}{j:Nat}{v:α}(h:xs[j]?=some v):lZ xs (j:Int)=some v:=by
 have hj:j < xs.length:=(aad.mp h).1
 have e:Ac xs.length (j:Int)=some j:=by
   unfold Ac
   rw[if_pos (by omega),if_pos (by omega)];simp
 unfold lZ;rw[e];exact h
theorem GI {α:Type}(xs:List α)(v:α):lZ (xs ++ [v]) (-1)=some v:=by
 have hl:(xs ++ [v]).length=xs.length+1:=by simp
 have e:Ac (xs ++ [v]).length (-1)=some xs.length:=by
   unfold Ac
   rw[hl,if_neg (by decide),if_pos (by omega)]
   congr 1
   omega
 unfold lZ
 rw[e]
 show(xs ++ [v])[xs.length]?=some v
 simp
def jU (b:Expr):Prop:=∀ o i,subscripted b false o i=operate [o,i] (getItem o i)
def Ru (X:Cx)(r:R2):Prop:=
 ∀ (value slice:Expr) (pins:List (Addr×Obj)) (s:Shared) (σ:St) (H:Hp) (x y:V) (v u:Value) (Q:VK),Inv X pins σ H s->RelV x v->RelV y u->r x y H Q ->
   subscripted slice false v u=operate [v,u] (getItem v u)->wpAny (model X.prog X.w) X.A (subscriptTail value slice v u) (EP X pins σ Q) X.xe s
def Rv (X:Cx)(id:String)(r:V->List V->Hp->VK->Prop):Prop:=
 ∀ (pins:List (Addr×Obj)) (s:Shared) (σ:St) (H:Hp) (x:V) (xs:List V) (v:Value) (us:List Value) (Q:VK),Inv X pins σ H s->RelV x v->Vals xs us->r x xs H Q ->
   wpAny (model X.prog X.w) X.A (call (.builtin id) (v::us)) (EP X pins σ Q) X.xe s
section
variable {X:Cx}{a b:Expr}{ta tb:TE}{pos:Pos}
theorem uM {r:R2}(hr:Ru X r)(ha:PE X a ta)(hb:PE X b tb)(hs:jU b):PE X (.Subscript a b pos) (R5 r ta tb):=by
 intro pins s σ H Q I h
 exact Subscript_ (Om ha hb I h fun v u s2 x y H2 I2 rx ry q=>hr a b pins s2 σ H2 x y v u Q I2 rx ry q (hs _ _))
def Wn (K:W.Frag):R2:=fun x y H Q=>∃ p xs i v,x=.ref p/\y=.int i/\lS K H p xs/\lZ xs i=some v/\Q v H
def Wo (K:W.Frag):R2:=fun x y H Q=>∃ p xs i v,x=.ref p/\y=.int i/\BF K H p xs/\lZ xs i=some v/\Q v H
def Wq:R2:=fun x y H Q=>∃ z i c,x=.str z/\y=.int i/\z.length<=sizeLine/\lZ z.cps.toList i=some c/\Q (.str ⟨#[c]⟩) H
theorem ya:Ru X (Wn X.K):=by
 intro value slice pins s σ H x y v u Q I rx ry h hs
 obtain⟨p,xs,i,z,rfl,rfl,hq,he,q⟩:=h
 cases rx
 obtain⟨t,rfl⟩:=ry
 obtain⟨aE,r,pl,hz⟩:=I.list hq
 obtain⟨j,h1,h2,h3,h4,h5⟩:=x9 he
 obtain⟨w,ew,Gq⟩:=r.get h2
 have hl:=r.length
 have hn:=lH
 have fin:EP X pins σ Q w s:=⟨z,H,I,Gq,q⟩
 by_cases h0:0<=i
 . have hj:i.toNat=j:=by
     rw[seqIndex_of h0 h5] at h1
     exact Option.some.inj h1
   exact item_listR pl.isList h0 (by omega) (by rw[hj];simpa using ew) fin hs
 . have hj:(i+(aE.toArray.size:Int)).toNat=j:=by
     rw[seqIndex_neg (by omega) h4] at h1
     rw[aan,<- hl]
     exact Option.some.inj h1
   exact subscriptTail_builtinR (x:=w) pl.isList.typeIs slot_list_getitem.lookup
     (wpAny_getItem_list_neg (Q:=fun r s'=>r=w/\EP X pins σ Q r s') pl.isList (by omega) (by rw[aan] <;> omega) (by omega) (by rw[hj];simpa using ew) ⟨rfl,fin⟩) hs
theorem OB:Ru X (Wo X.K):=by
 intro value slice pins s σ H x y v u Q I rx ry h hs
 obtain⟨p,xs,i,z,rfl,rfl,hq,he,q⟩:=h
 cases rx
 obtain⟨t,rfl⟩:=ry
 obtain⟨aE,r,pl,hz⟩:=I.tuple hq
 obtain⟨j,h1,h2,h3,h4,h5⟩:=x9 he
 obtain⟨w,ew,Gq⟩:=r.get h2
 have hl:=r.length
 have hn:=lH
 have fin:EP X pins σ Q w s:=⟨z,H,I,Gq,q⟩
 exact subscriptTail_builtinR (x:=w) pl.typeIs slot_tuple_getitem.lookup
   (getItem_tuple (j:=j) (Q:=fun r s'=>r=w/\EP X pins σ Q r s') pl (by omega) (by omega) (by rw[aan,<- hl];exact h1) (by simpa using ew) ⟨rfl,fin⟩) hs
theorem OC:Ru X Wq:=by
 intro value slice pins s σ H x y v u Q I rx ry h hs
 obtain⟨z,i,c,rfl,rfl,hz,he,q⟩:=h
 obtain⟨t,rfl⟩:=rx
 obtain⟨t',rfl⟩:=ry
 obtain⟨j,h1,h2,h3,h4,h5⟩:=x9 he
 have hl:z.cps.toList.length=z.length:=by simp[Str.length]
 rw[hl] at h1 h4 h5
 have hn:=lH
 exact tail_any (typeIs_str s z t) slot_str_getitem.lookup (getItem_str (c:=c) (by
   have e1:decide (i < -(2 ^ 63:Int))=false:=decide_eq_false (by omega)
   have e2:decide (i >= 2 ^ 63)=false:=decide_eq_false (by omega)
   rw[e1,e2,Bool.or_false]) (by rw[h1];simpa using h2) ⟨.str ⟨#[c]⟩,H,I.tok _,⟨_,rfl⟩,q⟩) hs
theorem BR (aE:List Value)(n j:Nat)(u:Value):Obj.mapSeq (·.setIfInBounds j u) { cls:=.type "list",data:=.seq aE.toArray n}={ cls:=.type "list",data:=.seq (aE.set j u).toArray n}:=by
 simp[Obj.mapSeq]
theorem Inv.lst {pins:List (Addr×Obj)}{σ:St}{H:Hp}{s:Shared}{p:Addr}{xs:List V}(I:Inv X pins σ H s)(h:H p=some (.lst xs)):∃ (aE:List Value) (n:Nat),Vals xs aE/\s.heap.get? p=some { cls:=.type "list",data:=.seq aE.toArray n}/\xs.length<=sizeLine:=by
 obtain⟨z,aE,n,r,e⟩:=I.bh p _ h
 exact⟨aE,n,r,e,z⟩
theorem Inv.OD {pins:List (Addr×Obj)}{σ:St}{H:Hp}{s:Shared}{p:Addr}{xs ys:List V}{aE its':List Value}{n n':Nat}{f:Obj->Obj}(I:Inv X pins σ H s)(h:H p=some (.lst xs))(ho:s.heap.get? p=some { cls:=.type "list",data:=.seq aE.toArray n})(hf:f { cls:=.type "list",data:=.seq aE.toArray n}={ cls:=.type "list",data:=.seq its'.toArray n'})(r:Vals ys its')(hz:ys.length<=sizeLine)(t:Nat):Inv X pins σ (upd H p (.lst ys)) { s with heap:=s.heap.update p f,toks:=t}:=by
 have e:(s.heap.update p f).get? p=some { cls:=.type "list",data:=.seq its'.toArray n'}:=by
   rw[abI f ho (by rw[hf] <;> rfl),hf]
 refine I.write (x:=p) (e:=p) (by rw[h];trivial) (.inl rfl) (fun b u hb q=>(abF _ _ (Ne.symm hb)).trans q) ⟨_,e⟩ ?_
 exact⟨hz,its',n',r,e⟩
def Sx:V->V->V->Hp->(Hp->Prop)->Prop:=fun o i v H Q=>∃ p xs k j,o=.ref p/\i=.int k/\H p=some (.lst xs)/\Ac xs.length k=some j/\Q (upd H p (.lst (xs.set j v)))
theorem set_list:R0 X Sx:=by
 intro pins s σ H o i v ov iv u Q I ro ri rv h
 obtain⟨p,xs,k,j,rfl,rfl,hp,hj,q⟩:=h
 cases ro
 obtain⟨t,rfl⟩:=ri
 obtain⟨aE,n,r,ho,hz⟩:=I.lst hp
 obtain⟨h1,h2,h3,h4⟩:=Dc hj
 have hl:=r.length
 have hn:=lH
 have I':Inv X pins σ (upd H p (.lst (xs.set j v))) { s with heap:=s.heap.update p (Obj.mapSeq (·.setIfInBounds j u))}:=
   I.OD hp ho (BR aE n j u) (r.set rv j) (by rw[abR];exact hz) s.toks
 by_cases h0:0<=k
 . have hk:k.toNat=j:=by
     rw[seqIndex_of h0 h4] at h1
     exact Option.some.inj h1
   exact W.ki_setAt ho h0 (by omega) (by rw[aan,<- hl];exact h4) (by rw[hk];exact⟨_,I',q⟩)
 . have hk:(k+(aE.toArray.size:Int)).toNat=j:=by
     rw[seqIndex_neg (by omega) h3] at h1
     rw[aan,<- hl]
     exact Option.some.inj h1
   exact W.ki_setBack ho (by omega) (by rw[aan,<- hl];exact h3) (by omega) (by rw[hk];exact⟨_,I',q⟩)
theorem yb (lo hi:Option Int)(n:Nat):(sliceBounds lo hi none n).1=((HT.wb n 0 lo:Nat):Int)/\(sliceBounds lo hi none n).2.1=((HT.wb n n hi:Nat):Int)/\(sliceBounds lo hi none n).2.2=1:=by
 refine⟨?_,?_,rfl⟩
 . cases lo with
   | none=>simp[sliceBounds,HT.wb]
   | some i=>
     simp only[sliceBounds,HT.wb,Option.getD_none,show(1:Int) > 0 by decide,if_true]
     by_cases h:i < 0
     . simp only[h,if_true] <;> omega
     . simp only[h,if_false] <;> omega
 . cases hi with
   | none=>simp[sliceBounds,HT.wb]
   | some i=>
     simp only[sliceBounds,HT.wb,Option.getD_none,show(1:Int) > 0 by decide,if_true]
     by_cases h:i < 0
     . simp only[h,if_true] <;> omega
     . simp only[h,if_false] <;> omega
theorem wk (aE:List Value)(lo hi:Option Int):slicePick aE.toArray lo hi none=((aE.drop (HT.wb aE.length 0 lo)).take (HT.wb aE.length aE.length hi - HT.wb aE.length 0 lo)).toArray:=by
 obtain⟨h1,h2,h3⟩:=yb lo hi aE.toArray.size
 unfold slicePick
 rw[h1,h2,h3]
 simp only[sliceRange_one,pick_run,aan] <;> rfl
def Wr (K:W.Frag):V->Option Int->Option Int->Hp->VK->Prop:=fun x lo hi H Q=>∃ a xs,x=.ref a/\lS K H a xs/\∀ p,H p=none->Q (.ref p) (upd H p (.lst (wj xs lo hi)))
theorem yc:Wm X (Wr X.K):=by
 intro pins s σ H x v vl vu lo hi sl Q I rx hs pl pu h
 obtain⟨a,xs,rfl,hx,q⟩:=h
 cases rx
 obtain⟨aE,r,ht,hz⟩:=I.list hx
 have hlen:=r.length
 refine⟨"list",_,slot_list_getitem.lookup,ht.isList.typeIs,?_⟩
 refine wpAny_getItem_list_slice ht.isList hs pl pu .none (by simp) ?_ (by rw[aan] <;> omega)
 rw[wk,<- hlen]
 refine⟨.ref s.heap.objs.size,_,I.laid (t':=s.toks) (o:=.lst (wj xs lo hi)) (fun b ob q=>Vf _ q) (aac _) ?_,rfl,q _ (I.bh.fresh (aac _))⟩
 exact⟨aav (Aa xs lo hi) hz,_,0,(r.drop (HT.wb xs.length 0 lo)).take (HT.wb xs.length xs.length hi - HT.wb xs.length 0 lo),aai _ rfl⟩
noncomputable def ql:V->Bool
 | .cy=>true
 | .bl _=>true
 | .int _=>true
 | .str _=>true
 | _=>false
noncomputable def Km:V->V->Bool
 | .cy,.cy=>true
 | .bl a,.bl b=>a == b
 | .bl a,.int b=>(if a then 1 else 0) == b
 | .int a,.bl b=>a == (if b then 1 else 0)
 | .int a,.int b=>a == b
 | .str a,.str b=>a == b
 | _,_=>false
theorem OE {A:Around}{s:Shared}{y x:V}{u v:Value}(ry:RelV y u)(rx:RelV x v)(fy:ql y=true)(fx:ql x=true):SeqAt.EqAt A s u v (Km y x):=by
 cases y with
 | cy=>
   cases ry
   cases x with
   | cy=>cases rx;exact SeqAt.EqAt.same _
   | bl b=>cases rx;exact SeqAt.EqAt.none_bool b
   | int b=>obtain⟨t,rfl⟩:=rx;exact SeqAt.EqAt.none_int b t
   | str b=>obtain⟨t,rfl⟩:=rx;exact SeqAt.EqAt.none_str b t
   | _=>exact absurd (show false=true from fx) aal
 | bl a=>
   cases ry
   cases x with
   | cy=>cases rx;exact SeqAt.EqAt.bool_none a
   | bl b=>cases rx;exact SeqAt.EqAt.bool_bool a b
   | int b=>obtain⟨t,rfl⟩:=rx;exact SeqAt.EqAt.bool_int a b t
   | str b=>obtain⟨t,rfl⟩:=rx;exact SeqAt.EqAt.bool_str a b t
   | _=>exact absurd (show false=true from fx) aal
 | int a=>
   obtain⟨t',rfl⟩:=ry
   cases x with
   | cy=>cases rx;exact SeqAt.EqAt.int_none a t'
   | bl b=>cases rx;exact SeqAt.EqAt.int_bool a t' b
   | int b=>obtain⟨t,rfl⟩:=rx;exact SeqAt.EqAt.int_int a t' b t
   | str b=>obtain⟨t,rfl⟩:=rx;exact SeqAt.EqAt.int_str a t' b t
   | _=>exact absurd (show false=true from fx) aal
 | str a=>
   obtain⟨t',rfl⟩:=ry
   cases x with
   | cy=>cases rx;exact SeqAt.EqAt.str_none a t'
   | bl b=>cases rx;exact SeqAt.EqAt.str_bool a t' b
   | int b=>obtain⟨t,rfl⟩:=rx;exact SeqAt.EqAt.str_int a t' b t
   | str b=>obtain⟨t,rfl⟩:=rx;exact SeqAt.EqAt.str_str a t' b t
   | _=>exact absurd (show false=true from fx) aal
 | _=>exact absurd (show false=true from fy) aal
noncomputable def BS (x:V)(u:Value):Bool:=match u with
 | .none=>Km .cy x
 | .bool b=>Km (.bl b) x
 | .int i _=>Km (.int i) x
 | .str z _=>Km (.str z) x
 | _=>false
theorem GJ {x y:V}{u:Value}(r:RelV y u)(f:ql y=true):BS x u=Km y x:=by
 cases y with
 | cy=>cases r;rfl
 | bl b=>cases r;rfl
 | int i=>obtain⟨t,rfl⟩:=r;rfl
 | str z=>obtain⟨t,rfl⟩:=r;rfl
 | _=>exact absurd (show false=true from f) aal
theorem qm {x:V}:∀ {xs:List V} {us:List Value},Vals xs us->xs.all ql=true->us.any (BS x)=xs.any fun y=>Km y x
 | _,_,.nil,_=>rfl
 | y::xs,u::us,.cons r t,f=>by
   rw[abN,aaN] at f
   rw[abz,abz,GJ r f.1,qm t f.2]
theorem nH {A:Around}{s:Shared}{x:V}{v:Value}(rx:RelV x v)(fx:ql x=true):∀ {xs:List V} {us:List Value},Vals xs us->xs.all ql=true->∀ u∈us,SeqAt.EqAt A s u v (BS x u)
 | _,_,.nil,_=>fun u hu=>by cases hu
 | y::xs,u::us,.cons r t,f=>fun u' hu=>by
   rw[abN,aaN] at f
   rcases aau.mp hu with rfl | hu
   . rw[GJ r f.1];exact OE r rx f.1 fx
   . exact nH rx fx t f.2 u' hu
noncomputable def Sy (x:V)(xs:List V):Bool:=xs.any fun y=>Km y x
def Va (K:W.Frag)(neg:Bool):R2:=fun x y H Q=>∃ p xs,y=.ref p/\(lS K H p xs\/BF K H p xs)/\ql x=true/\xs.all ql=true/\Q (.bl (if neg then !Sy x xs else Sy x xs)) H
theorem xm:pj X (compareOp .In) (Va X.K false):=by
 intro pins s σ H x y v u Q I rx ry h
 obtain⟨p,xs,rfl,hq,fx,fs,q⟩:=h
 cases ry
 rcases hq with hq | hq
 . obtain⟨aE,r,pl,hz⟩:=I.list hq
   refine SeqAt.in_listAt (BS x) pl.isList (fun w hw=>nH rx fx r fs w (by simpa using hw)) ⟨.bl _,H,I,rfl,?_⟩
   rw[show aE.toArray.any (BS x)=aE.any (BS x) by simp,qm r fs]
   exact q
 . obtain⟨aE,r,pl,hz⟩:=I.tuple hq
   refine SeqAt.in_tupleAt (BS x) pl (fun w hw=>nH rx fx r fs w (by simpa using hw)) ⟨.bl _,H,I,rfl,?_⟩
   rw[show aE.toArray.any (BS x)=aE.any (BS x) by simp,qm r fs]
   exact q
theorem qo:pj X (compareOp .NotIn) (Va X.K true):=by
 intro pins s σ H x y v u Q I rx ry h
 obtain⟨p,xs,rfl,hq,fx,fs,q⟩:=h
 cases ry
 rcases hq with hq | hq
 . obtain⟨aE,r,pl,hz⟩:=I.list hq
   refine SeqAt.notIn_listAt (BS x) pl.isList (fun w hw=>nH rx fx r fs w (by simpa using hw)) ⟨.bl _,H,I,rfl,?_⟩
   rw[show aE.toArray.any (BS x)=aE.any (BS x) by simp,qm r fs]
   exact q
 . obtain⟨aE,r,pl,hz⟩:=I.tuple hq
   refine SeqAt.notIn_tupleAt (BS x) pl (fun w hw=>nH rx fx r fs w (by simpa using hw)) ⟨.bl _,H,I,rfl,?_⟩
   rw[show aE.toArray.any (BS x)=aE.any (BS x) by simp,qm r fs]
   exact q
theorem qp:lY X (.builtin "len") (fun xs H Q=>∃ p ys,xs=[.ref p]/\(lS X.K H p ys\/BF X.K H p ys)/\Q (.int ys.length) H):=by
 intro pins s σ H xs us Q I r h
 obtain⟨p,ys,rfl,hq,q⟩:=h
 obtain⟨u,rfl,rx⟩:=vals1 r
 cases rx
 have hn:=lH
 rcases hq with hq | hq
 . obtain⟨aE,r',pl,hz⟩:=I.list hq
   have hlen:=r'.length
   exact Calls.call_len_list pl.isList (by simp only[aan] <;> omega) ⟨.int ys.length,H,I.tok _,⟨s.toks+1,by rw[aan,hlen]⟩,q⟩
 . obtain⟨aE,r',pl,hz⟩:=I.tuple hq
   have hlen:=r'.length
   exact len_tuple pl (by simp only[aan] <;> omega) ⟨.int ys.length,H,I.tok _,⟨s.toks+1,by rw[aan,hlen]⟩,q⟩
theorem yd:lY X (.builtin "len") (fun xs H Q=>∃ z,xs=[.str z]/\z.length<=sizeLine/\Q (.int z.length) H):=by
 intro pins s σ H xs us Q I r h
 obtain⟨z,rfl,hz,q⟩:=h
 obtain⟨u,rfl,t,rfl⟩:=vals1 r
 have hn:=lH
 exact len_str (by omega) ⟨.int z.length,H,I.tok _,⟨_,rfl⟩,q⟩
def Vb (K:W.Frag)(T:String)(x:V)(H:Hp):Prop:=match x with
 | .str _=>T="str"
 | .int _=>T="int"
 | .ref p=>(T="list"/\∃ xs,lS K H p xs)\/(T="tuple"/\∃ o,K.lookup p=some o/\o.cls=.type "tuple"/\o.dict=none) \/
     (T="dict"/\((∃ kvs,H p=some (.dK kvs))\/(∃ kvs,H p=some (.dT kvs))\/∃ tg o kvs,H p=some (.kd tg o kvs)))\/(T="set"/\∃ S n,H p=some (.set S n)) \/
     (T="list"/\∃ (a:Addr) (ls:iR) (ns:List Nat) (j:Nat) (f:Nat->List (Key×FD)) (N:Nat),H a=some (.bo ls ns)/\ls[j]?=some (p,f)/\ns[j]?=some N)
 | _=>False
theorem GK {pins:List (Addr×Obj)}{σ:St}{H:Hp}{s:Shared}{T:String}{x:V}{v:Value}(I:Inv X pins σ H s)(r:RelV x v)(ty:Vb X.K T x H):s.TypeIs v T/\∀ a,v=.ref a->∃ ob,s.heap.get? a=some ob/\ob.dict=none:=by
 cases x with
 | str z=>
   obtain⟨t,rfl⟩:=r
   cases (show T="str" from ty)
   exact⟨typeIs_str s z t,fun _ e=>nomatch e⟩
 | int i=>
   obtain⟨t,rfl⟩:=r
   cases (show T="int" from ty)
   exact⟨typeIs_int s i t,fun _ e=>nomatch e⟩
 | ref p=>
   cases r
   rcases ty with⟨rfl,xs,hq⟩ | ⟨rfl,o,hk,hc,hd⟩ | ⟨rfl,hk⟩ | ⟨rfl,S,n,hk⟩ | ⟨rfl,a,ls,ns,j,f,N,h1,h2,h3⟩
   . obtain⟨aE,_,pl,_⟩:=I.list hq
     refine⟨pl.isList.typeIs,fun a e=>?_⟩
     cases e
     obtain⟨o,n,e,c,hd,_⟩:=pl
     exact⟨o,e,hd⟩
   . refine⟨⟨o,I.zW p o hk,hc⟩,fun a e=>?_⟩
     cases e
     exact⟨o,I.zW _ o hk,hd⟩
   . have z:∃ o,s.heap.get? p=some o/\o.ExactDict:=by
       rcases hk with⟨kvs,hk⟩ | ⟨kvs,hk⟩ | ⟨tg,ob,kvs,hk⟩
       . obtain⟨_,_,_,_,o,_,_,e,ex,_⟩:=I.bh p _ hk
         exact⟨o,e,ex⟩
       . obtain⟨_,_,_,_,o,_,_,e,ex,_⟩:=I.bh p _ hk
         exact⟨o,e,ex⟩
       . obtain⟨_,⟨_,_,_,_,o,_,_,e,ex,_⟩,_⟩:=I.bh p _ hk
         exact⟨o,e,ex⟩
     obtain⟨o,e,ex⟩:=z
     refine⟨⟨o,e,ex.1⟩,fun a e2=>?_⟩
     cases e2
     exact⟨o,e,ex.2.1⟩
   . obtain⟨o,_,_,_,e,ex,_⟩:=I.bh p _ hk
     refine⟨⟨o,e,ex.1⟩,fun a e2=>?_⟩
     cases e2
     exact⟨o,e,ex.2.1⟩
   . obtain⟨_,_,_,_,_,_,h6⟩:=(show aO X.prog X.w H s.heap a (.bo ls ns) from I.bh a _ h1)
     obtain⟨aE,c,e1,e2,e3⟩:=h6 j p f N h2 h3
     refine⟨⟨_,e1,rfl⟩,fun a' e4=>?_⟩
     cases e4
     exact⟨_,e1,rfl⟩
 | _=>exact False.elim ty
def Ws (K:W.Frag)(T:String)(r:V->List V->Hp->VK->Prop)(to:TE):TE:=fun σ H Q=>to σ H fun x H1=>Vb K T x H1/\r x [] H1 Q
def tBM (K:W.Frag)(T:String)(r:V->List V->Hp->VK->Prop)(to:TE)(t:TA):TE:=fun σ H Q=>to σ H fun x H1=>Vb K T x H1/\t σ H1 fun xs H2=>r x xs H2 Q
variable {o e:Expr}{es:List Expr}{to:TE}{t:TA}{name:Str}{apos bN:Pos}{T id:String}{r:V->List V->Hp->VK->Prop}
theorem GL (pa:PlainAttrs T)(slot:Slot T name id)(OF:typeOf (.builtin id)=pure (.type "method_descriptor"))(hm:Rv X id r)(ho:PE X o to)(ju:attributeBase o name X.env (eval o X.env)=eval o X.env:=by rfl)(jv:(apos.endLine == bN.line)=true:=by rfl):PE X (.Call (.Attribute o name apos) [] [] bN) (Ws X.K T r to):=by
 intro pins s σ H Q I h
 refine wpAny_Call_method0_late ju jv (bM (ho pins s σ H _ I h) fun v s1 ⟨x,H1,I1,r1,ty,q1⟩=>?_)
 obtain⟨h1,h2⟩:=GK I1 r1 ty
 exact⟨T,id,pa,slot,OF,h1,h2,Calls.callWith_builtin rfl (PySem.evalArgs_none (hm pins s1 σ H1 x [] v [] Q I1 r1 .nil q1))⟩
theorem uN (pa:PlainAttrs T)(slot:Slot T name id)(OF:typeOf (.builtin id)=pure (.type "method_descriptor"))(hm:Rv X id r)(ho:PE X o to)(ha:PA X (e::es) t)
   (ju:attributeBase o name X.env (eval o X.env)=eval o X.env:=by rfl)
   (uO:((backTo bN (starEach (e::es) X.env)).all (fun x=>!x.1) && (backToKw bN (keywordEach [] X.env)).all (fun x=>x.1.isSome)
     && decide ((e::es).length+([]:List Keyword).length+(if ([]:List Keyword).isEmpty then 0 else 1) < 30))=true:=by rfl)
   (jv:(apos.endLine == bN.line)=true:=by rfl) (hs:starEach (e::es) X.env=(false,eval e X.env)::starEach es X.env:=by rfl) (OG:(backTo bN (starEach es X.env)).any (·.1)=false:=by rfl) :
   PE X (.Call (.Attribute o name apos) (e::es) [] bN) (tBM X.K T r to t):=by
 intro pins s σ H Q I h
 refine wpAny_Call_method_late ju uO jv rfl (bM (ho pins s σ H _ I h) fun v s1 ⟨x,H1,I1,r1,ty,q1⟩=>?_)
 obtain⟨h1,h2⟩:=GK I1 r1 ty
 refine⟨T,id,pa,slot,OF,h1,h2,?_⟩
 have hA:=ha bN pins s1 σ H1 _ I1 q1
 rw[hs] at hA ⊢
 refine Calls.callWith_builtin (by show(false || (backTo bN (starEach es X.env)).any (·.1))=false;rw[OG] <;> rfl) (Calls.evalArgs_plain ?_)
 exact bM hA fun us s2 ⟨vs,H2,I2,r2,q2⟩=>hm pins s2 σ H2 x vs v us Q I2 r1 r2 q2
end
def Wt (X:Cx)(id:String)(r:V->List V->Hp->VK->Prop):Prop:=
 ∀ (pins:List (Addr×Obj)) (s:Shared) (σ:St) (H:Hp) (x:V) (xs:List V) (v:Value) (us:List Value) (Q:VK),Inv X pins σ H s->RelV x v->Vals xs us->r x xs H Q ->
   wpAny (model X.prog X.w) X.A (call (.builtin id) (v::us)) (EP X pins σ Q) X.xe s
theorem Vals.one:∀ {x:V} {us:List Value},Vals [x] us->∃ u,us=[u]/\RelV x u
 | _,_,.cons r .nil=>⟨_,rfl,r⟩
theorem Vals.zero:∀ {us:List Value},Vals [] us->us=[]
 | _,.nil=>rfl
theorem Vals.dropLast {xs:List V}{us:List Value}(h:Vals xs us):Vals xs.dropLast us.dropLast:=by
 induction h with
 | nil=>exact .nil
 | cons r t ih=>
   cases t with
   | nil=>exact .nil
   | cons q t'=>exact .cons r ih
theorem Vals.rep {xs:List V}{us:List Value}(h:Vals xs us):∀ k:Nat,Vals (aah k xs).flatten (aah k us).flatten
 | 0=>.nil
 | k+1=>by
   rw[abc,abc,aaZ,aaZ]
   exact Vals.append h (Vals.rep h k)
theorem BU {α:Type}(l:List α):l.eraseIdx (l.length - 1)=l.dropLast:=by
 induction l with
 | nil=>rfl
 | cons a r ih=>
   cases r with
   | nil=>rfl
   | cons b r=>
     have e:(a::b::r).length - 1=((b::r).length - 1)+1:=by
       have h1:(a::b::r).length=r.length+2:=rfl
       have h2:(b::r).length=r.length+1:=rfl
       omega
     rw[e,List.eraseIdx_cons_succ,ih]
     all_goals rfl
theorem foldl_rep (aE:List Value):∀ (k:Nat) (acc:List Value),List.foldl (fun x1 x2=>x1 ++ x2) acc.toArray (aah k aE.toArray)=(acc ++ (aah k aE).flatten).toArray
 | 0,acc=>by simp
 | k+1,acc=>by
   have e:acc.toArray ++ aE.toArray=(acc ++ aE).toArray:=by simp
   have e2:(acc ++ aE) ++ (aah k aE).flatten=acc ++ (aah (k+1) aE).flatten:=by
     rw[abc,aaZ,List.append_assoc]
   rw[<- e2,<- foldl_rep aE k (acc ++ aE),<- e,abc,List.foldl_cons]
section
variable {X:Cx}{pins:List (Addr×Obj)}{σ:St}{H:Hp}{s:Shared}{l:Addr}{xs ys:List V}
theorem Inv.OH {aE its':List Value}{n:Nat}{f:Array Value->Array Value}{t':Nat}(I:Inv X pins σ H s)(hH:H l=some (.lst xs))(e:s.heap.get? l=some { cls:=.type "list",data:=.seq aE.toArray n})(hf:f aE.toArray=its'.toArray)(hv:Vals ys its')(hz:ys.length<=sizeLine):Inv X pins σ (upd H l (.lst ys)) { s with heap:=s.heap.update l (Obj.mapSeq f),toks:=t'}:=by
 have q:=PySem.IsL.update e f
 rw[hf] at q
 refine I.write (x:=l) (e:=l) (by rw[hH];exact trivial) (.inl rfl) (fun b' u hb hu=>(abF s.heap (Obj.mapSeq f) (Ne.symm hb)).trans hu) ⟨_,q⟩ ?_
 exact⟨hz,its',_,hv,q⟩
theorem Inv.Wu {aE:List Value}{t':Nat}(I:Inv X pins σ H s)(hv:Vals ys aE)(hz:ys.length<=sizeLine):Inv X pins σ (upd H s.heap.objs.size (.lst ys)) { s with heap:=s.heap.push { cls:=.type "list",data:=.seq aE.toArray},toks:=t'}:=
 I.laid (fun _ _ q=>Vf _ q) (aac _) ⟨hz,aE,0,hv,aai _ rfl⟩
theorem Inv.fresh (I:Inv X pins σ H s):H s.heap.objs.size=none:=I.bh.fresh (aac _)
theorem Inv.GN (I:Inv X pins σ H s)(hH:H l=some (.lst xs)):xs.length<=sizeLine/\∃ (aE:List Value) (n:Nat),Vals xs aE/\xs.length=aE.length/\s.heap.get? l=some { cls:=.type "list",data:=.seq aE.toArray n}:=by
 obtain⟨z,aE,n,r,e⟩:=I.bh l _ hH
 exact⟨z,aE,n,r,r.length,e⟩
theorem Ad {n:Nat}(h:n<=sizeLine):Builtin.List.listTooLong n=false:=by
 unfold Builtin.List.listTooLong
 exact decide_eq_false (by omega)
end
section
variable {X:Cx}
def K0:V->List V->Hp->VK->Prop:=fun x vs H Q=>∃ l xs y,x=.ref l/\vs=[y]/\H l=some (.lst xs)/\xs.length < sizeLine/\Q .cy (upd H l (.lst (xs ++ [y])))
theorem om:Wt X "list.append" K0:=by
 intro pins s σ H x vs v us Q I rx rv h
 obtain⟨l,xs,y,rfl,rfl,hH,hz,q⟩:=h
 cases rx
 obtain⟨u,rfl,ru⟩:=rv.one
 obtain⟨z,aE,n,r,hl,e⟩:=I.GN hH
 refine call_meets F.slot_list_append ⟨_,e,rfl⟩ F.entry_list_append (F.args_list_append_2 _ _) (PySem.list_append l aE.toArray n u (by rw[aan];omega)) ⟨e,?_⟩
 refine⟨.cy,_,I.OH (its':=aE ++ [u]) hH e (by simp) (r.append (.cons ru .nil)) ?_,rfl,q⟩
 rw[aas,List.length_singleton]
 omega
def K1:V->List V->Hp->VK->Prop:=fun x vs H Q=>∃ l b xs zs,x=.ref l/\vs=[.ref b]/\H l=some (.lst xs)/\H b=some (.lst zs)/\xs.length+zs.length<=sizeLine/\Q .cy (upd H l (.lst (xs ++ zs)))
theorem ED:Wt X "list.extend" K1:=by
 intro pins s σ H x vs v us Q I rx rv h
 obtain⟨l,b,xs,zs,rfl,rfl,hH,hB,hz,q⟩:=h
 cases rx
 obtain⟨u,rfl,ru⟩:=rv.one
 cases ru
 obtain⟨z,aE,n,r,hl,e⟩:=I.GN hH
 obtain⟨z2,K2,n2,r2,Sz,e2⟩:=I.GN hB
 have hsz:aE.toArray.size+K2.toArray.size<=sizeLine:=by rw[aan,aan];omega
 have GO:¬ (!aE.toArray.isEmpty && Builtin.List.listTooLong (aE.toArray.size+K2.toArray.size))=true:=by
   rw[Ad hsz,Bool.and_false]
   exact aal
 refine call_meets F.slot_list_extend ⟨_,e,rfl⟩ F.entry_list_extend (F.args_list_extend_2 _ _)
   (AutoSeq1.list_extend_list_list_0 l aE.toArray n b K2.toArray n2 GO (by rw[aan];omega) (by omega)) ⟨e,e2,?_⟩
 refine⟨.cy,_,I.OH (its':=aE ++ K2) hH e (by simp) (r.append r2) ?_,rfl,q⟩
 rw[aas]
 omega
def Wv:V->List V->Hp->VK->Prop:=fun x vs H Q=>∃ l xs y,x=.ref l/\vs=[]/\H l=some (.lst xs)/\xs[xs.length - 1]?=some y/\Q y (upd H l (.lst xs.dropLast))
theorem OI:Wt X "list.pop" Wv:=by
 intro pins s σ H x vs v us Q I rx rv h
 obtain⟨l,xs,y,rfl,rfl,hH,hy,q⟩:=h
 cases rx
 have hus:=rv.zero
 subst hus
 obtain⟨z,aE,n,r,hl,e⟩:=I.GN hH
 obtain⟨u,hu,ru⟩:=r.get hy
 have SA:aE.toArray[aE.toArray.size - 1]?=some u:=by
   show aE.toArray[aE.length - 1]?=some u
   rw[<- abJ,<- hl]
   exact hu
 refine call_meets F.slot_list_pop ⟨_,e,rfl⟩ F.entry_list_pop (F.args_list_pop_1 _) (MeetsSeq.list_pop_last l aE.toArray n u SA (by rw[aan];omega)) ⟨e,?_⟩
 refine⟨y,_,I.OH (its':=aE.dropLast) hH e ?_ r.dropLast ?_,ru,q⟩
 . show aE.toArray.eraseIdxIfInBounds (aE.toArray.size - 1)=aE.dropLast.toArray
   rw[aan,List.eraseIdxIfInBounds_toArray,BU]
 . rw[abl]
   omega
def Ww:R2:=fun x y H Q=>∃ l k xs,x=.ref l/\y=.int k/\H l=some (.lst xs)/\-(2 ^ 63)<=k/\k < 2 ^ 63/\xs.length * k.toNat<=sizeLine /\
 ∀ p,H p=none->Q (.ref p) (upd H p (.lst (aah k.toNat xs).flatten))
theorem len_rep {α:Type}(xs:List α)(k:Nat):(aah k xs).flatten.length=k * xs.length:=by
 induction k with
 | zero=>simp
 | succ k ih=>rw[abc,aaZ,aas,ih,Nat.succ_mul,Nat.add_comm]
theorem OJ:pj X (binaryOp .Mult) Ww:=by
 intro pins s σ H x y v u Q I rx ry h
 obtain⟨l,k,xs,rfl,rfl,hH,h1,h2,hz,q⟩:=h
 cases rx
 obtain⟨t,rfl⟩:=ry
 obtain⟨z,aE,n,r,hl,e⟩:=I.GN hH
 have hlen:aE.toArray.size * k.toNat<=sizeLine:=by rw[aan,<- hl];exact hz
 have Wx:¬ aE.toArray.size * k.toNat > (2 ^ 63 - 1) / 8:=by
   have:(sizeLine:Nat)<=(2 ^ 63 - 1) / 8:=by decide
   omega
 have uP:¬ (!Builtin.List.listFitsIndex k)=true:=by
   rw[fitsIndex_both h1 h2]
   exact aal
 have GO:¬ Builtin.List.listTooLong (aE.toArray.size * k.toNat)=true:=by
   rw[Ad hlen]
   exact aal
 have EF:List.foldl (fun x1 x2=>x1 ++ x2) #[] (aah (if aE.toArray.isEmpty=true then 0 else k.toNat) aE.toArray)=(aah k.toNat aE).flatten.toArray:=by
   have f0:∀ m:Nat,List.foldl (fun x1 x2=>x1 ++ x2) #[] (aah m aE.toArray)=(aah m aE).flatten.toArray:=fun m=>by
     have:=foldl_rep aE m []
     rw[List.nil_append] at this
     exact this
   rw[f0]
   cases aE with
   | nil=>simp
   | cons a r'=>rw[if_neg (by simp)]
 refine wpAny_binaryOp_repeat_ref (T:="list") (U:="int") (by decide) ⟨_,e,rfl⟩ (fun s'=>typeIs_int s' k t) noFill_list_mul F.fills_int_mul F.slot_int_rmul repeat_list F.slot_int_index.lookup
   (call_meets F.slot_int_rmul (typeIs_int s k t) F.entry_int_rmul (F.args_int_rmul_2 _ _) (int___rmul___int_list k t l aE.toArray n)
     ⟨e,rfl,⟨_,e,rfl⟩,call_meets F.slot_list_mul ⟨_,e,rfl⟩ F.entry_list_mul (F.args_list_mul_2 _ _) (AutoListH.list___mul___list_int_3 l aE.toArray n k t uP Wx GO) ⟨e,?_⟩⟩)
 rw[EF]
 exact⟨.ref _,_,I.Wu (t':=s.toks) (r.rep k.toNat) (by rw[len_rep,Nat.mul_comm];exact hz),rfl,q _ I.fresh⟩
end
section
variable {κ:Type}[DecidableEq κ]
noncomputable def nI (kvs:List (κ×V))(k:κ):Option V:=(kvs.find? fun kv=>decide (kv.1=k)).map (·.2)
noncomputable def putK (kvs:List (κ×V))(k:κ)(v:V):List (κ×V):=
 if (kvs.any fun kv=>decide (kv.1=k))=true then kvs.map (fun kv=>if kv.1=k then (kv.1,v) else kv) else kvs ++ [(k,v)]
theorem nJ {p:κ×V}{r:List (κ×V)}{k:κ}(e:p.1=k):nI (p::r) k=some p.2:=by simp[nI,aa9,e]
theorem l3 {p:κ×V}{r:List (κ×V)}{k:κ}(e:¬ p.1=k):nI (p::r) k=nI r k:=by simp[nI,aa9,e]
theorem qr (k:κ):∀ kvs:List (κ×V),(kvs.any fun kv=>decide (kv.1=k))=(nI kvs k).isSome
 | []=>rfl
 | p::r=>by
   rw[abz]
   by_cases e:p.1=k
   . simp only[nJ e,decide_eq_true e,Bool.true_or,Option.isSome_some]
   . rw[l3 e,decide_eq_false e,Bool.false_or];exact qr k r
theorem sJ (kvs:List (κ×V))(k:κ)(v:V):(putK kvs k v).length<=kvs.length+1:=by
 unfold putK
 split
 . rw[Bn];omega
 . rw[aas,aaI,List.length_nil];omega
theorem o4.rE {o:Option V}{u:Option Value}(r:o4 o u):o.isSome=u.isSome:=by
 cases o with
 | none=>cases u with
   | none=>rfl
   | some _=>exact(show False from r).elim
 | some _=>cases u with
   | none=>exact(show False from r).elim
   | some _=>rfl
theorem KV.val {kvs:List (κ×V)}{vs:List (κ×Value)}(r:KV kvs vs)(k:κ):o4 (nI kvs k) (valueAt vs k):=by
 unfold KV at r
 induction r with
 | nil=>exact True.intro
 | @cons p q ps qs h t ih=>
   obtain⟨h1,h2⟩:=h
   by_cases e:p.1=k
   . have e':q.1=k:=h1.symm.trans e
     have b:valueAt (q::qs) k=some q.2:=by simp[valueAt,aa9,e']
     rw[nJ e,b];exact h2
   . have e':¬ q.1=k:=fun z=>e (h1.trans z)
     have b:valueAt (q::qs) k=valueAt qs k:=by simp[valueAt,aa9,e']
     rw[l3 e,b];exact ih
theorem KV.any {kvs:List (κ×V)}{vs:List (κ×Value)}(r:KV kvs vs)(k:κ):(kvs.any fun kv=>decide (kv.1=k))=vs.any fun kv=>decide (kv.1=k):=by
 unfold KV at r
 induction r with
 | nil=>rfl
 | cons h t ih=>rw[abz,abz,ih,h.1]
theorem KV.OK {kvs:List (κ×V)}{vs:List (κ×Value)}(r:KV kvs vs)(k:κ){y:V}{u:Value}(ry:RelV y u):KV (kvs.map fun kv=>if kv.1=k then (kv.1,y) else kv) (vs.map fun kv=>if kv.1=k then (kv.1,u) else kv):=by
 unfold KV at r ⊢
 induction r with
 | nil=>exact .nil
 | @cons p q ps qs h t ih=>
   rw[aao,aao]
   refine .cons ?_ ih
   obtain⟨h1,h2⟩:=h
   by_cases e:p.1=k
   . rw[if_pos e,if_pos (h1.symm.trans e)];exact⟨h1,ry⟩
   . rw[if_neg e,if_neg (fun z=>e (h1.trans z))];exact⟨h1,h2⟩
theorem KV.put {kvs:List (κ×V)}{vs:List (κ×Value)}(r:KV kvs vs)(k:κ){y:V}{u:Value}(ry:RelV y u):KV (putK kvs k y) (stored vs k u):=by
 unfold putK stored
 rw[r.any k]
 by_cases e:(vs.any fun kv=>decide (kv.1=k))=true
 . rw[if_pos e,if_pos e];exact r.OK k ry
 . rw[if_neg e,if_neg e];exact Paired.snoc r ⟨rfl,ry⟩
theorem KV.length {kvs:List (κ×V)}{vs:List (κ×Value)}(r:KV kvs vs):kvs.length=vs.length:=Paired.length r
end
theorem Ae {P:Program}{w:World}{k:Key}{u:Value}(r:RelV (kV k) u):(cz P w).is k u=true:=by
 cases k with
 | inl i=>obtain⟨t,e⟩:=(show ∃ t,u=Value.int i t from r);subst e;exact zP P w i t
 | inr x=>obtain⟨t,e⟩:=(show ∃ t,u=Value.str x t from r);subst e;exact zQ P w x t
theorem xn {P:Program}{w:World}:∀ {ks:List Key} {us:List Value},Vals (ks.map kV) us->ItemsAre (cz P w) ks us
 | [],_,r=>by rw[List.map_nil] at r;cases r;exact .nil
 | k::ks,_,r=>by
   rw[aao] at r
   cases r with
   | cons h t=>exact .cons (Ae h) (xn t)
abbrev KT (H:Hp):List (List Key×V)->List (List Key×Addr×Value)->Prop:=Paired fun p q=>p.1=q.1/\H q.2.1=some (.tup (p.1.map kV))/\RelV p.2 q.2.2
theorem KT.val {H:Hp}{kvs:List (List Key×V)}{xs:List (List Key×Addr×Value)}(r:KT H kvs xs)(k:List Key):o4 (nI kvs k) ((atKey xs k).map (·.2)):=by
 induction r with
 | nil=>exact True.intro
 | @cons p q ps qs h t ih=>
   obtain⟨h1,_,h2⟩:=h
   by_cases e:p.1=k
   . have e':q.1=k:=h1.symm.trans e
     have b:atKey (q::qs) k=some q.2:=by simp[atKey,aa9,e']
     rw[nJ e,b];exact h2
   . have e':¬ q.1=k:=fun z=>e (h1.trans z)
     have b:atKey (q::qs) k=atKey qs k:=by simp[atKey,aa9,e']
     rw[l3 e,b];exact ih
theorem KT.OK {H:Hp}{kvs:List (List Key×V)}{xs:List (List Key×Addr×Value)}(r:KT H kvs xs)(k:List Key){y:V}{u:Value}(ry:RelV y u):KT H (kvs.map fun kv=>if kv.1=k then (kv.1,y) else kv) (xs.map (putAt k u)):=by
 induction r with
 | nil=>exact .nil
 | @cons p q ps qs h t ih=>
   rw[aao,aao]
   refine .cons ?_ ih
   obtain⟨h1,h2,h3⟩:=h
   unfold putAt
   by_cases e:p.1=k
   . rw[if_pos e,if_pos (h1.symm.trans e)];exact⟨h1,h2,ry⟩
   . rw[if_neg e,if_neg (fun z=>e (h1.trans z))];exact⟨h1,h2,h3⟩
theorem KT.put {H:Hp}{kvs:List (List Key×V)}{xs:List (List Key×Addr×Value)}(r:KT H kvs xs)(k:List Key){b:Addr}{y:V}{u:Value}(hb:H b=some (.tup (k.map kV)))(ry:RelV y u):KT H (putK kvs k y) (storedH xs k b u):=by
 have e:(kvs.any fun kv=>decide (kv.1=k))=(atKey xs k).isSome:=by
   rw[qr,(r.val k).rE,Option.isSome_map]
 unfold putK storedH
 rw[e]
 by_cases q:(atKey xs k).isSome=true
 . rw[if_pos q,if_pos q];exact r.OK k ry
 . rw[if_neg q,if_neg q];exact Paired.snoc r ⟨rfl,hb,ry⟩
theorem KT.keeps {H H':Hp}{kvs:List (List Key×V)}{xs:List (List Key×Addr×Value)}(r:KT H kvs xs)(ht:∀ b ys,H b=some (.tup ys)->H' b=some (.tup ys)):KT H' kvs xs:=
 Paired.N4 r fun _ _ z=>⟨z.1,ht _ _ z.2.1,z.2.2⟩
section
variable {P:Program}{w:World}{H:Hp}{h:Heap}{a:Addr}
theorem Na {u:HO}(ok:qe P w H h)(e:Rd H a u):aO P w H h a u:=e.ok ok
theorem xp {kvs:List (Key×V)}(ok:qe P w H h)(e:Rd H a (.dK kvs)):kvs.length<=sizeLine/\(a == sysModules)=false/\∃ vs,KV kvs vs/\h.DictOf (cz P w) a vs:=
 show aO P w H h a (.dK kvs) from Na ok e
theorem Nb {kvs:List (Key×V)}(ok:qe P w H h)(e:H a=some (.dK kvs)):kvs.length<=sizeLine/\(a == sysModules)=false/\∃ vs,KV kvs vs/\h.DictOf (cz P w) a vs:=xp ok (.inl e)
theorem ye {ks:List Key}(ok:qe P w H h)(e:H a=some (.tup (ks.map kV))):(tupleKind (cz P w)).is h ks a:=by
 obtain⟨_,aE,r,o,h1,h2,n,h3⟩:=(show aO P w H h a (.tup (ks.map kV)) from ok a _ e)
 exact⟨o,aE.toArray,n,h1,h2,h3,by simpa using xn r⟩
theorem Dd {kvs:List (List Key×V)}(ok:qe P w H h)(e:Rd H a (.dT kvs)):kvs.length<=sizeLine/\(a == sysModules)=false/\∃ xs,KT H kvs xs/\h.DictOfH (tupleKind (cz P w)) a xs:=by
 obtain⟨z,y,xs,r,o,es,ep,h1,h2,h3,h4,h5⟩:=(show aO P w H h a (.dT kvs) from Na ok e)
 refine⟨z,y,xs,r,o,es,ep,h1,h2,h3,h4,fun x hx=>?_,h5⟩
 have all:∀ {l:List (List Key×V)} {m:List (List Key×Addr×Value)},KT H l m->∀ x∈m,(tupleKind (cz P w)).is h x.1 x.2.1:=by
   intro l m q
   induction q with
   | nil=>intro x hx;exact nomatch hx
   | @cons p q ps qs hq t ih=>
     intro x hx
     rcases aau.mp hx with e | hx
     . subst e
       exact ye ok (by rw[<- hq.1];exact hq.2.1)
     . exact ih x hx
 exact all r x hx
theorem SD {kvs:List (List Key×V)}(ok:qe P w H h)(e:H a=some (.dT kvs)):kvs.length<=sizeLine/\(a == sysModules)=false/\∃ xs,KT H kvs xs/\h.DictOfH (tupleKind (cz P w)) a xs:=Dd ok (.inl e)
end
def sQ (H:Hp)(a:Addr)(y:V)(r:Option V):Prop:=
 (∃ kvs k,Rd H a (.dK kvs)/\y=kV k/\r=nI kvs k)\/∃ kvs k b,Rd H a (.dT kvs)/\y=.ref b/\H b=some (.tup (k.map kV))/\r=nI kvs k
def EG (H:Hp)(a:Addr)(y v:V)(H':Hp):Prop:=
 (∃ kvs k,H a=some (.dK kvs)/\y=kV k/\kvs.length < sizeLine/\H'=upd H a (.dK (putK kvs k v))) \/
 ∃ kvs k b,H a=some (.dT kvs)/\y=.ref b/\H b=some (.tup (k.map kV))/\kvs.length < sizeLine/\H'=upd H a (.dT (putK kvs k v))
theorem sQ.k {H:Hp}{a:Addr}{kvs:List (Key×V)}{k:Key}(e:H a=some (.dK kvs)):sQ H a (kV k) (nI kvs k):=.inl ⟨kvs,k,.inl e,rfl,rfl⟩
theorem EG.k {H:Hp}{a:Addr}{kvs:List (Key×V)}{k:Key}{v:V}(e:H a=some (.dK kvs))(hl:kvs.length < sizeLine):EG H a (kV k) v (upd H a (.dK (putK kvs k v))):=.inl ⟨kvs,k,e,rfl,hl,rfl⟩
section
variable {X:Cx}{pins:List (Addr×Obj)}{σ:St}{H:Hp}{s:Shared}{a:Addr}{y v:V}{u r:Value}{o:Option V}{A:Around}{E:Value->Shared->Prop}
theorem Inv.big (I:Inv X pins σ H s):sysModules < s.heap.objs.size:=by
 have h:mainGlobals < s.heap.objs.size:=(I.mod.glob.keeps I.bk).lt
 exact Nat.lt_trans (by decide) h
theorem EH {Q:Value->Shared->Prop}(hu:A.units+1 < cLine)(I:Inv X pins σ H s)(g:sQ H a y (some v))(ry:RelV y u)(h:∀ w' s',Inv X pins σ H s'->RelV v w'->Q w' s'):wpAny (model X.prog X.w) A (getItem (.ref a) u) Q E s:=by
 rcases g with⟨kvs,k,e,ey,l⟩ | ⟨kvs,k,b,e,ey,eb,l⟩
 . subst ey
   obtain⟨z,hd,vs,rel,dd⟩:=xp I.bh e
   obtain⟨w',hw,Gq⟩:=o4.some_of (v:=v) (o:=valueAt vs k) (by rw[l];exact rel.val k)
   exact wpAny_getItem_of (Ae ry) dd.mapOf hw (h w' _ (I.tok _) Gq)
 . subst ey
   cases (show u=Value.ref b from ry)
   obtain⟨z,hd,xs,rel,dd⟩:=Dd I.bh e
   obtain⟨w',hw,Gq⟩:=o4.some_of (v:=v) (o:=(atKey xs k).map (·.2)) (by rw[l];exact rel.val k)
   obtain⟨p,hp,yf⟩:=Option.map_eq_some_iff.mp hw
   refine wpAny_getItem_heap (tupleKind_room_in1 hu) (ye I.bh eb) dd hp ?_
   rw[yf]
   exact h w' _ (I.tok _) Gq
theorem K3 {Q:Value->Shared->Prop}(hu:A.units+1 < cLine)(I:Inv X pins σ H s)(g:sQ H a y o)(ry:RelV y u)(h:∀ s',Inv X pins σ H s'->Q (.bool (!o.isSome)) s'):wpAny (model X.prog X.w) A (compareOp .NotIn u (.ref a)) Q E s:=by
 rcases g with⟨kvs,k,e,ey,l⟩ | ⟨kvs,k,b,e,ey,eb,l⟩
 . subst ey
   obtain⟨z,hd,vs,rel,dd⟩:=xp I.bh e
   refine wpAny_notIn_of (Ae ry) hd dd.mapOf ?_
   rw[<- (rel.val k).rE,<- l]
   exact h _ (I.tok _)
 . subst ey
   cases (show u=Value.ref b from ry)
   obtain⟨z,hd,xs,rel,dd⟩:=Dd I.bh e
   refine wpAny_notIn_heap (tupleKind_room_in1 hu) (ye I.bh eb) hd dd ?_
   have q:=(rel.val k).rE
   rw[Option.isSome_map] at q
   rw[<- q,<- l]
   exact h _ (I.tok _)
theorem mE {h':Heap}{t':Nat}{ob:HO}(I:Inv X pins σ H s)(mu:Ro (H a))(hs:aaX a s.heap h')(he:∃ q,h'.get? a=some q)(new:aO X.prog X.w (upd H a ob) h' a ob):Inv X pins σ (upd H a ob) { s with heap:=h',toks:=t'}:=
 I.write (x:=a) (e:=a) mu (.inl rfl) (fun b q hb z=>(hs.2 b hb).trans z) he new
theorem GP {P:Program}{w:World}{H':Hp}{h':Heap}{kvs:List (Key×V)}{vs:List (Key×Value)}(z:kvs.length<=sizeLine)(hd:(a == sysModules)=false)(rel:KV kvs vs)(dd:h'.DictOf (cz P w) a vs):aO P w H' h' a (.dK kvs):=⟨z,hd,vs,rel,dd⟩
theorem EI {H':Hp}{Q:Unit->Shared->Prop}(hu:A.units+1 < cLine)(I:Inv X pins σ H s)(g:EG H a y v H')(ry:RelV y u)(rv:RelV v r)(h:∀ s',Inv X pins σ H' s'->Q () s'):wpAny (model X.prog X.w) A (setItem (.ref a) u r) Q E s:=by
 rcases g with⟨kvs,k,e,ey,l,eH⟩ | ⟨kvs,k,b,e,ey,eb,l,eH⟩
 . subst ey eH
   obtain⟨z,hd,vs,rel,dd⟩:=Nb I.bh e
   have hz:vs.length<=sizeLine:=by rw[<- rel.length];exact z
   have hl:(putK kvs k v).length<=sizeLine:=by have:=sJ kvs k v;omega
   refine wpAny_setItem_pairs (hsz:=hz) (Ae ry) dd fun h' OL hs=>h _ ?_
   have he:∃ q,h'.get? a=some q:=let ⟨q,_,_,hq,_⟩:=OL;⟨q,hq⟩
   exact mE I (by rw[e];exact True.intro) hs he (GP hl hd (rel.put k rv) OL)
 . subst ey eH
   cases (show u=Value.ref b from ry)
   obtain⟨z,hd,xs,rel,dd⟩:=SD I.bh e
   have hz:xs.length<=sizeLine:=by rw[<- Paired.length rel];exact z
   have hl:(putK kvs k v).length<=sizeLine:=by have:=sJ kvs k v;omega
   refine wpAny_setItem_heap (hsz:=hz) (tupleKind_room_in1 hu) (ye I.bh eb) dd fun h' OL hs=>h _ ?_
   obtain⟨q,es,ep,hq,h2,h3,h4,_,h5⟩:=OL
   refine mE I (by rw[e];exact True.intro) hs ⟨q,hq⟩ ⟨hl,hd,_,(rel.put k eb rv).keeps fun c ys ec=>?_,q,es,ep,hq,h2,h3,h4,h5⟩
   rw[ag (RO ec e (fun z=>nomatch z))]
   exact ec
end
def K4 (i:Expr):Prop:=∀ ov iv,subscripted i false ov iv=operate [ov,iv] (getItem ov iv)
theorem K5 {prog:Program}{w:World}{A:Around}{E:Value->Shared->Prop}{s:Shared}{env:Env}{value slice:Expr}{pos:Pos}{T id:String}{Q:Value->Shared->Prop}(hl:typeLookup (.type T) "__getitem__"=pure (some (.builtin id)))(hs:K4 slice)(h:wpAny (model prog w) A (eval value env) (fun o s₁=>wpAny (model prog w) A (eval slice env) (fun i s₂=>s₂.TypeIs o T/\wpAny (model prog w) A (getItem o i) Q E s₂) E s₁) E s):wpAny (model prog w) A (eval (.Subscript value slice pos) env) Q E s:=by
 refine Subscript_ (wpAny_mono h (fun o s₁ h₁=>wpAny_mono h₁ (fun i s₂ h₂=>?_) fun _ _ x=>x) fun _ _ x=>x)
 obtain⟨hT,h₂⟩:=h₂
 unfold subscriptTail
 refine wpAny_bind ?_
 rw[getitemInPython_of_ne hT.not_modules]
 refine wpAny_bind (wpAny_specialOf hT hl ?_)
 have fin:wpAny (model prog w) A (subscripted slice false o i) (fun r s₃=>wpAny (model prog w) A (letTemporaryGo value o r >>= fun _=>pure r) Q E s₃) E s₂:=by
   rw[hs o i]
   exact wpAny_operating (wpAny_mono h₂ (fun r s₃ h₃=>wpAny_bind (wpAny_letTemporaryGo (wpAny_pure h₃))) fun _ _ x=>x)
 first
   | exact wpAny_pure (wpAny_bind fin)
   | exact wpAny_bind (wpAny_pure (wpAny_bind fin))
   | exact wpAny_bind fin
theorem Af {X:Cx}{pins:List (Addr×Obj)}{σ:St}{H:Hp}{s:Shared}{a:Addr}{y:V}{o:Option V}(I:Inv X pins σ H s)(g:sQ H a y o):s.TypeIs (.ref a) "dict":=by
 rcases g with⟨kvs,k,e,_,_⟩ | ⟨kvs,k,b,e,_,_,_⟩
 . obtain⟨_,_,vs,_,dd⟩:=xp I.bh e
   exact dd.typeIs
 . obtain⟨_,_,xs,_,dd⟩:=Dd I.bh e
   exact dd.typeIs
def SE (td ty:TE):TE:=fun σ H Q=>td σ H fun x H1=>ty σ H1 fun y H2=>∃ a v,x=.ref a/\sQ H2 a y (some v)/\Q v H2
def Wy (ty td:TE):TE:=fun σ H Q=>ty σ H fun y H1=>td σ H1 fun x H2=>∃ a o,x=.ref a/\sQ H2 a y o/\Q (.bl o.isSome) H2
def De (ty td:TE):TE:=fun σ H Q=>ty σ H fun y H1=>td σ H1 fun x H2=>∃ a o,x=.ref a/\sQ H2 a y o/\Q (.bl (!o.isSome)) H2
def SF (td ty tv:TE):TS:=fun D σ H=>tv σ H fun v H1=>td σ H1 fun x H2=>ty σ H2 fun y H3=>∃ a H4,x=.ref a/\EG H3 a y v H4/\D.nx σ H4
section
variable {X:Cx}{o i value:Expr}{pos pos':Pos}{td ty tv:TE}
theorem Df (hu:X.A.units+1 < cLine)(ho:PE X o td)(hi:PE X i ty)(hs:K4 i):PE X (.Subscript o i pos) (SE td ty):=by
 intro pins s σ H Q I h
 refine K5 PySem.F.slot_dict_getitem.lookup hs (bM (ho pins s σ H _ I h) fun u s1 ⟨x,H1,I1,rx,q1⟩=>bM (hi pins s1 σ H1 _ I1 q1) fun iv s2 ⟨y,H2,I2,ry,a,v,ex,g,q2⟩=>?_)
 subst ex
 obtain rfl:u=Value.ref a:=rx
 exact⟨Af I2 g,EH hu I2 g ry fun w' s3 I3 Gq=>⟨v,H2,I3,Gq,q2⟩⟩
theorem EJ (hu:X.A.units+1 < cLine)(hi:PE X i ty)(ho:PE X o td):PC X .NotIn i o (De ty td):=by
 intro pins s σ H Q I h
 refine bM (hi pins s σ H _ I h) fun iv s1 ⟨y,H1,I1,ry,q1⟩=>bM (ho pins s1 σ H1 _ I1 q1) fun u s2 ⟨x,H2,I2,rx,a,ov,ex,g,q2⟩=>?_
 subst ex
 obtain rfl:u=Value.ref a:=rx
 exact K3 hu I2 g ry fun s3 I3=>⟨.bl (!ov.isSome),H2,I3,rfl,q2⟩
theorem Dg (hu:X.A.units+1 < cLine)(ho:PE X o td)(hi:PE X i ty)(hv:PE X value tv)(hs:swapsWith value (some (.Subscript o i pos')) pos.line X.env=pure false):PS X (.Assign [.Subscript o i pos'] value pos) (SF td ty tv):=by
 intro pins s σ H D I h
 refine wpAny_Assign_Subscript (bM (hv pins s σ H _ I h) fun r s1 ⟨v,H1,I1,rv,q1⟩=>bM (ho pins s1 σ H1 _ I1 q1) fun u s2 ⟨x,H2,I2,rx,q2⟩=>bM (hi pins s2 σ H2 _ I2 q2) fun iv s3 ⟨y,H3,I3,ry,a,H4,ex,g,q3⟩=>?_) hs
 subst ex
 obtain rfl:u=Value.ref a:=rx
 exact EI hu I3 g ry rv fun s4 I4=>⟨σ,H4,I4,q3⟩
end
theorem Ag {P:Program}{w:World}{H:Hp}(h:Heap)(hb:sysModules < h.objs.size):aO P w H (h.push { cls:=.type "dict",data:=.dict #[]}) h.objs.size (.dK []):=
 ⟨aaQ _,beq_eq_false_iff_ne.mpr (Ne.symm (aap hb)),[],.nil,Heap.DictOf.new h⟩
def OM:TE:=fun _ H Q=>∀ p,H p=none->Q (.ref p) (upd H p (.dK []))
section
variable {X:Cx}{pos:Pos}
theorem Ah:PE X (.Dict [] [] pos) OM:=fun pins s σ H Q I h=>
 wpAny_Dict_empty ⟨.ref s.heap.objs.size,_,I.laid (a:=s.heap.objs.size) (o:=.dK []) (t':=s.toks) (fun _ _ q=>Vf _ q) (aac _) (Ag s.heap I.big),rfl,h _ (I.bh.fresh (aac _))⟩
end
structure M1 (X:Cx)(o:Expr)(m:Str)(apos:Pos)(e:Expr)(bN:Pos):Prop where
 base:attributeBase o m X.env (eval o X.env)=eval o X.env
 few:((backTo bN (starEach [e] X.env)).all (fun x=>!x.1) && (backToKw bN (keywordEach [] X.env)).all (fun x=>x.1.isSome)
   && decide (([e]:List Expr).length+([]:List Keyword).length+(if ([]:List Keyword).isEmpty then 0 else 1) < 30))=true
 line:(apos.endLine == bN.line)=true
 trees:backTo bN (starEach [e] X.env)=[(false,eval e X.env)]
structure M2 (X:Cx)(o:Expr)(m:Str)(apos:Pos)(e f:Expr)(bN:Pos):Prop where
 base:attributeBase o m X.env (eval o X.env)=eval o X.env
 few:((backTo bN (starEach [e,f] X.env)).all (fun x=>!x.1) && (backToKw bN (keywordEach [] X.env)).all (fun x=>x.1.isSome)
   && decide (([e,f]:List Expr).length+([]:List Keyword).length+(if ([]:List Keyword).isEmpty then 0 else 1) < 30))=true
 line:(apos.endLine == bN.line)=true
 trees:backTo bN (starEach [e,f] X.env)=[(false,eval e X.env),(false,eval f X.env)]
end L2
namespace Att
open PySem PySem.W PySem.Calls PyProof.Rows
theorem sR {P:Params}{h:Heap}:∀ (ns:List Int) (vs:List Value),WellAll P h vs (ns.map WData.int)->IntsAre vs ns:=by
 intro ns
 induction ns with
 | nil=>
   intro vs w
   rw[List.map_nil] at w
   cases w
   exact .nil
 | cons n ns ih=>
   intro vs w
   rw[aao] at w
   cases w with
   | cons a b=>
     cases a
     exact .cons _ _ (ih _ b)
theorem EK {l:OpenLaw}{n:Nat}(hn:l.most=some n){P:Params}{h:Heap}{args:List WData}{vals:List Value}(K6:l.row.toRowW.claim.pre args=true)(ON:WellAll P h vals args):∃ a vs ns,vals=[Value.ref a]/\args=[WData.list (ns.map WData.int)]/\h.get? a=some { cls:=.type "list",data:=.seq vs.toArray}/\IntsAre vs ns/\ns.length<=n:=by
 have hsh:WShape.hasAll [] args [.list .int]=true:=(pre_splitW K6).1
 have hc:l.pre.holds [] { args:=args}=true:=(pre_splitW K6).2
 obtain⟨d,r,rfl,h1,h2⟩:=hasAllW_cons hsh
 obtain rfl:=hasAllW_nil h2
 obtain⟨xs,rfl,h3⟩:=hasW_list h1
 obtain⟨ns,rfl⟩:=items_int h3
 have hlen:ns.length<=n:=by
   unfold OpenLaw.pre at hc
   have h4:(WTm.not (.lt (.lit (.int (n:Int))) (.len (.arg 0)))).holds [] { args:=[.list (ns.map .int)]}=true:=by
     have h4:=(holds_andW hc).1
     rw[hn] at h4
     exact h4
   have h5:=condW_of h4 (w_not (w_lt w_lit (w_len_list (w_arg rfl))))
   rw[Bn] at h5
   refine abK fun q=>?_
   have q':(n:Int) < ((ns.length:Nat):Int):=by omega
   first
     | (rw[decide_eq_true q'] at h5;exact absurd h5 (by decide))
     | (simp at h5;omega)
 cases ON with
 | cons w1 w2=>
   cases w2
   cases w1 with
   | list ho Wz=>exact⟨_,_,ns,rfl,rfl,ho,sR ns _ Wz,hlen⟩
theorem EL (l:OpenLaw)(args:List WData):l.row.toRowW.claim.post args (.bool true) args=true:=
 postW_of (r:=l.row.toRowW) (X:=(true == true))
   (show WShape.has [] (.bool true) .bool=true by first | rfl | decide | simp[WShape.has,WShape.arms,WShape.armsAll])
   (show(WTm.eq .res (.lit (.bool true))).value [] { args:=args,res:=some (.bool true),after:=args}=some (.bool (true == true)) from w_eq_bool (w_res rfl) w_lit) rfl
theorem Ai {l:OpenLaw}{n:Nat}{q:Program}{loose:List Str}{XP:(Str->Option Value)->Heap->Prop}{YP:World->Heap->Prop}{d:DefRec}(hn:l.most=some n)(SG:d.params.defaults=[])(call:∀ (w:World) (s₀ s₁:Shared) (mg mb:Str->Option Value) (fa:Addr) (o:Obj) (pm cd doc:Value) (a:Addr) (vs:List Value) (ns:List Int),Ground q loose [] XP w s₀ mg mb s₁.heap->YP w s₁.heap->s₁.heap.get? fa=some o->o.data=.func (docDef d.name d.params d.body d.scope pm cd doc)->s₁.heap.CodeRec cd d.name->mg d.name=some (.ref fa)->s₁.heap.get? a=some { cls:=.type "list",data:=.seq vs.toArray}->IntsAre vs ns->ns.length<=n->s₁.gens=#[]->codeAny (model l.prog w) callerA (.call (.ref fa) ⟨[.ref a],[]⟩) (fun r s'=>r=.ok (.ret (.bool true))/\OldK s₁.heap s'.heap/\s'.os=s₁.os/\AllBare s'.gens) s₁):WalkO q loose XP YP l.row.toRowW d [] (fun f vs=>PySem.call f vs):=by
 intro w s₀ s₁ mg mb G Y fa o pm cd doc dV kV ho hd lV hD SH hg args vals as K6 aax Nc ON hlo
 obtain rfl:dV=.none:=Dflts.none hD SG
 obtain rfl:kV=.none:=Dflts.noKw hD
 obtain⟨a,vs,ns,rfl,rfl,OO,hints,hlen⟩:=EK hn K6 ON
 refine enter_call (codeAny_mono (call w s₀ s₁ mg mb fa o pm cd doc a vs ns G Y ho (fd_plain hd) lV SH OO hints hlen hg) fun r s' hq=>?_)
 obtain⟨rfl,h2,h3,h4⟩:=hq
 exact⟨.inl ⟨.bool true,.bool true,[],rfl,fun _=>rfl,.bool true,EL l _,fun _=>⟨List.Pairwise.nil,fun _ hm=>(nomatch hm)⟩⟩,h2,h3,h4⟩
end Att
namespace L2
open PySem PySem.Spec PyProof.Rows
theorem oo:∀ {vs:List Value} {ns:List Int},IntsAre vs ns->Vals (ns.map V.int) vs
 | _,_,.nil=>.nil
 | _,_,.cons n t h=>.cons ⟨t,rfl⟩ (oo h)
def K7 (H:Hp):Prop:=∀ b,H b=none\/∃ o xs,H b=some (.bj o (.lst xs))
theorem GQ {P:Program}{w:World}{K:W.Frag}{mg mb:Str->Option Value}{CX:q8}{k:Nat}{fa a:Addr}{fd:FuncData}{x:Str}{sp:Sp}{s₁:Shared}{vs:List Value}{ns:List Int}(KX:K.In s₁.heap)(F6:s₁.heap.Ns mainGlobals mg)(hb:s₁.heap.Ns builtinsNs mb)(hbb:∀ x:Str,x≠"__name__"->mb x=bootBuiltins x)(WA:s₁.heap.NoLimit)(hg:s₁.gens=#[])(ha:s₁.heap.get? a=some { cls:=.type "list",data:=.seq vs.toArray})(hi:IntsAre vs ns)(hl:ns.length<=sizeLine)(hr:d0 k callerA)(F:∀ base:Heap,K.In base->base.Ns mainGlobals mg->jt P w K mg base CX k fa fd [x] sp)(SI:∀ (s:Shared) (u:Value),BindsTo s fd ⟨[u],[]⟩ [(x,u)])(M9:∀ H:Hp,K7 H->lS K H a (ns.map V.int)->sp [.ref a] H (fun v _=>v=.bl true) fun _ _ _=>False)(SJ:∀ H e s',CX [] H s₁ (fun _ _ _=>False) e s'->False):codeAny (model P w) callerA (.call (.ref fa) ⟨[.ref a],[]⟩) (fun r s'=>r=.ok (.ret (.bool true))/\OldK s₁.heap s'.heap/\s'.os=s₁.os/\AllBare s'.gens) s₁:=by
 have rv:=oo hi
 have WB:=hi.length
 have core:∀ H:Hp,K7 H->lS K H a (ns.map V.int)->qe P w H s₁.heap->(∀ b,H b≠none->b=a)->(H a≠none->K.lookup a=none) ->
     codeAny (model P w) callerA (.call (.ref fa) ⟨[.ref a],[]⟩) (fun r s'=>r=.ok (.ret (.bool true))/\OldK s₁.heap s'.heap/\s'.os=s₁.os/\AllBare s'.gens) s₁:=by
   intro H hO hS bh hA hK
   have Dh:∀ {b:Addr} {o:Obj},s₁.heap.get? b=some o->H b=none->(x3 s₁.heap H).get? b=some o:=fun e n=>Gg e n
   have Sr:∀ {b:Addr} {o:Obj} {es:Array DictEntry} {ep:Nat},s₁.heap.get? b=some o->o.data=.dict es ep->H b=none:=fun {b o es ep} e d=>by
     cases q:H b with
     | none=>rfl
     | some u=>
       have e':b=a:=hA b (by rw[q];simp)
       subst e'
       rw[ha] at e;cases e
       have d':Data.seq vs.toArray _=Data.dict es ep:=d
       cases d'
   have Vc:∀ {b:Addr} {m:Str->Option Value},s₁.heap.Ns b m->(x3 s₁.heap H).Ns b m:=fun {b m} ⟨o,es,ep,e,d,r⟩=>⟨o,es,ep,Dh e (Sr e d),d,r⟩
   have YI:K.In (x3 s₁.heap H):=fun b o e=>Dh (KX b o e) (by
     cases q:H b with
     | none=>rfl
     | some u=>
       have e':b=a:=hA b (by rw[q];simp)
       subst e'
       rw[hK (by rw[q];simp)] at e;cases e)
   have hM:Mod K mg (x3 s₁.heap H):=⟨YI,Vc F6,⟨mb,Vc hb,hbb⟩,let ⟨mc,h1,h2⟩:=WA;⟨mc,Vc h1,h2⟩⟩
   have e0:z7 P w K mg (x3 s₁.heap H) callerA [] s₁ H:=⟨rfl,hM,fun b o e=>KD e,Nat.le_of_eq (Eo _ _),trivial,fun b hb=>absurd (show b∈([]:List Addr) from hb) (by simp),bh,.of_eq hg⟩
   refine codeAny_mono ((F _ YI (Vc F6)).run callerA [] s₁ H ⟨[.ref a],[]⟩ [.ref a] [.ref a] _ _ hr e0 (SI s₁ (.ref a)) (.cons rfl .nil) (M9 H hO hS)) fun r s' h=>?_
   cases r with
   | error e=>exact(SJ H e s' h).elim
   | ok fl=>
     cases fl with
     | next=>exact False.elim h
     | brk=>exact False.elim h
     | cont=>exact False.elim h
     | ret u=>
       obtain⟨v,H',os,bare,un,WC,r',q⟩:=h
       have q':v=.bl true:=q
       subst q'
       obtain rfl:u=Value.bool true:=r'
       refine⟨rfl,OldK.of_keep fun b o e=>?_,os,bare⟩
       cases q:H b with
       | none=>exact un.keep b o e q (by intro z;exact absurd (show b∈([]:List Addr) from z) (by simp)) (by simp)
       | some u=>
         rcases hO b with z | ⟨ob,xs,z⟩
         . rw[q] at z;cases z
         . have z2:=un.xZ b ob _ z
           obtain⟨e1,_⟩:=bh b _ z
           obtain⟨e2,_⟩:=WC b _ z2
           rw[e] at e1;cases e1
           exact e2
 cases hk:K.lookup a with
 | some o=>
   have e:=KX a o hk
   rw[ha] at e
   cases e
   refine core (fun _=>none) (fun _=>.inl rfl) (.inr ⟨_,vs.toArray,_,hk,rfl,rfl,rfl,by rw[aan,WB];exact hl,by simpa using rv⟩) (fun b u z=>by have z':(none:Option HO)=some u:=z;cases z') (fun b z=>absurd rfl z) fun z=>absurd rfl z
 | none=>
   refine core (fun b=>if b=a then some (.bj { cls:=.type "list",data:=.seq vs.toArray} (.lst (ns.map V.int))) else none) (fun b=>?_) (.inl (.inr (.inl ⟨{ cls:=.type "list",data:=.seq vs.toArray},if_pos rfl⟩))) (fun b u z=>?_) (fun b z=>?_) fun _=>hk
   . by_cases hb:b=a
     . exact .inr ⟨_,_,if_pos hb⟩
     . exact .inl (if_neg hb)
   . by_cases hb:b=a
     . have z':=(if_pos hb).symm.trans z
       cases z'
       subst hb
       exact⟨ha,by rw[Bn];exact hl,vs,_,rv,ha⟩
     . have z':=(if_neg hb).symm.trans z
       cases z'
   . by_cases hb:b=a
     . exact hb
     . exact absurd (if_neg hb) z
noncomputable abbrev YJ {K:W.Frag}{h:Heap}(_:K.In h):W.Frag:=K
theorem K8 {l:W.OpenLaw}{n k:Nat}{q:Program}{loose:List Str}{XP:(Str->Option Value)->Heap->Prop}{YP:World->Heap->Prop}{d:DefRec}{K:Params->W.Frag}{CX:World->q8}{sp:World->Sp}{x:Str}(hn:l.most=some n)(Rt:n<=sizeLine)(SG:d.params.defaults=[])(hr:d0 k callerA)(hY:∀ (w:World) (h:Heap),YP w h->(K w.params).In h)(F:∀ (w:World) (mg:Str->Option Value) (fa:Addr) (h:Heap),(K w.params).In h->h.Ns mainGlobals mg->mg d.name=some (.ref fa)->∃ fd:FuncData,(∀ (s:Shared) (u:Value),BindsTo s fd ⟨[u],[]⟩ [(x,u)])/\∀ base:Heap,(K w.params).In base->base.Ns mainGlobals mg->jt l.prog w (K w.params) mg base (CX w) k fa fd [x] (sp w))(M9:∀ (w:World) (H:Hp) (a:Addr) (ns:List Int),ns.length<=n->K7 H->lS (K w.params) H a (ns.map V.int)->sp w [.ref a] H (fun v _=>v=.bl true) fun _ _ _=>False)(SJ:∀ (w:World) (H:Hp) (s:Shared) (e:Value) (s':Shared),CX w [] H s (fun _ _ _=>False) e s'->False):W.WalkO q loose XP YP l.row.toRowW d [] (fun f vs=>PySem.call f vs):=by
 refine Att.Ai hn SG fun w s₀ s₁ mg mb fa o pm cd doc a vs ns G Y ho hd lV SH OO hints hlen hg=>?_
 have KX:=hY w _ Y
 obtain⟨fd,hb,hF⟩:=F w mg fa _ KX G.T.g SH
 exact GQ KX G.T.g G.T.b G.T.builtins G.T.nolimit hg OO hints (aav hlen Rt) hr hF hb (fun H hO hS=>M9 w H a ns hlen hO hS) fun H e s'=>SJ w H s₁ e s'
theorem GR {l:W.OpenLaw}{n k:Nat}{q:Program}{loose:List Str}{XP:(Str->Option Value)->Heap->Prop}{YP:World->Heap->Prop}{d:DefRec}{K:Params->W.Frag}{CX:q8}{sp:W.Frag->Sp}{x:Str}(hn:l.most=some n)(Rt:n<=sizeLine)(SG:d.params.defaults=[])(hr:d0 k callerA)(hY:∀ (w:World) (h:Heap),YP w h->(K w.params).In h)(F:∀ (w:World) (mg:Str->Option Value) (fa:Addr) (h:Heap),(K w.params).In h->h.Ns mainGlobals mg->mg d.name=some (.ref fa)->∃ fd:FuncData,(∀ (s:Shared) (u:Value),BindsTo s fd ⟨[u],[]⟩ [(x,u)])/\∀ base:Heap,(K w.params).In base->base.Ns mainGlobals mg->jt l.prog w (K w.params) mg base CX k fa fd [x] (sp (K w.params)))(M9:∀ (K:W.Frag) (H:Hp) (a:Addr) (ns:List Int),ns.length<=n->K7 H->lS K H a (ns.map V.int)->sp K [.ref a] H (fun v _=>v=.bl true) fun _ _ _=>False)(SJ:∀ (H:Hp) (s:Shared) (e:Value) (s':Shared),CX [] H s (fun _ _ _=>False) e s'->False):W.WalkO q loose XP YP l.row.toRowW d [] (fun f vs=>PySem.call f vs):=
 K8 (K:=K) (CX:=fun _=>CX) (sp:=fun w=>sp (K w.params)) hn Rt SG hr hY F (fun w H a ns h1 h2 h3=>M9 (K w.params) H a ns h1 h2 h3) fun _ H s e s'=>SJ H s e s'
noncomputable def inClass (s:Stmt)(j:Nat):Stmt:=match s with
 | .ClassDef _ _ _ body _ _ _ _ _ _ _=>body.getD j (.Pass ⟨0,0,0,0⟩)
 | _=>.Pass ⟨0,0,0,0⟩
noncomputable def bP (s:Stmt):Arguments:=match s with
 | .FunctionDef _ a _ _ _ _ _ _ _ _=>a
 | _=>{ posonlyargs:=[],args:=[],vararg:=none,kwonlyargs:=[],kw_defaults:=[],kwarg:=none,defaults:=[]}
noncomputable def aB (s:Stmt):List Stmt:=match s with
 | .FunctionDef _ _ b _ _ _ _ _ _ _=>b
 | _=>[]
noncomputable def af (s:Stmt):Scope:=match s with
 | .FunctionDef _ _ _ _ _ _ sc _ _ _=>sc
 | _=>{ kind:=.function,names:=[],isGenerator:=false,isCoroutine:=false}
abbrev YK:q8:=fun _ _ _ _ _ _=>False
abbrev E0:XK:=fun _ _ _=>False
structure Rw (K:W.Frag)(x qual:Str)(st:Stmt)(f:Addr)(fd:FuncData):Prop where
 ex:∃ (oc:Value) (od:Option Addr) (kV doc pm:Value) (an:Option Addr) (bc ct:Value) (xl:Array (Option Value)),
   fd=W.fnOf x qual (bP st) (aB st) (af st) .none kV doc pm an bc ct/\K.lookup f=some ⟨oc,od,.func fd,xl⟩/\W.codeIn K bc qual=true
 kp:W.keepIn K (.ref f)=true
section
variable {K:W.Frag}
theorem Rw.binds {x qual:Str}{st:Stmt}{f:Addr}{fd:FuncData}{ps:List Str}(F:Rw K x qual st f fd)(h:∀ (kV doc pm:Value) (an:Option Addr) (bc ct:Value) (us:List Value),us.length=ps.length->bindArgs (W.fnOf x qual (bP st) (aB st) (af st) .none kV doc pm an bc ct) ⟨us,[]⟩=pure (ps.zip us)):Binds K fd ps []:=by
 obtain⟨oc,od,kV,doc,pm,an,bc,ct,xl,rfl,lk,lV⟩:=F.ex
 exact .all (h kV doc pm an bc ct)
theorem uQ {x qual:Str}{st:Stmt}{f:Addr}{oc:Value}{od an:Option Addr}{xl:Array (Option Value)}{kV doc pm bc ct:Value}(l:K.lookup f=some ⟨oc,od,.func (W.fnOf x qual (bP st) (aB st) (af st) .none kV doc pm an bc ct),xl⟩)(c:W.codeIn K bc qual=true)(k:W.keepIn K (.ref f)=true):Rw K x qual st f (W.fnOf x qual (bP st) (aB st) (af st) .none kV doc pm an bc ct):=⟨⟨oc,od,kV,doc,pm,an,bc,ct,xl,rfl,l,c⟩,k⟩
end
theorem ow {n:Nat}(h:n<=1000):n < sizeLine:=aaH h (by decide)
theorem Aj {A B:Prop}(h:B):if false=true then A else B:=by
 rw[if_neg aal]
 exact h
theorem Ak {A B:Prop}(h:A):if true=true then A else B:=by
 rw[if_pos rfl]
 exact h
def aC (H H':Hp):Prop:=∀ b o,H b=some o->H' b=some o
theorem aC.refl (H:Hp):aC H H:=fun _ _ h=>h
theorem aC.trans {H H1 H2:Hp}(a:aC H H1)(b:aC H1 H2):aC H H2:=fun c o h=>b c o (a c o h)
theorem aC.free {H H':Hp}(e:aC H H'){l:Addr}(h:H' l=Option.none):H l=Option.none:=by
 cases q:H l with
 | none=>rfl
 | some o=>
   rw[e l o q] at h
   cases h
theorem aC.seq {K:W.Frag}{H H':Hp}{a:Addr}{xs:List V}(e:aC H H')(h:lS K H a xs):lS K H' a xs:=by
 rcases h with(h | ⟨o,h⟩ | ⟨_,_,_,_,h⟩ | ⟨o,h⟩) | h
 . exact .inl (.inl (e _ _ h))
 . exact .inl (.inr (.inl ⟨o,e _ _ h⟩))
 . cases h
 . exact .inl (.inr (.inr (.inr ⟨o,e _ _ h⟩)))
 . exact .inr h
end L2
set_option maxHeartbeats 4000000
namespace Sg
open PySem PySem.Spec PyProof.Rows L2 PySem.Builtin PySem.Builtin.Getset_descriptor
def WD (h:Heap)(x D:Addr):Prop:=∃ ox,h.get? x=some ox/\ox.cls=.ref D
structure TyX (K:W.Frag)(C:Addr):Prop where
 hc:(W.clsIn K C).isSome=true
 ga:W.findIn K (.ref C) "__getattribute__"=some (some (.builtin "BaseException.__getattribute__"))
 gt:W.findIn K (.ref C) "__getattr__"=some none
 be:W.mroIn K C (.type "BaseException")=some true
 ha:W.findIn K (.ref C) "__class__"=some (some (.builtin "object.__class__"))
 hn:W.specialIn K (.builtin "object.__class__") "__get__"=some (some (.builtin "getset_descriptor.__get__"))
 YF:W.takesIn K (.builtin "object.__class__")=some true
 hm:W.mroIn K C (.type "object")=some true
end Sg
namespace Sg
open PySem PySem.Spec PyProof.Rows L2
noncomputable abbrev St:=L2.St
def SK (h:Heap)(x C dx:Addr):Prop:=∃ ox,h.get? x=some ox/\ox.cls=.ref C/\ox.dict=some dx/\∃ vs,ox.data=.fields vs
inductive Dt where
 | cy
 | bl (b:Bool)
 | int (i:Int)
 | str (x:Str)
 | tup (ds:List Dt)
 | lst (ds:List Dt)
 | oy (ns:List Int)
 | cV (kvs:List (Key×Dt))
 | obj (C:Addr) (fs:List (Str×Dt))
 | ty (n:String)
 | cls (C:Addr)
 | xo (C:Addr)
 | rF (kvs:List (Key×Dt))
 | EM (C:Addr) (fs:List (Str×Dt))
 | d5 (kvs:List (Key×Dt))
 | memo (a:Addr) (ls:iR) (j n:Nat)
 | eK (a:Addr) (ls:iR) (j n:Nat)
 | wq (a:Addr) (ls:iR) (n:Nat)
 | wc (C:Addr) (fs:List (Str×Dt)) (gs:List (Nat->List (Key×FD))) (nm:List Str) (n:Nat)
 | hX (fd:FD)
 | mF (Nd:List (List Key×Int))
noncomputable def q9 (fs:List (Str×Dt))(nm:List Str)(a:Addr)(ls:iR)(n:Nat):List (Str×Dt):=fs ++ (aag nm.length).map fun j=>(nm.getD j "",.memo a ls j n)
def Known (H:Hp)(p:Addr)(f:Nat->List (Key×FD))(n:Nat):Prop:=∀ i,i < n->∃ q o kvs,H q=some (.kd (some (p,i)) o kvs)/\rg H kvs (f i)
def bO (H:Hp)(a:Addr)(ls:iR):Prop:=H a=some (.memo ls)\/∃ ns,H a=some (.bo ls ns)
theorem Known.mono {H H':Hp}{p:Addr}{f:Nat->List (Key×FD)}{n:Nat}(e:∀ b u,H b=some u->H' b=some u)(h:Known H p f n):Known H' p f n:=fun i hi=>let ⟨q,o,kvs,h1,h2⟩:=h i hi;⟨q,o,kvs,e _ _ h1,h2.kp (.of e)⟩
theorem bO.mono {H H':Hp}{a:Addr}{ls:iR}(e:∀ b u,H b=some u->H' b=some u)(h:bO H a ls):bO H' a ls:=h.imp (e _ _) fun⟨ns,z⟩=>⟨ns,e _ _ z⟩
mutual
inductive Rep (K:W.Frag)(H:Hp):V->Dt->Prop
 | cy:Rep K H .cy .cy
 | bl (b:Bool):Rep K H (.bl b) (.bl b)
 | int (i:Int):Rep K H (.int i) (.int i)
 | str (x:Str):Rep K H (.str x) (.str x)
 | tup {a:Addr} {vs:List V} {ds:List Dt}:BF K H a vs->aM K H vs ds->Rep K H (.ref a) (.tup ds)
 | lst {a:Addr} {vs:List V} {ds:List Dt}:H a=some (.lst vs)->aM K H vs ds->Rep K H (.ref a) (.lst ds)
 | oy {a:Addr} {ns:List Int}:lS K H a (ns.map V.int)->Rep K H (.ref a) (.oy ns)
 | cV {a:Addr} {kvs:List (Key×V)} {kds:List (Key×Dt)}:H a=some (.dK kvs)->cA K H kvs kds->Rep K H (.ref a) (.cV kds)
 | obj {a C dx:Addr} {fs:List (Str×V)} {ds:List (Str×Dt)}:Rd H a (.ins C dx fs)->aU K H fs ds->Rep K H (.ref a) (.obj C ds)
 | ty (n:String):Rep K H (.ty n) (.ty n)
 | cls (C:Addr):Rep K H (.ref C) (.cls C)
 | xo {a C:Addr} {ph:Heap->Prop}:H a=some (.ext ph)->(∀ h,ph h->WD h a C)->Rep K H (.ref a) (.xo C)
 | rF {a:Addr} {ob:Obj} {kvs:List (Key×V)} {kds:List (Key×Dt)}:H a=some (.bj ob (.dK kvs))->cA K H kvs kds->Rep K H (.ref a) (.rF kds)
 | EM {a C dx:Addr} {ph:Heap->Prop} {fs:List (Str×V)} {ds:List (Str×Dt)}:H a=some (.ext ph)->(∀ h,ph h->SK h a C dx)->H dx=some (.xd fs)->aU K H fs ds->Rep K H (.ref a) (.EM C ds)
 | d5 {a:Addr} {tg:Option (Addr×Nat)} {ob:Obj} {kvs:List (Key×V)} {kds:List (Key×Dt)}:H a=some (.kd tg ob kvs)->cA K H kvs kds->Rep K H (.ref a) (.d5 kds)
 | memo {a p:Addr} {ls:iR} {j n:Nat} {f:Nat->List (Key×FD)}:ls[j]?=some (p,f)->H a=some (.memo ls)->(p=a\/H p=some (.part a))->Known H p f n->Rep K H (.ref p) (.memo a ls j n)
 | eK {a p:Addr} {ls:iR} {j n:Nat} {f:Nat->List (Key×FD)}:ls[j]?=some (p,f)->bO H a ls->(p=a\/H p=some (.part a))->Known H p f n->Rep K H (.ref p) (.eK a ls j n)
 | wq {a:Addr} {ls:iR} {n:Nat}:(∀ (j:Nat) (p:Addr) (f:Nat->List (Key×FD)),ls[j]?=some (p,f)->Known H p f n)->Rep K H .cy (.wq a ls n)
 | wc {s a C dx:Addr} {fv:List (Str×V)} {fs:List (Str×Dt)} {gs:List (Nat->List (Key×FD))} {nm:List Str} {n:Nat} {ls:iR}:ls.map (·.2)=gs->Rd H s (.ins C dx fv)->aU K H fv (q9 fs nm a ls n)->Rep K H (.ref s) (.wc C fs gs nm n)
 | hX {v:V} {fd:FD}:Fz H v fd->Rep K H v (.hX fd)
 | mF {a:Addr} {Nd:List (List Key×Int)}:H a=some (.dT (Nd.map fun k=>(k.1,V.int k.2)))->Rep K H (.ref a) (.mF Nd)
inductive aM (K:W.Frag)(H:Hp):List V->List Dt->Prop
 | nil:aM K H [] []
 | cons {v:V} {d:Dt} {vs:List V} {ds:List Dt}:Rep K H v d->aM K H vs ds->aM K H (v::vs) (d::ds)
inductive cA (K:W.Frag)(H:Hp):List (Key×V)->List (Key×Dt)->Prop
 | nil:cA K H [] []
 | cons {k:Key} {v:V} {d:Dt} {vs:List (Key×V)} {ds:List (Key×Dt)}:Rep K H v d->cA K H vs ds->cA K H ((k,v)::vs) ((k,d)::ds)
inductive aU (K:W.Frag)(H:Hp):List (Str×V)->List (Str×Dt)->Prop
 | nil:aU K H [] []
 | cons {k:Str} {v:V} {d:Dt} {vs:List (Str×V)} {ds:List (Str×Dt)}:Rep K H v d->aU K H vs ds->aU K H ((k,v)::vs) ((k,d)::ds)
end
theorem i9 {H H':Hp}{a:Addr}{u:HO}(e:aC H H')(h:Rd H a u):Rd H' a u:=by
 rcases h with h | ⟨o,h⟩ | ⟨tg,o,kvs,h,z⟩ | ⟨o,h⟩
 . exact .inl (e _ _ h)
 . exact .inr (.inl ⟨o,e _ _ h⟩)
 . exact .inr (.inr (.inl ⟨tg,o,kvs,e _ _ h,z⟩))
 . exact .inr (.inr (.inr ⟨o,e _ _ h⟩))
theorem fj {K:W.Frag}{H H':Hp}{a:Addr}{xs:List V}(e:aC H H')(h:BF K H a xs):BF K H' a xs:=by
 rcases h with h | h
 . exact .inl (e _ _ h)
 . exact .inr h
mutual
theorem Rep.mono {K:W.Frag}{H H':Hp}(e:aC H H'):∀ {v:V} {d:Dt},Rep K H v d->Rep K H' v d
 | _,_,.cy=>.cy
 | _,_,.bl b=>.bl b
 | _,_,.int i=>.int i
 | _,_,.str x=>.str x
 | _,_,.tup h r=>.tup (fj e h) (aM.mono e r)
 | _,_,.lst h r=>.lst (e _ _ h) (aM.mono e r)
 | _,_,.oy h=>.oy (e.seq h)
 | _,_,.cV h r=>.cV (e _ _ h) (cA.mono e r)
 | _,_,.obj h r=>.obj (i9 e h) (aU.mono e r)
 | _,_,.ty n=>.ty n
 | _,_,.cls C=>.cls C
 | _,_,.xo h r=>.xo (e _ _ h) r
 | _,_,.rF h r=>.rF (e _ _ h) (cA.mono e r)
 | _,_,.EM h q g r=>.EM (e _ _ h) q (e _ _ g) (aU.mono e r)
 | _,_,.d5 h r=>.d5 (e _ _ h) (cA.mono e r)
 | _,_,.memo h1 h2 h3 h4=>.memo h1 (e _ _ h2) (h3.imp id fun z=>e _ _ z) (h4.mono e)
 | _,_,.eK h1 h2 h3 h4=>.eK h1 (h2.mono e) (h3.imp id fun z=>e _ _ z) (h4.mono e)
 | _,_,.wq h=>.wq fun j p f z=>(h j p f z).mono e
 | _,_,.wc h1 h2 h3=>.wc h1 (i9 e h2) (aU.mono e h3)
 | _,_,.hX h=>.hX (h.st fun b u q _=>e b u q)
 | _,_,.mF h=>.mF (e _ _ h)
theorem aM.mono {K:W.Frag}{H H':Hp}(e:aC H H'):∀ {v:List V} {d:List Dt},aM K H v d->aM K H' v d
 | _,_,.nil=>.nil
 | _,_,.cons h r=>.cons (Rep.mono e h) (aM.mono e r)
theorem cA.mono {K:W.Frag}{H H':Hp}(e:aC H H'):∀ {v:List (Key×V)} {d:List (Key×Dt)},cA K H v d->cA K H' v d
 | _,_,.nil=>.nil
 | _,_,.cons h r=>.cons (Rep.mono e h) (cA.mono e r)
theorem aU.mono {K:W.Frag}{H H':Hp}(e:aC H H'):∀ {v:List (Str×V)} {d:List (Str×Dt)},aU K H v d->aU K H' v d
 | _,_,.nil=>.nil
 | _,_,.cons h r=>.cons (Rep.mono e h) (aU.mono e r)
end
theorem aM.length {K:W.Frag}{H:Hp}:∀ {v:List V} {d:List Dt},aM K H v d->v.length=d.length
 | _,_,.nil=>rfl
 | _,_,.cons _ r=>congrArg (·+1) (aM.length r)
theorem aM.get {K:W.Frag}{H:Hp}:∀ {v:List V} {d:List Dt} {i:Nat} {x:Dt},aM K H v d->d[i]?=some x->∃ y,v[i]?=some y/\Rep K H y x
 | _,_,_,_,.nil,e=>by simp at e
 | _,_,0,_,.cons h _,e=>by simp at e;subst e;exact⟨_,rfl,h⟩
 | _,_,i+1,x,.cons _ r,e=>by
   obtain⟨y,h1,h2⟩:=aM.get (i:=i) (x:=x) r (by simpa using e)
   exact⟨y,by simpa using h1,h2⟩
theorem aM.get' {K:W.Frag}{H:Hp}{v:List V}{d:List Dt}{i:Nat}{y:V}(r:aM K H v d)(e:v[i]?=some y):∃ x,d[i]?=some x/\Rep K H y x:=by
 have hi:i < v.length:=(aad.mp e).1
 have Vd:i < d.length:=by rw[<- r.length];exact hi
 obtain⟨z,h1,h2⟩:=r.get (k3 Vd)
 rw[e] at h1;cases h1
 exact⟨_,k3 Vd,h2⟩
theorem aM.append {K:W.Frag}{H:Hp}:∀ {v:List V} {d:List Dt} {v':List V} {d':List Dt},aM K H v d->aM K H v' d'->aM K H (v ++ v') (d ++ d')
 | _,_,_,_,.nil,s=>s
 | _,_,_,_,.cons h r,s=>.cons h (aM.append r s)
theorem aM.take {K:W.Frag}{H:Hp}:∀ {v:List V} {d:List Dt} (n:Nat),aM K H v d->aM K H (v.take n) (d.take n)
 | _,_,0,_=>.nil
 | _,_,_+1,.nil=>.nil
 | _,_,n+1,.cons h r=>.cons h (aM.take n r)
theorem aM.drop {K:W.Frag}{H:Hp}:∀ {v:List V} {d:List Dt} (n:Nat),aM K H v d->aM K H (v.drop n) (d.drop n)
 | _,_,0,r=>r
 | _,_,_+1,.nil=>.nil
 | _,_,n+1,.cons _ r=>aM.drop n r
theorem aM.set {K:W.Frag}{H:Hp}{y:V}{x:Dt}(q:Rep K H y x):∀ {v:List V} {d:List Dt} (n:Nat),aM K H v d->aM K H (v.set n y) (d.set n x)
 | _,_,_,.nil=>.nil
 | _,_,0,.cons _ r=>.cons q r
 | _,_,n+1,.cons h r=>.cons h (aM.set q n r)
theorem aU.lookup {K:W.Frag}{H:Hp}{f:Str}:∀ {v:List (Str×V)} {d:List (Str×Dt)} {x:Dt},aU K H v d->d.lookup f=some x->∃ y,v.lookup f=some y/\Rep K H y x
 | _,_,_,.nil,e=>by simp at e
 | (k,v)::r,(_,d)::s,x,.cons h t,e=>by
   rw[aaO] at e ⊢
   cases q:(f == k) with
   | true=>rw[q] at e;cases e;exact⟨v,rfl,h⟩
   | false=>rw[q] at e;exact aU.lookup t e
theorem aU.none_of {K:W.Frag}{H:Hp}{f:Str}:∀ {v:List (Str×V)} {d:List (Str×Dt)},aU K H v d->d.lookup f=none->v.lookup f=none
 | _,_,.nil,_=>rfl
 | (k,v)::r,(_,d)::s,.cons h t,e=>by
   rw[aaO] at e ⊢
   cases q:(f == k) with
   | true=>rw[q] at e;cases e
   | false=>rw[q] at e;exact aU.none_of t e
theorem aU.length {K:W.Frag}{H:Hp}:∀ {v:List (Str×V)} {d:List (Str×Dt)},aU K H v d->v.length=d.length
 | _,_,.nil=>rfl
 | _,_,.cons _ r=>congrArg (·+1) (aU.length r)
theorem cA.length {K:W.Frag}{H:Hp}:∀ {v:List (Key×V)} {d:List (Key×Dt)},cA K H v d->v.length=d.length
 | _,_,.nil=>rfl
 | _,_,.cons _ r=>congrArg (·+1) (cA.length r)
structure aV (Hf H aH H':Hp):Prop where
 big:aC H H'
 bj:aC Hf aH
 sub:aC aH H'
 new:∀ a o,aH a=some o->(∃ o,Hf a=some o)\/H a=Option.none\/Kept o
theorem aV.refl {Hf H:Hp}(s:aC Hf H):aV Hf H Hf H:=⟨aC.refl _,aC.refl _,s,fun a o h=>.inl ⟨o,h⟩⟩
theorem aV.trans {Hf H Hf1 H1 bD H2:Hp}(a:aV Hf H Hf1 H1)(b:aV Hf1 H1 bD H2):aV Hf H bD H2:=
 ⟨a.big.trans b.big,a.bj.trans b.bj,b.sub,fun x o h=>by
   rcases b.new x o h with⟨o',h'⟩ | h' | h'
   . have e:=b.bj _ _ h'
     rw[h] at e;cases e
     exact a.new x o h'
   . exact .inr (.inl (a.big.free h'))
   . exact .inr (.inr h')⟩
theorem aV.yg {Hf H aH H':Hp}(g:aV Hf H aH H'){a:Addr}{u o:HO}(h:H a=some u)(nk:¬ Kept u)(q:aH a=some o):∃ o,Hf a=some o:=by
 rcases g.new a o q with z | z | z
 . exact z
 . rw[h] at z;cases z
 . have e:=g.big _ _ h
   rw[g.sub _ _ q] at e;cases e
   exact absurd z nk
theorem bA {H:Hp}{p:Addr}{o:HO}(n:H p=Option.none):aC H (upd H p o):=fun b u e=>by
 rw[ag (au e n)];exact e
theorem cK {Hf H:Hp}{p:Addr}{o:HO}(s:aC Hf H):aC (upd Hf p o) (upd H p o):=fun b u e=>by
 by_cases hb:b=p
 . subst hb;rw[ak] at e ⊢;exact e
 . rw[ag hb] at e ⊢;exact s _ _ e
theorem xq {Hf H:Hp}{p:Addr}{o:HO}(s:aC Hf H)(n:Hf p=Option.none):aC Hf (upd H p o):=fun b u e=>by
 rw[ag (au e n)];exact s _ _ e
theorem aV.alloc {Hf H:Hp}{p:Addr}{o:HO}(s:aC Hf H)(n:H p=Option.none):aV Hf H (upd Hf p o) (upd H p o):=
 ⟨bA n,bA (s.free n),cK s,fun a u h=>by
   by_cases hb:a=p
   . subst hb;exact .inr (.inl n)
   . rw[ag hb] at h;exact .inl ⟨u,h⟩⟩
theorem aV.d8 {Hf H:Hp}{p:Addr}{o:HO}(s:aC Hf H)(n:H p=Option.none):aV Hf H Hf (upd H p o):=
 ⟨bA n,aC.refl _,xq s (s.free n),fun a u h=>.inl ⟨u,h⟩⟩
inductive Own where
 | lst (ds:List Dt)
 | cV (kds:List (Key×Dt))
 | obj (C:Addr) (fs:List (Str×Dt))
 | Al (x:Addr) (C:Addr) (fs:List (Str×Dt))
 | pM (C:Addr) (fs:List (Str×Dt)) (gs:List (Nat->List (Key×FD))) (nm:List Str) (n:Nat)
 | yh (x:Addr) (C:Addr) (fs:List (Str×Dt)) (gs:List (Nat->List (Key×FD))) (nm:List Str) (n:Nat)
 | mF (Nd:List (List Key×Int))
set_option genInjectivity true in
inductive Slot where
 | aY
 | val (d:Dt)
 | own (o:Own)
def gj (K:W.Frag)(Hf H:Hp)(a:Addr):Own->Prop
 | .lst ds=>∃ vs,H a=some (.lst vs)/\aM K Hf vs ds
 | .cV kds=>∃ kvs,H a=some (.dK kvs)/\cA K Hf kvs kds
 | .obj C ds=>∃ dx fs,H a=some (.ins C dx fs)/\aU K Hf fs ds
 | .Al x C ds=>a=x/\∃ dx fs,H a=some (.ins C dx fs)/\aU K Hf fs ds
 | .pM C ds gs nm n=>∃ dx fs b ls,(ls:iR).map (·.2)=gs/\H a=some (.ins C dx fs)/\aU K Hf fs (q9 ds nm b ls n)
 | .yh x C ds gs nm n=>a=x/\∃ dx fs b ls,(ls:iR).map (·.2)=gs/\H a=some (.ins C dx fs)/\aU K Hf fs (q9 ds nm b ls n)
 | .mF Nd=>H a=some (.dT (Nd.map fun k=>(k.1,V.int k.2)))
theorem gj.SM {K:W.Frag}{Hf H:Hp}{a:Addr}:∀ {o:Own},gj K Hf H a o->∃ u,H a=some u/\¬ Kept u
 | .lst _,⟨_,h,_⟩=>⟨_,h,fun z=>z⟩
 | .cV _,⟨_,h,_⟩=>⟨_,h,fun z=>z⟩
 | .obj _ _,⟨_,_,h,_⟩=>⟨_,h,fun z=>z⟩
 | .Al _ _ _,⟨_,_,_,h,_⟩=>⟨_,h,fun z=>z⟩
 | .pM _ _ _ _ _,⟨_,_,_,_,_,h,_⟩=>⟨_,h,fun z=>z⟩
 | .yh _ _ _ _ _ _,⟨_,_,_,_,_,_,h,_⟩=>⟨_,h,fun z=>z⟩
 | .mF _,h=>⟨_,h,fun z=>z⟩
theorem gj.some {K:W.Frag}{Hf H:Hp}{a:Addr}:∀ {o:Own},gj K Hf H a o->∃ u,H a=some u
 | .lst _,⟨_,h,_⟩=>⟨_,h⟩
 | .cV _,⟨_,h,_⟩=>⟨_,h⟩
 | .obj _ _,⟨_,_,h,_⟩=>⟨_,h⟩
 | .Al _ _ _,⟨_,_,_,h,_⟩=>⟨_,h⟩
 | .pM _ _ _ _ _,⟨_,_,_,_,_,h,_⟩=>⟨_,h⟩
 | .yh _ _ _ _ _ _,⟨_,_,_,_,_,_,h,_⟩=>⟨_,h⟩
 | .mF _,h=>⟨_,h⟩
theorem gj.grow {K:W.Frag}{Hf H aH H':Hp}{a:Addr}(e:H' a=H a)(f:aC Hf aH):∀ {o:Own},gj K Hf H a o->gj K aH H' a o
 | .lst _,⟨vs,h,r⟩=>⟨vs,by rw[e];exact h,r.mono f⟩
 | .cV _,⟨vs,h,r⟩=>⟨vs,by rw[e];exact h,r.mono f⟩
 | .obj _ _,⟨dx,fs,h,r⟩=>⟨dx,fs,by rw[e];exact h,r.mono f⟩
 | .Al _ _ _,⟨q,dx,fs,h,r⟩=>⟨q,dx,fs,by rw[e];exact h,r.mono f⟩
 | .pM _ _ _ _ _,⟨dx,fs,b,ls,q,h,r⟩=>⟨dx,fs,b,ls,q,by rw[e];exact h,r.mono f⟩
 | .yh _ _ _ _ _ _,⟨q0,dx,fs,b,ls,q,h,r⟩=>⟨q0,dx,fs,b,ls,q,by rw[e];exact h,r.mono f⟩
 | .mF Nd,h=>(show H' a=Option.some (HO.dT (Nd.map fun k=>(k.1,V.int k.2))) from by rw[e];exact h)
structure Gr where
 Hf:Hp
 H:Hp
structure du (K:W.Frag)(G:Gr)(st:L2.St)(Hf H:Hp)(dl:List Slot):Prop where
 gr:aV G.Hf G.H Hf H
 len:st.length=dl.length
 val:∀ (i:Nat) d,dl[i]?=some (.val d)->∃ v,st[i]?=some (some v)/\Rep K Hf v d
 own:∀ (i:Nat) o,dl[i]?=some (.own o)->∃ a,st[i]?=some (some (.ref a))/\Hf a=Option.none/\G.H a=Option.none/\gj K Hf H a o
 EN:∀ (i j:Nat) o o' a,dl[i]?=some (.own o)->dl[j]?=some (.own o')->st[i]?=some (some (.ref a))->st[j]?=some (some (.ref a))->i=j
section
variable {K:W.Frag}{G:Gr}{st:L2.St}{Hf H aH H':Hp}{dl dl':List Slot}
theorem du.sub (S:du K G st Hf H dl):aC Hf H:=S.gr.sub
theorem du.grow (S:du K G st Hf H dl)(g:aV Hf H aH H'):du K G st aH H' dl:=by
 refine⟨S.gr.trans g,S.len,fun i d h=>let ⟨v,h1,h2⟩:=S.val i d h;⟨v,h1,h2.mono g.bj⟩,fun i o h=>?_,S.EN⟩
 obtain⟨a,h1,h2,h3,h4⟩:=S.own i o h
 obtain⟨u,hu,nk⟩:=h4.SM
 refine⟨a,h1,?_,h3,h4.grow (by rw[hu];exact g.big _ _ hu) g.bj⟩
 cases q:aH a with
 | none=>rfl
 | some u'=>
   obtain⟨o',z⟩:=g.yg hu nk q
   rw[h2] at z;cases z
theorem du.set (S:du K G st Hf H dl){i:Nat}{v:V}{d:Dt}(r:Rep K Hf v d):du K G (st.set i (some v)) Hf H (dl.set i (.val d)):=by
 have ln:=S.len
 refine⟨S.gr,by simp[S.len],fun j x h=>?_,fun j o h=>?_,fun j k o o' a h1 h2 h3 h4=>?_⟩
 . by_cases e:i=j
   . subst e
     by_cases hl:i < dl.length
     . rw[aae hl] at h;cases h
       exact⟨v,aae (by omega),r⟩
     . rw[aaw (by simp;omega)] at h;cases h
   . rw[aaf e] at h ⊢;exact S.val j x h
 . by_cases e:i=j
   . subst e
     by_cases hl:i < dl.length
     . rw[aae hl] at h;cases h
     . rw[aaw (by simp;omega)] at h;cases h
   . rw[aaf e] at h ⊢;exact S.own j o h
 . have nj:i≠j:=fun e=>by
     subst e
     by_cases hl:i < dl.length
     . rw[aae hl] at h1;cases h1
     . rw[aaw (by simp;omega)] at h1;cases h1
   have nk:i≠k:=fun e=>by
     subst e
     by_cases hl:i < dl.length
     . rw[aae hl] at h2;cases h2
     . rw[aaw (by simp;omega)] at h2;cases h2
   rw[aaf nj] at h1 h3
   rw[aaf nk] at h2 h4
   exact S.EN j k o o' a h1 h2 h3 h4
theorem du.ER (S:du K G st Hf H dl){i:Nat}{p:Addr}{o:HO}{w w':Own}(hi:dl[i]?=some (.own w))(hp:st[i]?=some (some (.ref p)))(r:gj K Hf (upd H p o) p w'):du K G st Hf (upd H p o) (dl.set i (.own w')):=by
 have ln:=S.len
 obtain⟨p',q1,q2,q3,q4⟩:=S.own i w hi
 rw[hp] at q1;cases q1
 have hl:i < dl.length:=(aad.mp hi).1
 have g:aV G.Hf G.H Hf (upd H p o):=⟨fun b u e=>by rw[ag (au e q3)];exact S.gr.big _ _ e,S.gr.bj,xq S.sub q2,S.gr.new⟩
 refine⟨g,by simp[S.len],fun j x h=>?_,fun j o' h=>?_,fun j k o1 o2 a h1 h2 h3 h4=>?_⟩
 . by_cases e:i=j
   . subst e;rw[aae hl] at h;cases h
   . rw[aaf e] at h;exact S.val j x h
 . by_cases e:i=j
   . subst e;rw[aae hl] at h;cases h
     exact⟨p,hp,q2,q3,r⟩
   . rw[aaf e] at h
     obtain⟨a,z1,z2,z3,z4⟩:=S.own j o' h
     have:a≠p:=fun q=>by subst q;exact e (S.EN i j _ _ _ hi h hp z1)
     exact⟨a,z1,z2,z3,z4.grow (ag this) (aC.refl _)⟩
 . have tr:∀ (j:Nat) o',(dl.set i (.own w'))[j]?=some (.own o')->∃ OP,dl[j]?=some (.own OP):=fun j o' h=>by
     by_cases e:i=j
     . subst e;exact⟨_,hi⟩
     . rw[aaf e] at h;exact⟨_,h⟩
   obtain⟨_,t1⟩:=tr j o1 h1
   obtain⟨_,t2⟩:=tr k o2 h2
   exact S.EN j k _ _ a t1 t2 h3 h4
def Le (dl dl':List Slot):Prop:=dl.length=dl'.length/\∀ (i:Nat) s,dl[i]?=some s->s≠.aY->dl'[i]?=some s
theorem Le.refl (dl:List Slot):Le dl dl:=⟨rfl,fun _ _ h _=>h⟩
theorem du.weak (S:du K G st Hf H dl')(l:Le dl dl'):du K G st Hf H dl:=
 ⟨S.gr,by rw[S.len,l.1],fun i d h=>S.val i d (l.2 i _ h (by intro z;cases z)),fun i o h=>S.own i o (l.2 i _ h (by intro z;cases z)),
  fun i j o o' a h1 h2=>S.EN i j o o' a (l.2 i _ h1 (by intro z;cases z)) (l.2 j _ h2 (by intro z;cases z))⟩
def SN:List Slot->List Slot->Prop
 | [],[]=>True
 | .aY::r,_::s=>SN r s
 | x::r,y::s=>x=y/\SN r s
 | _,_=>False
theorem Le.of:∀ {dl dl':List Slot},SN dl dl'->Le dl dl'
 | [],[],_=>Le.refl _
 | .aY::r,y::s,h=>by
   have q:=Le.of (dl:=r) (dl':=s) h
   refine⟨congrArg (·+1) q.1,fun i x e n=>?_⟩
   cases i with
   | zero=>simp at e;exact absurd e.symm n
   | succ i=>exact q.2 i x (by simpa using e) n
 | .val d::r,y::s,h=>by
   obtain⟨h1,h2⟩:=(show Slot.val d=y/\SN r s from h)
   subst h1
   have q:=Le.of h2
   refine⟨congrArg (·+1) q.1,fun i x e n=>?_⟩
   cases i with
   | zero=>exact e
   | succ i=>exact q.2 i x (by simpa using e) n
 | .own d::r,y::s,h=>by
   obtain⟨h1,h2⟩:=(show Slot.own d=y/\SN r s from h)
   subst h1
   have q:=Le.of h2
   refine⟨congrArg (·+1) q.1,fun i x e n=>?_⟩
   cases i with
   | zero=>exact e
   | succ i=>exact q.2 i x (by simpa using e) n
end
def tD (K:PySem.W.Frag)(G:Gr)(dl:List Slot)(d:Dt):TE:=fun st H Q=>∃ Hf,du K G st Hf H dl/\∀ v aH H',aV Hf H aH H'->Rep K aH v d->Q v H'
def OQ (K:PySem.W.Frag)(G:Gr)(dl:List Slot)(ds:List Dt):TA:=fun st H Q=>∃ Hf,du K G st Hf H dl/\∀ vs aH H',aV Hf H aH H'->aM K aH vs ds->Q vs H'
def SO (K:PySem.W.Frag)(G:Gr)(dl:List Slot)(b:Bool):TT:=fun st H Q=>∃ Hf,du K G st Hf H dl/\∀ aH H',aV Hf H aH H'->Q b H'
abbrev EE (X:Cx)(G:Gr)(dl:List Slot)(e:Expr)(d:Dt):Prop:=PE X e (tD X.K G dl d)
abbrev EA (X:Cx)(G:Gr)(dl:List Slot)(es:List Expr)(ds:List Dt):Prop:=PA X es (OQ X.K G dl ds)
abbrev EB (X:Cx)(G:Gr)(dl:List Slot)(e:Expr)(b:Bool):Prop:=PT X e (SO X.K G dl b)
def ExcAt (K:PySem.W.Frag)(Hf:Hp)(od:Option Addr)(fs:List (Str×Dt)):Prop:=match od with
 | none=>fs=[]
 | some dx=>∃ fv,Hf dx=some (.xd fv)/\aU K Hf fv fs
inductive Out where
 | nx (dl:List Slot)
 | rt (d:Dt)
 | ro (w:Own)
 | bk (dl:List Slot)
 | ct (dl:List Slot)
 | ex (c:Value) (fs:List (Str×Dt))
 | raw (R:L2.St->Hp->Prop)
def wt (K:W.Frag)(G:Gr)(E:XK)(D:Ends)(Hf:Hp):Out->Prop
 | .nx dl=>∀ st aH H,aC Hf aH->du K G st aH H dl->D.nx st H
 | .bk dl=>∀ st aH H,aC Hf aH->du K G st aH H dl->D.bk st H
 | .ct dl=>∀ st aH H,aC Hf aH->du K G st aH H dl->D.ct st H
 | .rt d=>∀ v aH H,aV G.Hf G.H aH H->Rep K aH v d->D.rt v H
 | .ro o=>∀ p aH H,aV G.Hf G.H aH H->G.H p=none->aH p=none->gj K aH H p o->D.rt (.ref p) H
 | .ex c fs=>∀ od aH H,aV G.Hf G.H aH H->ExcAt K aH od fs->E c od H
 | .raw R=>∀ st H,R st H->D.nx st H
theorem wt.mono {K:W.Frag}{G:Gr}{E:XK}{D:Ends}{Hf Hf1:Hp}(s:aC Hf Hf1):∀ {o:Out},wt K G E D Hf o->wt K G E D Hf1 o
 | .nx _,k=>fun st aH H s' S=>k st aH H (s.trans s') S
 | .bk _,k=>fun st aH H s' S=>k st aH H (s.trans s') S
 | .ct _,k=>fun st aH H s' S=>k st aH H (s.trans s') S
 | .rt _,k=>k
 | .ro _,k=>k
 | .ex _ _,k=>k
 | .raw _,k=>k
def tO (K:W.Frag)(G:Gr)(E:XK)(dl:List Slot)(o:Out):TS:=fun D st H=>∃ Hf,du K G st Hf H dl/\wt K G E D Hf o
abbrev ES (X:Cx)(G:Gr)(E:XK)(dl:List Slot)(s:Stmt)(o:Out):Prop:=PS X s (tO X.K G E dl o)
abbrev l4 (X:Cx)(G:Gr)(E:XK)(dl:List Slot)(s:List Stmt)(o:Out):Prop:=BE X s (tO X.K G E dl o)
theorem hV {X:Cx}{e:Expr}{t t':TE}(h:PE X e t)(i:∀ st H Q,t' st H Q->t st H Q):PE X e t':=fun pins s st H Q I q=>h pins s st H Q I (i st H Q q)
theorem Ve {X:Cx}{e:Expr}{t t':TT}(h:PT X e t)(i:∀ st H Q,t' st H Q->t st H Q):PT X e t':=fun pins s st H Q I q=>h pins s st H Q I (i st H Q q)
theorem YL {X:Cx}{e:List Expr}{t t':TA}(h:PA X e t)(i:∀ st H Q,t' st H Q->t st H Q):PA X e t':=fun pos pins s st H Q I q=>h pos pins s st H Q I (i st H Q q)
theorem tV {X:Cx}{e:Stmt}{t t':TS}(h:PS X e t)(i:∀ D st H,t' D st H->t D st H):PS X e t':=fun pins s st H D I q=>h pins s st H D I (i D st H q)
theorem yi {X:Cx}{e:List Stmt}{t t':TS}(h:BE X e t)(i:∀ D st H,t' D st H->t D st H):BE X e t':=fun pins s st H D I q=>h pins s st H D I (i D st H q)
section
variable {X:Cx}{G:Gr}{dl:List Slot}{a b e:Expr}{i j:Int}{d d1 d2:Dt}{pos:Pos}{x y:Str}{u v:Bool}
theorem aa (n:Nat){x:Str}{pos:Pos}(hd:dl[n]?=some (.val d):=by rfl)(hN:X.N[n]?=some x:=by rfl)(hv:uB X.env.scope x:=by first | exact aaL rfl | exact aaB (aaL rfl) | exact aaB (aaB rfl))(hb:(x == ("__debug__":Str))=false:=by decide)(lV:(x == ("__classdict__":Str))=false:=by decide):EE X G dl (.Name x pos) d:=
 hV (iU hN hv hb lV) fun st H Q zq=>aaa zq fun Hf zq=>have S:=zq.1;have k:=zq.2;let ⟨v,h1,h2⟩:=S.val n d hd;⟨v,h1,k v Hf H (.refl S.sub) h2⟩
theorem aj {z:Int}{j pos}:EE X G dl (.Constant (.int z) j pos) (.int z):=hV N7 fun st H Q zq=>aaa zq fun Hf zq=>have S:=zq.1;have k:=zq.2;k _ Hf H (.refl S.sub) (.int z)
theorem dF {z:Str}{j pos}:EE X G dl (.Constant (.str z) j pos) (.str z):=hV N8 fun st H Q zq=>aaa zq fun Hf zq=>have S:=zq.1;have k:=zq.2;k _ Hf H (.refl S.sub) (.str z)
def Di (K:W.Frag)(r:R2)(d1 d2 d:Dt):Prop:=∀ v w Hf H Q,aC Hf H->Rep K Hf v d1->Rep K Hf w d2->(∀ u aH H',aV Hf H aH H'->Rep K aH u d->Q u H')->r v w H Q
theorem uR {r:R2}(h:Di X.K r d1 d2 d):∀ st H Q,tD X.K G dl d st H Q->R5 r (tD X.K G dl d1) (tD X.K G dl d2) st H Q:=fun st H Q zq=>aaa zq fun Hf zq=>have S:=zq.1;have k:=zq.2;
 ⟨Hf,S,fun v Hf1 H1 g1 r1=>⟨Hf1,S.grow g1,fun w bD H2 g2 r2=>h v w bD H2 Q g2.sub (r1.mono g2.bj) r2 fun u ia H3 g3 r3=>k u ia H3 ((g1.trans g2).trans g3) r3⟩⟩
theorem uS {op:Operator}{r:R2}(ho:pj X (binaryOp op) r)(h:Di X.K r d1 d2 d)(ha:EE X G dl a d1)(hb:EE X G dl b d2):EE X G dl (.BinOp a op b pos) d:=hV (M7 ho ha hb) (uR h)
theorem BV {op:CmpOp}{r:R2}(ho:pj X (compareOp op) r)(h:Di X.K r d1 d2 d)(hm:behindInMarks op b=false)(ha:EE X G dl a d1)(hb:EE X G dl b d2):EE X G dl (.Compare a [op] [b] pos) d:=hV (KS ho ha hb hm) (uR h)
theorem lI {op:CmpOp}{r:R2}(ho:pj X (compareOp op) r)(h:Di X.K r d1 d2 (.bl u))(hm:behindInMarks op b=false)(ha:EE X G dl a d1)(hb:EE X G dl b d2):EB X G dl (.Compare a [op] [b] pos) u:=
 Ve (KU ho ha hb hm) fun st H Q zq=>aaa zq fun Hf zq=>have S:=zq.1;have k:=zq.2;uR h st H _ ⟨Hf,S,fun v aH H' g r=>by cases r;exact⟨u,rfl,k aH H' g⟩⟩
theorem sL {K:W.Frag}{g:Int->Int->V}{g':Int->Int->Dt}(h:∀ K H i j,Rep K H (g i j) (g' i j)):Di K (KP g) (.int i) (.int j) (g' i j):=fun v w Hf H Q s r1 r2 k=>by
 cases r1;cases r2;exact⟨i,j,rfl,rfl,k _ Hf H (.refl s) (h _ _ _ _)⟩
theorem K9 {K:W.Frag}{C:Int->Int->Prop}{g:Int->Int->V}{g':Int->Int->Dt}(h:∀ K H i j,Rep K H (g i j) (g' i j))(hc:C i j):Di K (rI C g) (.int i) (.int j) (g' i j):=fun v w Hf H Q s r1 r2 k=>by
 cases r1;cases r2;exact⟨i,j,rfl,rfl,hc,k _ Hf H (.refl s) (h _ _ _ _)⟩
theorem aL (ha:EE X G dl a (.int i))(hb:EE X G dl b (.int j)):EE X G dl (.BinOp a .Add b pos) (.int (i+j)):=uS Oo (sL (g':=fun i j=>.int (i+j)) fun _ _ _ _=>.int _) ha hb
theorem ib (ha:EE X G dl a (.int i))(hb:EE X G dl b (.int j)):EE X G dl (.BinOp a .Sub b pos) (.int (i - j)):=uS Oq (sL (g':=fun i j=>.int (i - j)) fun _ _ _ _=>.int _) ha hb
theorem La:pj X (binaryOp .Mult) (rI IntMulOk fun i j=>.int (i * j)):=U8 fun _ _ _ _ _ _ _ hc q=>mul_int q hc
theorem iV (ha:EE X G dl a (.int i))(hb:EE X G dl b (.int j))(hc:IntMulOk i j):EE X G dl (.BinOp a .Mult b pos) (.int (i * j)):=uS La (K9 (g':=fun i j=>.int (i * j)) (fun _ _ _ _=>.int _) hc) ha hb
theorem GS:pj X (binaryOp .FloorDiv) (rI (fun _ j=>0 < j/\j.natAbs.log2 < 9000) fun i j=>.int (i / j)):=U8 fun i j _ _ _ _ _ hc q=>by
 refine floordiv_int (abb hc.1) ?_ (.inl (PyProof.noPylong_of_log2 hc.2))
 rw[Int.fdiv_eq_ediv_of_nonneg _ (Int.le_of_lt hc.1)]
 exact q
theorem jV (ha:EE X G dl a (.int i))(hb:EE X G dl b (.int j))(hc:0 < j/\j.natAbs.log2 < 9000):EE X G dl (.BinOp a .FloorDiv b pos) (.int (i / j)):=uS GS (K9 (g':=fun i j=>.int (i / j)) (fun _ _ _ _=>.int _) hc) ha hb
theorem fk (ha:EE X G dl a (.int i))(hb:EE X G dl b (.int j))(hc:0 < j):EE X G dl (.BinOp a .Mod b pos) (.int (i % j)):=uS Ot (K9 (g':=fun i j=>.int (i % j)) (fun _ _ _ _=>.int _) hc) ha hb
theorem OR (ha:EE X G dl a (.int i))(hb:EE X G dl b (.int j))(hc:R8 i j):EE X G dl (.BinOp a .Pow b pos) (.int (i ^ j.toNat)):=uS Ou (K9 (g':=fun i j=>.int (i ^ j.toNat)) (fun _ _ _ _=>.int _) hc) ha hb
theorem OS {K:W.Frag}(h:x.length+y.length<=sizeLine):Di K (fun a b H Q=>∃ i j,a=.str i/\b=.str j/\i.length+j.length<=sizeLine/\Q (.str (i ++ j)) H) (.str x) (.str y) (.str (x ++ y)):=fun v w Hf H Q s r1 r2 k=>by
 cases r1;cases r2;exact⟨x,y,rfl,rfl,h,k _ Hf H (.refl s) (.str _)⟩
theorem OT (ha:EE X G dl a (.str x))(hb:EE X G dl b (.str y))(h:x.length+y.length<=sizeLine):EE X G dl (.BinOp a .Add b pos) (.str (x ++ y)):=uS BK (OS h) ha hb
theorem iW (ha:EE X G dl a (.int i)):EE X G dl (.UnaryOp .USub a pos) (.int (-i)):=
 hV (R6 Ov ha) fun st H Q zq=>aaa zq fun Hf zq=>have S:=zq.1;have k:=zq.2;⟨Hf,S,fun v Hf1 H1 g1 r1=>by cases r1;exact⟨i,rfl,k _ Hf1 H1 g1 (.int _)⟩⟩
theorem GU (h:EE X G dl e (.bl u))(he:∀ whole,isTrue e X.env whole=(do let v <- whole;standAt e.pos;holding [v] (truthy v)):=by intro _;rfl):EB X G dl e u:=
 Ve (Oa h he) fun st H Q zq=>aaa zq fun Hf zq=>have S:=zq.1;have k:=zq.2;⟨Hf,S,fun v Hf1 H1 g1 r1=>by cases r1;exact⟨u,rfl,k Hf1 H1 g1⟩⟩
end
section
variable {X:Cx}{G:Gr}{E:XK}{dl dl1:List Slot}{a b c e:Expr}{es:List Expr}{i j:Int}{d d1:Dt}{ds:List Dt}{pos:Pos}{o o':Out}{x:Str}{u v:Bool}{rest:List Expr}{sts ET:List Stmt}{s:Stmt}
theorem BW:PE X e fun _ _ _=>False:=fun _ _ _ _ _ _ h=>h.elim
theorem pw_nev:PW X e fun _ _ _=>False:=fun _ _ _ _ _ _ _ h=>h.elim
abbrev EW (X:Cx)(G:Gr)(dl:List Slot)(e:Expr)(b:Bool):Prop:=PW X e (SO X.K G dl b)
theorem Vg {e:Expr}{t t':TT}(h:PW X e t)(i:∀ st H Q,t' st H Q->t st H Q):PW X e t':=fun wh pins s st H Q I q=>h wh pins s st H Q I (i st H Q q)
theorem qt (ha:EB X G dl a u):EW X G dl (.BoolOp .And [a] pos) u:=pw_and1 ha
theorem uT (ha:EB X G dl a u):EW X G dl (.BoolOp .Or [a] pos) u:=pw_or1 ha
theorem nK (ha:EB X G dl a u)(hb:u=true->EW X G dl (.BoolOp .And (b::rest) pos) v):EW X G dl (.BoolOp .And (a::b::rest) pos) (u && v):=by
 cases u with
 | true=>exact Vg (pw_and ha (hb rfl)) fun st H Q zq=>aaa zq fun Hf zq=>have S:=zq.1;have k:=zq.2;⟨Hf,S,fun Hf1 H1 g1=>Ak ⟨Hf1,S.grow g1,fun bD H2 g2=>k bD H2 (g1.trans g2)⟩⟩
 | false=>exact Vg (pw_and ha pw_nev) fun st H Q zq=>aaa zq fun Hf zq=>have S:=zq.1;have k:=zq.2;⟨Hf,S,fun Hf1 H1 g1=>Aj (k Hf1 H1 g1)⟩
theorem Am (ha:EB X G dl a u)(hb:u=false->EW X G dl (.BoolOp .Or (b::rest) pos) v):EW X G dl (.BoolOp .Or (a::b::rest) pos) (u || v):=by
 cases u with
 | false=>exact Vg (pw_or ha (hb rfl)) fun st H Q zq=>aaa zq fun Hf zq=>have S:=zq.1;have k:=zq.2;⟨Hf,S,fun Hf1 H1 g1=>Aj ⟨Hf1,S.grow g1,fun bD H2 g2=>k bD H2 (g1.trans g2)⟩⟩
 | true=>exact Vg (pw_or ha pw_nev) fun st H Q zq=>aaa zq fun Hf zq=>have S:=zq.1;have k:=zq.2;⟨Hf,S,fun Hf1 H1 g1=>Ak (k Hf1 H1 g1)⟩
theorem sS (h:EW X G dl e u):EB X G dl e u:=h.pt
theorem OU (ha:EB X G dl a u):EB X G dl (.UnaryOp .Not a pos) (!u):=Ve (Ob ha) fun st H Q zq=>aaa zq fun Hf zq=>have S:=zq.1;have k:=zq.2;⟨Hf,S,fun Hf1 H1 g1=>k Hf1 H1 g1⟩
theorem tW (ha:EE X G dl a (.bl u)):EE X G dl (.BoolOp .And [a] pos) (.bl u):=Oc ha
theorem yj (ha:EE X G dl a (.bl u))(hb:u=true->EE X G dl (.BoolOp .And (b::rest) pos) (.bl v)):EE X G dl (.BoolOp .And (a::b::rest) pos) (.bl (u && v)):=by
 cases u with
 | true=>exact hV (Gn ha (hb rfl)) fun st H Q zq=>aaa zq fun Hf zq=>have S:=zq.1;have k:=zq.2;⟨Hf,S,fun w Hf1 H1 g1 r1=>by cases r1;exact⟨true,rfl,Ak ⟨Hf1,S.grow g1,fun w bD H2 g2 r2=>k w bD H2 (g1.trans g2) r2⟩⟩⟩
 | false=>exact hV (Gn ha BW) fun st H Q zq=>aaa zq fun Hf zq=>have S:=zq.1;have k:=zq.2;⟨Hf,S,fun w Hf1 H1 g1 r1=>by cases r1;exact⟨false,rfl,Aj (k _ Hf1 H1 g1 (.bl _))⟩⟩
theorem dG (h:EB X G dl e u)(q:u=v):EB X G dl e v:=by subst q;exact h
theorem bR (h:EE X G dl e d)(q:d=d1):EE X G dl e d1:=by subst q;exact h
theorem OV (hc:EB X G dl c u)(ha:u=true->EE X G dl a d)(hb:u=false->EE X G dl b d):EE X G dl (.IfExp c a b pos) d:=by
 cases u with
 | true=>exact hV (zY hc (ha rfl) BW) fun st H Q zq=>aaa zq fun Hf zq=>have S:=zq.1;have k:=zq.2;⟨Hf,S,fun Hf1 H1 g1=>Ak ⟨Hf1,S.grow g1,fun w bD H2 g2 r2=>k w bD H2 (g1.trans g2) r2⟩⟩
 | false=>exact hV (zY hc BW (hb rfl)) fun st H Q zq=>aaa zq fun Hf zq=>have S:=zq.1;have k:=zq.2;⟨Hf,S,fun Hf1 H1 g1=>Aj ⟨Hf1,S.grow g1,fun w bD H2 g2 r2=>k w bD H2 (g1.trans g2) r2⟩⟩
theorem ai:EA X G dl [] []:=YL nG fun st H Q zq=>aaa zq fun Hf zq=>have S:=zq.1;have k:=zq.2;k [] Hf H (.refl S.sub) .nil
theorem ae (ha:EE X G dl e d)(hr:EA X G dl es ds)(hs:starEach (e::es) X.env=(false,eval e X.env)::starEach es X.env:=by rfl):EA X G dl (e::es) (d::ds):=
 YL (lj ha hr hs) fun st H Q zq=>aaa zq fun Hf zq=>have S:=zq.1;have k:=zq.2;⟨Hf,S,fun v Hf1 H1 g1 r1=>⟨Hf1,S.grow g1,fun vs bD H2 g2 r2=>k _ bD H2 (g1.trans g2) (.cons (r1.mono g2.bj) r2)⟩⟩
theorem cB {x1}(h:EA X G dl es ds)(hl:ds.length<=sizeLine:=by decide):EE X G dl (.Tuple es x1 pos) (.tup ds):=
 hV (Oy h) fun st H Q zq=>aaa zq fun Hf zq=>have S:=zq.1;have k:=zq.2;⟨Hf,S,fun vs Hf1 H1 g1 r1=>⟨by rw[r1.length];exact hl,fun p hp=>k _ (upd Hf1 p (.tup vs)) _ (g1.trans (.alloc g1.sub hp)) (.tup (.of ak) (r1.mono (bA (g1.sub.free hp))))⟩⟩
theorem BX (h:EA X G dl es ds)(hl:ds.length<=sizeLine:=by decide):EE X G dl (.List es pos) (.lst ds):=
 hV (uL h) fun st H Q zq=>aaa zq fun Hf zq=>have S:=zq.1;have k:=zq.2;⟨Hf,S,fun vs Hf1 H1 g1 r1=>⟨by rw[r1.length];exact hl,fun p hp=>k _ (upd Hf1 p (.lst vs)) _ (g1.trans (.alloc g1.sub hp)) (.lst ak (r1.mono (bA (g1.sub.free hp))))⟩⟩
theorem aM.lZ {K:W.Frag}{H:Hp}{vs:List V}{ds:List Dt}{i:Int}{d:Dt}(r:aM K H vs ds)(h:L2.lZ ds i=some d):∃ v,L2.lZ vs i=some v/\Rep K H v d:=by
 unfold L2.lZ at h ⊢
 rw[r.length]
 cases q:Ac ds.length i with
 | none=>rw[q] at h;cases h
 | some n=>
   rw[q] at h
   exact r.get h
theorem aD (ha:EE X G dl a (.tup ds))(hb:EE X G dl b (.int i))(h:lZ ds i=some d)(hs:jU b:=by intro _ _;rfl):EE X G dl (.Subscript a b pos) d:=
 hV (uM OB ha hb hs) (uR fun v w Hf H Q s r1 r2 k=>by
   cases r1 with
   | tup q r=>
     cases r2
     obtain⟨v,h1,h2⟩:=r.lZ h
     exact⟨_,_,i,v,rfl,rfl,fj s q,h1,k v Hf H (.refl s) h2⟩)
theorem pN (ha:EE X G dl a (.lst ds))(hb:EE X G dl b (.int i))(h:lZ ds i=some d)(hs:jU b:=by intro _ _;rfl):EE X G dl (.Subscript a b pos) d:=
 hV (uM ya ha hb hs) (uR fun v w Hf H Q s r1 r2 k=>by
   cases r1 with
   | lst q r=>
     cases r2
     obtain⟨v,h1,h2⟩:=r.lZ h
     exact⟨_,_,i,v,rfl,rfl,.of (s _ _ q),h1,k v Hf H (.refl s) h2⟩)
theorem rG {ns:List Int}{z:Int}(ha:EE X G dl a (.oy ns))(hb:EE X G dl b (.int i))(h:lZ ns i=some z)(hs:jU b:=by intro _ _;rfl):EE X G dl (.Subscript a b pos) (.int z):=
 hV (uM ya ha hb hs) (uR fun v w Hf H Q s r1 r2 k=>by
   cases r1 with
   | oy q=>
     cases r2
     have h':L2.lZ (ns.map V.int) i=some (.int z):=by
       unfold L2.lZ at h ⊢
       rw[Bn]
       cases q2:Ac ns.length i with
       | none=>rw[q2] at h;cases h
       | some n=>
         rw[q2] at h
         show(ns.map V.int)[n]?=_
         rw[aab,show ns[n]?=some z from h];rfl
     exact⟨_,_,i,_,rfl,rfl,s.seq q,h',k _ Hf H (.refl s) (.int z)⟩)
theorem OW {z:Nat}(ha:EE X G dl a (.str x))(hb:EE X G dl b (.int i))(h:lZ x.cps.toList i=some z)(hl:x.length<=sizeLine)(hs:jU b:=by intro _ _;rfl):EE X G dl (.Subscript a b pos) (.str ⟨#[z]⟩):=
 hV (uM OC ha hb hs) (uR fun v w Hf H Q s r1 r2 k=>by
   cases r1;cases r2
   exact⟨x,i,z,rfl,rfl,hl,h,k _ Hf H (.refl s) (.str _)⟩)
theorem dn:l4 X G E dl [] (.nx dl):=yi KL fun D st H zq=>aaa zq fun Hf zq=>have S:=zq.1;have k:=zq.2;k st Hf H (aC.refl _) S
theorem ah (h1:ES X G E dl s (.nx dl1))(h2:l4 X G E dl1 sts o):l4 X G E dl (s::sts) o:=
 yi (lW h1 h2) fun D st H zq=>aaa zq fun Hf zq=>have S:=zq.1;have k:=zq.2;⟨Hf,S,fun jq aH H' s' S'=>⟨aH,S',k.mono s'⟩⟩
theorem ao (h1:ES X G E dl s o):l4 X G E dl [s] o:=mC h1
theorem wt.stop {K:W.Frag}{D D':Ends}{Hf:Hp}(h:(∀ dl,o≠.nx dl)/\∀ R,o≠.raw R)(hr:D'.rt=D.rt)(hb:D'.bk=D.bk)(hc:D'.ct=D.ct)(k:wt K G E D Hf o):wt K G E D' Hf o:=by
 cases o with
 | nx dl=>exact absurd rfl (h.1 dl)
 | raw R=>exact absurd rfl (h.2 R)
 | rt d=>show ∀ v Hf H,_->_->D'.rt v H;rw[hr];exact k
 | ro d=>show ∀ v Hf H,_->_->_->_->D'.rt _ H;rw[hr];exact k
 | bk d=>show ∀ v Hf H,_->_->D'.bk v H;rw[hb];exact k
 | ct d=>show ∀ v Hf H,_->_->D'.ct v H;rw[hc];exact k
 | ex c fs=>exact k
theorem tX (h1:ES X G E dl s o)(h:(∀ dl,o≠.nx dl)/\(∀ R,o≠.raw R):=by exact⟨(fun _ z=>nomatch z),(fun _ z=>nomatch z)⟩):l4 X G E dl (s::sts) o:=
 yi (lW h1 (rm (sts:=sts))) fun D st H zq=>aaa zq fun Hf zq=>have S:=zq.1;have k:=zq.2;⟨Hf,S,wt.stop (D:=D) h rfl rfl rfl k⟩
theorem Dj (h1:l4 X G E dl1 sts o)(l:Le dl1 dl):l4 X G E dl sts o:=yi h1 fun D st H zq=>aaa zq fun Hf zq=>have S:=zq.1;have k:=zq.2;⟨Hf,S.weak l,k⟩
theorem cN (hc:EB X G dl c u)(h1:u=true->l4 X G E dl sts o)(h2:u=false->l4 X G E dl ET o):ES X G E dl (.If c sts ET pos) o:=by
 cases u with
 | true=>exact tV (M5 hc (h1 rfl) (rm (sts:=ET))) fun D st H zq=>aaa zq fun Hf zq=>have S:=zq.1;have k:=zq.2;⟨Hf,S,fun Hf1 H1 g1=>Ak ⟨Hf1,S.grow g1,k.mono g1.bj⟩⟩
 | false=>exact tV (M5 hc (rm (sts:=sts)) (h2 rfl)) fun D st H zq=>aaa zq fun Hf zq=>have S:=zq.1;have k:=zq.2;⟨Hf,S,fun Hf1 H1 g1=>Aj ⟨Hf1,S.grow g1,k.mono g1.bj⟩⟩
theorem aF (h:EE X G dl e d):ES X G E dl (.Return (some e) pos) (.rt d):=tV (BJ h) fun D st H zq=>aaa zq fun Hf zq=>have S:=zq.1;have k:=zq.2;⟨Hf,S,fun v Hf1 H1 g1 r1=>k v Hf1 H1 (S.gr.trans g1) r1⟩
theorem qu (h:EE X G dl e d)(hs:swapsWith e none pos.line X.env=pure false:=by rfl):ES X G E dl (.Expr e pos) (.nx dl):=
 tV (lg h hs) fun D st H zq=>aaa zq fun Hf zq=>have S:=zq.1;have k:=zq.2;⟨Hf,S,fun v Hf1 H1 g1 r1=>k st Hf1 H1 g1.bj (S.grow g1)⟩
theorem aw (n:Nat){x:Str}{pos':Pos}(hN:X.N.Nodup)(he:EE X G dl e d)(hi:X.N[n]?=some x:=by rfl)(hx:Loc X.env.scope x:=by first | exact aaL rfl | exact aaB rfl)(hs:swapsWith e (some (.Name x pos')) pos.line X.env=pure false:=by rfl)(hf:X.fn x=true\/X.env.scope.names.lookup x=some .local:=by first | exact .inl rfl | exact .inr rfl | assumption):ES X G E dl (.Assign [.Name x pos'] e pos) (.nx (dl.set n (.val d))):=
 tV (x4 hN hi hx he hs hf) fun D st H zq=>aaa zq fun Hf zq=>have S:=zq.1;have k:=zq.2;⟨Hf,S,fun v Hf1 H1 g1 r1=>k _ Hf1 H1 g1.bj ((S.grow g1).set r1)⟩
inductive pk (X:Cx)(G:Gr)(E:XK)(body:List Stmt)(S:Nat->List Slot)(pre:Nat->List Slot)(n m:Nat):Out->Prop
 | all (h:m=n):pk X G E body S pre n m (.nx (S n))
 | rt {d:Dt} (h:m < n) (hb:l4 X G E (pre m) body (.rt d)):pk X G E body S pre n m (.rt d)
 | ro {d:Own} (h:m < n) (hb:l4 X G E (pre m) body (.ro d)):pk X G E body S pre n m (.ro d)
 | bk {dl':List Slot} (h:m < n) (hb:l4 X G E (pre m) body (.bk dl')):pk X G E body S pre n m (.nx dl')
 | ex {c:Value} {fs:List (Str×Dt)} (h:m < n) (hb:l4 X G E (pre m) body (.ex c fs)):pk X G E body S pre n m (.ex c fs)
inductive Goes (X:Cx)(G:Gr)(E:XK)(body:List Stmt)(pre post:List Slot):Prop
 | nx {dl':List Slot} (hb:l4 X G E pre body (.nx dl')) (l:Le post dl')
 | ct {dl':List Slot} (hb:l4 X G E pre body (.ct dl')) (l:Le post dl')
def GV (X:Cx)(G:Gr)(E:XK)(body:List Stmt):TS:=fun D st H=>∃ pre o,l4 X G E pre body o/\tO X.K G E pre o D st H
theorem qv {body:List Stmt}:BE X body (GV X G E body):=fun pins s st H D J ⟨pre,o,h,q⟩=>h pins s st H D J q
theorem oA {body:List Stmt}{pre post:List Slot}{D:Ends}{st:L2.St}{Hf H:Hp}(g:Goes X G E body pre post)(S:du X.K G st Hf H pre)(hn:∀ st aH H,aC Hf aH->du X.K G st aH H post->D.nx st H)(hc:∀ st aH H,aC Hf aH->du X.K G st aH H post->D.ct st H):GV X G E body D st H:=by
 cases g with
 | nx hb l=>exact⟨_,_,hb,Hf,S,fun jq aH H' s' S'=>hn jq aH H' s' (S'.weak l)⟩
 | ct hb l=>exact⟨_,_,hb,Hf,S,fun jq aH H' s' S'=>hc jq aH H' s' (S'.weak l)⟩
theorem rH {body:List Stmt}{S pre:Nat->List Slot}{n m:Nat}{D D':Ends}{st:L2.St}{Hf H:Hp}(e:pk X G E body S pre n m o)(hm:m < n)(S':du X.K G st Hf H (pre m))(k:wt X.K G E D Hf o)(hr:D'.rt=D.rt)(Kn:D'.bk=D.nx):GV X G E body D' st H:=by
 cases e with
 | all h=>omega
 | rt h hb=>exact⟨_,_,hb,Hf,S',by show ∀ v Hf H,_->_->D'.rt v H;rw[hr];exact k⟩
 | ro h hb=>exact⟨_,_,hb,Hf,S',by show ∀ v Hf H,_->_->_->_->D'.rt _ H;rw[hr];exact k⟩
 | bk h hb=>exact⟨_,_,hb,Hf,S',by show ∀ v Hf H,_->_->D'.bk v H;rw[Kn];exact k⟩
 | ex h hb=>exact⟨_,_,hb,Hf,S',k⟩
theorem GW (nN:Nat){x:Str}{px:Pos}{body:List Stmt}{lo:Int}{n m:Nat}(S:Nat->List Slot)(hN:X.N.Nodup)(qw:X.calm=true)(hp:PassesOwn (model X.prog X.w) X.A X.env X.xe){wi:TI}{iter:Expr}(hI:PI X (.Name x px) iter wi)(hw:∀ st Hf H R,du X.K G st Hf H dl->(∀ aH H',aV Hf H aH H'->R (Ep lo n) H')->wi st H R)(h0:Le (S 0) dl)(SQ:m<=n)(hb:∀ k,k < m->Goes X G E body ((S k).set nN (.val (.int (lo+k)))) (S (k+1)))(he:pk X G E body S (fun k=>(S k).set nN (.val (.int (lo+k)))) n m o)(hi:X.N[nN]?=some x:=by rfl)(hx:Loc X.env.scope x:=by first | exact aaL rfl | exact aaB rfl)(hf:X.fn x=true\/X.env.scope.names.lookup x=some .local:=by first | exact .inl rfl | exact .inr rfl | assumption)(hs:∀ x,foldedSetIterable iter X.env x=pure x:=by intro _;rfl):ES X G E dl (.For (.Name x px) iter body [] pos) o:=by
 refine tV (x5 hp qw hI (bX hN hi hx hf) (qv (G:=G) (E:=E)) hs) fun D st H ⟨Hf,S0,k⟩=>hw st Hf H _ S0 fun aH H' g=>?_
 refine Et (lo:=lo) (n:=n) (fun j st H=>j<=m/\∃ Hf1,aC Hf Hf1/\du X.K G st Hf1 H (S j)) ⟨aaQ _,aH,g.bj,(S0.grow g).weak h0⟩ (fun j st H hj ⟨hjm,Hf1,s1,Sj⟩=>?_) (fun st H ⟨WE,Hf1,s1,Sn⟩=>?_)
 . have Sp:du X.K G (st.set nN (some (.int (lo+j)))) Hf1 H ((S j).set nN (.val (.int (lo+j)))):=Sj.set (.int _)
   by_cases cX:j < m
   . exact oA (hb j cX) Sp (fun st bD H s2 S'=>⟨cX,bD,s1.trans s2,S'⟩) (fun st bD H s2 S'=>⟨cX,bD,s1.trans s2,S'⟩)
   . have e:j=m:=by omega
     subst e
     exact rH he hj Sp (k.mono s1) rfl rfl
 . have e:m=n:=by omega
   subst e
   cases he with
   | all _=>exact k st Hf1 H s1 Sn
   | rt h _=>omega
   | ro h _=>omega
   | bk h _=>omega
   | ex h _=>omega
theorem kF (nN:Nat){x:Str}{p px pc:Pos}{body:List Stmt}{n:Int}{m:Nat}(S:Nat->List Slot)(hN:X.N.Nodup)(qw:X.calm=true)(hp:PassesOwn (model X.prog X.w) X.A X.env X.xe)(Rx:X.mg "range"=none)(ha:EA X G dl [a] [.int n])(hn:-(2 ^ 62)<=n/\n < 2 ^ 62)(h0:Le (S 0) dl)(SQ:m<=n.toNat)(hb:∀ k:Nat,k < m->Goes X G E body ((S k).set nN (.val (.int k))) (S (k+1)))(he:pk X G E body S (fun k=>(S k).set nN (.val (.int k))) n.toNat m o)(hg:Gl X "range":=by rfl)(hi:X.N[nN]?=some x:=by rfl)(hx:Loc X.env.scope x:=by first | exact aaL rfl | exact aaB rfl)(hf:X.fn x=true\/X.env.scope.names.lookup x=some .local:=by first | exact .inl rfl | exact .inr rfl | assumption)(F7:starEach [a] X.env=[(false,eval a X.env)]:=by rfl)(hs:∀ z,foldedSetIterable (.Call (.Name "range" p) [a] [] pc) X.env z=pure z:=by intro _;rfl):ES X G E dl (.For (.Name x px) (.Call (.Name "range" p) [a] [] pc) body [] pos) o:=by
 have ez:∀ k:Nat,(0:Int)+k=k:=fun k=>Int.zero_add _
 have eS:(fun k:Nat=>(S k).set nN (.val (.int ((0:Int)+k))))=fun k:Nat=>(S k).set nN (.val (.int k)):=by funext k;rw[ez]
 refine GW nN (lo:=0) (n:=n.toNat) (m:=m) S hN qw hp (oi hg Rx ha F7) (fun st Hf H R S0 h=>⟨Hf,S0,fun vs Hf1 H1 g1 r1=>?_⟩) h0 SQ (fun k hk=>by rw[ez];exact hb k hk) (by rw[eS];exact he) hi hx hf hs
 cases r1 with
 | cons r t=>cases t;cases r;exact⟨n,rfl,hn.1,hn.2,h Hf1 H1 g1⟩
theorem Dl (nN:Nat){x:Str}{px:Pos}{iter:Expr}{body:List Stmt}{xs:List Dt}{m:Nat}(S:Nat->List Slot)(hN:X.N.Nodup)(qw:X.calm=true)(hp:PassesOwn (model X.prog X.w) X.A X.env X.xe)(hl:EE X G dl iter (.lst xs))(h0:Le (S 0) dl)(SQ:m<=xs.length)(hb:∀ (k:Nat) (z:Dt),k < m->xs[k]?=some z->Goes X G E body ((S k).set nN (.val z)) (S (k+1)))(he:pk X G E body S (fun k=>(S k).set nN (.val (xs.getD k .cy))) xs.length m o)(hi:X.N[nN]?=some x:=by rfl)(hx:Loc X.env.scope x:=by first | exact aaL rfl | exact aaB rfl)(hf:X.fn x=true\/X.env.scope.names.lookup x=some .local:=by first | exact .inl rfl | exact .inr rfl | assumption)(hs:∀ z,foldedSetIterable iter X.env z=pure z:=by intro _;rfl):ES X G E dl (.For (.Name x px) iter body [] pos) o:=by
 refine tV (x5 hp qw (lh hl) (bX hN hi hx hf) (qv (G:=G) (E:=E)) hs) fun D st H ⟨Hf,S0,k⟩=>⟨Hf,S0,fun v aH H' g r=>?_⟩
 cases r with
 | @lst a vs _ q r=>
   have hlen:=r.length
   refine⟨a,rfl,⟨vs,.of (g.sub _ _ q)⟩,z6 (xs:=vs) (fun j st H=>j<=m/\∃ Hf1,aC aH Hf1/\du X.K G st Hf1 H (S j)) ⟨aaQ _,aH,aC.refl _,(S0.grow g).weak h0⟩ ?_ ?_ ?_⟩
   . rintro j st H _ ⟨_,Hf1,s1,Sj⟩
     exact .of (Sj.sub _ _ (s1 _ _ q))
   . rintro j v st H hv ⟨hjm,Hf1,s1,Sj⟩
     obtain⟨z,hz,rz⟩:=r.get' hv
     have hj:j < xs.length:=(aad.mp hz).1
     have Sp:du X.K G (st.set nN (some v)) Hf1 H ((S j).set nN (.val z)):=Sj.set (rz.mono s1)
     by_cases cX:j < m
     . exact oA (hb j z cX hz) Sp (fun st bD H s2 S'=>⟨cX,bD,s1.trans s2,S'⟩) (fun st bD H s2 S'=>⟨cX,bD,s1.trans s2,S'⟩)
     . have e:j=m:=by omega
       subst e
       have ez:xs.getD j .cy=z:=by rw[WY,hz];rfl
       exact rH he hj (by show du _ _ _ _ _ ((S j).set nN (.val (xs.getD j .cy)));rw[ez];exact Sp) (k.mono (g.bj.trans s1)) rfl rfl
   . rintro st H ⟨WE,Hf1,s1,Sn⟩
     have e:m=xs.length:=by omega
     subst e
     rw[hlen] at Sn
     cases he with
     | all _=>exact k st Hf1 H (g.bj.trans s1) Sn
     | rt h _=>omega
     | ro h _=>omega
     | bk h _=>omega
     | ex h _=>omega
inductive Res where
 | ret (d:Dt)
 | own (w:Own)
 | exc (c:Value) (fs:List (Str×Dt))
def SR (K:W.Frag)(Hf H:Hp)(Q:VK)(E:XK):Res->Prop
 | .ret d=>∀ v aH H',aV Hf H aH H'->Rep K aH v d->Q v H'
 | .own w=>∀ p aH H',aV Hf H aH H'->H p=none->aH p=none->gj K aH H' p w->Q (.ref p) H'
 | .exc c fs=>∀ od aH H',aV Hf H aH H'->ExcAt K aH od fs->E c od H'
def Dm (K:W.Frag)(n:Nat)(R:List Dt->Res->Prop):Sp:=fun vs H Q E=>∃ Hf ds r,aC Hf H/\aM K Hf vs ds/\ds.length=n/\R ds r/\SR K Hf H Q E r
def BG (CX:q8):Prop:=∀ outer H s e s',CX outer H s E0 e s'->False
theorem ax:BG YK:=fun _ _ _ _ _ h=>h
theorem BG.passes {CX:q8}(n:BG CX):Passes CX X E0:=fun _ _ _ _ _ _ _ h=>(n _ _ _ _ _ h).elim
noncomputable def slots (N:List Str)(ds:List Dt):List Slot:=ds.map Slot.val ++ aah (N.length - ds.length) .aY
theorem xu {K:W.Frag}{N:List Str}{Hf H:Hp}{vs:List V}{ds:List Dt}(s:aC Hf H)(r:aM K Hf vs ds):du K ⟨Hf,H⟩ (start N vs) Hf H (slots N ds):=by
 have hl:=r.length
 have xY:∀ (i:Nat) o,(slots N ds)[i]?≠some (.own o):=fun i o h=>by
   unfold slots at h
   by_cases hi:i < ds.length
   . rw[aay (by simpa using hi),aab] at h
     cases e:ds[i]? with
     | none=>rw[e] at h;cases h
     | some a=>rw[e] at h;cases h
   . rw[aaz (by simpa using hi),aaR] at h
     split at h <;> cases h
 refine⟨.refl s,?_,fun i d h=>?_,fun i o h=>absurd h (xY i o),fun i j o o' a h=>absurd h (xY i o)⟩
 . unfold L2.start slots
   simp[hl]
 . unfold slots at h
   by_cases hi:i < ds.length
   . rw[aay (by simpa using hi),aab] at h
     cases e:ds[i]? with
     | none=>rw[e] at h;cases h
     | some a=>
       rw[e] at h;cases h
       obtain⟨v,h1,h2⟩:=r.get e
       refine⟨v,?_,h2⟩
       unfold L2.start
       rw[aay (by simp;omega),aab,h1];rfl
   . rw[aaz (by simpa using hi),aaR] at h
     split at h <;> cases h
inductive Comes:Out->Res->Prop
 | rt (d:Dt):Comes (.rt d) (.ret d)
 | ro (d:Own):Comes (.ro d) (.own d)
 | nx (dl:List Slot):Comes (.nx dl) (.ret .cy)
 | kn {dl:List Slot} {d:Dt} (h:∀ K G st Hf H,du K G st Hf H dl->Rep K Hf .cy d):Comes (.nx dl) (.ret d)
 | ex (c:Value) (fs:List (Str×Dt)):Comes (.ex c fs) (.exc c fs)
theorem Comes.ends {K:W.Frag}{Hf H:Hp}{Q:VK}{o:Out}{r:Res}(h:Comes o r)(k:SR K Hf H Q E r):wt K ⟨Hf,H⟩ E { nx:=fun _ H'=>Q .cy H',rt:=Q} Hf o:=by
 cases h with
 | rt d=>exact k
 | ro d=>exact k
 | nx dl=>exact fun st aH H' s' S=>k _ aH H' S.gr .cy
 | kn h=>exact fun st aH H' s' S=>k _ aH H' S.gr (h _ _ _ _ _ S)
 | ex c fs=>exact k
theorem iQ {P:Program}{w:World}{K:W.Frag}{mg:Str->Option Value}{base:Heap}{CX:q8}{x qual:Str}{st:Stmt}{f:Addr}{fd:FuncData}{N ps:List Str}{k n:Nat}{R:List Dt->Res->Prop}(F:Rw K x qual st f fd)(S:aq N ps (af st))(hn:ps.length=n)(qi:∀ (bc:Value) (A:Around) (outer:List Env) (s:Shared) (H:Hp) (E:XK) (G:Gr) (ds:List Dt) (r:Res),d0 k (A.deeper (envOfC qual (af st) s.heap.objs.size f bc))->ds.length=n->R ds r->∃ o,Comes o r/\l4 (z8 CX P w K mg base N qual (af st) f bc A outer s H E) G E (slots N ds) (aB st) o):jt P w K mg base CX (k+1) f fd ps (Dm K n R):=by
 obtain⟨oc,od,kV,doc,pm,an,bc,ct,xl,rfl,lk,lV⟩:=F.ex
 refine GG lk lV S (fun vs H Q E ⟨Hf,ds,r,s,rp,hl,_⟩=>by rw[rp.length,hl,hn]) fun A outer s H vs Q E hr ⟨Hf,ds,r,sm,rp,hl,hR,hk⟩=>?_
 obtain⟨o,hc,hb⟩:=qi bc A outer s H E ⟨Hf,H⟩ ds r hr hl hR
 exact⟨_,hb,Hf,xu sm rp,hc.ends hk⟩
section
variable {CX:q8}{k n:Nat}{f C:Addr}{fd:FuncData}{ps:List Str}{R:List Dt->Res->Prop}{m:Str}{p apos:Pos}{ob:Expr}{dvs:List Dt}{vds:List V}{F8:List Value}{fs:List (Str×Dt)}
theorem Lb (F:jt X.prog X.w X.K X.mg X.base CX k f fd ps (Dm X.K n R))(nx:BG CX)(hr:d0 k X.A)(hm:X.mg x=some (.ref f))(hk:W.keepIn X.K (.ref f)=true)(hb:Binds X.K fd ps F8)(hd:Vals vds F8)(EU:∀ H,aM X.K H vds dvs)(ha:EA X G dl (e::es) ds)(hl:(ds ++ dvs).length=n)(h:R (ds ++ dvs) (.ret d))(hg:Gl X x:=by rfl)(lU:(x == ("__debug__":Str))=false:=by decide)(he:starEach (e::es) X.env=(false,eval e X.env)::starEach es X.env:=by rfl)(nC:(backTo pos (starEach es X.env)).any (·.1)=false:=by rfl):EE X G dl (.Call (.Name x p) (e::es) [] pos) d:=
 hV (C7 (E:=E0) F hr hg hm hk hb hd nx.passes ha lU he nC) fun st H Q zq=>aaa zq fun Hf zq=>have S:=zq.1;have k:=zq.2;⟨Hf,S,fun vs Hf1 H1 g1 r1=>⟨Hf1,ds ++ dvs,.ret d,g1.sub,r1.append (EU _),hl,h,fun v bD H2 g2 r2=>k v bD H2 (g1.trans g2) r2⟩⟩
theorem Dn {pl:Sem Bool}(he:EE X G dl ob (.obj C fs))(c:tT X.K C)(hm:Meth X.K C m f)(F:jt X.prog X.w X.K X.mg X.base CX k f fd ps (Dm X.K n R))(nx:BG CX)(hr:d0 k X.A)(hb:Binds X.K fd ps F8)(hd:Vals vds F8)(EU:∀ H,aM X.K H vds dvs)
   (ha:EA X G dl (e::es) ds) (hl:(.obj C fs::(ds ++ dvs)).length=n) (h:R (.obj C fs::(ds ++ dvs)) (.ret d)) (tY:fs.lookup m=none)
   (pK:starEach (e::es) X.env=(false,eval e X.env)::starEach es X.env:=by rfl) (nC:(backTo pos (starEach es X.env)).any (·.1)=false:=by rfl)
   (ht:eval (.Call (.Attribute ob m apos) (e::es) [] pos) X.env=(do
     let ov <- eval ob X.env
     standAt apos.atName
     let (f,first) <- holding [ov] (getMethod ov m pl)
     callWith pos f first (backTo pos (starEach (e::es) X.env)) (backToKw pos (keywordEach [] X.env))):=by rfl):EE X G dl (.Call (.Attribute ob m apos) (e::es) [] pos) d:=
 hV (C8 (pl:=pl) (E:=E0) he c hm F hr hb hd nx.passes ha pK nC ht) fun st H Q zq=>aaa zq fun Hf zq=>have S:=zq.1;have k:=zq.2;⟨Hf,S,fun v Hf1 H1 g1 r1=>by
   cases r1 with
   | @obj a _ dx fv _ q r=>
     exact⟨a,dx,fv,rfl,i9 g1.sub q,r.none_of tY,Hf1,S.grow g1,fun vs bD H2 g2 r2=>⟨bD,_,.ret d,g2.sub,.cons (.obj (i9 g2.bj q) (r.mono g2.bj)) (r2.append (EU _)),hl,h,fun v ia H3 g3 r3=>k v ia H3 ((g1.trans g2).trans g3) r3⟩⟩⟩
theorem An {pl:Sem Bool}(he:EE X G dl ob (.obj C fs))(c:tT X.K C)(hm:Meth X.K C m f)(F:jt X.prog X.w X.K X.mg X.base CX k f fd ps (Dm X.K n R))(nx:BG CX)(hr:d0 k X.A)(hb:Binds X.K fd ps F8)(hd:Vals vds F8)(EU:∀ H,aM X.K H vds dvs)
   (hl:(Dt.obj C fs::dvs).length=n) (h:R (.obj C fs::dvs) (.ret d)) (tY:fs.lookup m=none)
   (ht:eval (.Call (.Attribute ob m apos) [] [] pos) X.env=(do
     let ov <- eval ob X.env
     standAt apos.atName
     let (f,first) <- holding [ov] (getMethod ov m pl)
     callWith pos f first (backTo pos (starEach [] X.env)) (backToKw pos (keywordEach [] X.env))):=by rfl):EE X G dl (.Call (.Attribute ob m apos) [] [] pos) d:=
 hV (GC (pl:=pl) (E:=E0) he c hm F hr hb hd nx.passes ht) fun st H Q zq=>aaa zq fun Hf zq=>have S:=zq.1;have k:=zq.2;⟨Hf,S,fun v Hf1 H1 g1 r1=>by
   cases r1 with
   | @obj a _ dx fv _ q r=>
     exact⟨a,dx,fv,rfl,i9 g1.sub q,r.none_of tY,Hf1,_,.ret d,g1.sub,.cons (.obj q r) (EU _),hl,h,fun v ia H3 g3 r3=>k v ia H3 (g1.trans g3) r3⟩⟩
end
end
section
variable {X:Cx}{G:Gr}{dl:List Slot}{a b c e:Expr}{i j:Int}{d d1 d2:Dt}{ds:List Dt}{pos p:Pos}{o:Out}{x y f:Str}{u v:Bool}{s:Stmt}{C:Addr}{fs:List (Str×Dt)}
theorem jW {w:V}{z:Value}(hm:X.mg x=some z)(r:RelV w z)(hr:∀ H,Rep X.K H w d)(hg:Gl X x:=by rfl)(hd:(x == ("__debug__":Str))=false:=by decide):EE X G dl (.Name x pos) d:=
 hV (KJ hg hm r hd) fun st H Q zq=>aaa zq fun Hf zq=>have S:=zq.1;have k:=zq.2;k _ Hf H (.refl S.sub) (hr _)
theorem boot_list:bootBuiltins "list"=some (.type "list"):=by decide +kernel
theorem boot_dict:bootBuiltins "dict"=some (.type "dict"):=by decide +kernel
structure OX (K:W.Frag)(C:Addr):Prop where
 makes:W.makesIn K C=true
 init:W.findIn K (.ref C) "__init__"=some (some (.builtin "object.__init__"))
 kp:W.keepIn K (.ref C)=true
theorem EV {pins:List (Addr×Obj)}{st:L2.St}{H:Hp}{s:Shared}{Q:VK}(M:OX X.K C)(I:L2.Inv X pins st H s)(h:∀ x dx,H x=none->H dx=none->dx≠x->Q (.ref x) (upd (upd H dx (.own x)) x (.ins C dx []))):wpAny (model X.prog X.w) X.A (call (.ref C) []) (EP X pins st Q) X.xe s:=by
 have hq:=h (s.heap.objs.size+1) s.heap.objs.size (I.bh.fresh (abe _)) (I.bh.fresh (aac _)) (aap (abg _))
 have I2:=L2.Inv.made (C:=C) I
 refine wpAny_call (Ey (s:=s) I.zW M.makes M.init (fun self=>W.Looks.of_pure (W.oi_bind self)) ?_)
 obtain⟨hh,g,d,t,os⟩:=s
 have Y:=W.makes_of (M:=model X.prog X.w) I.zW M.makes
 have t1:W.Looks (model X.prog X.w) ((hh.push W.emptyDict).push (W.instObj C hh.objs.size)) (typeOf (.ref (hh.objs.size+1))) (.ref C):=by
   have e2:=aai (hh.push W.emptyDict) (o:=W.instObj C hh.objs.size) rfl
   rw[aaT] at e2
   exact(W.Looks.ld e2).andThen .now
 have t2:W.Looks (model X.prog X.w) ((hh.push W.emptyDict).push (W.instObj C hh.objs.size)) (isInstance (.ref (hh.objs.size+1)) (.type "object")) true:=t1.andThen (Y.top.keeps fun b o e=>Vf _ (Vf _ e))
 refine codeAny_call_builtin W.oi_plain W.entry_oi (@W.check_slot (model X.prog X.w) _ _ _ "object.__init__" "object" "__init__" (.ref (hh.objs.size+1)) [] [] _ W.oi_kind W.oi_split t2 (W.oi_args (.ref (hh.objs.size+1))) ?_)
 rw[W.oi_run]
 exact wpAny_pure (And.intro rfl ⟨V.ref (hh.objs.size+1),_,I2,rfl,hq⟩)
theorem aG (he:EE X G dl e (.obj C fs))(c:tT X.K C)(n:bu X.K C f)(h:fs.lookup f=some d)(hb:attributeBase e f X.env (eval e X.env)=eval e X.env:=by rfl):EE X G dl (.Attribute e f pos) d:=
 hV (uI he hb) fun st H Q zq=>aaa zq fun Hf zq=>have S:=zq.1;have k:=zq.2;⟨Hf,S,fun v Hf1 H1 g1 r1=>by
   cases r1 with
   | @obj a _ dx fv _ q r=>
     obtain⟨y,h1,h2⟩:=r.lookup h
     exact⟨a,C,dx,fv,y,rfl,i9 g1.sub q,c,n,h1,k y Hf1 H1 g1 h2⟩⟩
theorem qx (hm:X.mg "len"=none)(ha:EE X G dl a (.lst ds))(hg:Gl X "len":=by rfl)(he:starEach [a] X.env=[(false,eval a X.env)]:=by rfl):EE X G dl (.Call (.Name "len" p) [a] [] pos) (.int ds.length):=
 hV (hZ qp hg hm PySem.boot_len (ae ha ai he) (he:=he)) fun st H Q zq=>aaa zq fun Hf zq=>have S:=zq.1;have k:=zq.2;⟨Hf,S,fun vs Hf1 H1 g1 r1=>by
   cases r1 with
   | cons r t=>cases t;cases r with
     | @lst q vs _ z w=>exact⟨q,vs,rfl,.inl (.of (g1.sub _ _ z)),by rw[w.length];exact k _ Hf1 H1 g1 (.int _)⟩⟩
theorem Dp {ns:List Int}(hm:X.mg "len"=none)(ha:EE X G dl a (.oy ns))(hg:Gl X "len":=by rfl)(he:starEach [a] X.env=[(false,eval a X.env)]:=by rfl):EE X G dl (.Call (.Name "len" p) [a] [] pos) (.int ns.length):=
 hV (hZ qp hg hm PySem.boot_len (ae ha ai he) (he:=he)) fun st H Q zq=>aaa zq fun Hf zq=>have S:=zq.1;have k:=zq.2;⟨Hf,S,fun vs Hf1 H1 g1 r1=>by
   cases r1 with
   | cons r t=>cases t;cases r with
     | @oy q _ z=>exact⟨q,_,rfl,.inl (g1.sub.seq z),by rw[Bn];exact k _ Hf1 H1 g1 (.int _)⟩⟩
theorem yk (hm:X.mg "len"=none)(ha:EE X G dl a (.str x))(hl:x.length<=sizeLine)(hg:Gl X "len":=by rfl)(he:starEach [a] X.env=[(false,eval a X.env)]:=by rfl):EE X G dl (.Call (.Name "len" p) [a] [] pos) (.int x.length):=
 hV (hZ yd hg hm PySem.boot_len (ae ha ai he) (he:=he)) fun st H Q zq=>aaa zq fun Hf zq=>have S:=zq.1;have k:=zq.2;⟨Hf,S,fun vs Hf1 H1 g1 r1=>by
   cases r1 with
   | cons r t=>cases t;cases r;exact⟨x,rfl,hl,k _ Hf1 H1 g1 (.int _)⟩⟩
structure TyC (K:W.Frag)(C:Addr):Prop where
 cl:tT K C
 ha:W.findIn K (.ref C) "__class__"=some (some (.builtin "object.__class__"))
 hn:W.specialIn K (.builtin "object.__class__") "__get__"=some (some (.builtin "getset_descriptor.__get__"))
 YF:W.takesIn K (.builtin "object.__class__")=some true
 hm:W.mroIn K C (.type "object")=some true
mutual
noncomputable def pd:Dt->PyData
 | .cy=>.none
 | .bl b=>.bool b
 | .int i=>.int i
 | .str x=>.str x
 | .tup ds=>.tuple (BY ds)
 | .lst ds=>.list (BY ds)
 | .oy _=>.none
 | .cV _=>.none
 | .obj _ _=>.none
 | .ty _=>.none
 | .cls _=>.none
 | .xo _=>.none
 | .rF _=>.none
 | .EM _ _=>.none
 | .d5 _=>.none
 | .memo _ _ _ _=>.none
 | .eK _ _ _ _=>.none
 | .wq _ _ _=>.none
 | .wc _ _ _ _ _=>.none
 | .hX _=>.none
 | .mF _=>.none
noncomputable def BY:List Dt->List PyData
 | []=>[]
 | d::r=>pd d::BY r
end
mutual
noncomputable def plain:Dt->Bool
 | .tup ds=>kM ds
 | .lst ds=>kM ds
 | .oy _=>false
 | .cV _=>false
 | .obj _ _=>false
 | .ty _=>false
 | .cls _=>false
 | .xo _=>false
 | .rF _=>false
 | .EM _ _=>false
 | .d5 _=>false
 | .memo _ _ _ _=>false
 | .eK _ _ _ _=>false
 | .wq _ _ _=>false
 | .wc _ _ _ _ _=>false
 | .hX _=>false
 | .mF _=>false
 | .cy=>true
 | .bl _=>true
 | .int _=>true
 | .str _=>true
noncomputable def kM:List Dt->Bool
 | []=>true
 | d::r=>plain d && kM r
end
section
variable {pins:List (Addr×Obj)}{st:L2.St}{Hf H:Hp}{s:Shared}
mutual
theorem uU (I:L2.Inv X pins st H s)(sm:aC Hf H):∀ {w:V} {d:Dt} {z:Value},Rep X.K Hf w d->plain d=true->RelV w z->∃ as,Reads s.heap z (pd d) as
 | _,_,z,.cy,_,r=>by cases (show z=Value.none from r);exact⟨_,.none⟩
 | _,_,z,.bl b,_,r=>by cases (show z=Value.bool b from r);exact⟨_,.bool b⟩
 | _,_,z,.int i,_,r=>by obtain⟨t,q⟩:=(show ∃ t,z=Value.int i t from r);cases q;exact⟨_,.int i t⟩
 | _,_,z,.str x,_,r=>by obtain⟨t,q⟩:=(show ∃ t,z=Value.str x t from r);cases q;exact⟨_,.str x t⟩
 | _,_,z,@Rep.tup _ _ a vs ds q rr,h,r=>by
   cases (show z=Value.ref a from r)
   obtain⟨aE,rv,⟨o,h1,h2,n,h3⟩,_⟩:=I.tuple (fj sm q)
   obtain⟨as,ra⟩:=rJ I sm rr (by rw[plain] at h;exact h) rv
   refine⟨as,?_⟩
   rw[pd]
   exact .tuple h1 h2 h3 (by simpa using ra)
 | _,_,z,@Rep.lst _ _ a vs ds q rr,h,r=>by
   cases (show z=Value.ref a from r)
   obtain⟨aE,rv,⟨o,n,h1,h2,_,h3⟩,_⟩:=I.list (.of (sm _ _ q))
   obtain⟨as,ra⟩:=rJ I sm rr (by rw[plain] at h;exact h) rv
   refine⟨a::as,?_⟩
   rw[pd]
   exact .list h1 h2 h3 (by simpa using ra)
 | _,_,_,.cV _ _,h,_=>by rw[plain] at h;cases h
 | _,_,_,.oy _,h,_=>by rw[plain] at h;cases h
 | _,_,_,.obj _ _,h,_=>by rw[plain] at h;cases h
 | _,_,_,.ty _,h,_=>by rw[plain] at h;cases h
 | _,_,_,.cls _,h,_=>by rw[plain] at h;cases h
 | _,_,_,.xo _ _,h,_=>by rw[plain] at h;cases h
 | _,_,_,.rF _ _,h,_=>by rw[plain] at h;cases h
 | _,_,_,.EM _ _ _ _,h,_=>by rw[plain] at h;cases h
 | _,_,_,.d5 _ _,h,_=>by rw[plain] at h;cases h
 | _,_,_,.memo _ _ _ _,h,_=>by rw[plain] at h;cases h
 | _,_,_,.eK _ _ _ _,h,_=>by rw[plain] at h;cases h
 | _,_,_,.wq _,h,_=>by rw[plain] at h;cases h
 | _,_,_,.wc _ _ _,h,_=>by rw[plain] at h;cases h
 | _,_,_,.hX _,h,_=>by rw[plain] at h;cases h
 | _,_,_,.mF _,h,_=>by rw[plain] at h;cases h
theorem rJ (I:L2.Inv X pins st H s)(sm:aC Hf H):∀ {vs:List V} {ds:List Dt} {zs:List Value},aM X.K Hf vs ds->kM ds=true->Vals vs zs->∃ as,ReadsAll s.heap zs (BY ds) as
 | _,_,_,.nil,_,.nil=>⟨[],by rw[BY];exact .nil⟩
 | _,_,_,.cons r t,h,.cons q w=>by
   rw[kM,aaN] at h
   obtain⟨as,h1⟩:=uU I sm r h.1 q
   obtain⟨bs,h2⟩:=rJ I sm t h.2 w
   exact⟨as ++ bs,by rw[BY];exact .cons h1 h2⟩
end
end
def Nf (d:Dt):Prop:=plain d=true/\SeqAt.shaped (pd d)=true
def SS (K:PySem.W.Frag)(d1 d2:Dt)(g:Bool->Bool):R2:=fun x y H Q=>∃ Hf,aC Hf H/\Rep K Hf x d1/\Rep K Hf y d2/\Nf d1/\Nf d2/\Q (.bl (g (PyData.eqv (pd d1) (pd d2)))) H
theorem OY (hu:X.A.units+64 < cLine):pj X (compareOp .NotEq) (SS X.K d1 d2 (!·)):=by
 intro pins s st H x y v w Q I rx ry ⟨Hf,sm,r1,r2,o1,o2,q⟩
 obtain⟨as,h1⟩:=uU I sm r1 o1.1 rx
 obtain⟨bs,h2⟩:=uU I sm r2 o2.1 ry
 exact ne_dataH h1 h2 o1.2 o2.2 hu ⟨.bl _,H,I,rfl,q⟩
theorem OZ {K:W.Frag}{g:Bool->Bool}(o1:Nf d1)(o2:Nf d2):Di K (SS K d1 d2 g) d1 d2 (.bl (g (PyData.eqv (pd d1) (pd d2)))):=fun v w Hf H Q s r1 r2 k=>⟨Hf,s,r1,r2,o1,o2,k _ Hf H (.refl s) (.bl _)⟩
mutual
theorem eqv_refl:∀ d:Dt,plain d=true->PyData.eqv (pd d) (pd d)=true
 | .cy,_=>by simp[pd,PyData.eqv]
 | .bl b,_=>by simp[pd,PyData.eqv]
 | .int i,_=>by simp[pd,PyData.eqv]
 | .str x,_=>by simp[pd,PyData.eqv]
 | .tup ds,h=>by rw[plain] at h;rw[pd,PyData.eqv];exact rK ds h
 | .lst ds,h=>by rw[plain] at h;rw[pd,PyData.eqv];exact rK ds h
 | .cV _,h=>by rw[plain] at h;cases h
 | .oy _,h=>by rw[plain] at h;cases h
 | .obj _ _,h=>by rw[plain] at h;cases h
 | .ty _,h=>by rw[plain] at h;cases h
 | .cls _,h=>by rw[plain] at h;cases h
 | .xo _,h=>by rw[plain] at h;cases h
 | .rF _,h=>by rw[plain] at h;cases h
 | .EM _ _,h=>by rw[plain] at h;cases h
 | .d5 _,h=>by rw[plain] at h;cases h
 | .memo _ _ _ _,h=>by rw[plain] at h;cases h
 | .eK _ _ _ _,h=>by rw[plain] at h;cases h
 | .wq _ _ _,h=>by rw[plain] at h;cases h
 | .wc _ _ _ _ _,h=>by rw[plain] at h;cases h
theorem rK:∀ ds:List Dt,kM ds=true->PyData.eqvAll (BY ds) (BY ds)=true
 | [],_=>by simp[BY,PyData.eqvAll]
 | d::r,h=>by
   rw[kM,aaN] at h
   rw[BY,PyData.eqvAll,eqv_refl d h.1,rK r h.2];rfl
end
theorem GX (hr:X.A.units+64 < cLine)(ha:EE X G dl a d1)(hb:EE X G dl b d2)(o1:Nf d1)(o2:Nf d2)(hu:(!PyData.eqv (pd d1) (pd d2))=u):EB X G dl (.Compare a [.NotEq] [b] pos) u:=by
 subst hu;exact lI (OY hr) (OZ (g:=(!·)) o1 o2) (mD _) ha hb
theorem qy (ha:EE X G dl a (.int i))(hb:EE X G dl b (.int j)):EB X G dl (.Compare a [.Lt] [b] pos) (decide (i < j)):=lI Sa (sL (g':=fun i j=>.bl (decide (i < j))) fun _ _ _ _=>.bl _) (mD _) ha hb
theorem pq (ha:EE X G dl a (.int i))(hb:EE X G dl b (.int j)):EB X G dl (.Compare a [.LtE] [b] pos) (decide (i<=j)):=lI Gy (sL (g':=fun i j=>.bl (decide (i<=j))) fun _ _ _ _=>.bl _) (mD _) ha hb
theorem GY (ha:EE X G dl a (.int i))(hb:EE X G dl b (.int j)):EB X G dl (.Compare a [.Gt] [b] pos) (decide (j < i)):=lI Sb (sL (g':=fun i j=>.bl (decide (j < i))) fun _ _ _ _=>.bl _) (mD _) ha hb
theorem GZ (ha:EE X G dl a (.int i))(hb:EE X G dl b (.int j)):EB X G dl (.Compare a [.GtE] [b] pos) (decide (j<=i)):=lI Sd (sL (g':=fun i j=>.bl (decide (j<=i))) fun _ _ _ _=>.bl _) (mD _) ha hb
theorem yl {K:W.Frag}{w1 w2:V}{g:Bool->Bool}(h1:∀ H w,Rep K H w d1->w=w1)(h2:∀ H w,Rep K H w d2->w=w2)(hs:KR w1 w2=true):Di K (fun x y H Q=>KR x y=true/\Q (.bl (g (decide (x=y)))) H) d1 d2 (.bl (g (decide (w1=w2)))):=fun v w Hf H Q s r1 r2 k=>by
 cases h1 _ _ r1;cases h2 _ _ r2;exact⟨hs,k _ Hf H (.refl s) (.bl _)⟩
theorem oj (i j:Int):decide (V.int i=V.int j)=decide (i=j):=by simp
theorem tS (i j:Str):decide (V.str i=V.str j)=decide (i=j):=by simp
theorem BZ (ha:EE X G dl a (.int i))(hb:EE X G dl b (.int j)):EE X G dl (.Compare a [.Eq] [b] pos) (.bl (decide (i=j))):=by
 rw[<- oj];exact BV Gx (yl (g:=id) (fun _ _ r=>by cases r;rfl) (fun _ _ r=>by cases r;rfl) rfl) (mD _) ha hb
theorem rL (ha:EE X G dl a (.int i))(hb:EE X G dl b (.int j)):EB X G dl (.Compare a [.Eq] [b] pos) (decide (i=j)):=by
 rw[<- oj];exact lI Gx (yl (g:=id) (fun _ _ r=>by cases r;rfl) (fun _ _ r=>by cases r;rfl) rfl) (mD _) ha hb
theorem G1 (ha:EE X G dl a (.int i))(hb:EE X G dl b (.int j)):EB X G dl (.Compare a [.NotEq] [b] pos) (!decide (i=j)):=by
 rw[<- oj];exact lI R9 (yl (g:=(!·)) (fun _ _ r=>by cases r;rfl) (fun _ _ r=>by cases r;rfl) rfl) (mD _) ha hb
theorem nL (ha:EE X G dl a (.str x))(hb:EE X G dl b (.str y)):EB X G dl (.Compare a [.Eq] [b] pos) (decide (x=y)):=by
 rw[<- tS];exact lI Gx (yl (g:=id) (fun _ _ r=>by cases r;rfl) (fun _ _ r=>by cases r;rfl) rfl) (mD _) ha hb
end
structure GF (P:Program)(w:World)(K:W.Frag)(mg:Str->Option Value)(base:Heap)(CX:q8)(k:Nat)(x:Str)(n:Nat)(R:List Dt->Res->Prop):Prop where
 ex:∃ f fd ps,jt P w K mg base CX k f fd ps (Dm K n R)/\mg x=some (.ref f)/\W.keepIn K (.ref f)=true/\Binds K fd ps []
structure MF (P:Program)(w:World)(K:W.Frag)(mg:Str->Option Value)(base:Heap)(CX:q8)(k:Nat)(C:Addr)(m:Str)(n:Nat)(R:List Dt->Res->Prop):Prop where
 cl:tT K C
 ex:∃ f fd ps,jt P w K mg base CX k f fd ps (Dm K n R)/\Meth K C m f/\Binds K fd ps []
section
variable {X:Cx}{G:Gr}{dl:List Slot}{e:Expr}{es:List Expr}{d:Dt}{ds:List Dt}{pos p apos:Pos}{x m:Str}{C:Addr}{fs:List (Str×Dt)}{CX:q8}{k k' n:Nat}{R:List Dt->Res->Prop}{ob:Expr}
theorem b8 (F:GF X.prog X.w X.K X.mg X.base CX k x n R)(nx:BG CX)(hr:d0 k' X.A)(ha:EA X G dl (e::es) ds)(h:R ds (.ret d))(ym:k<=k':=by decide)(hl:ds.length=n:=by rfl)(hg:Gl X x:=by rfl)(lU:(x == ("__debug__":Str))=false:=by decide)(he:starEach (e::es) X.env=(false,eval e X.env)::starEach es X.env:=by rfl)(nC:(backTo pos (starEach es X.env)).any (·.1)=false:=by rfl):EE X G dl (.Call (.Name x p) (e::es) [] pos) d:=by
 obtain⟨f,fd,ps,F,hm,hk,hb⟩:=F.ex
 refine Lb (dvs:=[]) (vds:=[]) F nx (hr.mono ym) hm hk hb .nil (fun _=>.nil) ha (by rw[aaS];exact hl) (by rw[aaS];exact h) hg lU he nC
theorem bE {pl:Sem Bool}(he:EE X G dl ob (.obj C fs))(F:MF X.prog X.w X.K X.mg X.base CX k C m n R)(nx:BG CX)(hr:d0 k' X.A)(ha:EA X G dl (e::es) ds)(h:R (.obj C fs::ds) (.ret d))(ym:k<=k':=by decide)(hl:(Dt.obj C fs::ds).length=n:=by rfl)(tY:fs.lookup m=none:=by rfl)
   (pK:starEach (e::es) X.env=(false,eval e X.env)::starEach es X.env:=by rfl) (nC:(backTo pos (starEach es X.env)).any (·.1)=false:=by rfl)
   (ht:eval (.Call (.Attribute ob m apos) (e::es) [] pos) X.env=(do
     let ov <- eval ob X.env
     standAt apos.atName
     let (f,first) <- holding [ov] (getMethod ov m pl)
     callWith pos f first (backTo pos (starEach (e::es) X.env)) (backToKw pos (keywordEach [] X.env))):=by rfl):EE X G dl (.Call (.Attribute ob m apos) (e::es) [] pos) d:=by
 obtain⟨f,fd,ps,Fo,hm,hb⟩:=F.ex
 refine Dn (dvs:=[]) (vds:=[]) (pl:=pl) he F.cl hm Fo nx (hr.mono ym) hb .nil (fun _=>.nil) ha (by rw[aaS];exact hl) (by rw[aaS];exact h) tY pK nC ht
theorem ck {pl:Sem Bool}(he:EE X G dl ob (.obj C fs))(F:MF X.prog X.w X.K X.mg X.base CX k C m n R)(nx:BG CX)(hr:d0 k' X.A)(h:R [.obj C fs] (.ret d))(ym:k<=k':=by decide)(hl:[Dt.obj C fs].length=n:=by rfl)(tY:fs.lookup m=none:=by rfl)
   (ht:eval (.Call (.Attribute ob m apos) [] [] pos) X.env=(do
     let ov <- eval ob X.env
     standAt apos.atName
     let (f,first) <- holding [ov] (getMethod ov m pl)
     callWith pos f first (backTo pos (starEach [] X.env)) (backToKw pos (keywordEach [] X.env))):=by rfl):EE X G dl (.Call (.Attribute ob m apos) [] [] pos) d:=by
 obtain⟨f,fd,ps,Fo,hm,hb⟩:=F.ex
 refine An (dvs:=[]) (vds:=[]) (pl:=pl) he F.cl hm Fo nx (hr.mono ym) hb .nil (fun _=>.nil) hl h tY ht
end
noncomputable def YM:List Value:=[.type "ValueError",.type "Exception",.type "BaseException",.type "object"]
structure ExC (K:W.Frag)(C:Addr):Prop where
 ex:W.excIn K C YM "ValueError.__new__"=true
def wu:Value->Shared->Prop:=fun _ _=>False
theorem Lc {P:Program}{w:World}{A:Around}{R:Result->Shared->Prop}{s:Shared}{elt tg iter:Expr}{sc:Scope}{pos:Pos}{it acc:Value}{env:Env}(J:Nat->Shared->Prop)
   (turn:∀ n s,J n s->wpAny (model P w) A (pyNext it) (fun r s1=>match r with
     | none=>R (.ok .next) s1
     | some v=>wpAny (model P w) A (letOwnedTupleGo tg it v) (fun _ s2=>wpAny (model P w) A (assign tg env v) (fun _ s3=>wpAny (model P w) A (eval elt env) (fun x s4=>
         wpAny (model P w) A (call (.builtin "list.append") [acc,x]) (fun _ s5=>∃ m,m < n/\J m s5) wu s4) wu s3) wu s2) wu s1) wu s)
   (n:Nat) (h:J n s):codeAny (model P w) A (.compLoop (.ListComp elt [⟨tg,iter,[],0⟩] sc pos) 0 it acc env) R s:=by
 have off:∀ {B:Value->Shared->Prop} (x:Value) (s':Shared),wu x s'->B x s':=fun _ _ z=>z.elim
 refine codeAny_loop rfl J (fun n s hJ=>?_) n h
 show wpAny _ A ((compTurn (.ListComp elt [⟨tg,iter,[],0⟩] sc pos) 0 it acc env).onRaise (fun x=>(do noteFrame x env;theTreesLotGoes x))) _ _ s
 refine wpAny_noted ?_
 rw[compTurn_list1]
 refine wpAny_bind (wpAny_standAt (wpAny_bind (wpAny_mono (turn n s hJ) (fun r s1 h1=>?_) off)))
 cases r with
 | none=>exact wpAny_pure h1
 | some v=>
   refine wpAny_bind (wpAny_mono h1 (fun _ s2 h2=>wpAny_bind (wpAny_mono h2 (fun _ s3 h3=>wpAny_bind (wpAny_bind ?_)) off)) off)
   exact wpAny_mono h3 (fun x s4 h4=>wpAny_bind (wpAny_mono h4 (fun _ s5 h5=>wpAny_pure (wpAny_pure ⟨rfl,h5⟩)) off)) off
noncomputable def yn (cells:List (Str×Addr)):List (Str×NameKind)->List (Str×Addr)->List (Str×Addr)
 | [],cs=>cs
 | (n,k)::r,cs=>if k == .free then yn cells r ((n,(cells.lookup n).getD 0)::cs) else yn cells r cs
noncomputable def k8 (sc:Scope)(env:Env):List (Str×Addr):=yn env.cells sc.names []
theorem yo {env:Env}:∀ (l:List (Str×NameKind)) (cs:List (Str×Addr)),(∀ y∈l,y.2=.free->∃ c,env.cells.lookup y.1=some c) ->
   (forIn l cs fun(x:Str×NameKind) r=>(if x.2 == .free then (do let c <- cellOf env x.1;pure (ForInStep.yield ((x.1,c)::r))) else pure (ForInStep.yield r):Sem _))=pure (yn env.cells l cs)
 | [],cs,_=>rfl
 | (n,k)::l,cs,h=>by
   have hr:∀ y∈l,y.2=.free->∃ c,env.cells.lookup y.1=some c:=fun y hy=>h y (aaG _ hy)
   rw[abA,yn]
   by_cases hk:(k == NameKind.free)=true
   . obtain⟨c,hc⟩:=h (n,k) aa3 (by simpa using hk)
     have hc:env.cells.lookup n=some c:=hc
     simp only[hk,if_true,cellOf,hc,pure_bind,Option.getD_some]
     exact yo l _ hr
   . simp only[hk,if_false,pure_bind]
     exact yo l _ hr
theorem yp {sc:Scope}{env:Env}(h:∀ y∈sc.names,y.2=.free->∃ c,env.cells.lookup y.1=some c):closureFor sc env=pure (k8 sc env):=by
 unfold closureFor k8
 have:=yo (env:=env) sc.names [] h
 simp only[bind_pure]
 refine Eq.trans ?_ this
 congr 1
theorem qz {cells:List (Str×Addr)}{y:Str}{c:Addr}:∀ (l:List (Str×NameKind)) (cs:List (Str×Addr)),(yn cells l cs).lookup y=some c->((y,NameKind.free)∈l/\(cells.lookup y).getD 0=c)\/cs.lookup y=some c
 | [],cs,h=>.inr h
 | (n,k)::l,cs,h=>by
   rw[yn] at h
   by_cases hk:(k == NameKind.free)=true
   . rw[if_pos hk] at h
     have Ry:k=.free:=by simpa using hk
     subst Ry
     rcases qz l _ h with⟨h1,h2⟩ | h1
     . exact .inl ⟨aaG _ h1,h2⟩
     . rw[aaO] at h1
       cases q:(y == n) with
       | true=>
         rw[q] at h1
         have e:y=n:=by simpa using q
         subst e
         exact .inl ⟨aa3,Option.some.inj h1⟩
       | false=>rw[q] at h1;exact .inr h1
   . rw[if_neg hk] at h
     rcases qz l _ h with⟨h1,h2⟩ | h1
     . exact .inl ⟨aaG _ h1,h2⟩
     . exact .inr h1
theorem jw {cells:List (Str×Addr)}{y:Str}:∀ (l:List (Str×NameKind)) (cs:List (Str×Addr)),((y,NameKind.free)∈l\/∃ c,cs.lookup y=some c)->∃ c,(yn cells l cs).lookup y=some c
 | [],cs,h=>by
   rcases h with h | h
   . cases h
   . exact h
 | (n,k)::l,cs,h=>by
   rw[yn]
   by_cases hk:(k == NameKind.free)=true
   . rw[if_pos hk]
     refine jw l _ ?_
     rcases h with h | ⟨c,h⟩
     . rcases aau.mp h with h | h
       . cases h;exact .inr ⟨_,by rw[aaO,show(y == y)=true by simp]⟩
       . exact .inl h
     . refine .inr ?_
       rw[aaO]
       cases q:(y == n) with
       | true=>exact⟨_,rfl⟩
       | false=>exact⟨c,h⟩
   . rw[if_neg hk]
     refine jw l _ ?_
     rcases h with h | h
     . rcases aau.mp h with h | h
       . cases h;exact absurd rfl hk
       . exact .inl h
     . exact .inr h
theorem fm {env:Env}{y:Str}{k:NameKind}:∀ {names:List (Str×NameKind)},(names.map fun(n,k)=>if (k == NameKind.free && env.scope.kind == .function && env.kindOf n == some .cell) then (n,NameKind.cell) else (n,k)).lookup y=some k->∃ k',(y,k')∈names/\(k=k'\/k'=.free)
 | [],h=>by simp at h
 | (n,kk)::r,h=>by
   rw[aao,aaO] at h
   by_cases hc:(kk == NameKind.free && env.scope.kind == .function && env.kindOf n == some .cell)=true
   . simp only[hc,if_true] at h
     cases q:(y == n) with
     | true=>
       have e:y=n:=by simpa using q
       subst e
       have:kk=.free:=by
         have:=hc;simp at this;exact this.1.1
       exact⟨kk,aa3,.inr this⟩
     | false=>
       rw[q] at h
       obtain⟨k',h1,h2⟩:=fm h
       exact⟨k',aaG _ h1,h2⟩
   . simp only[hc,abh,if_false] at h
     cases q:(y == n) with
     | true=>
       have e:y=n:=by simpa using q
       subst e
       rw[q] at h
       exact⟨kk,aa3,.inl (Option.some.inj h).symm⟩
     | false=>
       rw[q] at h
       obtain⟨k',h1,h2⟩:=fm h
       exact⟨k',aaG _ h1,h2⟩
theorem mG {env:Env}{y:Str}:∀ {names:List (Str×NameKind)},names.lookup y=some .free->(names.map fun(n,k)=>if (k == NameKind.free && env.scope.kind == .function && env.kindOf n == some .cell) then (n,NameKind.cell) else (n,k)).lookup y=some .cell \/
   (names.map fun(n,k)=>if (k == NameKind.free && env.scope.kind == .function && env.kindOf n == some .cell) then (n,NameKind.cell) else (n,k)).lookup y=some .free
 | [],h=>by simp at h
 | (n,kk)::r,h=>by
   rw[aao,aaO]
   rw[aaO] at h
   cases q:(y == n) with
   | true=>
     rw[q] at h
     have:kk=.free:=Option.some.inj h
     subst this
     by_cases hc:(NameKind.free == NameKind.free && env.scope.kind == .function && env.kindOf n == some .cell)=true
     . left;simp only[hc,if_true];simp[q]
     . right;simp only[hc,abh,if_false];simp[q]
   | false=>
     rw[q] at h
     have ih:=mG (env:=env) h
     by_cases hc:(kk == NameKind.free && env.scope.kind == .function && env.kindOf n == some .cell)=true
     . simp only[hc,if_true,q];exact ih
     . simp only[hc,abh,if_false,q];exact ih
structure gk (X:Cx)(N:List Str)(ix:List Nat)(x:Str)(sc:Scope):Prop where
 nd:N.Nodup
 nm:N=x::ix.map (fun j=>X.N.getD j "")
 kind:sc.kind=.function
 uV:∀ y∈sc.names,y.2≠.cell
 names:∀ y∈sc.names,y.2=.local->sc.names.lookup y.1=some .local
 hx:sc.names.lookup x=some .local
 fr:∀ y∈sc.names,y.2=.free->X.env.kindOf y.1=some .cell\/X.env.kindOf y.1=some .free
 SU:∀ j∈ix,∃ y,X.N[j]?=some y/\sc.names.lookup y=some .free
noncomputable def aT (X:Cx)(N:List Str)(sc:Scope)(C:Addr)(fp:List Addr)(s:Shared)(H:Hp):Cx:=
 { X with N:=N,s₀:=s,H₀:=H,env:=compEnvC sc (k8 sc X.env) C X.env,outer:=X.stack,stack:=X.stack,ex:=fp,fn:=fun _=>false,pn:=[],xe:=wu}
noncomputable def frees (ix:List Nat)(st:L2.St):L2.St:=ix.map fun j=>(st[j]?).join
section
variable {X:Cx}{N:List Str}{ix:List Nat}{x:Str}{sc:Scope}{pins:List (Addr×Obj)}{st:L2.St}{H H':Hp}{s s':Shared}{C D:Addr}{fp:List Addr}{h1:Heap}
theorem G3 (B:gk X N ix x sc)(ok:X.Ok):closureFor sc X.env=pure (k8 sc X.env):=yp fun y hy hk=>ok.has y.1 (B.fr y hy hk)
theorem uW (B:gk X N ix x sc)(ok:X.Ok){y:Str}{c:Addr}(h:(k8 sc X.env).lookup y=some c):X.env.cells.lookup y=some c/\(y,NameKind.free)∈sc.names:=by
 rcases qz _ _ h with⟨h1,h2⟩ | h1
 . obtain⟨c',h3⟩:=ok.has y (B.fr _ h1 rfl)
   rw[h3] at h2
   cases h2
   exact⟨h3,h1⟩
 . cases h1
theorem yq (B:gk X N ix x sc)(I:L2.Inv X pins st H s)(hC:s.heap.objs.size<=C)(hf:∀ b∈fp,jT X pins H b)(cX:∀ b∈fp,b < s.heap.objs.size):(aT X N sc C fp s H).Ok where
 mod:=I.ok.mod
 kind:=B.kind
 glob:=I.ok.glob
 blt:=I.ok.blt
 above:=hC
 inj:=fun y z c h1 h2=>I.ok.inj y z c (uW B I.ok h1).1 (uW B I.ok h2).1
 has:=fun y hy=>by
   have hy:(relabel sc X.env).names.lookup y=some .cell\/(relabel sc X.env).names.lookup y=some .free:=hy
   have:(y,NameKind.free)∈sc.names:=by
     rcases hy with hy | hy
     . obtain⟨k',h1,h2⟩:=fm hy
       rcases h2 with h2 | h2
       . subst h2;exact absurd rfl (B.uV _ h1)
       . subst h2;exact h1
     . obtain⟨k',h1,h2⟩:=fm hy
       rcases h2 with h2 | h2 <;> subst h2 <;> exact h1
   exact jw _ _ (.inl this)
 Rq:=fun y c h=>by cases h
 hd:=I.ok.hd
 frames:=I.ok.frames
 RT:=.inl rfl
 KH:=fun b hb=>⟨aap (aak (cX b hb) hC),fun y c h=>(hf b hb).2.2.2.2.1 y c (uW B I.ok h).1⟩
 bs:=I.bs
 C1:=aav I.ok.C1 I.sz
 zU:=fun b o e hb=>by
   rcases (hf b hb).2.2.2.1 with z | z
   . exact I.ok.zU b o e z
   . exact absurd (aak (aaj e) (aav I.ok.C1 z)) (aa8 _)
 zV:=fun b hb z=>by
   rcases aau.mp (I.uC b z) with z | z
   . exact(hf b hb).2.1 z
   . exact(hf b hb).2.2.1 z
 rh:=I.stack
 M0:=I.tQ
theorem EX (B:gk X N ix x sc)(I:L2.Inv X pins st H s)(hf:∀ b∈fp,jT X pins H b)(cX:∀ b∈fp,b < s.heap.objs.size)(hC:C=s.heap.objs.size+1)(k:∀ b o,s.heap.get? b=some o->h1.get? b=some o)(hn:h1.Ns C fun _=>none)(hD:h1.get? s.heap.objs.size=some { cls:=.type "list",data:=.seq ([]:List Value).toArray 0}){t':Nat}:L2.Inv (aT X N sc C fp s H) [] (none::frees ix st) (upd H s.heap.objs.size (.lst [])) { s with heap:=h1,toks:=t'}:=by
 have Ng:s.heap.objs.size<=C:=by rw[hC];exact abe _
 have fr:∀ a,s.heap.objs.size<=a->H a=none:=fun a ha=>I.bh.fresh ha
 have ok:=yq B I Ng hf cX
 have BC:∀ y c,(k8 sc X.env).lookup y=some c->H c=none/\c < s.heap.objs.size/\∃ v,s.heap.IsCell c v:=fun y c h=>by
   have h:=(uW B I.ok h).1
   obtain⟨v,q⟩:=I.cell y c h
   exact⟨I.pf y c h,q.lt,v,q⟩
 refine⟨ok,rfl,I.bare,Un.laid k (aac _) (fr _ (aac _)),⟨_,hn,fun i y v e1 e2 e3=>?_⟩,fun y c h=>?_,?_,fun y c h=>?_,fun p hp=>absurd (show p∈([]:List (Addr×Obj)) from hp) (by simp),?_,?_⟩
 . have e1:N[i]?=some y:=e1
   cases i with
   | zero=>cases e2
   | succ i=>
     rw[B.nm,aa1,aab] at e1
     rw[aa1] at e2
     unfold frees at e2
     rw[aab] at e2
     cases q:ix[i]? with
     | none=>rw[q] at e1;cases e1
     | some j=>
       rw[q] at e1 e2
       obtain⟨y',Ko,G4⟩:=B.SU j (abi q)
       have Ld:=PySem.mem_of_lookup G4
       have ey:y=y':=by
         have e1:X.N.getD j ""=y:=Option.some.inj e1
         rw[WY,Ko] at e1
         exact e1.symm
       subst ey
       have e2:(st[j]?).join=some v:=Option.some.inj e2
       have SV:st[j]?=some (some v):=by
         cases q2:st[j]? with
         | none=>rw[q2] at e2;cases e2
         | some z=>rw[q2] at e2;rw[show z=some v from e2]
       have kd:=B.fr _ Ld rfl
       have SW:uB X.env.scope y:=by
         rcases kd with z | z
         . exact .inr (.inl z)
         . exact .inr (.inr z)
       obtain⟨m,_,hl⟩:=I.loc
       obtain⟨u,r,l⟩:=hl j y v Ko SV SW
       refine⟨u,r,.inr ?_⟩
       rcases l with⟨z,_⟩ | ⟨_,c,hc,ic⟩
       . rcases kd with z' | z' <;> rw[z] at z' <;> cases z'
       . obtain⟨c',BD⟩:=jw (cells:=X.env.cells) sc.names [] (.inl Ld)
         have:=(uW B I.ok BD).1
         rw[hc] at this;cases this
         obtain⟨oc,C4,hd⟩:=ic
         refine⟨?_,c,BD,oc,k _ _ C4,hd⟩
         rcases e3 with e3 | e3 | e3
         . have e3:(relabel sc X.env).names.lookup y=some .local:=e3
           rcases mG (env:=X.env) G4 with z | z
           . exact absurd (e3.symm.trans z) (by decide)
           . exact absurd (e3.symm.trans z) (by decide)
         . exact .inl e3
         . exact .inr e3
 . obtain⟨_,_,v,oc,C4,hd⟩:=BC y c h
   exact⟨v,oc,k _ _ C4,hd⟩
 . show upd H s.heap.objs.size (.lst []) C=none
   rw[ag (by rw[hC];exact abu _)]
   exact fr _ Ng
 . show upd H s.heap.objs.size (.lst []) c=none
   obtain⟨q1,q2,_⟩:=BC y c h
   rw[ag (aap q2)]
   exact q1
 . exact I.bh.laid k (aac _) ⟨aaQ _,[],0,.nil,hD⟩
 . show(none::frees ix st).length=N.length
   rw[B.nm]
   unfold frees
   simp
def O0 (te:TE)(fs:L2.St)(J:It)(D:Addr)(Q:List V->Hp->Prop)(H:Hp):Prop:=
 ∃ W:Nat->Nat->List V->Hp->Prop,(∃ m,W 0 m [] (upd H D (.lst [])))/\∀ i m ys H1,W i m ys H1 ->
   (J.stop i H1/\Q ys H1)\/(J.go i H1/\ys.length < sizeLine/\∀ v H2,J.Gs i H1 v H2->te (some v::fs) H2 fun y H3=>H3 D=some (.lst ys)/\∃ m',m' < m/\W (i+1) m' (ys ++ [y]) (upd H3 D (.lst (ys ++ [y]))))
theorem Dq {elt iter:Expr}{px pos:Pos}{te:TE}{J:It}{it:Addr}{tn:Nat->Heap->Prop}{Q:Addr->List V->Hp->Prop}{RR:Value->Addr->Result->Shared->Prop}{E:Value->Shared->Prop}(hc:X.calm=true)(B:gk X N ix x sc)(jD:∀ C fp s H,PE (aT X N sc C fp s H) elt te)(I:L2.Inv X pins st H s)(T:Turn X.prog X.w X.K (.Name x px) J fp it tn)(h0:tn 0 s.heap)(hf:∀ b∈fp,jT X pins H b)(hq:∀ D,H D=none->O0 te (frees ix st) J D (Q D) H)(SY:∀ D C ys H' s',L2.Inv X pins st H' s'->(∃ m,s'.heap.Ns C m)->jT X pins H' C->Q D ys H'->RR (.ref D) C (.ok .next) s'):wpAny (model X.prog X.w) X.A (newList []) (fun acc s3=>wpAny (model X.prog X.w) X.A (newFunctionEnv sc X.env.globals (k8 sc X.env) [] X.env.qual none .none (some X.env)) (fun Ao s4=>codeAny (model X.prog X.w) X.A (.compStart (.ListComp elt [⟨.Name x px,iter,[],0⟩] sc pos) 0 (.ref it) acc { Ao with scope:=relabel sc X.env}) (RR acc Ao.locals) s4) E s3) E s:=by
 have cX:∀ b∈fp,b < s.heap.objs.size:=fun b hb=>by
   obtain⟨o,e,_⟩:=T.obj _ _ h0 b hb
   exact aaj e
 refine wpAny_newObj_type (wpAny_newFunctionEnv B.uV (fun y hy=>absurd hy (by simp)) (fun h1 F6 EY=>?_) B.kind)
 dsimp only at F6 EY ⊢
 generalize hG:s.heap.push { cls:=.type "list",dict:=none,data:=.seq ([]:List Value).toArray}=g at F6 EY ⊢
 have hC:g.objs.size=s.heap.objs.size+1:=by rw[<- hG,aaT]
 have Vh:s.heap.objs.size≠g.objs.size:=by rw[hC];exact aap (abg _)
 have old:∀ b o,s.heap.get? b=some o->h1.get? b=some o:=fun b o e=>
   EY.extBut b o (by rw[hC];exact aap (abG (aaj e))) (Vf _ (hG ▸ Vf _ e))
 have G5:h1.get? s.heap.objs.size=some { cls:=.type "list",data:=.seq ([]:List Value).toArray 0}:=EY.extBut _ _ Vh (Vf _ (hG ▸ aai _ rfl))
 have hD:H s.heap.objs.size=none:=I.bh.fresh (aac _)
 obtain⟨W,⟨m0,w0⟩,turn⟩:=hq _ hD
 have I0:=EX (t':=s.toks+([]:List (Str×Value)).length) B I hf cX hC old (by simpa using F6) G5
 have Nh:tn 0 h1:=T.keep _ _ _ h0 fun b _ o e=>old b o e
 have nM:s.heap.objs.size<=g.objs.size:=by rw[hC];exact abe _
 have pL:∀ {H':Hp},(∀ b∈fp,H' b=none)->∀ b∈fp,jT (aT X N sc g.objs.size fp s H) [] H' b:=fun {H'} hn b hb=>
   ⟨hn b hb,((yq B I nM hf cX).KH b hb).1,(yq B I nM hf cX).zV b hb,.inl hb,((yq B I nM hf cX).KH b hb).2,fun p hp=>absurd (show p∈([]:List (Addr×Obj)) from hp) (by simp)⟩
 have hN:(aT X N sc g.objs.size fp s H).N[0]?=some x:=by
   show N[0]?=some x
   rw[B.nm];rfl
 have Kq:(aT X N sc g.objs.size fp s H).env.scope.names.lookup x=some .local:=lookup_relabel_local B.hx
 have loop:∀ s3:Shared,s3={ s with heap:=h1,toks:=s.toks+([]:List (Str×Value)).length} ->
     codeAny (model X.prog X.w) X.A (.compLoop (.ListComp elt [⟨.Name x px,iter,[],0⟩] sc pos) 0 (.ref it) (.ref s.heap.objs.size) (compEnvC sc (k8 sc X.env) g.objs.size X.env)) (RR (.ref s.heap.objs.size) g.objs.size) s3:=by
   rintro s3 rfl
   refine Lc (fun n s'=>∃ i ys σ H',L2.Inv (aT X N sc g.objs.size fp s H) [] (σ::frees ix st) H' s'/\tn i s'.heap/\(∀ b∈fp,H' b=none)/\W i n ys H') ?_ m0
     ⟨0,[],none,_,I0,Nh,fun b hb=>?_,w0⟩
   . rintro n s5 ⟨i,ys,σ,H5,I5,F5,Kl,w5⟩
     rcases turn i n ys H5 w5 with⟨stop,qn⟩ | ⟨go,hz,step⟩
     . refine bM (T.done (aT X N sc g.objs.size fp s H) rfl rfl rfl hc i [] s5 _ H5 wu I5 (pL Kl) F5 stop) fun r s6 ⟨hr,I6⟩=>?_
       subst hr
       refine SY _ _ ys H5 s6 ?_ ?_ (I.rq nM I6.free) qn
       . exact I.Gm I6.os I6.base I6.bh I6.bare fun b hb=>⟨(hf b hb).2.2.2.1,(hf b hb).2.1,(hf b hb).2.2.2.2.1,(hf b hb).2.2.2.2.2⟩
       . obtain⟨m,hm,_⟩:=I6.loc
         exact⟨m,hm⟩
     . refine bM (T.item (aT X N sc g.objs.size fp s H) rfl rfl rfl hc i [] s5 _ H5 wu I5 (pL Kl) F5 go) fun r s6 ⟨u,hr,h6⟩=>?_
       subst hr
       refine bM h6 fun _ s7 ⟨v,H7,I7,r7,y7,G6,S5⟩=>?_
       have S6:=I7.pinned (pL S5) (T.obj _ _ G6)
       refine bM (bX (X:=aT X N sc g.objs.size fp s H) (pos:=px) B.nd hN (.inl Kq) (.inr Kq) _ s7 _ H7 v u (fun σ' H'=>σ'=some v::frees ix st/\H'=H7) S6 r7 ⟨rfl,rfl⟩) fun _ s8 h8=>?_
       obtain⟨σ8,H8,I8,rfl,rfl⟩:=h8
       refine bM (jD g.objs.size fp s H _ s8 _ H8 _ I8 (step v H8 y7)) fun z s9 ⟨y,H9,I9,r9,S9,m',hm,w9⟩=>?_
       refine bM (om _ s9 _ H9 (.ref s.heap.objs.size) [y] (.ref s.heap.objs.size) [z] (fun _ H'=>H'=upd H9 s.heap.objs.size (.lst (ys ++ [y]))) I9 rfl (.cons r9 .nil) ⟨_,ys,y,rfl,rfl,S9,hz,rfl⟩) fun _ YN Ta=>?_
       obtain⟨_,YO,G7,_,rfl⟩:=Ta
       refine⟨m',hm,i+1,ys ++ [y],some v,_,G7.jr (pins:=[]),T.keep _ _ _ G6 fun b hb o e=>(G7.pin (b,o) (aaq _ (aaq _ (fi hb e)))).1,fun b hb=>?_,w9⟩
       obtain⟨o,e,d⟩:=T.obj _ _ G6 b hb
       exact(G7.pin (b,o) (aaq _ (aaq _ (fi hb e)))).2.1
   . rw[ag (aap (cX b hb))]
     exact(hf b hb).1
 exact codeAny_compStart_list (loop _ rfl) (T.self _ 0 _ _ _ Nh (loop _ rfl))
end
def Vi (K:PySem.W.Frag)(G:Gr)(dl:List Slot)(o:Own):TE:=fun st H Q=>∃ Hf,du K G st Hf H dl/\∀ p aH H',aV Hf H aH H'->H p=none->aH p=none->gj K aH H' p o->Q (.ref p) H'
abbrev EO (X:Cx)(G:Gr)(dl:List Slot)(e:Expr)(o:Own):Prop:=PE X e (Vi X.K G dl o)
noncomputable def Tb:Own->Dt
 | .lst ds=>.lst ds
 | .cV k=>.cV k
 | .obj C fs=>.obj C fs
 | .Al _ C fs=>.obj C fs
 | .pM C fs gs nm n=>.wc C fs gs nm n
 | .yh _ C fs gs nm n=>.wc C fs gs nm n
 | .mF k=>.mF k
section
variable {K:W.Frag}{G:Gr}{st:L2.St}{Hf H aH H':Hp}{dl:List Slot}{p:Addr}{w:Own}{u:HO}
theorem Ap (g:aV Hf H aH H')(n:H p=none)(n':aH p=none)(e:H' p=some u):aV Hf H (upd aH p u) H':=
 ⟨g.big,g.bj.trans (bA n'),fun b o h=>by
   by_cases hb:b=p
   . subst hb;rw[ak] at h;cases h;exact e
   . rw[ag hb] at h;exact g.sub _ _ h,fun a o h=>by
   by_cases hb:a=p
   . subst hb;exact .inr (.inl n)
   . rw[ag hb] at h;exact g.new a o h⟩
theorem yr (r:gj K Hf H p w)(n:Hf p=none):∃ u,H p=some u/\Rep K (upd Hf p u) (.ref p) (Tb w):=by
 cases w with
 | lst ds=>obtain⟨vs,h,r⟩:=r;exact⟨_,h,.lst ak (r.mono (bA n))⟩
 | cV ds=>obtain⟨vs,h,r⟩:=r;exact⟨_,h,.cV ak (r.mono (bA n))⟩
 | obj C ds=>obtain⟨dx,fs,h,r⟩:=r;exact⟨_,h,.obj (.of ak) (r.mono (bA n))⟩
 | Al x C ds=>obtain⟨_,dx,fs,h,r⟩:=r;exact⟨_,h,.obj (.of ak) (r.mono (bA n))⟩
 | pM C ds gs nm k=>obtain⟨dx,fs,b,ls,q,h,r⟩:=r;exact⟨_,h,.wc q (.of ak) (r.mono (bA n))⟩
 | yh x C ds gs nm k=>obtain⟨_,dx,fs,b,ls,q,h,r⟩:=r;exact⟨_,h,.wc q (.of ak) (r.mono (bA n))⟩
 | mF ks=>exact⟨_,r,.mF ak⟩
theorem du.O1 (S:du K G st Hf H dl)(g:aV Hf H aH H'){i:Nat}(n:H p=none)(n':aH p=none)(r:gj K aH H' p w):du K G (st.set i (some (.ref p))) aH H' (dl.set i (.own w)):=by
 have ln:=S.len
 have S':=S.grow g
 have pn:∀ (j:Nat) (o':Own) (a:Addr),dl[j]?=some (Slot.own o')->st[j]?=some (some (V.ref a))->a≠p:=fun j o' a h1 h2=>by
   obtain⟨b,q1,_,_,q4⟩:=S.own j o' h1
   rw[h2] at q1;cases q1
   obtain⟨u,hu⟩:=q4.some
   exact au hu n
 refine⟨S'.gr,by simp[S.len],fun j x h=>?_,fun j o' h=>?_,fun j k o1 o2 a h1 h2 h3 h4=>?_⟩
 . by_cases e:i=j
   . subst e
     by_cases hl:i < dl.length
     . rw[aae hl] at h;cases h
     . rw[aaw (by simp;omega)] at h;cases h
   . rw[aaf e] at h ⊢;exact S'.val j x h
 . by_cases e:i=j
   . subst e
     by_cases hl:i < dl.length
     . rw[aae hl] at h;cases h
       exact⟨p,aae (by omega),n',S.gr.big.free n,r⟩
     . rw[aaw (by simp;omega)] at h;cases h
   . rw[aaf e] at h ⊢
     exact S'.own j o' h
 . by_cases ej:i=j
   . by_cases ek:i=k
     . omega
     . subst ej
       rw[aaf ek] at h2 h4
       by_cases hl:i < st.length
       . rw[aae hl] at h3;cases h3
         exact absurd rfl (pn k o2 _ h2 h4)
       . rw[aaw (by simp;omega)] at h3;cases h3
   . rw[aaf ej] at h1 h3
     by_cases ek:i=k
     . subst ek
       by_cases hl:i < st.length
       . rw[aae hl] at h4;cases h4
         exact absurd rfl (pn j o1 _ h1 h3)
       . rw[aaw (by simp;omega)] at h4;cases h4
     . rw[aaf ek] at h2 h4
       exact S.EN j k o1 o2 a h1 h2 h3 h4
theorem du.bj (S:du K G st Hf H dl){i:Nat}(hd:dl[i]?=some (.own w)):∃ aH,aC Hf aH/\du K G st aH H (dl.set i (.val (Tb w))):=by
 have ln:=S.len
 obtain⟨p,h1,h2,h3,h4⟩:=S.own i w hd
 obtain⟨u,hu,rp⟩:=yr h4 h2
 have hl:i < dl.length:=(aad.mp hd).1
 have sm:aC Hf (upd Hf p u):=bA h2
 refine⟨upd Hf p u,sm,⟨S.gr.big,S.gr.bj.trans sm,fun b o h=>?_,fun a o h=>?_⟩,by simp[S.len],fun j x h=>?_,fun j o' h=>?_,fun j k o1 o2 a q1 q2 q3 q4=>?_⟩
 . by_cases hb:b=p
   . subst hb;rw[ak] at h;cases h;exact hu
   . rw[ag hb] at h;exact S.gr.sub _ _ h
 . by_cases hb:a=p
   . subst hb;exact .inr (.inl h3)
   . rw[ag hb] at h;exact S.gr.new a o h
 . by_cases e:i=j
   . subst e
     rw[aae hl] at h;cases h
     exact⟨_,h1,rp⟩
   . rw[aaf e] at h
     obtain⟨v,z1,z2⟩:=S.val j x h
     exact⟨v,z1,z2.mono sm⟩
 . by_cases e:i=j
   . subst e;rw[aae hl] at h;cases h
   . rw[aaf e] at h
     obtain⟨a,z1,z2,z3,z4⟩:=S.own j o' h
     have ne:a≠p:=fun q=>by subst q;exact e (S.EN i j _ _ _ hd h h1 z1)
     exact⟨a,z1,by rw[ag ne];exact z2,z3,z4.grow rfl sm⟩
 . have tr:∀ (j:Nat) o',(dl.set i (.val (Tb w)))[j]?=some (.own o')->dl[j]?=some (.own o'):=fun j o' h=>by
     by_cases e:i=j
     . subst e;rw[aae hl] at h;cases h
     . rw[aaf e] at h;exact h
   exact S.EN j k _ _ a (tr _ _ q1) (tr _ _ q2) q3 q4
end
section
variable {X:Cx}{G:Gr}{E:XK}{dl:List Slot}{a b e:Expr}{i:Int}{d:Dt}{ds:List Dt}{pos p:Pos}{o:Out}{x:Str}{u v:Bool}{sts:List Stmt}{C:Addr}{w:Own}{fs:List (Str×Dt)}
theorem O2 (h:EO X G dl e w):EE X G dl e (Tb w):=hV h fun st H Q zq=>aaa zq fun Hf zq=>have S:=zq.1;have k:=zq.2;⟨Hf,S,fun p aH H' g n n' r=>by
 obtain⟨u,hu,rp⟩:=yr r n'
 exact k _ _ H' (Ap g n n' hu) rp⟩
theorem pv (h:EO X G dl e (.lst ds)):EE X G dl e (.lst ds):=O2 h
theorem Tc (h:EO X G dl e (.obj C fs)):EE X G dl e (.obj C fs):=O2 h
theorem Dr {w':Own}(h:EO X G dl e w)(q:w=w'):EO X G dl e w':=by subst q;exact h
theorem jX (n:Nat){x:Str}{pos':Pos}(hN:X.N.Nodup)(he:EO X G dl e w)(hi:X.N[n]?=some x:=by rfl)(hx:Loc X.env.scope x:=by first | exact aaL rfl | exact aaB rfl)(hs:swapsWith e (some (.Name x pos')) pos.line X.env=pure false:=by rfl)(hf:X.fn x=true\/X.env.scope.names.lookup x=some .local:=by first | exact .inl rfl | exact .inr rfl | assumption):ES X G E dl (.Assign [.Name x pos'] e pos) (.nx (dl.set n (.own w))):=
 tV (x4 hN hi hx he hs hf) fun D st H zq=>aaa zq fun Hf zq=>have S:=zq.1;have k:=zq.2;⟨Hf,S,fun p Hf1 H1 g1 n1 n2 r1=>k _ Hf1 H1 g1.bj (S.O1 g1 n1 n2 r1)⟩
theorem mH (h:EO X G dl e w):ES X G E dl (.Return (some e) pos) (.ro w):=tV (BJ h) fun D st H zq=>aaa zq fun Hf zq=>have S:=zq.1;have k:=zq.2;⟨Hf,S,fun p Hf1 H1 g1 n1 n2 r1=>k p Hf1 H1 (S.gr.trans g1) (S.gr.big.free n1) n2 r1⟩
theorem yt (n:Nat)(hd:dl[n]?=some (.own w):=by rfl)(hN:X.N[n]?=some x:=by rfl)(hv:uB X.env.scope x:=by first | exact aaL rfl | exact aaB (aaL rfl) | exact aaB (aaB rfl))(hb:(x == ("__debug__":Str))=false:=by decide)(lV:(x == ("__classdict__":Str))=false:=by decide):ES X G E dl (.Return (some (.Name x p)) pos) (.ro w):=
 tV (BJ (iU hN hv hb lV)) fun D st H zq=>aaa zq fun Hf zq=>have S:=zq.1;have k:=zq.2;by
   obtain⟨q,h1,h2,h3,h4⟩:=S.own n w hd
   exact⟨_,h1,k q Hf H S.gr h3 h2 h4⟩
theorem yu (i:Nat)(h:l4 X G E (dl.set i (.val (Tb w))) sts o)(hd:dl[i]?=some (.own w):=by rfl):l4 X G E dl sts o:=yi h fun D st H zq=>aaa zq fun Hf zq=>have S:=zq.1;have k:=zq.2;by
 obtain⟨aH,sm,S'⟩:=S.bj hd
 exact⟨aH,S',k.mono sm⟩
def tOv (K:W.Frag)(G:Gr)(dl:List Slot)(n:Nat)(w:Own):TE:=fun st H Q=>∃ Hf a,du K G st Hf H dl/\st[n]?=some (some (.ref a))/\Hf a=none/\gj K Hf H a w/\Q (.ref a) H
theorem uX (n:Nat)(hd:dl[n]?=some (.own w))(hN:X.N[n]?=some x)(hv:uB X.env.scope x)(hb:(x == ("__debug__":Str))=false)(lV:(x == ("__classdict__":Str))=false):PE X (.Name x p) (tOv X.K G dl n w):=
 hV (iU hN hv hb lV) fun st H Q ⟨Hf,a,S,h1,_,_,q⟩=>⟨_,h1,q⟩
theorem pO (n:Nat)(hb:EE X G dl b (.int i))(h:lZ ds i=some d)(hd:dl[n]?=some (.own (.lst ds)):=by rfl)(hN:X.N[n]?=some x:=by rfl)(hv:uB X.env.scope x:=by first | exact aaL rfl | exact aaB (aaL rfl) | exact aaB (aaB rfl))(lU:(x == ("__debug__":Str))=false:=by decide)(lV:(x == ("__classdict__":Str))=false:=by decide)(hs:jU b:=by intro _ _;rfl):EE X G dl (.Subscript (.Name x p) b pos) d:=
 hV (uM ya (uX (p:=p) n hd hN hv lU lV) hb hs) fun st H Q zq=>aaa zq fun Hf zq=>have S:=zq.1;have k:=zq.2;by
   obtain⟨q,h1,h2,h3,h4⟩:=S.own n _ hd
   refine⟨Hf,q,S,h1,h2,h4,Hf,S,fun z Hf1 H1 g1 r1=>?_⟩
   cases r1
   obtain⟨vs,hq,rp⟩:=h4
   obtain⟨v,hv1,hv2⟩:=rp.lZ h
   exact⟨q,vs,i,v,rfl,rfl,.of (g1.big _ _ hq),hv1,k v Hf1 H1 g1 (hv2.mono g1.bj)⟩
theorem l5 (n:Nat){m:Nat}{ps pn:Pos}(he:EE X G dl e d)(hb:EE X G dl b (.int i))(h:Ac ds.length i=some m)(hd:dl[n]?=some (.own (.lst ds)):=by rfl)(hN:X.N[n]?=some x:=by rfl)
   (hv:uB X.env.scope x:=by first | exact aaL rfl | exact aaB (aaL rfl) | exact aaB (aaB rfl)) (lU:(x == ("__debug__":Str))=false:=by decide) (lV:(x == ("__classdict__":Str))=false:=by decide)
   (ha:∀ v,assign (.Subscript (.Name x pn) b ps) X.env v=(do
     let ov <- holding [v] (eval (.Name x pn) X.env)
     let iv <- holding [v,ov] (eval b X.env)
     standAt ps
     holding [v,ov,iv] (setItem ov iv v)
     release [v,ov,iv] []):=by intro _;rfl)
   (hs:swapsWithSole [.Subscript (.Name x pn) b ps] e pos.line X.env=pure false:=by rfl) (hw:swappedStores [.Subscript (.Name x pn) b ps] e X.env=pure none:=by rfl)
   (h1:(assignEach [.Subscript (.Name x pn) b ps] X.env).map (·.2)=[assign (.Subscript (.Name x pn) b ps) X.env]:=by rfl) :
   ES X G E dl (.Assign [.Subscript (.Name x pn) b ps] e pos) (.nx (dl.set n (.own (.lst (ds.set m d))))):=
 tV (Gp he (Og (uX (p:=pn) n hd hN hv lU lV) hb set_list ha) hs hw h1) fun D st H zq=>aaa zq fun Hf zq=>have S:=zq.1;have k:=zq.2;⟨Hf,S,fun v Hf1 H1 g1 r1=>by
   have S1:=S.grow g1
   obtain⟨q,z1,z2,z3,z4⟩:=S1.own n _ hd
   refine⟨Hf1,q,S1,z1,z2,z4,Hf1,S1,fun iv bD H2 g2 r2=>?_⟩
   cases r2
   have S2:=S1.grow g2
   obtain⟨q',y1,y2,y3,vs,hq,rp⟩:=S2.own n _ hd
   rw[z1] at y1;cases y1
   refine⟨q,vs,i,m,rfl,rfl,hq,by rw[rp.length];exact h,?_⟩
   exact k st bD _ (g1.bj.trans g2.bj) (S2.ER hd z1 ⟨_,ak,rp.set (r1.mono g2.bj) m⟩)⟩
end
section
variable {X:Cx}{G:Gr}{E:XK}{dl:List Slot}{a b e:Expr}{es:List Expr}{i j:Int}{d d1 d2:Dt}{ds:List Dt}{pos p apos bN:Pos}{x:Str}{v:Bool}{s:Stmt}
theorem uY (h:EA X G dl es ds)(hl:ds.length<=sizeLine:=by decide):EO X G dl (.List es pos) (.lst ds):=
 hV (uL h) fun st H Q zq=>aaa zq fun Hf zq=>have S:=zq.1;have k:=zq.2;⟨Hf,S,fun vs Hf1 H1 g1 r1=>⟨by rw[r1.length];exact hl,fun p hp=>k p Hf1 _ (g1.trans (.d8 g1.sub hp)) (g1.big.free hp) (g1.sub.free hp) ⟨vs,ak,r1⟩⟩⟩
theorem Td {op:Operator}{r:R2}(ho:pj X (binaryOp op) r)(ha:EE X G dl a d1)(hb:EE X G dl b d2)(h:∀ v z Hf H Q,aC Hf H->Rep X.K Hf v d1->Rep X.K Hf z d2->(∀ p vs,H p=none->aM X.K Hf vs ds->Q (.ref p) (upd H p (.lst vs)))->r v z H Q):EO X G dl (.BinOp a op b pos) (.lst ds):=
 hV (M7 ho ha hb) fun st H Q zq=>aaa zq fun Hf zq=>have S:=zq.1;have k:=zq.2;⟨Hf,S,fun v Hf1 H1 g1 r1=>⟨Hf1,S.grow g1,fun z bD H2 g2 r2=>h v z bD H2 Q g2.sub (r1.mono g2.bj) r2 fun p vs hp rv=>
   k p bD _ ((g1.trans g2).trans (.d8 g2.sub hp)) ((g1.trans g2).big.free hp) (g2.sub.free hp) ⟨vs,ak,rv⟩⟩⟩
theorem Aq {K:W.Frag}{H:Hp}{vs:List V}{ds:List Dt}(r:aM K H vs ds):∀ n:Nat,aM K H (aah n vs).flatten (aah n ds).flatten
 | 0=>.nil
 | n+1=>by
   rw[abc,abc,aaZ,aaZ]
   exact r.append (Aq r n)
theorem G8 (ha:EE X G dl a (.lst ds))(hb:EE X G dl b (.int i))(h1:-(2 ^ 63)<=i)(h2:i < 2 ^ 63)(hl:ds.length * i.toNat<=sizeLine):EO X G dl (.BinOp a .Mult b pos) (.lst (aah i.toNat ds).flatten):=
 Td OJ ha hb fun v z Hf H Q s r1 r2 k=>by
   cases r1 with
   | lst q1 r1=>cases r2;exact⟨_,i,_,rfl,rfl,s _ _ q1,h1,h2,by rw[r1.length];exact hl,fun p hp=>k p _ hp (Aq r1 _)⟩
theorem EZ:bootBuiltins "max"=some (.builtin "max"):=by decide +kernel
theorem E1:bootBuiltins "min"=some (.builtin "min"):=by decide +kernel
theorem O3 (hm:X.mg "max"=none)(hc:X.calm=true)(ha:EA X G dl [a,b] [.int i,.int j])(hg:Gl X "max":=by rfl)(he:starEach [a,b] X.env=(false,eval a X.env)::starEach [b] X.env:=by rfl)(nC:(backTo pos (starEach [b] X.env)).any (·.1)=false:=by rfl) :
   EE X G dl (.Call (.Name "max" p) [a,b] [] pos) (.int (if j > i then j else i)):=
 hV (hZ (Eu hc) hg hm EZ ha (by decide) (by decide) he nC) fun st H Q zq=>aaa zq fun Hf zq=>have S:=zq.1;have k:=zq.2;⟨Hf,S,fun vs Hf1 H1 g1 r1=>by
   cases r1 with
   | cons r1 t1=>cases t1 with
     | cons r2 t2=>cases t2;cases r1;cases r2;exact⟨i,j,rfl,k _ Hf1 H1 g1 (.int _)⟩⟩
theorem O4 (hm:X.mg "min"=none)(hc:X.calm=true)(ha:EA X G dl [a,b] [.int i,.int j])(hg:Gl X "min":=by rfl)(he:starEach [a,b] X.env=(false,eval a X.env)::starEach [b] X.env:=by rfl)(nC:(backTo pos (starEach [b] X.env)).any (·.1)=false:=by rfl) :
   EE X G dl (.Call (.Name "min" p) [a,b] [] pos) (.int (if j < i then j else i)):=
 hV (hZ (Ew hc) hg hm E1 ha (by decide) (by decide) he nC) fun st H Q zq=>aaa zq fun Hf zq=>have S:=zq.1;have k:=zq.2;⟨Hf,S,fun vs Hf1 H1 g1 r1=>by
   cases r1 with
   | cons r1 t1=>cases t1 with
     | cons r2 t2=>cases t2;cases r1;cases r2;exact⟨i,j,rfl,k _ Hf1 H1 g1 (.int _)⟩⟩
theorem rM (n:Nat){pn:Pos}(he:EE X G dl e d)(hl:ds.length < sizeLine)(hd:dl[n]?=some (.own (.lst ds)):=by rfl)(hN:X.N[n]?=some x:=by rfl)(hv:uB X.env.scope x:=by first | exact aaL rfl | exact aaB (aaL rfl) | exact aaB (aaB rfl))
   (lU:(x == ("__debug__":Str))=false:=by decide) (lV:(x == ("__classdict__":Str))=false:=by decide)
   (ju:attributeBase (.Name x pn) "append" X.env (eval (.Name x pn) X.env)=eval (.Name x pn) X.env:=by rfl)
   (uO:((backTo bN (starEach [e] X.env)).all (fun x=>!x.1) && (backToKw bN (keywordEach [] X.env)).all (fun x=>x.1.isSome) && decide ([e].length+([]:List Keyword).length+(if ([]:List Keyword).isEmpty then 0 else 1) < 30))=true:=by rfl)
   (jv:(apos.endLine == bN.line)=true:=by rfl) (pK:starEach [e] X.env=(false,eval e X.env)::starEach [] X.env:=by rfl) (hs:swapsWith (.Call (.Attribute (.Name x pn) "append" apos) [e] [] bN) none pos.line X.env=pure false:=by rfl) :
   ES X G E dl (.Expr (.Call (.Attribute (.Name x pn) "append" apos) [e] [] bN) pos) (.nx (dl.set n (.own (.lst (ds ++ [d]))))):=
 tV (lg (uN PySem.F.plainAttrs_list PySem.F.slot_list_append PySem.F.type_list_append om (uX (p:=pn) n hd hN hv lU lV) (ae he ai pK) ju uO jv pK rfl) hs) fun D st H zq=>aaa zq fun Hf zq=>have S:=zq.1;have k:=zq.2;by
   obtain⟨q,z1,z2,z3,vs,hq,rp⟩:=S.own n _ hd
   refine⟨Hf,q,S,z1,z2,⟨vs,hq,rp⟩,.inl ⟨rfl,vs,.of hq⟩,Hf,S,fun us Hf1 H1 g1 r1=>?_⟩
   cases r1 with
   | cons r1 t1=>
     cases t1
     refine⟨q,vs,_,rfl,rfl,g1.big _ _ hq,by rw[rp.length];exact hl,?_⟩
     exact k st Hf1 _ g1.bj ((S.grow g1).ER hd z1 ⟨_,ak,(rp.mono g1.bj).append (.cons r1 .nil)⟩)
theorem oB {K:W.Frag}{H:Hp}:∀ {vs:List V} {xs:List Str},aM K H vs (xs.map Dt.str)->vs=xs.map V.str
 | _,[],.nil=>rfl
 | _,x::xs,.cons r t=>by cases r;rw[oB t];rfl
end
noncomputable def Ar:Option Slot->Slot
 | some (.val d)=>.val d
 | _=>.aY
theorem xv {o:Option Slot}{w:Own}(h:Ar o=.own w):False:=by
 unfold Ar at h
 split at h <;> cases h
theorem xw {o:Option Slot}{d:Dt}(h:Ar o=.val d):o=some (.val d):=by
 unfold Ar at h
 split at h
 . cases h;rfl
 . cases h
noncomputable def iS (dl:List Slot)(ix:List Nat):List Slot:=ix.map fun j=>Ar dl[j]?
section
variable {K:W.Frag}{G:Gr}{st:L2.St}{Hf H Hf1 H1:Hp}{dl:List Slot}{ix:List Nat}
theorem Lf (S:du K G st Hf H dl)(s1:aC Hf Hf1)(sb:aC Hf1 H1){v:V}{d:Dt}(r:Rep K Hf1 v d):du K ⟨Hf1,H1⟩ (some v::frees ix st) Hf1 H1 (.val d::iS dl ix):=by
 have no:∀ (i:Nat) o,(Slot.val d::iS dl ix)[i]?≠some (.own o):=fun i o h=>by
   cases i with
   | zero=>cases h
   | succ i=>
     rw[aa1] at h
     unfold iS at h
     rw[aab] at h
     cases q:ix[i]? with
     | none=>rw[q] at h;cases h
     | some j=>
       rw[q] at h
       exact xv (Option.some.inj h)
 refine⟨.refl sb,by simp[frees,iS],fun i x h=>?_,fun i o h=>absurd h (no i o),fun i j o o' a h=>absurd h (no i o)⟩
 cases i with
 | zero=>cases h;exact⟨v,rfl,r⟩
 | succ i=>
   rw[aa1] at h ⊢
   unfold iS at h
   unfold frees
   rw[aab] at h ⊢
   cases q:ix[i]? with
   | none=>rw[q] at h;cases h
   | some j=>
     rw[q] at h
     have hd:=xw (Option.some.inj h)
     obtain⟨v',z1,z2⟩:=S.val j x hd
     exact⟨v',by rw[Option.map_some,z1];rfl,z2.mono s1⟩
end
section
variable {X:Cx}{G:Gr}{E:XK}{dl:List Slot}{a b elt iter:Expr}{i j:Int}{ys:List Dt}{zs:Nat->Dt}{pos p px py wz:Pos}{o:Out}{x y:Str}{N:List Str}{ix:List Nat}{sc:Scope}{n:Nat}
def G9 (X:Cx)(N:List Str)(sc:Scope)(dl:List Slot)(ix:List Nat)(elt:Expr)(n:Nat)(zs:Nat->Dt)(ys:List Dt):Prop:=
 ∀ k,k < n->∀ C fp s H G',EE (aT X N sc C fp s H) G' (.val (zs k)::iS dl ix) elt (ys.getD k .cy)
def O5 (K:W.Frag)(dl:List Slot)(ix:List Nat)(n:Nat)(zs:Nat->Dt)(ys:List Dt):TE:=fun st H Q=>∃ k G',k < n/\tD K G' (.val (zs k)::iS dl ix) (ys.getD k .cy) st H Q
theorem Hc (h:G9 X N sc dl ix elt n zs ys):∀ C fp s H,PE (aT X N sc C fp s H) elt (O5 X.K dl ix n zs ys):=fun C fp s H pins s' st H' Q I ⟨k,G',hk,q⟩=>h k hk C fp s H G' pins s' st H' Q I q
theorem Hd {st:L2.St}{Hf H:Hp}{J:It}{Q:VK}(S:du X.K G st Hf H dl)(Rz:ys.length=n)(hn:n<=sizeLine)(go:∀ Hf1 H1,aV Hf H Hf1 H1->∀ i,(i < n->J.go i H1/\∀ v H2,J.Gs i H1 v H2->H2=H1/\Rep X.K Hf1 v (zs i))/\(i=n->J.stop i H1))(k:∀ p aH H',aV Hf H aH H'->H p=none->aH p=none->gj X.K aH H' p (.lst ys)->Q (.ref p) H'):∀ D,H D=none->O0 (O5 X.K dl ix n zs ys) (frees ix st) J D (fun _ H'=>Q (.ref D) H') H:=by
 intro D hD
 refine⟨fun i m vs H1=>m=n - i/\i<=n/\∃ Hf1,aV Hf H Hf1 H1/\Hf1 D=none/\H1 D=some (.lst vs)/\aM X.K Hf1 vs (ys.take i),⟨n,rfl,aaQ _,Hf,.d8 S.sub hD,S.sub.free hD,ak,.nil⟩,?_⟩
 rintro i m vs H1 ⟨rfl,hi,Hf1,g1,Te,RA,rp⟩
 have hlen:=rp.length
 rw[aat] at hlen
 by_cases cX:i < n
 . obtain⟨Tf,hy⟩:=(go Hf1 H1 g1 i).1 cX
   refine .inr ⟨Tf,by omega,fun v H2 y=>?_⟩
   obtain⟨e,rv⟩:=hy v H2 y
   subst e
   refine⟨i,⟨Hf1,H2⟩,cX,Hf1,Lf S g1.bj g1.sub rv,fun z bD H3 g2 r2=>?_⟩
   have hD3:H3 D=some (.lst vs):=g2.big _ _ RA
   have YQ:bD D=none:=by
     cases q:bD D with
     | none=>rfl
     | some u=>
       obtain⟨o,z⟩:=g2.yg RA (fun z=>z) q
       rw[Te] at z;cases z
   have g:=g1.trans g2
   refine⟨hD3,n - (i+1),by omega,rfl,cX,bD,⟨fun a o h=>?_,g.bj,fun a o h=>?_,g.new⟩,YQ,ak,?_⟩
   . rw[ag (au h hD)];exact g.big _ _ h
   . rw[ag (au h YQ)];exact g2.sub _ _ h
   . have:ys.take (i+1)=ys.take i ++ [ys.getD i .cy]:=by
       rw[aa0,WY,k3 (by omega)];rfl
     rw[this]
     exact(rp.mono g2.bj).append (.cons r2 .nil)
 . have e:i=n:=by omega
   subst e
   refine .inl ⟨(go Hf1 H1 g1 i).2 rfl,k D Hf1 H1 g1 hD Te ⟨vs,RA,?_⟩⟩
   rw[aa6 (by omega)] at rp
   exact rp
def WG (wi:TI)(ix:List Nat)(te:TE):TE:=fun st H Q=>wi st H fun J H1=>∀ D,H1 D=none->O0 te (frees ix st) J D (fun _ H'=>Q (.ref D) H') H1
theorem Tg {wi:TI}{te:TE}(hc:X.calm=true)(B:gk X N ix x sc)(hi:PI X (.Name x px) iter wi)(jD:∀ C fp s H,PE (aT X N sc C fp s H) elt te)(hs:∀ z,foldedSetIterable iter X.env z=pure z):PE X (.ListComp elt [⟨.Name x px,iter,[],0⟩] sc pos) (WG wi ix te):=by
 intro pins s st H Q I h
 rw[eval_ListComp]
 refine wpAny_comprehension_free (use:=none) rfl hs (G3 B I.ok) B.kind B.names (bM (hi pins s st H _ I h) fun v s1 h1=>bM h1 fun Ol s2 h2=>?_)
 obtain⟨it,fp,tn,J,H2,e,I2,T,F4,f2,hq⟩:=h2
 subst e
 refine Dq (RR:=fun acc C=>compPost (model X.prog X.w) X.A X.xe none (EP X pins st Q) acc C) hc B jD I2 T F4 f2 hq ?_
 intro D C ws H' s' I' ⟨m,hn⟩ o5 q
 exact⟨m,hn,fun h' Lg=>⟨.ref D,H',I'.turned (t':=s'.toks) (it:=C) (fun b o hb e=>(Lg.2 b hb).trans e) o5.1 o5.2.1 o5.2.2.2.1 o5.2.2.2.2.1 o5.2.2.2.2.2,rfl,q⟩⟩
theorem Th {wi:TI}{te:TE}{nN:Nat}(hc:X.calm=true)(B:gk X N ix x sc)(hi:PI X (.Name x px) iter wi)(jD:∀ C fp s H,PE (aT X N sc C fp s H) elt te)(hs:∀ z,foldedSetIterable iter X.env z=pure z)(O6:swapsWith (.ListComp elt [⟨.Name x px,iter,[],0⟩] sc pos) (some (.Name y py)) wz.line X.env=pure true)(hN:X.N.Nodup)(hy:X.N[nN]?=some y)(hl:Loc X.env.scope y)(hf:X.fn y=true\/X.env.scope.names.lookup y=some .local):PS X (.Assign [.Name y py] (.ListComp elt [⟨.Name x px,iter,[],0⟩] sc pos) wz) (fun D st H=>WG wi ix te st H fun v H'=>D.nx (st.set nN (some v)) H'):=by
 intro pins s st H D0 I h
 rw[exec_Assign_Name_used _ _ _ _ O6]
 refine wpAny_bind (wpAny_standAt (wpAny_bind ?_))
 show wpAny _ X.A (do let _ <- comprehension (.ListComp elt [⟨.Name x px,iter,[],0⟩] sc pos) sc X.env _ (newList []) false (eval iter X.env) (some (assign (.Name y py) X.env))) _ _ s
 refine wpAny_bind (wpAny_mono (wpAny_comprehension_free (use:=some (assign (.Name y py) X.env)) (Q:=fun _ s'=>SP X pins D0 .next s') rfl hs (G3 B I.ok) B.kind B.names (bM (hi pins s st H _ I h) fun v s1 h1=>bM h1 fun Ol s2 h2=>?_)) (fun _ s' hq=>wpAny_pure (wpAny_pure hq)) fun _ _ z=>z)
 obtain⟨it,fp,tn,J,H2,e,I2,T,F4,f2,hq⟩:=h2
 subst e
 refine Dq (RR:=fun acc C=>compPost (model X.prog X.w) X.A X.xe (some (assign (.Name y py) X.env)) (fun _ s'=>SP X pins D0 .next s') acc C) hc B jD I2 T F4 f2 hq ?_
 intro D C ws H' s' I' ⟨m,hn⟩ o5 q
 refine wpAny_assign_Name (rj I' hN hy hl (v:=.ref D) rfl (fun OA WH ⟨ad,EY,ha⟩=>?_) hf)
 have ne:C≠ad:=by
   rcases ha with z | z
   . rw[z];exact o5.2.1
   . exact Ne.symm (o5.2.2.2.2.1 _ _ z)
 exact⟨m,hn.sameBut EY ne,fun h' Lg=>⟨_,H',WH.turned (t':=OA.toks) (it:=C) (fun b o hb e=>(Lg.2 b hb).trans e) o5.1 o5.2.1 o5.2.2.2.1 o5.2.2.2.2.1 o5.2.2.2.2.2,q⟩⟩
def He (X:Cx)(G:Gr)(dl:List Slot)(n:Nat)(zs:Nat->Dt)(wi:TI):Prop:=∀ st H (R:It->Hp->Prop),(∃ Hf,du X.K G st Hf H dl/\∀ J Hg H0,aV Hf H Hg H0 ->
 (∀ Hf1 H1,aV Hg H0 Hf1 H1->∀ i,(i < n->J.go i H1/\∀ v H2,J.Gs i H1 v H2->H2=H1/\Rep X.K Hf1 v (zs i))/\(i=n->J.stop i H1))->R J H0)->wi st H R
theorem pP (hn:-(2 ^ 62)<=j/\j < 2 ^ 62):He X G dl j.toNat (fun k=>.int k) (M6 (OQ X.K G dl [.int j])):=fun st H R zq=>aaa zq fun Hf zq=>have S:=zq.1;have k:=zq.2;⟨Hf,S,fun vs Hf1 H1 g1 r1=>by
 cases r1 with
 | cons r t=>
   cases t;cases r
   refine⟨j,rfl,hn.1,hn.2,k _ Hf1 H1 g1 fun bD H2 g2 i=>⟨fun hi=>⟨hi,fun v H3 hy=>?_⟩,fun hi=>by rw[hi];exact aac _⟩⟩
   obtain⟨e1,e2⟩:=hy
   subst e2
   rw[Int.zero_add]
   exact⟨e1,.int _⟩⟩
theorem As {wi:TI}(hs:He X G dl n zs wi)(Rz:ys.length=n)(hn:n<=sizeLine):∀ st H Q,Vi X.K G dl (.lst ys) st H Q->WG wi ix (O5 X.K dl ix n zs ys) st H Q:=fun st H Q zq=>aaa zq fun Hf zq=>have S:=zq.1;have k:=zq.2;
 hs st H _ ⟨Hf,S,fun J Hg H0 g0 src=>Hd (S.grow g0) Rz hn src fun p aH H' g n1 n2 r=>k p aH H' (g0.trans g) (g0.big.free n1) n2 r⟩
theorem Ti {wi:TI}(hc:X.calm=true)(B:gk X N ix x sc)(hi:PI X (.Name x px) iter wi)(uZ:He X G dl n zs wi)(jD:G9 X N sc dl ix elt n zs ys)(Rz:ys.length=n)(hn:n<=sizeLine)(hs:∀ z,foldedSetIterable iter X.env z=pure z:=by intro _;rfl):EO X G dl (.ListComp elt [⟨.Name x px,iter,[],0⟩] sc pos) (.lst ys):=hV (Tg hc B hi (Hc jD) hs) (As uZ Rz hn)
theorem Hh (nN:Nat){wi:TI}(hc:X.calm=true)(hN:X.N.Nodup)(B:gk X N ix x sc)(hi:PI X (.Name x px) iter wi)(uZ:He X G dl n zs wi)(jD:G9 X N sc dl ix elt n zs ys)(Rz:ys.length=n)(hn:n<=sizeLine)(hs:∀ z,foldedSetIterable iter X.env z=pure z:=by intro _;rfl)(O6:swapsWith (.ListComp elt [⟨.Name x px,iter,[],0⟩] sc pos) (some (.Name y py)) wz.line X.env=pure true:=by rfl)(hy:X.N[nN]?=some y:=by rfl)(hl:Loc X.env.scope y:=by first | exact aaL rfl | exact aaB rfl)(hf:X.fn y=true\/X.env.scope.names.lookup y=some .local:=by first | exact .inl rfl | exact .inr rfl | assumption):ES X G E dl (.Assign [.Name y py] (.ListComp elt [⟨.Name x px,iter,[],0⟩] sc pos) wz) (.nx (dl.set nN (.own (.lst ys)))):=
 tV (Th hc B hi (Hc jD) hs O6 hN hy hl hf) fun D st H zq=>aaa zq fun Hf zq=>have S:=zq.1;have k:=zq.2;As uZ Rz hn st H _ ⟨Hf,S,fun p aH H' g n1 n2 r=>k _ aH H' g.bj (S.O1 g n1 n2 r)⟩
end
theorem B0 {α:Type}{us:List α}{d:α}(h:(us ++ [d]).length=2):∃ a,us=[a]:=by
 match us,h with
 | [a],_=>exact⟨a,rfl⟩
 | [],h=>simp at h
 | _::_::r,h=>simp at h
theorem yv {α:Type}{us:List α}(h:(us ++ []).length=2):∃ a b,us=[a,b]:=by
 rw[aaS] at h
 match us,h with
 | [a,b],_=>exact⟨a,b,rfl⟩
structure Au (K:W.Frag)(x qual:Str)(st:Stmt)(f:Addr)(fd:FuncData):Prop where
 ex:∃ (oc:Value) (od:Option Addr) (dV kV doc pm:Value) (an:Option Addr) (bc ct:Value) (xl:Array (Option Value)),
   fd=W.fnOf x qual (bP st) (aB st) (af st) dV kV doc pm an bc ct/\K.lookup f=some ⟨oc,od,.func fd,xl⟩/\W.codeIn K bc qual=true
theorem qA {K:W.Frag}{x qual:Str}{st:Stmt}{f:Addr}{oc:Value}{od an:Option Addr}{xl:Array (Option Value)}{dV kV doc pm bc ct:Value}(l:K.lookup f=some ⟨oc,od,.func (W.fnOf x qual (bP st) (aB st) (af st) dV kV doc pm an bc ct),xl⟩)(c:W.codeIn K bc qual=true):Au K x qual st f (W.fnOf x qual (bP st) (aB st) (af st) dV kV doc pm an bc ct):=⟨⟨oc,od,dV,kV,doc,pm,an,bc,ct,xl,rfl,l,c⟩⟩
section
variable {P:Program}{w:World}{K:W.Frag}{mg:Str->Option Value}{base:Heap}{CX:q8}{x qual:Str}{st:Stmt}{f:Addr}{fd:FuncData}{N ps:List Str}{k n:Nat}
theorem Vj {R:List Dt->Res->Prop}(F:Au K x qual st f fd)(S:aq N ps (af st))(hn:ps.length=n)(qi:∀ (bc:Value) (A:Around) (outer:List Env) (s:Shared) (H:Hp) (E:XK) (G:Gr) (ds:List Dt) (r:Res),d0 k (A.deeper (envOfC qual (af st) s.heap.objs.size f bc))->ds.length=n->R ds r->∃ o,Comes o r/\l4 (z8 CX P w K mg base N qual (af st) f bc A outer s H E) G E (slots N ds) (aB st) o):jt P w K mg base CX (k+1) f fd ps (Dm K n R):=by
 obtain⟨oc,od,dV,kV,doc,pm,an,bc,ct,xl,rfl,lk,lV⟩:=F.ex
 refine GG lk lV S (fun vs H Q E ⟨Hf,ds,r,s,rp,hl,_⟩=>by rw[rp.length,hl,hn]) fun A outer s H vs Q E hr ⟨Hf,ds,r,sm,rp,hl,hR,hk⟩=>?_
 obtain⟨o,hc,hb⟩:=qi bc A outer s H E ⟨Hf,H⟩ ds r hr hl hR
 exact⟨_,hb,Hf,xu sm rp,hc.ends hk⟩
def WI (K:W.Frag)(C:Addr)(Hf H:Hp)(x:Addr)(Q:VK)(E:XK):Res->Prop
 | .own w=>((∃ fs,w=.obj C fs)\/∃ fs gs nm n,w=.pM C fs gs nm n)/\∀ aH H',aV Hf H aH H'->aH x=none->gj K aH H' x w->Q .cy H'
 | .exc c fs=>∀ od aH H',aV Hf H aH H'->ExcAt K aH od fs->E c od H'
 | .ret _=>False
def YR (K:W.Frag)(C:Addr)(n:Nat)(R:List Dt->Res->Prop):Sp:=fun vs H Q E=>∃ Hf H1 x dx args ds r,vs=.ref x::args/\H=upd H1 x (.ins C dx [])/\H1 x=none/\aC Hf H1/\aM K Hf args ds/\ds.length+1=n/\R ds r/\WI K C Hf H1 x Q E r
inductive yw (C x:Addr):Out->Res->Prop
 | nx {dl:List Slot} {fs:List (Str×Dt)} (h:dl[0]?=some (.own (.Al x C fs))):yw C x (.nx dl) (.own (.obj C fs))
 | ex (c:Value) (fs:List (Str×Dt)):yw C x (.ex c fs) (.exc c fs)
 | WJ {dl:List Slot} {fs:List (Str×Dt)} {gs:List (Nat->List (Key×FD))} {nm:List Str} {n:Nat} (h:dl[0]?=some (.own (.yh x C fs gs nm n))):yw C x (.nx dl) (.own (.pM C fs gs nm n))
noncomputable def rN (N:List Str)(x C:Addr)(ds:List Dt):List Slot:=.own (.Al x C [])::(ds.map Slot.val ++ aah (N.length - (ds.length+1)) .aY)
theorem B1 {Hf H:Hp}{vs:List V}{ds:List Dt}{x dx C:Addr}(s:aC Hf H)(n:H x=none)(r:aM K Hf vs ds):du K ⟨Hf,H⟩ (start N (.ref x::vs)) Hf (upd H x (.ins C dx [])) (rN N x C ds):=by
 have hl:=r.length
 have es:start N (V.ref x::vs)=some (.ref x)::(vs.map some ++ aah (N.length - (vs.length+1)) none):=by
   unfold L2.start
   simp
 have xY:∀ (i:Nat) o,(rN N x C ds)[i+1]?≠some (.own o):=fun i o h=>by
   unfold rN at h
   rw[aa1] at h
   by_cases hi:i < ds.length
   . rw[aay (by simpa using hi),aab] at h
     cases e:ds[i]? with
     | none=>rw[e] at h;cases h
     | some a=>rw[e] at h;cases h
   . rw[aaz (by simpa using hi),aaR] at h
     split at h <;> cases h
 rw[es]
 refine⟨.d8 s n,?_,fun i d h=>?_,fun i o h=>?_,fun i j o o' a h h' _ _=>?_⟩
 . unfold rN
   simp[hl]
 . cases i with
   | zero=>cases h
   | succ i=>
     unfold rN at h
     rw[aa1] at h ⊢
     by_cases hi:i < ds.length
     . rw[aay (by simpa using hi),aab] at h
       cases e:ds[i]? with
       | none=>rw[e] at h;cases h
       | some a=>
         rw[e] at h;cases h
         obtain⟨v,h1,h2⟩:=r.get e
         refine⟨v,?_,h2⟩
         rw[aay (by simp;omega),aab,h1];rfl
     . rw[aaz (by simpa using hi),aaR] at h
       split at h <;> cases h
 . cases i with
   | zero=>
     cases h
     exact⟨x,rfl,s.free n,n,rfl,dx,[],ak,.nil⟩
   | succ i=>exact absurd h (xY i o)
 . cases i with
   | zero=>cases j with
     | zero=>rfl
     | succ j=>exact absurd h' (xY j _)
   | succ i=>exact absurd h (xY i _)
theorem Vk {C:Addr}{R:List Dt->Res->Prop}(F:Au K x qual st f fd)(S:aq N ps (af st))(hn:ps.length=n)(qi:∀ (bc:Value) (A:Around) (outer:List Env) (s:Shared) (H:Hp) (E:XK) (G:Gr) (z:Addr) (ds:List Dt) (r:Res),d0 k (A.deeper (envOfC qual (af st) s.heap.objs.size f bc))->ds.length+1=n->R ds r->∃ o,yw C z o r/\l4 (z8 CX P w K mg base N qual (af st) f bc A outer s H E) G E (rN N z C ds) (aB st) o):jt P w K mg base CX (k+1) f fd ps (YR K C n R):=by
 obtain⟨oc,od,dV,kV,doc,pm,an,bc,ct,xl,rfl,lk,lV⟩:=F.ex
 refine GG lk lV S (fun vs H Q E ⟨Hf,H1,z,dx,args,ds,r,e,_,_,_,rp,hl,_⟩=>by rw[e,aaI,rp.length,hl,hn]) fun A outer s H vs Q E hr ⟨Hf,H1,z,dx,args,ds,r,e1,e2,hz,sm,rp,hl,hR,hk⟩=>?_
 subst e1 e2
 obtain⟨o,hc,hb⟩:=qi bc A outer s _ E ⟨Hf,H1⟩ z ds r hr hl hR
 refine⟨_,hb,Hf,B1 sm hz rp,?_⟩
 cases hc with
 | nx h=>
   obtain⟨_,kk⟩:=hk
   intro jq aH H' s' S'
   obtain⟨a,_,q2,_,q4⟩:=S'.own 0 _ h
   obtain⟨rfl,YS,fs',q5,q6⟩:=q4
   exact kk aH H' S'.gr q2 ⟨YS,fs',q5,q6⟩
 | WJ h=>
   obtain⟨_,kk⟩:=hk
   intro jq aH H' s' S'
   obtain⟨a,_,q2,_,q4⟩:=S'.own 0 _ h
   obtain⟨rfl,q5⟩:=q4
   exact kk aH H' S'.gr q2 q5
 | ex c fs=>exact hk
end
noncomputable def putD (f:Str)(v:Dt):List (Str×Dt)->List (Str×Dt)
 | []=>[(f,v)]
 | (g,x)::r=>if g=f then (g,v)::r else (g,x)::putD f v r
theorem aU.put {K:W.Frag}{H:Hp}{f:Str}{v:V}{d:Dt}(q:Rep K H v d):∀ {vs:List (Str×V)} {ds:List (Str×Dt)},aU K H vs ds->aU K H (eJ f v vs) (putD f d ds)
 | _,_,.nil=>.cons q .nil
 | (k,x)::vs,(_,y)::ds,.cons h r=>by
   unfold eJ putD
   by_cases e:k=f
   . rw[if_pos e,if_pos e];exact .cons q r
   . rw[if_neg e,if_neg e];exact .cons h (aU.put q r)
section
variable {X:Cx}{G:Gr}{E:XK}{dl:List Slot}{e c:Expr}{es:List Expr}{d:Dt}{ds:List Dt}{pos p apos:Pos}{x m:Str}{C z:Addr}{fs:List (Str×Dt)}{CX:q8}{k k' n:Nat}{R:List Dt->Res->Prop}{ob:Expr}{wo:Own}{dvs:List Dt}{body:List Stmt}
theorem jE {fn:Str}{pn:Pos}(he:EE X G dl e d)(cl:tT X.K C)(na:bu X.K C fn)(hd:dl[0]?=some (.own (.Al z C fs)):=by rfl)(hl:Nat.ble fs.length 999=true:=by rfl)(hN:X.N[0]?=some x:=by rfl)(hv:uB X.env.scope x:=by first | exact aaL rfl | exact aaB (aaL rfl) | exact aaB (aaB rfl))(lU:(x == ("__debug__":Str))=false:=by decide)(lV:(x == ("__classdict__":Str))=false:=by decide)(hs:swapsWith e (some (.Attribute (.Name x pn) fn apos)) pos.line X.env=pure false:=by rfl):ES X G E dl (.Assign [.Attribute (.Name x pn) fn apos] e pos) (.nx (dl.set 0 (.own (.Al z C (putD fn d fs))))):=
 tV (uJ (uX (p:=pn) 0 hd hN hv lU lV) he hs) fun D st H zq=>aaa zq fun Hf zq=>have S:=zq.1;have k:=zq.2;⟨Hf,S,fun v Hf1 H1 g1 r1=>by
   have S1:=S.grow g1
   obtain⟨a,q1,q2,q3,q4⟩:=S1.own 0 _ hd
   obtain⟨e1,dx,fv,q5,q6⟩:=id q4
   refine⟨Hf1,a,S1,q1,q2,q4,a,C,dx,fv,rfl,q5,cl,na,by rw[q6.length];exact Nat.lt_succ_of_le (aaD hl),?_⟩
   exact k st Hf1 _ g1.bj (S1.ER hd q1 ⟨e1,dx,_,ak,q6.put r1⟩)⟩
structure O7 (P:Program)(w:World)(K:W.Frag)(mg:Str->Option Value)(base:Heap)(CX:q8)(k:Nat)(x:Str)(C:Addr)(n:Nat)(R:List Dt->Res->Prop):Prop where
 ex:∃ f fd ps,jt P w K mg base CX k f fd ps (YR K C n R)/\L2.Mk K C f/\mg x=some (.ref C)/\Binds K fd ps []
theorem tZ (F:O7 X.prog X.w X.K X.mg X.base CX k x C n R)(nx:BG CX)(hr:d0 k' X.A)(ha:EA X G dl (e::es) ds)(h:R ds (.own (.obj C fs)))(ym:k+1<=k':=by decide)(hl:ds.length+1=n:=by rfl)(hg:Gl X x:=by rfl)(lU:(x == ("__debug__":Str))=false:=by decide)(he:starEach (e::es) X.env=(false,eval e X.env)::starEach es X.env:=by rfl)(nC:(backTo pos (starEach es X.env)).any (·.1)=false:=by rfl):EO X G dl (.Call (.Name x p) (e::es) [] pos) (.obj C fs):=by
 obtain⟨f,fd,ps,Fo,M,hm,hb⟩:=F.ex
 refine hV (x8 (E:=E0) M Fo (hr.mono ym) hg hm hb .nil nx.passes ha lU he nC) fun st H Q zq=>aaa zq fun Hf zq=>have S:=zq.1;have kk:=zq.2;⟨Hf,S,fun vs Hf1 H1 g1 r1 y dx hy O8 ne=>?_⟩
 have SA:(upd H1 dx (.own y)) y=none:=by rw[ag (Ne.symm ne)];exact hy
 have g2:aV Hf1 H1 Hf1 (upd H1 dx (.own y)):=.d8 g1.sub O8
 refine⟨Hf1,upd H1 dx (.own y),y,dx,vs ++ [],ds,.own (.obj C fs),rfl,rfl,SA,g2.sub,by rw[aaS];exact r1,hl,h,.inl ⟨fs,rfl⟩,fun aH H' g n1 r=>⟨rfl,?_⟩⟩
 exact kk y aH H' ((g1.trans g2).trans g) (g1.big.free hy) n1 r
theorem Hi {gs:List (Nat->List (Key×FD))}{nm:List Str}{j:Nat}(F:O7 X.prog X.w X.K X.mg X.base CX k x C n R)(nx:BG CX)(hr:d0 k' X.A)(ha:EA X G dl (e::es) ds)(h:R ds (.own (.pM C fs gs nm j)))(ym:k+1<=k':=by decide)(hl:ds.length+1=n:=by rfl)(hg:Gl X x:=by rfl)(lU:(x == ("__debug__":Str))=false:=by decide)(he:starEach (e::es) X.env=(false,eval e X.env)::starEach es X.env:=by rfl)(nC:(backTo pos (starEach es X.env)).any (·.1)=false:=by rfl):EO X G dl (.Call (.Name x p) (e::es) [] pos) (.pM C fs gs nm j):=by
 obtain⟨f,fd,ps,Fo,M,hm,hb⟩:=F.ex
 refine hV (x8 (E:=E0) M Fo (hr.mono ym) hg hm hb .nil nx.passes ha lU he nC) fun st H Q zq=>aaa zq fun Hf zq=>have S:=zq.1;have kk:=zq.2;⟨Hf,S,fun vs Hf1 H1 g1 r1 y dx hy O8 ne=>?_⟩
 have SA:(upd H1 dx (.own y)) y=none:=by rw[ag (Ne.symm ne)];exact hy
 have g2:aV Hf1 H1 Hf1 (upd H1 dx (.own y)):=.d8 g1.sub O8
 refine⟨Hf1,upd H1 dx (.own y),y,dx,vs ++ [],ds,.own (.pM C fs gs nm j),rfl,rfl,SA,g2.sub,by rw[aaS];exact r1,hl,h,.inr ⟨fs,gs,nm,j,rfl⟩,fun aH H' g n1 r=>⟨rfl,?_⟩⟩
 exact kk y aH H' ((g1.trans g2).trans g) (g1.big.free hy) n1 r
theorem sM (F:GF X.prog X.w X.K X.mg X.base CX k x n R)(nx:BG CX)(hr:d0 k' X.A)(ha:EA X G dl (e::es) ds)(h:R ds (.own wo))(ym:k<=k':=by decide)(hl:ds.length=n:=by rfl)(hg:Gl X x:=by rfl)(lU:(x == ("__debug__":Str))=false:=by decide)(he:starEach (e::es) X.env=(false,eval e X.env)::starEach es X.env:=by rfl)(nC:(backTo pos (starEach es X.env)).any (·.1)=false:=by rfl):EO X G dl (.Call (.Name x p) (e::es) [] pos) wo:=by
 obtain⟨f,fd,ps,F,hm,hk,hb⟩:=F.ex
 exact hV (C7 (E:=E0) F (hr.mono ym) hg hm hk hb .nil nx.passes ha lU he nC) fun st H Q zq=>aaa zq fun Hf zq=>have S:=zq.1;have k:=zq.2;⟨Hf,S,fun vs Hf1 H1 g1 r1=>⟨Hf1,ds,.own wo,g1.sub,by rw[aaS];exact r1,hl,h,fun p bD H2 g2 n1 n2 r2=>k p bD H2 (g1.trans g2) (g1.big.free n1) n2 r2⟩⟩
structure Kr (P:Program)(w:World)(K:W.Frag)(mg:Str->Option Value)(base:Heap)(CX:q8)(k:Nat)(C:Addr)(m:Str)(n:Nat)(dvs:List Dt)(R:List Dt->Res->Prop):Prop where
 cl:tT K C
 ex:∃ f fd ps F8 vds,jt P w K mg base CX k f fd ps (Dm K n R)/\Meth K C m f/\Binds K fd ps F8/\Vals vds F8/\∀ H,aM K H vds dvs
theorem O9 {P:Program}{w:World}{K:W.Frag}{mg:Str->Option Value}{base:Heap}(F:MF P w K mg base CX k C m n R):Kr P w K mg base CX k C m n [] R:=by
 obtain⟨f,fd,ps,Fo,hm,hb⟩:=F.ex
 exact⟨F.cl,f,fd,ps,[],[],Fo,hm,hb,.nil,fun _=>.nil⟩
theorem Av {pl:Sem Bool}(he:EE X G dl ob (.obj C fs))(F:Kr X.prog X.w X.K X.mg X.base CX k C m n dvs R)(nx:BG CX)(hr:d0 k' X.A)(ha:EA X G dl (e::es) ds)(h:R (.obj C fs::(ds ++ dvs)) (.own wo))(ym:k<=k':=by decide)(hl:(Dt.obj C fs::(ds ++ dvs)).length=n:=by rfl)(tY:fs.lookup m=none:=by rfl)
   (pK:starEach (e::es) X.env=(false,eval e X.env)::starEach es X.env:=by rfl) (nC:(backTo pos (starEach es X.env)).any (·.1)=false:=by rfl)
   (ht:eval (.Call (.Attribute ob m apos) (e::es) [] pos) X.env=(do
     let ov <- eval ob X.env
     standAt apos.atName
     let (f,first) <- holding [ov] (getMethod ov m pl)
     callWith pos f first (backTo pos (starEach (e::es) X.env)) (backToKw pos (keywordEach [] X.env))):=by rfl):EO X G dl (.Call (.Attribute ob m apos) (e::es) [] pos) wo:=by
 obtain⟨f,fd,ps,F8,vds,Fo,hm,hb,hd,EU⟩:=F.ex
 exact hV (C8 (pl:=pl) (E:=E0) he F.cl hm Fo (hr.mono ym) hb hd nx.passes ha pK nC ht) fun st H Q zq=>aaa zq fun Hf zq=>have S:=zq.1;have k:=zq.2;⟨Hf,S,fun v Hf1 H1 g1 r1=>by
   cases r1 with
   | @obj a _ dx fv _ q r=>
     exact⟨a,dx,fv,rfl,i9 g1.sub q,r.none_of tY,Hf1,S.grow g1,fun vs bD H2 g2 r2=>⟨bD,_,.own wo,g2.sub,.cons (.obj (i9 g2.bj q) (r.mono g2.bj)) (r2.append (EU _)),hl,h,fun p ia H3 g3 n1 n2 r3=>k p ia H3 ((g1.trans g2).trans g3) ((g1.trans g2).big.free n1) n2 r3⟩⟩⟩
theorem yx {pl:Sem Bool}(he:EE X G dl ob (.obj C fs))(F:Kr X.prog X.w X.K X.mg X.base CX k C m n dvs R)(nx:BG CX)(hr:d0 k' X.A)(ha:EA X G dl (e::es) ds)(h:R (.obj C fs::(ds ++ dvs)) (.ret d))(ym:k<=k':=by decide)(hl:(Dt.obj C fs::(ds ++ dvs)).length=n:=by rfl)(tY:fs.lookup m=none:=by rfl)
   (pK:starEach (e::es) X.env=(false,eval e X.env)::starEach es X.env:=by rfl) (nC:(backTo pos (starEach es X.env)).any (·.1)=false:=by rfl)
   (ht:eval (.Call (.Attribute ob m apos) (e::es) [] pos) X.env=(do
     let ov <- eval ob X.env
     standAt apos.atName
     let (f,first) <- holding [ov] (getMethod ov m pl)
     callWith pos f first (backTo pos (starEach (e::es) X.env)) (backToKw pos (keywordEach [] X.env))):=by rfl):EE X G dl (.Call (.Attribute ob m apos) (e::es) [] pos) d:=by
 obtain⟨f,fd,ps,F8,vds,Fo,hm,hb,hd,EU⟩:=F.ex
 exact Dn (pl:=pl) he F.cl hm Fo nx (hr.mono ym) hb hd EU ha hl h tY pK nC ht
theorem Ds {pl:Sem Bool}(he:EE X G dl ob (.obj C fs))(F:Kr X.prog X.w X.K X.mg X.base CX k C m n dvs R)(nx:BG CX)(hr:d0 k' X.A)(h:R (.obj C fs::dvs) (.ret d))(ym:k<=k':=by decide)(hl:(Dt.obj C fs::dvs).length=n:=by rfl)(tY:fs.lookup m=none:=by rfl)
   (ht:eval (.Call (.Attribute ob m apos) [] [] pos) X.env=(do
     let ov <- eval ob X.env
     standAt apos.atName
     let (f,first) <- holding [ov] (getMethod ov m pl)
     callWith pos f first (backTo pos (starEach [] X.env)) (backToKw pos (keywordEach [] X.env))):=by rfl):EE X G dl (.Call (.Attribute ob m apos) [] [] pos) d:=by
 obtain⟨f,fd,ps,F8,vds,Fo,hm,hb,hd,EU⟩:=F.ex
 exact An (pl:=pl) he F.cl hm Fo nx (hr.mono ym) hb hd EU hl h tY ht
def Tj (X:Cx)(G:Gr)(c:Expr):TT:=fun st H Q=>∃ dl b,EB X G dl c b/\SO X.K G dl b st H Q
theorem Lh:PT X c (Tj X G c):=fun pins s st H Q I ⟨dl,b,h,q⟩=>h pins s st H Q I q
theorem Aw (S:Nat->List Slot)(n:Nat)(hp:PassesOwn (model X.prog X.w) X.A X.env X.xe)(h0:Le (S 0) dl)(hc:∀ k,k < n->EB X G (S k) c true)(hn:EB X G (S n) c false)(hb:∀ k,k < n->Goes X G E body (S k) (S (k+1))):ES X G E dl (.While c body [] pos) (.nx (S n)):=by
 refine tV (zZ hp (Lh (G:=G)) (qv (G:=G) (E:=E))) fun D st H ⟨Hf,S0,k⟩=>?_
 refine⟨fun m st H=>∃ i,m=n - i/\i<=n/\∃ Hf1,aC Hf Hf1/\du X.K G st Hf1 H (S i),⟨n,0,rfl,aaQ _,Hf,aC.refl _,S0.weak h0⟩,?_⟩
 rintro m Vl H1 ⟨i,rfl,hi,Hf1,s1,S1⟩
 by_cases cX:i < n
 . refine⟨S i,true,hc i cX,Hf1,S1,fun bD H2 g2=>Ak ⟨fun jq H'=>∃ ia,aC Hf ia/\du X.K G jq ia H' (S (i+1)),fun jq H' h'=>⟨n - (i+1),by omega,i+1,rfl,cX,h'⟩,?_⟩⟩
   exact oA (hb i cX) (S1.grow g2) (fun U7 ia H3 s3 S3=>⟨ia,(s1.trans g2.bj).trans s3,S3⟩) (fun U7 ia H3 s3 S3=>⟨ia,(s1.trans g2.bj).trans s3,S3⟩)
 . have e:i=n:=by omega
   subst e
   exact⟨S i,false,hn,Hf1,S1,fun bD H2 g2=>Aj (k _ bD H2 (s1.trans g2.bj) (S1.grow g2))⟩
end
noncomputable def rO (sc Ax:Scope)(XN N:List Str)(ix:List Nat)(x:Str):Bool:=
 decide N.Nodup && (decide (N=x::ix.map (fun j=>XN.getD j "")) && (decide (sc.kind=.function) && (sc.names.all (fun y=>decide (y.2≠.cell)) && (sc.names.all (fun y=>decide (y.2=.local->sc.names.lookup y.1=some .local)) && (decide (sc.names.lookup x=some .local) &&
   (sc.names.all (fun y=>decide (y.2=.free->Ax.names.lookup y.1=some .cell\/Ax.names.lookup y.1=some .free)) && ix.all (fun j=>decide (sc.names.lookup (XN.getD j "")=some .free) && decide (j < XN.length))))))))
theorem yy {X:Cx}{sc Ax:Scope}{XN N:List Str}{ix:List Nat}{x:Str}(h:rO sc Ax XN N ix x=true)(e1:X.env.scope=Ax:=by rfl)(e2:X.N=XN:=by rfl):gk X N ix x sc:=by
 subst e1 e2
 unfold rO at h
 simp only[aaN,abL,decide_eq_true_eq] at h
 obtain⟨h1,h2,h3,h4,h5,h6,h7,h8⟩:=h
 refine⟨h1,h2,h3,h4,h5,h6,h7,fun j hj=>?_⟩
 obtain⟨q1,q2⟩:=h8 j hj
 refine⟨X.N.getD j "",?_,q1⟩
 rw[WY,k3 q2];rfl
noncomputable def YT:Expr->Scope
 | .ListComp _ _ sc _=>sc
 | .Call _ (.ListComp _ _ sc _::_) _ _=>sc
 | _=>{ kind:=.function,names:=[],isGenerator:=false,isCoroutine:=false}
noncomputable def RB:Stmt->Scope
 | .Assign _ e _=>YT e
 | .Return (some e) _=>YT e
 | _=>{ kind:=.function,names:=[],isGenerator:=false,isCoroutine:=false}
theorem u0 (k:Str):∀ xs:List Str,Sy (.str k) (xs.map V.str)=decide (k∈xs)
 | []=>by simp[Sy]
 | x::xs=>by
   have ih:=u0 k xs
   unfold Sy at ih ⊢
   rw[aao,abz,ih]
   by_cases e:x=k
   . subst e;simp[Km]
   . have:¬ (k=x):=fun z=>e z.symm
     simp[Km,e,this]
theorem xx (xs:List Str):(xs.map V.str).all ql=true:=by
 induction xs with
 | nil=>rfl
 | cons x xs ih=>rw[aao,abN,ih];rfl
section
variable {X:Cx}{G:Gr}{dl:List Slot}{a b:Expr}{pos:Pos}{k:Str}{xs:List Str}
theorem Ni {neg:Bool}:Di X.K (Va X.K neg) (.str k) (.tup (xs.map .str)) (.bl (if neg then !decide (k∈xs) else decide (k∈xs))):=fun v w Hf H Q s r1 r2 kk=>by
 cases r1
 cases r2 with
 | @tup q vs _ hq rp=>
   have ev:=oB rp
   subst ev
   refine⟨q,_,rfl,.inr (fj s hq),rfl,xx xs,?_⟩
   rw[u0]
   exact kk _ Hf H (.refl s) (.bl _)
theorem B2 (ha:EE X G dl a (.str k))(hb:EE X G dl b (.tup (xs.map .str)))(hm:behindInMarks .In b=false:=by rfl):EB X G dl (.Compare a [.In] [b] pos) (decide (k∈xs)):=lI xm (Ni (neg:=false)) hm ha hb
theorem Du (ha:EE X G dl a (.str k))(hb:EE X G dl b (.tup (xs.map .str)))(hm:behindInMarks .NotIn b=false:=by rfl):EB X G dl (.Compare a [.NotIn] [b] pos) (!decide (k∈xs)):=lI qo (Ni (neg:=true)) hm ha hb
end
theorem Ay {P:Program}{w:World}{A:Around}{R:Result->Shared->Prop}{s:Shared}{elt tg iter:Expr}{ifs:List Expr}{sc:Scope}{pos:Pos}{it acc:Value}{env:Env}(J:Nat->Shared->Prop)
   (turn:∀ n s,J n s->wpAny (model P w) A (pyNext it) (fun r s1=>match r with
     | none=>R (.ok .next) s1
     | some v=>wpAny (model P w) A (letOwnedTupleGo tg it v) (fun _ s2=>wpAny (model P w) A (assign tg env v) (fun _ s3=>
         wpAny (model P w) A (forIn ifs true fun c r=>if r=true then do let ok <- isTrue c env (eval c env);pure (ForInStep.yield ok) else pure (ForInStep.yield r)) (fun ok WK=>
         if ok=true then wpAny (model P w) A (eval elt env) (fun x s4=>wpAny (model P w) A (call (.builtin "list.append") [acc,x]) (fun _ s5=>∃ m,m < n/\J m s5) wu s4) wu WK
         else ∃ m,m < n/\J m WK) wu s3) wu s2) wu s1) wu s)
   (n:Nat) (h:J n s):codeAny (model P w) A (.compLoop (.ListComp elt [⟨tg,iter,ifs,0⟩] sc pos) 0 it acc env) R s:=by
 have off:∀ {B:Value->Shared->Prop} (x:Value) (s':Shared),wu x s'->B x s':=fun _ _ z=>z.elim
 refine codeAny_loop rfl J (fun n s hJ=>?_) n h
 show wpAny _ A ((compTurn (.ListComp elt [⟨tg,iter,ifs,0⟩] sc pos) 0 it acc env).onRaise (fun x=>(do noteFrame x env;theTreesLotGoes x))) _ _ s
 refine wpAny_noted ?_
 rw[compTurn_list]
 refine wpAny_bind (wpAny_standAt (wpAny_bind (wpAny_mono (turn n s hJ) (fun r s1 h1=>?_) off)))
 cases r with
 | none=>exact wpAny_pure h1
 | some v=>
   refine wpAny_bind (wpAny_mono h1 (fun _ s2 h2=>wpAny_bind (wpAny_mono h2 (fun _ s3 h3=>wpAny_bind (wpAny_mono h3 (fun ok WK YU=>?_) off)) off)) off)
   cases ok with
   | false=>exact wpAny_pure ⟨rfl,YU⟩
   | true=>exact wpAny_bind (wpAny_bind (wpAny_mono YU (fun x s4 h4=>wpAny_bind (wpAny_mono h4 (fun _ s5 h5=>wpAny_pure (wpAny_pure ⟨rfl,h5⟩)) off)) off))
structure sT (X:Cx)(N tn:List Str)(ix:List Nat)(sc:Scope):Prop where
 nd:N.Nodup
 nm:N=tn ++ ix.map (fun j=>X.N.getD j "")
 kind:sc.kind=.function
 uV:∀ y∈sc.names,y.2≠.cell
 names:∀ y∈sc.names,y.2=.local->sc.names.lookup y.1=some .local
 hx:∀ x∈tn,sc.names.lookup x=some .local
 fr:∀ y∈sc.names,y.2=.free->X.env.kindOf y.1=some .cell\/X.env.kindOf y.1=some .free
 SU:∀ j∈ix,∃ y,X.N[j]?=some y/\sc.names.lookup y=some .free
section
variable {X:Cx}{N tn:List Str}{ix:List Nat}{sc:Scope}{pins:List (Addr×Obj)}{st:L2.St}{H H':Hp}{s s':Shared}{C D:Addr}{fp:List Addr}{h1:Heap}
theorem Dv (B:sT X N tn ix sc)(ok:X.Ok):closureFor sc X.env=pure (k8 sc X.env):=yp fun y hy hk=>ok.has y.1 (B.fr y hy hk)
theorem qB (B:sT X N tn ix sc)(ok:X.Ok){y:Str}{c:Addr}(h:(k8 sc X.env).lookup y=some c):X.env.cells.lookup y=some c/\(y,NameKind.free)∈sc.names:=by
 rcases qz _ _ h with⟨h1,h2⟩ | h1
 . obtain⟨c',h3⟩:=ok.has y (B.fr _ h1 rfl)
   rw[h3] at h2
   cases h2
   exact⟨h3,h1⟩
 . cases h1
theorem t5 (B:sT X N tn ix sc)(I:L2.Inv X pins st H s)(hC:s.heap.objs.size<=C)(hf:∀ b∈fp,jT X pins H b)(cX:∀ b∈fp,b < s.heap.objs.size):(aT X N sc C fp s H).Ok where
 mod:=I.ok.mod
 kind:=B.kind
 glob:=I.ok.glob
 blt:=I.ok.blt
 above:=hC
 inj:=fun y z c h1 h2=>I.ok.inj y z c (qB B I.ok h1).1 (qB B I.ok h2).1
 has:=fun y hy=>by
   have hy:(relabel sc X.env).names.lookup y=some .cell\/(relabel sc X.env).names.lookup y=some .free:=hy
   have:(y,NameKind.free)∈sc.names:=by
     rcases hy with hy | hy
     . obtain⟨k',h1,h2⟩:=fm hy
       rcases h2 with h2 | h2
       . subst h2;exact absurd rfl (B.uV _ h1)
       . subst h2;exact h1
     . obtain⟨k',h1,h2⟩:=fm hy
       rcases h2 with h2 | h2 <;> subst h2 <;> exact h1
   exact jw _ _ (.inl this)
 Rq:=fun y c h=>by cases h
 hd:=I.ok.hd
 frames:=I.ok.frames
 RT:=.inl rfl
 KH:=fun b hb=>⟨aap (aak (cX b hb) hC),fun y c h=>(hf b hb).2.2.2.2.1 y c (qB B I.ok h).1⟩
 bs:=I.bs
 C1:=aav I.ok.C1 I.sz
 zU:=fun b o e hb=>by
   rcases (hf b hb).2.2.2.1 with z | z
   . exact I.ok.zU b o e z
   . exact absurd (aak (aaj e) (aav I.ok.C1 z)) (aa8 _)
 zV:=fun b hb z=>by
   rcases aau.mp (I.uC b z) with z | z
   . exact(hf b hb).2.1 z
   . exact(hf b hb).2.2.1 z
 rh:=I.stack
 M0:=I.tQ
theorem B3 (B:sT X N tn ix sc)(I:L2.Inv X pins st H s)(hf:∀ b∈fp,jT X pins H b)(cX:∀ b∈fp,b < s.heap.objs.size)(hC:C=s.heap.objs.size+1)(k:∀ b o,s.heap.get? b=some o->h1.get? b=some o)(hn:h1.Ns C fun _=>none)(hD:h1.get? s.heap.objs.size=some { cls:=.type "list",data:=.seq ([]:List Value).toArray 0}){t':Nat}:L2.Inv (aT X N sc C fp s H) [] (aah tn.length none ++ frees ix st) (upd H s.heap.objs.size (.lst [])) { s with heap:=h1,toks:=t'}:=by
 have Ng:s.heap.objs.size<=C:=by rw[hC];exact abe _
 have fr:∀ a,s.heap.objs.size<=a->H a=none:=fun a ha=>I.bh.fresh ha
 have ok:=t5 B I Ng hf cX
 have BC:∀ y c,(k8 sc X.env).lookup y=some c->H c=none/\c < s.heap.objs.size/\∃ v,s.heap.IsCell c v:=fun y c h=>by
   have h:=(qB B I.ok h).1
   obtain⟨v,q⟩:=I.cell y c h
   exact⟨I.pf y c h,q.lt,v,q⟩
 refine⟨ok,rfl,I.bare,Un.laid k (aac _) (fr _ (aac _)),⟨_,hn,fun i y v e1 e2 e3=>?_⟩,fun y c h=>?_,?_,fun y c h=>?_,fun p hp=>absurd (show p∈([]:List (Addr×Obj)) from hp) (by simp),?_,?_⟩
 . have e1:N[i]?=some y:=e1
   by_cases hi:i < tn.length
   . rw[aay (by simpa using hi),aaR,if_pos hi] at e2
     cases e2
   . have hi:tn.length<=i:=abK hi
     rw[B.nm,aaz hi,aab] at e1
     rw[aaz (by simpa using hi),List.length_replicate] at e2
     unfold frees at e2
     rw[aab] at e2
     cases q:ix[i - tn.length]? with
     | none=>rw[q] at e1;cases e1
     | some j=>
       rw[q] at e1 e2
       obtain⟨y',Ko,G4⟩:=B.SU j (abi q)
       have Ld:=PySem.mem_of_lookup G4
       have ey:y=y':=by
         have e1:X.N.getD j ""=y:=Option.some.inj e1
         rw[WY,Ko] at e1
         exact e1.symm
       subst ey
       have e2:(st[j]?).join=some v:=Option.some.inj e2
       have SV:st[j]?=some (some v):=by
         cases q2:st[j]? with
         | none=>rw[q2] at e2;cases e2
         | some z=>rw[q2] at e2;rw[show z=some v from e2]
       have kd:=B.fr _ Ld rfl
       have SW:uB X.env.scope y:=by
         rcases kd with z | z
         . exact .inr (.inl z)
         . exact .inr (.inr z)
       obtain⟨m,_,hl⟩:=I.loc
       obtain⟨u,r,l⟩:=hl j y v Ko SV SW
       refine⟨u,r,.inr ?_⟩
       rcases l with⟨z,_⟩ | ⟨_,c,hc,ic⟩
       . rcases kd with z' | z' <;> rw[z] at z' <;> cases z'
       . obtain⟨c',BD⟩:=jw (cells:=X.env.cells) sc.names [] (.inl Ld)
         have:=(qB B I.ok BD).1
         rw[hc] at this;cases this
         obtain⟨oc,C4,hd⟩:=ic
         refine⟨?_,c,BD,oc,k _ _ C4,hd⟩
         rcases e3 with e3 | e3 | e3
         . have e3:(relabel sc X.env).names.lookup y=some .local:=e3
           rcases mG (env:=X.env) G4 with z | z
           . exact absurd (e3.symm.trans z) (by decide)
           . exact absurd (e3.symm.trans z) (by decide)
         . exact .inl e3
         . exact .inr e3
 . obtain⟨_,_,v,oc,C4,hd⟩:=BC y c h
   exact⟨v,oc,k _ _ C4,hd⟩
 . show upd H s.heap.objs.size (.lst []) C=none
   rw[ag (by rw[hC];exact abu _)]
   exact fr _ Ng
 . show upd H s.heap.objs.size (.lst []) c=none
   obtain⟨q1,q2,_⟩:=BC y c h
   rw[ag (aap q2)]
   exact q1
 . exact I.bh.laid k (aac _) ⟨aaQ _,[],0,.nil,hD⟩
 . show(aah tn.length none ++ frees ix st).length=N.length
   rw[B.nm]
   unfold frees
   simp
def Nj (X:Cx)(ifs:List Expr)(tt:TT):Prop:=∀ (pins:List (Addr×Obj)) (s:Shared) (st:L2.St) (H:Hp) (Q:Bool->Hp->Prop),L2.Inv X pins st H s->tt st H Q ->
 wpAny (model X.prog X.w) X.A (forIn ifs true fun c r=>if r=true then do let ok <- isTrue c X.env (eval c X.env);pure (ForInStep.yield ok) else pure (ForInStep.yield r)) (fun b s'=>∃ H',L2.Inv X pins st H' s'/\Q b H') X.xe s
theorem Dw {c:Expr}{tt:TT}(h:PT X c tt):Nj X [c] tt:=fun pins s st H Q I q=>wpAny_tests_one (bM (h pins s st H _ I q) fun b s' z=>z)
def Dx (nt:Nat)(g:TG)(tt:TT)(te:TE)(fs:L2.St)(J:It)(D:Addr)(Q:List V->Hp->Prop)(H:Hp):Prop:=
 ∃ W:Nat->Nat->List V->Hp->Prop,(∃ m,W 0 m [] (upd H D (.lst [])))/\∀ i m ys H1,W i m ys H1 ->
   (J.stop i H1/\Q ys H1)\/(J.go i H1/\ys.length < sizeLine/\∀ σ:L2.St,σ.length=nt->∀ v H2,J.Gs i H1 v H2->g v (σ ++ fs) H2 fun σ2 H3=>∃ σ':L2.St,σ2=σ' ++ fs/\σ'.length=nt /\
     tt σ2 H3 fun b H4=>if b=true then te σ2 H4 fun y H5=>H5 D=some (.lst ys)/\∃ m',m' < m/\W (i+1) m' (ys ++ [y]) (upd H5 D (.lst (ys ++ [y]))) else ∃ m',m' < m/\W (i+1) m' ys H4)
theorem Az {elt iter tg:Expr}{ifs:List Expr}{pos:Pos}{g:TG}{tt:TT}{te:TE}{J:It}{it:Addr}{tj:Nat->Heap->Prop}{Q:Addr->List V->Hp->Prop}{RR:Value->Addr->Result->Shared->Prop}{E:Value->Shared->Prop}(hc:X.calm=true)(B:sT X N tn ix sc)(hg:∀ C fp s H,PG (aT X N sc C fp s H) tg g)(ht:∀ C fp s H,Nj (aT X N sc C fp s H) ifs tt)(jD:∀ C fp s H,PE (aT X N sc C fp s H) elt te)(I:L2.Inv X pins st H s)(T:Turn X.prog X.w X.K tg J fp it tj)(h0:tj 0 s.heap)(hf:∀ b∈fp,jT X pins H b)(hq:∀ D,H D=none->Dx tn.length g tt te (frees ix st) J D (Q D) H)(SY:∀ D C ys H' s',L2.Inv X pins st H' s'->(∃ m,s'.heap.Ns C m)->jT X pins H' C->Q D ys H'->RR (.ref D) C (.ok .next) s'):wpAny (model X.prog X.w) X.A (newList []) (fun acc s3=>wpAny (model X.prog X.w) X.A (newFunctionEnv sc X.env.globals (k8 sc X.env) [] X.env.qual none .none (some X.env)) (fun Ao s4=>codeAny (model X.prog X.w) X.A (.compStart (.ListComp elt [⟨tg,iter,ifs,0⟩] sc pos) 0 (.ref it) acc { Ao with scope:=relabel sc X.env}) (RR acc Ao.locals) s4) E s3) E s:=by
 have cX:∀ b∈fp,b < s.heap.objs.size:=fun b hb=>by
   obtain⟨o,e,_⟩:=T.obj _ _ h0 b hb
   exact aaj e
 refine wpAny_newObj_type (wpAny_newFunctionEnv B.uV (fun y hy=>absurd hy (by simp)) (fun h1 F6 EY=>?_) B.kind)
 dsimp only at F6 EY ⊢
 generalize hG:s.heap.push { cls:=.type "list",dict:=none,data:=.seq ([]:List Value).toArray}=g' at F6 EY ⊢
 have hC:g'.objs.size=s.heap.objs.size+1:=by rw[<- hG,aaT]
 have Vh:s.heap.objs.size≠g'.objs.size:=by rw[hC];exact aap (abg _)
 have old:∀ b o,s.heap.get? b=some o->h1.get? b=some o:=fun b o e=>
   EY.extBut b o (by rw[hC];exact aap (abG (aaj e))) (Vf _ (hG ▸ Vf _ e))
 have G5:h1.get? s.heap.objs.size=some { cls:=.type "list",data:=.seq ([]:List Value).toArray 0}:=EY.extBut _ _ Vh (Vf _ (hG ▸ aai _ rfl))
 have hD:H s.heap.objs.size=none:=I.bh.fresh (aac _)
 obtain⟨W,⟨m0,w0⟩,turn⟩:=hq _ hD
 have I0:=B3 (t':=s.toks+([]:List (Str×Value)).length) B I hf cX hC old (by simpa using F6) G5
 have Nh:tj 0 h1:=T.keep _ _ _ h0 fun b _ o e=>old b o e
 have nM:s.heap.objs.size<=g'.objs.size:=by rw[hC];exact abe _
 have pL:∀ {H':Hp},(∀ b∈fp,H' b=none)->∀ b∈fp,jT (aT X N sc g'.objs.size fp s H) [] H' b:=fun {H'} hn b hb=>
   ⟨hn b hb,((t5 B I nM hf cX).KH b hb).1,(t5 B I nM hf cX).zV b hb,.inl hb,((t5 B I nM hf cX).KH b hb).2,fun p hp=>absurd (show p∈([]:List (Addr×Obj)) from hp) (by simp)⟩
 have loop:∀ s3:Shared,s3={ s with heap:=h1,toks:=s.toks+([]:List (Str×Value)).length} ->
     codeAny (model X.prog X.w) X.A (.compLoop (.ListComp elt [⟨tg,iter,ifs,0⟩] sc pos) 0 (.ref it) (.ref s.heap.objs.size) (compEnvC sc (k8 sc X.env) g'.objs.size X.env)) (RR (.ref s.heap.objs.size) g'.objs.size) s3:=by
   rintro s3 rfl
   refine Ay (fun n s'=>∃ i ys σ H',σ.length=tn.length/\L2.Inv (aT X N sc g'.objs.size fp s H) [] (σ ++ frees ix st) H' s'/\tj i s'.heap/\(∀ b∈fp,H' b=none)/\W i n ys H') ?_ m0
     ⟨0,[],aah tn.length none,_,by simp,I0,Nh,fun b hb=>?_,w0⟩
   . rintro n s5 ⟨i,ys,σ,H5,hσ,I5,F5,Kl,w5⟩
     rcases turn i n ys H5 w5 with⟨stop,qn⟩ | ⟨go,hz,step⟩
     . refine bM (T.done (aT X N sc g'.objs.size fp s H) rfl rfl rfl hc i [] s5 _ H5 wu I5 (pL Kl) F5 stop) fun r s6 ⟨hr,I6⟩=>?_
       subst hr
       refine SY _ _ ys H5 s6 ?_ ?_ (I.rq nM I6.free) qn
       . exact I.Gm I6.os I6.base I6.bh I6.bare fun b hb=>⟨(hf b hb).2.2.2.1,(hf b hb).2.1,(hf b hb).2.2.2.2.1,(hf b hb).2.2.2.2.2⟩
       . obtain⟨m,hm,_⟩:=I6.loc
         exact⟨m,hm⟩
     . refine bM (T.item (aT X N sc g'.objs.size fp s H) rfl rfl rfl hc i [] s5 _ H5 wu I5 (pL Kl) F5 go) fun r s6 ⟨u,hr,h6⟩=>?_
       subst hr
       refine bM h6 fun _ s7 ⟨v,H7,I7,r7,y7,G6,S5⟩=>?_
       have S6:=I7.pinned (pL S5) (T.obj _ _ G6)
       refine bM (hg g'.objs.size fp s H _ s7 _ H7 v u _ S6 r7 (step σ hσ v H7 y7)) fun _ s8 h8=>?_
       obtain⟨σ8,H8,I8,σ',e8,Tn,h8⟩:=h8
       subst e8
       have pinned:∀ {σ9:L2.St} {H9:Hp} {s9:Shared},L2.Inv (aT X N sc g'.objs.size fp s H) ([] ++ rA fp s7.heap) σ9 H9 s9->tj (i+1) s9.heap/\∀ b∈fp,H9 b=none:=fun {σ9 H9 s9} I9=>by
         refine⟨T.keep _ _ _ G6 fun b hb o e=>(I9.pin (b,o) (aaq _ (aaq _ (fi hb e)))).1,fun b hb=>?_⟩
         obtain⟨o,e,d⟩:=T.obj _ _ G6 b hb
         exact(I9.pin (b,o) (aaq _ (aaq _ (fi hb e)))).2.1
       refine bM (ht g'.objs.size fp s H _ s8 _ H8 _ I8 h8) fun ok WL Li=>?_
       obtain⟨WM,Lj,Li⟩:=Li
       cases ok with
       | false=>
         obtain⟨m',hm,w8⟩:=Li
         exact⟨m',hm,i+1,ys,σ',_,Tn,Lj.jr (pins:=[]),(pinned Lj).1,(pinned Lj).2,w8⟩
       | true=>
         refine bM (jD g'.objs.size fp s H _ WL _ WM _ Lj Li) fun z s9 ⟨y,H9,I9,r9,S9,m',hm,w9⟩=>?_
         refine bM (om _ s9 _ H9 (.ref s.heap.objs.size) [y] (.ref s.heap.objs.size) [z] (fun _ H'=>H'=upd H9 s.heap.objs.size (.lst (ys ++ [y]))) I9 rfl (.cons r9 .nil) ⟨_,ys,y,rfl,rfl,S9,hz,rfl⟩) fun _ YN Ta=>?_
         obtain⟨_,YO,G7,_,rfl⟩:=Ta
         exact⟨m',hm,i+1,ys ++ [y],σ',_,Tn,G7.jr (pins:=[]),(pinned G7).1,(pinned G7).2,w9⟩
   . rw[ag (aap (cX b hb))]
     exact(hf b hb).1
 exact codeAny_compStart_list (loop _ rfl) (T.self _ 0 _ _ _ Nh (loop _ rfl))
end
section
variable {K:W.Frag}{G:Gr}{st:L2.St}{Hf H Hf1 H1:Hp}{dl:List Slot}{ix:List Nat}
structure To (K:W.Frag)(Hf:Hp)(σ:L2.St)(sl:List Slot):Prop where
 len:σ.length=sl.length
 val:∀ (i:Nat) d,sl[i]?=some (.val d)->∃ v,σ[i]?=some (some v)/\Rep K Hf v d
 no:∀ (i:Nat) o,sl[i]?≠some (.own o)
theorem To.mono {σ:L2.St}{sl:List Slot}(h:To K Hf σ sl)(s:aC Hf Hf1):To K Hf1 σ sl:=⟨h.len,fun i d e=>let ⟨v,h1,h2⟩:=h.val i d e;⟨v,h1,h2.mono s⟩,h.no⟩
theorem AA {σ:L2.St}{sl:List Slot}(S:du K G st Hf H dl)(s1:aC Hf Hf1)(sb:aC Hf1 H1)(r:To K Hf1 σ sl):du K ⟨Hf1,H1⟩ (σ ++ frees ix st) Hf1 H1 (sl ++ iS dl ix):=by
 have no:∀ (i:Nat) o,(sl ++ iS dl ix)[i]?≠some (.own o):=fun i o h=>by
   by_cases hi:i < sl.length
   . rw[aay hi] at h
     exact r.no i o h
   . rw[aaz (abK hi)] at h
     unfold iS at h
     rw[aab] at h
     cases q:ix[i - sl.length]? with
     | none=>rw[q] at h;cases h
     | some j=>
       rw[q] at h
       exact xv (Option.some.inj h)
 refine⟨.refl sb,by simp[frees,iS,r.len],fun i x h=>?_,fun i o h=>absurd h (no i o),fun i j o o' a h=>absurd h (no i o)⟩
 by_cases hi:i < sl.length
 . rw[aay hi] at h
   rw[aay (by rw[r.len];exact hi)]
   exact r.val i x h
 . have hi:=abK hi
   rw[aaz hi] at h
   rw[aaz (by rw[r.len];exact hi),r.len]
   unfold iS at h
   unfold frees
   rw[aab] at h ⊢
   cases q:ix[i - sl.length]? with
   | none=>rw[q] at h;cases h
   | some j=>
     rw[q] at h
     have hd:=xw (Option.some.inj h)
     obtain⟨v',z1,z2⟩:=S.val j x hd
     exact⟨v',by rw[Option.map_some,z1];rfl,z2.mono s1⟩
def Pa (K:W.Frag)(nt:Nat)(g:TG)(z:Dt)(sl:List Slot):Prop:=∀ (σ fs:L2.St) (Hf H:Hp) (v:V) (Q:L2.St->Hp->Prop),σ.length=nt->aC Hf H->Rep K Hf v z ->
 (∀ σ':L2.St,σ'.length=nt->To K Hf σ' sl->Q (σ' ++ fs) H)->g v (σ ++ fs) H Q
theorem d9 {z:Dt}:Pa K 1 (lX 0) z [.val z]:=fun σ fs Hf H v Q hl s r k=>by
 cases σ with
 | nil=>cases hl
 | cons a σ=>
   have:σ=[]:=aaU (by simpa using hl)
   subst this
   refine k [some v] rfl ⟨rfl,fun i d h=>?_,fun i o h=>?_⟩
   . cases i with
     | zero=>cases h;exact⟨v,rfl,r⟩
     | succ i=>cases h
   . cases i with
     | zero=>cases h
     | succ i=>cases h
abbrev Nk (K:W.Frag):TG:=KO K 2 (sG (lX 0) (sG (lX 1) KN))
theorem Dy {a b:Dt}:Pa K 2 (Nk K) (.tup [a,b]) [.val a,.val b]:=fun σ fs Hf H v Q hl s r k=>by
 cases σ with
 | nil=>cases hl
 | cons x σ=>cases σ with
   | nil=>cases hl
   | cons y σ=>
     have:σ=[]:=aaU (by simpa using hl)
     subst this
     cases r with
     | @tup q vs _ hq rp=>
       cases rp with
       | cons r1 t1=>cases t1 with
         | cons r2 t2=>
           cases t2
           refine⟨q,_,rfl,fj s hq,rfl,_,_,rfl,_,_,rfl,rfl,k [some _,some _] rfl ⟨rfl,fun i d h=>?_,fun i o h=>?_⟩⟩
           . cases i with
             | zero=>cases h;exact⟨_,rfl,r1⟩
             | succ i=>cases i with
               | zero=>cases h;exact⟨_,rfl,r2⟩
               | succ i=>cases h
           . cases i with
             | zero=>cases h
             | succ i=>cases i with
               | zero=>cases h
               | succ i=>cases h
end
section
variable {X:Cx}{G:Gr}{E:XK}{dl:List Slot}{a b c elt iter tg:Expr}{ifs:List Expr}{i:Int}{pos p px py wz:Pos}{o:Out}{x y:Str}{N tn:List Str}{ix:List Nat}{sc:Scope}{n:Nat}
def qC (X:Cx)(G:Gr)(dl:List Slot)(zs:List Dt)(wi:TI):Prop:=∀ st H (R:It->Hp->Prop),(∃ Hf,du X.K G st Hf H dl/\∀ J Hg H0,aV Hf H Hg H0 ->
 (∀ Hf1 H1,aC Hg Hf1->aC Hf1 H1->∀ i,(∀ z,zs[i]?=some z->J.go i H1/\∀ v H2,J.Gs i H1 v H2->∃ bD,aV Hf1 H1 bD H2/\Rep X.K bD v z)/\(i=zs.length->J.stop i H1))->R J H0)->wi st H R
theorem l6 {xs:List Dt}:qC X G dl xs (Gu X.K (tD X.K G dl (.lst xs))):=fun st H R zq=>aaa zq fun Hf zq=>have S:=zq.1;have k:=zq.2;⟨Hf,S,fun v Hf1 H1 g1 r1=>by
 cases r1 with
 | @lst q vs _ hq rp=>
   have hl:=rp.length
   refine⟨q,rfl,⟨vs,.of (g1.sub _ _ hq)⟩,k _ Hf1 H1 g1 fun bD H2 s1 s2 i=>⟨fun z hz=>?_,fun hi=>⟨vs,.of (s2 _ _ (s1 _ _ hq)),by omega⟩⟩⟩
   obtain⟨u,z1,z2⟩:=rp.get hz
   have hs:lS X.K H2 q vs:=.of (s2 _ _ (s1 _ _ hq))
   refine⟨⟨vs,u,hs,z1⟩,fun v H3 hy=>?_⟩
   obtain⟨e1,e2⟩:=hy
   have e2:=e2 vs hs
   rw[z1] at e2;cases e2
   subst e1
   exact⟨bD,.refl s2,z2.mono s1⟩⟩
theorem Hj {lo:Int}{n:Nat}{Hf1 H1 bD H2:Hp}(s2:aC bD H2)(i:Nat):(∀ z,((aag n).map fun(k:Nat)=>Dt.int (lo+k))[i]?=some z->(Ep lo n).go i H2/\∀ v H3,(Ep lo n).Gs i H2 v H3->∃ ia,aV bD H2 ia H3/\Rep X.K ia v z)/\(i=((aag n).map fun(k:Nat)=>Dt.int (lo+k)).length->(Ep lo n).stop i H2):=by
 refine⟨fun z hz=>?_,fun e=>(by have:i=n:=(by simpa using e);exact Nat.le_of_eq this.symm)⟩
 have hi:i < n:=by
   have:=(aad.mp hz).1
   simpa using this
 rw[aab,aar hi] at hz
 cases hz
 refine⟨hi,fun v H3 hy=>?_⟩
 obtain⟨e1,e2⟩:=hy
 subst e1 e2
 exact⟨bD,.refl s2,.int _⟩
variable {α:Type}{as:List α}{z f:α->Dt}{sl:α->List Slot}{keep:α->Bool}{g:TG}{wi:TI}
def Lk (K:W.Frag)(dl:List Slot)(ix:List Nat)(as:List α)(sl:α->List Slot)(keep:α->Bool):TT:=fun st H Q=>∃ a G',a∈as/\SO K G' (sl a ++ iS dl ix) (keep a) st H Q
def Ll (K:W.Frag)(dl:List Slot)(ix:List Nat)(as:List α)(sl:α->List Slot)(keep:α->Bool)(f:α->Dt):TE:=fun st H Q=>∃ a G',a∈as/\keep a=true/\tD K G' (sl a ++ iS dl ix) (f a) st H Q
inductive AB (X:Cx)(N:List Str)(sc:Scope)(dl:List Slot)(ix:List Nat)(as:List α)(sl:α->List Slot)(keep:α->Bool):List Expr->Prop
 | nil:(∀ a∈as,keep a=true)->AB X N sc dl ix as sl keep []
 | one {c:Expr}:(∀ a∈as,∀ C fp s H G',EB (aT X N sc C fp s H) G' (sl a ++ iS dl ix) c (keep a))->AB X N sc dl ix as sl keep [c]
theorem Hk (h:AB X N sc dl ix as sl keep ifs):∀ C fp s H,Nj (aT X N sc C fp s H) ifs (Lk X.K dl ix as sl keep):=fun C fp s H=>by
 cases h with
 | nil h=>exact fun pins s' st H' Q I ⟨a,G',ha,Hf,S,k⟩=>wpAny_tests_nil ⟨H',I,by have:=k Hf H' (.refl S.sub);rw[h a ha] at this;exact this⟩
 | one h=>exact Dw fun pins s' st H' Q I ⟨a,G',ha,q⟩=>h a ha C fp s H G' pins s' st H' Q I q
def Pb (X:Cx)(N:List Str)(sc:Scope)(dl:List Slot)(ix:List Nat)(as:List α)(sl:α->List Slot)(keep:α->Bool)(f:α->Dt)(elt:Expr):Prop:=∀ a∈as,keep a=true->∀ C fp s H G',EE (aT X N sc C fp s H) G' (sl a ++ iS dl ix) elt (f a)
theorem Hl (h:Pb X N sc dl ix as sl keep f elt):∀ C fp s H,PE (aT X N sc C fp s H) elt (Ll X.K dl ix as sl keep f):=fun C fp s H pins s' st H' Q I ⟨a,G',ha,hk,q⟩=>h a ha hk C fp s H G' pins s' st H' Q I q
theorem E2 {nt:Nat}{st:L2.St}{Hf H:Hp}{J:It}{Q:VK}(S:du X.K G st Hf H dl)(hn:as.length<=sizeLine)(Hm:∀ a∈as,Pa X.K nt g (z a) (sl a))(go:∀ Hf1 H1,aV Hf H Hf1 H1->∀ i,(∀ y,(as.map z)[i]?=some y->J.go i H1/\∀ v H2,J.Gs i H1 v H2->∃ bD,aV Hf1 H1 bD H2/\Rep X.K bD v y)/\(i=(as.map z).length->J.stop i H1))(k:∀ p aH H',aV Hf H aH H'->H p=none->aH p=none->gj X.K aH H' p (.lst ((as.filter keep).map f))->Q (.ref p) H'):∀ D,H D=none->Dx nt g (Lk X.K dl ix as sl keep) (Ll X.K dl ix as sl keep f) (frees ix st) J D (fun _ H'=>Q (.ref D) H') H:=by
 intro D hD
 refine⟨fun i m vs H1=>m=as.length - i/\i<=as.length/\∃ Hf1,aV Hf H Hf1 H1/\Hf1 D=none/\H1 D=some (.lst vs)/\aM X.K Hf1 vs (((as.take i).filter keep).map f),⟨as.length,rfl,aaQ _,Hf,.d8 S.sub hD,S.sub.free hD,ak,.nil⟩,?_⟩
 rintro i m vs H1 ⟨rfl,hi,Hf1,g1,Te,RA,rp⟩
 have hlen:=rp.length
 rw[Bn] at hlen
 have YV:((as.take i).filter keep).length<=i:=aav (List.length_filter_le _ _) (by rw[aat];omega)
 have B4:∀ {WN Ha Vm Hb:Hp},aV WN Ha Vm Hb->WN D=none->Ha D=some (.lst vs)->Vm D=none/\Hb D=some (.lst vs):=fun {WN Ha Vm Hb} gg e1 e2=>by
   refine⟨?_,gg.big _ _ e2⟩
   cases q:Vm D with
   | none=>rfl
   | some u=>
     obtain⟨o,z⟩:=gg.yg e2 (fun z=>z) q
     rw[e1] at z;cases z
 by_cases cX:i < as.length
 . have E3:as[i]∈as:=aaJ cX
   have et:as.take (i+1)=as.take i ++ [as[i]]:=by rw[aa0,k3 cX];rfl
   obtain⟨Tf,hy⟩:=(go Hf1 H1 g1 i).1 (z as[i]) (by rw[aab,k3 cX];rfl)
   refine .inr ⟨Tf,by omega,fun σ hσ v H2 y=>?_⟩
   obtain⟨bD,g2,rv⟩:=hy v H2 y
   obtain⟨d2,d2'⟩:=B4 g2 Te RA
   refine Hm as[i] E3 σ _ bD H2 v _ hσ g2.sub rv fun σ' hl' tv=>⟨σ',rfl,hl',as[i],⟨bD,H2⟩,E3,bD,AA S (g1.bj.trans g2.bj) g2.sub tv,fun ia H3 g3=>?_⟩
   obtain⟨d3,YW⟩:=B4 g3 d2 d2'
   cases hk:keep as[i] with
   | false=>
     refine⟨as.length - (i+1),by omega,rfl,cX,ia,(g1.trans g2).trans g3,d3,YW,?_⟩
     rw[et,List.filter_append,abD (by simp[hk]),List.filter_nil,aaS]
     exact rp.mono (g2.bj.trans g3.bj)
   | true=>
     refine⟨as[i],⟨ia,H3⟩,E3,hk,ia,AA S ((g1.bj.trans g2.bj).trans g3.bj) g3.sub (tv.mono g3.bj),fun y Kt H4 g4 r4=>?_⟩
     obtain⟨d4,d4'⟩:=B4 g4 d3 YW
     have gg:=((g1.trans g2).trans g3).trans g4
     refine⟨d4',as.length - (i+1),by omega,rfl,cX,Kt,⟨fun a o h=>?_,gg.bj,fun a o h=>?_,gg.new⟩,d4,ak,?_⟩
     . rw[ag (au h hD)];exact gg.big _ _ h
     . rw[ag (au h d4)];exact g4.sub _ _ h
     . rw[et,List.filter_append,abE (by simpa using hk),List.filter_nil,aaP]
       exact(rp.mono ((g2.bj.trans g3.bj).trans g4.bj)).append (.cons r4 .nil)
 . have e:i=as.length:=by omega
   subst e
   refine .inl ⟨(go Hf1 H1 g1 _).2 (by simp),k D Hf1 H1 g1 hD Te ⟨vs,RA,?_⟩⟩
   rw[aa7] at rp
   exact rp
def Lm (wi:TI)(nt:Nat)(ix:List Nat)(g:TG)(tt:TT)(te:TE):TE:=fun st H Q=>wi st H fun J H1=>∀ D,H1 D=none->Dx nt g tt te (frees ix st) J D (fun _ H'=>Q (.ref D) H') H1
theorem Pd {tt:TT}{te:TE}(hc:X.calm=true)(B:sT X N tn ix sc)(hi:PI X tg iter wi)(hg:∀ C fp s H,PG (aT X N sc C fp s H) tg g)(ht:∀ C fp s H,Nj (aT X N sc C fp s H) ifs tt)(jD:∀ C fp s H,PE (aT X N sc C fp s H) elt te)(hs:∀ z,foldedSetIterable iter X.env z=pure z):PE X (.ListComp elt [⟨tg,iter,ifs,0⟩] sc pos) (Lm wi tn.length ix g tt te):=by
 intro pins s st H Q I h
 rw[eval_ListComp]
 refine wpAny_comprehension_free (use:=none) rfl hs (Dv B I.ok) B.kind B.names (bM (hi pins s st H _ I h) fun v s1 h1=>bM h1 fun Ol s2 h2=>?_)
 obtain⟨it,fp,tj,J,H2,e,I2,T,F4,f2,hq⟩:=h2
 subst e
 refine Az (RR:=fun acc C=>compPost (model X.prog X.w) X.A X.xe none (EP X pins st Q) acc C) hc B hg ht jD I2 T F4 f2 hq ?_
 intro D C ws H' s' I' ⟨m,hn⟩ o5 q
 exact⟨m,hn,fun h' Lg=>⟨.ref D,H',I'.turned (t':=s'.toks) (it:=C) (fun b o hb e=>(Lg.2 b hb).trans e) o5.1 o5.2.1 o5.2.2.2.1 o5.2.2.2.2.1 o5.2.2.2.2.2,rfl,q⟩⟩
theorem Pe {tt:TT}{te:TE}{nN:Nat}(hc:X.calm=true)(B:sT X N tn ix sc)(hi:PI X tg iter wi)(hg:∀ C fp s H,PG (aT X N sc C fp s H) tg g)(ht:∀ C fp s H,Nj (aT X N sc C fp s H) ifs tt)(jD:∀ C fp s H,PE (aT X N sc C fp s H) elt te)(hs:∀ z,foldedSetIterable iter X.env z=pure z)(O6:swapsWith (.ListComp elt [⟨tg,iter,ifs,0⟩] sc pos) (some (.Name y py)) wz.line X.env=pure true)(hN:X.N.Nodup)(hy:X.N[nN]?=some y)(hl:Loc X.env.scope y)(hf:X.fn y=true\/X.env.scope.names.lookup y=some .local):PS X (.Assign [.Name y py] (.ListComp elt [⟨tg,iter,ifs,0⟩] sc pos) wz) (fun D st H=>Lm wi tn.length ix g tt te st H fun v H'=>D.nx (st.set nN (some v)) H'):=by
 intro pins s st H D0 I h
 rw[exec_Assign_Name_used _ _ _ _ O6]
 refine wpAny_bind (wpAny_standAt (wpAny_bind ?_))
 show wpAny _ X.A (do let _ <- comprehension (.ListComp elt [⟨tg,iter,ifs,0⟩] sc pos) sc X.env _ (newList []) false (eval iter X.env) (some (assign (.Name y py) X.env))) _ _ s
 refine wpAny_bind (wpAny_mono (wpAny_comprehension_free (use:=some (assign (.Name y py) X.env)) (Q:=fun _ s'=>SP X pins D0 .next s') rfl hs (Dv B I.ok) B.kind B.names (bM (hi pins s st H _ I h) fun v s1 h1=>bM h1 fun Ol s2 h2=>?_)) (fun _ s' hq=>wpAny_pure (wpAny_pure hq)) fun _ _ z=>z)
 obtain⟨it,fp,tj,J,H2,e,I2,T,F4,f2,hq⟩:=h2
 subst e
 refine Az (RR:=fun acc C=>compPost (model X.prog X.w) X.A X.xe (some (assign (.Name y py) X.env)) (fun _ s'=>SP X pins D0 .next s') acc C) hc B hg ht jD I2 T F4 f2 hq ?_
 intro D C ws H' s' I' ⟨m,hn⟩ o5 q
 refine wpAny_assign_Name (rj I' hN hy hl (v:=.ref D) rfl (fun OA WH ⟨ad,EY,ha⟩=>?_) hf)
 have ne:C≠ad:=by
   rcases ha with z | z
   . rw[z];exact o5.2.1
   . exact Ne.symm (o5.2.2.2.2.1 _ _ z)
 exact⟨m,hn.sameBut EY ne,fun h' Lg=>⟨_,H',WH.turned (t':=OA.toks) (it:=C) (fun b o hb e=>(Lg.2 b hb).trans e) o5.1 o5.2.1 o5.2.2.2.1 o5.2.2.2.2.1 o5.2.2.2.2.2,q⟩⟩
theorem rP (hs:qC X G dl (as.map z) wi)(Hm:∀ a∈as,Pa X.K n g (z a) (sl a))(hn:as.length<=sizeLine):∀ st H Q,Vi X.K G dl (.lst ((as.filter keep).map f)) st H Q->Lm wi n ix g (Lk X.K dl ix as sl keep) (Ll X.K dl ix as sl keep f) st H Q:=fun st H Q zq=>aaa zq fun Hf zq=>have S:=zq.1;have k:=zq.2;
 hs st H _ ⟨Hf,S,fun J Hg H0 g0 src=>E2 (S.grow g0) hn Hm (fun Hf1 H1 g1 i=>src Hf1 H1 g1.bj g1.sub i) fun p aH H' g n1 n2 r=>k p aH H' (g0.trans g) (g0.big.free n1) n2 r⟩
theorem ig (as:List α)(z f:α->Dt)(sl:α->List Slot)(keep:α->Bool)(hc:X.calm=true)(B:sT X N tn ix sc)(hi:PI X tg iter wi)(hg:∀ C fp s H,PG (aT X N sc C fp s H) tg g)(uZ:qC X G dl (as.map z) wi)(Hm:∀ a∈as,Pa X.K tn.length g (z a) (sl a))(Hn:AB X N sc dl ix as sl keep ifs)(jD:Pb X N sc dl ix as sl keep f elt)(hn:as.length<=sizeLine)(hs:∀ z,foldedSetIterable iter X.env z=pure z:=by intro _;rfl):EO X G dl (.ListComp elt [⟨tg,iter,ifs,0⟩] sc pos) (.lst ((as.filter keep).map f)):=hV (Pd hc B hi hg (Hk Hn) (Hl jD) hs) (rP uZ Hm hn)
theorem Ho (nN:Nat)(as:List α)(z f:α->Dt)(sl:α->List Slot)(keep:α->Bool)(hc:X.calm=true)(hN:X.N.Nodup)(B:sT X N tn ix sc)(hi:PI X tg iter wi)(hg:∀ C fp s H,PG (aT X N sc C fp s H) tg g)(uZ:qC X G dl (as.map z) wi)(Hm:∀ a∈as,Pa X.K tn.length g (z a) (sl a))(Hn:AB X N sc dl ix as sl keep ifs)(jD:Pb X N sc dl ix as sl keep f elt)(hn:as.length<=sizeLine)(hs:∀ z,foldedSetIterable iter X.env z=pure z:=by intro _;rfl)(O6:swapsWith (.ListComp elt [⟨tg,iter,ifs,0⟩] sc pos) (some (.Name y py)) wz.line X.env=pure true:=by rfl)(hy:X.N[nN]?=some y:=by rfl)(hl:Loc X.env.scope y:=by first | exact aaL rfl | exact aaB rfl)(hf:X.fn y=true\/X.env.scope.names.lookup y=some .local:=by first | exact .inl rfl | exact .inr rfl | assumption):ES X G E dl (.Assign [.Name y py] (.ListComp elt [⟨tg,iter,ifs,0⟩] sc pos) wz) (.nx (dl.set nN (.own (.lst ((as.filter keep).map f))))):=
 tV (Pe hc B hi hg (Hk Hn) (Hl jD) hs O6 hN hy hl hf) fun D st H zq=>aaa zq fun Hf zq=>have S:=zq.1;have k:=zq.2;rP uZ Hm hn st H _ ⟨Hf,S,fun p aH H' g n1 n2 r=>k _ aH H' g.bj (S.O1 g n1 n2 r)⟩
def Vn (K:W.Frag)(g:TG)(z:Dt)(up:List Slot->List Slot):Prop:=∀ (G:Gr) (st:L2.St) (Hf H:Hp) (v:V) (dl:List Slot) (Q:L2.St->Hp->Prop),du K G st Hf H dl->Rep K Hf v z->(∀ jq,du K G jq Hf H (up dl)->Q jq H)->g v st H Q
theorem t6 {K:W.Frag}{n:Nat}{z:Dt}:Vn K (lX n) z (fun dl=>dl.set n (.val z)):=fun G st Hf H v dl Q S r k=>k _ (S.set r)
theorem Dz {K:W.Frag}{n m:Nat}{z1 z2:Dt}:Vn K (KO K 2 (sG (lX n) (sG (lX m) KN))) (.tup [z1,z2]) (fun dl=>(dl.set n (.val z1)).set m (.val z2)):=fun G st Hf H v dl Q S r k=>by
 cases r with
 | @tup q vs _ hq rp=>
   cases rp with
   | cons r1 t1=>cases t1 with
     | cons r2 t2=>
       cases t2
       exact⟨q,_,rfl,fj S.sub hq,rfl,_,_,rfl,_,_,rfl,rfl,k _ ((S.set r1).set r2)⟩
theorem mI {body:List Stmt}{m:Nat}(as:List α)(z:α->Dt)(up:α->List Slot->List Slot)(S:Nat->List Slot)(qw:X.calm=true)(hp:PassesOwn (model X.prog X.w) X.A X.env X.xe)(hI:PI X tg iter wi)(uZ:qC X G dl (as.map z) wi)(hg:PG X tg g)(Hm:∀ a∈as,Vn X.K g (z a) (up a))(h0:Le (S 0) dl)(SQ:m<=as.length)(hb:∀ (k:Nat) (a:α),k < m->as[k]?=some a->Goes X G E body (up a (S k)) (S (k+1)))(he:pk X G E body S (fun k=>(as[k]?).elim (S k) fun a=>up a (S k)) as.length m o)(hs:∀ z,foldedSetIterable iter X.env z=pure z:=by intro _;rfl):ES X G E dl (.For tg iter body [] pos) o:=by
 refine tV (x5 hp qw hI hg (qv (G:=G) (E:=E)) hs) fun D st H ⟨Hf,S0,k⟩=>uZ st H _ ⟨Hf,S0,fun J Hg H0 g0 src=>?_⟩
 refine⟨fun i q st H=>q=as.length - i/\i<=m/\∃ Hf1,aC Hg Hf1/\du X.K G st Hf1 H (S i),⟨as.length,rfl,aaQ _,Hg,aC.refl _,(S0.grow g0).weak h0⟩,?_⟩
 rintro i q Vl H1 ⟨rfl,him,Hf1,s1,S1⟩
 have sr:=src Hf1 H1 s1 S1.sub i
 by_cases cX:i < as.length
 . have hz:as[i]?=some as[i]:=k3 cX
   obtain⟨Tf,hy⟩:=sr.1 (z as[i]) (by rw[aab,hz];rfl)
   refine .inr ⟨Tf,fun jq H'=>i < m/\∃ bD,aC Hg bD/\du X.K G jq bD H' (S (i+1)),fun jq H' ⟨h1,h2⟩=>⟨as.length - (i+1),by omega,rfl,by omega,h2⟩,fun x H' y=>?_⟩
   obtain⟨bD,g2,rv⟩:=hy x H' y
   refine Hm as[i] (aaJ cX) G Vl bD H' x (S i) _ (S1.grow g2) rv fun F4 S2=>?_
   by_cases Pg:i < m
   . exact oA (hb i as[i] Pg hz) S2 (fun st ia H s3 S'=>⟨Pg,ia,(s1.trans g2.bj).trans s3,S'⟩) (fun st ia H s3 S'=>⟨Pg,ia,(s1.trans g2.bj).trans s3,S'⟩)
   . have e:i=m:=by omega
     subst e
     refine rH he cX ?_ (k.mono ((g0.bj.trans s1).trans g2.bj)) rfl rfl
     show du _ _ _ _ _ ((as[i]?).elim (S i) fun a=>up a (S i))
     rw[hz];exact S2
 . have e:i=as.length:=by omega
   subst e
   have e2:m=as.length:=by omega
   subst e2
   refine .inl ⟨sr.2 (by simp),?_⟩
   cases he with
   | all _=>exact k Vl Hf1 H1 (g0.bj.trans s1) S1
   | rt h _=>omega
   | ro h _=>omega
   | bk h _=>omega
   | ex h _=>omega
theorem dc (B:sT X N tn ix sc)(h:tn=[x]):∀ C fp s H,PG (aT X N sc C fp s H) (.Name x px) (lX 0):=fun C fp s H=>by
 have hN:(aT X N sc C fp s H).N[0]?=some x:=by
   show N[0]?=some x
   rw[B.nm,h];rfl
 have Kq:(aT X N sc C fp s H).env.scope.names.lookup x=some .local:=lookup_relabel_local (B.hx x (by rw[h];simp))
 exact bX (X:=aT X N sc C fp s H) B.nd hN (.inl Kq) (.inr Kq)
theorem AD {k:Nat}(hc:X.calm=true)(B:sT X N tn ix sc)(h:tn=[x,y]):∀ C fp s H,PG (aT X N sc C fp s H) (.Tuple [.Name x px,.Name y py] k p) (Nk X.K):=fun C fp s H=>by
 have h0:(aT X N sc C fp s H).N[0]?=some x:=by
   show N[0]?=some x
   rw[B.nm,h];rfl
 have h1:(aT X N sc C fp s H).N[1]?=some y:=by
   show N[1]?=some y
   rw[B.nm,h];rfl
 have Kq:(aT X N sc C fp s H).env.scope.names.lookup x=some .local:=lookup_relabel_local (B.hx x (by rw[h];simp))
 have G4:(aT X N sc C fp s H).env.scope.names.lookup y=some .local:=lookup_relabel_local (B.hx y (by rw[h];simp))
 exact uE (X:=aT X N sc C fp s H) hc (fh (bX B.nd h0 (.inl Kq) (.inr Kq)) (fh (bX B.nd h1 (.inl G4) (.inr G4)) qh rfl) rfl) rfl rfl
end
noncomputable def iT (sc Ax:Scope)(XN N tn:List Str)(ix:List Nat):Bool:=
 decide N.Nodup && (decide (N=tn ++ ix.map (fun j=>XN.getD j "")) && (decide (sc.kind=.function) && (sc.names.all (fun y=>decide (y.2≠.cell)) && (sc.names.all (fun y=>decide (y.2=.local->sc.names.lookup y.1=some .local)) && (tn.all (fun x=>decide (sc.names.lookup x=some .local)) &&
   (sc.names.all (fun y=>decide (y.2=.free->Ax.names.lookup y.1=some .cell\/Ax.names.lookup y.1=some .free)) && ix.all (fun j=>decide (sc.names.lookup (XN.getD j "")=some .free) && decide (j < XN.length))))))))
theorem cI {X:Cx}{sc Ax:Scope}{XN N tn:List Str}{ix:List Nat}(h:iT sc Ax XN N tn ix=true)(e1:X.env.scope=Ax:=by rfl)(e2:X.N=XN:=by rfl):sT X N tn ix sc:=by
 subst e1 e2
 unfold iT at h
 simp only[aaN,abL,decide_eq_true_eq] at h
 obtain⟨h1,h2,h3,h4,h5,h6,h7,h8⟩:=h
 refine⟨h1,h2,h3,h4,h5,h6,h7,fun j hj=>?_⟩
 obtain⟨q1,q2⟩:=h8 j hj
 refine⟨X.N.getD j "",?_,q1⟩
 rw[WY,k3 q2];rfl
section
variable {X:Cx}{G:Gr}{E:XK}{dl:List Slot}{a b:Expr}{d1 d2:Dt}{pos:Pos}{x y:Str}
theorem Hq (n1 n2:Nat){px py pt Oi:Pos}{kt k2}(hN:X.N.Nodup)(hc:X.calm=true)(ha:EA X G dl [a,b] [d1,d2])(hi:X.N[n1]?=some x:=by rfl)(hj:X.N[n2]?=some y:=by rfl)(R3:n1≠n2:=by decide)(hx:X.env.scope.names.lookup x=some .local:=by rfl)(hy:X.env.scope.names.lookup y=some .local:=by rfl)(hw:swappedStores [.Tuple [.Name x px,.Name y py] kt pt] (.Tuple [a,b] k2 Oi) X.env=pure (some [x,y]):=by rfl)(hs:swapsWithSole [.Tuple [.Name x px,.Name y py] kt pt] (.Tuple [a,b] k2 Oi) pos.line X.env=pure false:=by rfl):ES X G E dl (.Assign [.Tuple [.Name x px,.Name y py] kt pt] (.Tuple [a,b] k2 Oi) pos) (.nx ((dl.set n1 (.val d1)).set n2 (.val d2))):=
 tV (Oh hc hN hi hj R3 hx hy ha hw hs) fun D st H zq=>aaa zq fun Hf zq=>have S:=zq.1;have k:=zq.2;⟨Hf,S,fun vs Hf1 H1 g1 r1=>by
   cases r1 with
   | cons r1 t1=>cases t1 with
     | cons r2 t2=>
       cases t2
       exact⟨_,_,rfl,k _ Hf1 H1 g1.bj (((S.grow g1).set r1).set r2)⟩⟩
end
section
variable {X:Cx}{G:Gr}{E:XK}{dl:List Slot}{e:Expr}{d1 d2:Dt}{pos:Pos}
theorem yz (n1 n2:Nat){a b:Str}{pa pb tp:Pos}{cx:Nat}(hN:X.N.Nodup)(hc:X.calm=true)(he:EE X G dl e (.tup [d1,d2]))(hi1:X.N[n1]?=some a:=by rfl)(hi2:X.N[n2]?=some b:=by rfl)(hx1:Loc X.env.scope a:=by first | exact aaL rfl | exact aaB rfl)(hx2:Loc X.env.scope b:=by first | exact aaL rfl | exact aaB rfl)(hf1:X.fn a=true\/X.env.scope.names.lookup a=some .local:=by first | exact .inl rfl | exact .inr rfl)(hf2:X.fn b=true\/X.env.scope.names.lookup b=some .local:=by first | exact .inl rfl | exact .inr rfl)(hn:(assignEach [.Name a pa,.Name b pb] X.env).length=2:=by rfl)(pK:(assignEach [.Name a pa,.Name b pb] X.env).findIdx? (·.1)=none:=by rfl)(q1:(assignEach [.Name a pa,.Name b pb] X.env).map (·.2)=assign (.Name a pa) X.env::(assignEach [.Name b pb] X.env).map (·.2):=by rfl)(q2:(assignEach [.Name b pb] X.env).map (·.2)=assign (.Name b pb) X.env::(assignEach [] X.env).map (·.2):=by rfl)(hs:swapsWithSole [.Tuple [.Name a pa,.Name b pb] cx tp] e pos.line X.env=pure false:=by rfl)(hw:swappedStores [.Tuple [.Name a pa,.Name b pb] cx tp] e X.env=pure none:=by rfl)(h1:(assignEach [.Tuple [.Name a pa,.Name b pb] cx tp] X.env).map (·.2)=[assign (.Tuple [.Name a pa,.Name b pb] cx tp) X.env]:=by rfl):ES X G E dl (.Assign [.Tuple [.Name a pa,.Name b pb] cx tp] e pos) (.nx ((dl.set n1 (.val d1)).set n2 (.val d2))):=
 tV (Gp he (uE hc (fh (bX (pos:=pa) hN hi1 hx1 hf1) (fh (bX (pos:=pb) hN hi2 hx2 hf2) qh q2) q1) hn pK) hs hw h1) fun D st H zq=>aaa zq fun Hf zq=>have S:=zq.1;have k:=zq.2;⟨Hf,S,fun v Hf1 H1 g1 r1=>by
   cases r1 with
   | @tup q vs _ hq rp=>
     cases rp with
     | cons r1 t1=>cases t1 with
       | cons r2 t2=>
         cases t2
         exact⟨q,_,rfl,fj g1.sub hq,rfl,_,_,rfl,_,_,rfl,rfl,k _ Hf1 H1 g1.bj (((S.grow g1).set r1).set r2)⟩⟩
end
section
variable {X:Cx}{pins:List (Addr×Obj)}{σ:List (Option V)}{H:Hp}{s:Shared}{h':Heap}
theorem u5 {ch:List Addr}{a:Addr}{o:HO}{t':Nat}(I:L2.Inv X pins σ H s)(sF:∀ b∈ch,jT X pins H b)(k:∀ b u,b ∉ ch->s.heap.get? b=some u->h'.get? b=some u)(hp:s.heap.objs.size<=a)(new:aO X.prog X.w (upd H a o) h' a o):L2.Inv X pins σ (upd H a o) { s with heap:=h',toks:=t'}:=by
 have hn:=I.bh.fresh hp
 have M3:∀ b u,H b=some u->b ∉ ch:=fun b u e z=>by rw[(sF b z).1] at e;cases e
 have nea:∀ b o,s.heap.get? b=some o->b≠a:=fun b o e=>aap (aak (aaj e) hp)
 refine I.step (g':=s.gens) (d':=s.drawn) (ch:=ch) (fun b hb=>⟨(sF b hb).2.2.2.1,(sF b hb).2.1,(sF b hb).2.2.2.2.1,(sF b hb).2.2.2.2.2⟩) (fun b o _ _ hc e _=>k b o hc e) (fun b o _ _ hc e _=>⟨o.slots,k b o hc e⟩) (fun b o _ e n=>by rw[ag (nea b o e)];exact n)
   (fun b o hc e=>⟨o,k b o hc e⟩) (fun b xs e=>by rw[ag (au e hn)];exact e) (fun b o u e=>by rw[ag (au e hn)];exact e) (fun b ps e=>⟨#[],by rw[ag (au e hn),e];simp⟩) (fun m hm=>?_) (fun b u e=>?_) I.bare
 . obtain⟨o,es,ep,ho,r⟩:=hm
   exact⟨o,es,ep,k _ o (fun z=>(sF _ z).2.1 rfl) ho,r⟩
 . by_cases hb:b=a
   . subst hb;rw[ak] at e;cases e;exact new
   . rw[ag hb] at e
     refine(I.bh b u e).wg (fun c v hc q=>k c v ?_ q) (fun c q=>by rw[ag (au q hn)];exact q) (fun c xs q=>by rw[ag (au q hn)];exact q) (.of fun c u q=>by rw[ag (au q hn)];exact q)
     rcases hc with z | z | z
     . rw[z];exact M3 b u e
     . exact M3 c _ z
     . exact fun z'=>by rw[(sF c z').1] at z;exact z
end
noncomputable def YX (K:PySem.W.Frag)(a:Addr):It:=
 ⟨fun i H=>∃ xs x,lS K H a xs/\xs[i]?=some x,fun i H v H'=>∃ p x,v=.ref p/\H p=none/\H'=upd H p (.tup [.int i,x])/\∀ xs,lS K H a xs->xs[i]?=some x,fun i H=>∃ xs,lS K H a xs/\xs.length<=i⟩
theorem E4 {P:Program}{w:World}{K:W.Frag}{elts:List Expr}{kt:Nat}{rC:Pos}(a e it:Addr)(RC:e≠it):Turn P w K (.Tuple elts kt rC) (YX K a) [e,it] e (fun i h=>(∃ old,IsEnum h e it i old)/\h.IsListIter it a i) where
 mem:=by simp
 obj:=fun i h st b hb=>by
   obtain⟨⟨old,he⟩,o,e2,c,d⟩:=st
   rcases aau.mp hb with rfl | hb
   . exact⟨_,he,fun v z=>by cases z⟩
   . have:b=it:=by simpa using hb
     subst this
     exact⟨o,e2,fun v z=>by rw[d] at z;cases z⟩
 keep:=fun i h h' st k=>by
   obtain⟨⟨old,he⟩,hit⟩:=st
   exact⟨⟨old,k e (by simp) _ he⟩,hit.at fun o x=>k it (by simp) o x⟩
 item:=by
   intro X hP hw hK hc i pins s σ H E I hf st hg
   subst hP hw hK
   obtain⟨xs,x,hq,hx⟩:=hg
   obtain⟨aE,rv,p,hz⟩:=I.list hq
   obtain⟨u,hu,ru⟩:=rv.get hx
   obtain⟨⟨old,he⟩,hit⟩:=st
   have Tp:e < s.heap.objs.size:=aaj he
   have Vo:it < s.heap.objs.size:=by obtain⟨_,z,_⟩:=hit;exact aaj z
   refine wpAny_pyNext_enum_item he hit p.isList (x:=u) (by simpa using hu) RC fun h1 ho Ph hT hsz hk=>?_
   refine⟨_,rfl,wpAny_letOwnedTupleGo_enum ho fun h2 Tq sH=>?_⟩
   have Ts:h2.get? s.heap.objs.size=some { cls:=.type "tuple",data:=.seq #[.int i s.toks,u]}:=(sH.2 _ (abk Tp)).trans hT
   have k2:∀ b o,b ∉ [e,it]->s.heap.get? b=some o->h2.get? b=some o:=fun b o hb q=>(sH.2 b fun z=>hb (by simp[z])).trans (hk b o (fun z=>hb (by simp[z])) (fun z=>hb (by simp[z])) q)
   have hp:H s.heap.objs.size=none:=I.bh.fresh (aac _)
   have I2:L2.Inv X pins σ (upd H s.heap.objs.size (.tup [.int i,x])) { s with heap:=h2,toks:=s.toks+1}:=u5 I hf k2 (aac _) ⟨aaD rfl,[.int i s.toks,u],.cons ⟨_,rfl⟩ (.cons ru .nil),_,Ts,rfl,_,rfl⟩
   refine⟨.ref s.heap.objs.size,_,I2,rfl,⟨_,x,rfl,hp,rfl,fun ys hy=>by rw[I.uD hy hq];exact hx⟩,⟨⟨u,by simpa using Tq⟩,Ph.at fun o z=>(sH.2 it (Ne.symm RC)).trans z⟩,fun b hb=>?_⟩
   have:b≠s.heap.objs.size:=by
     rcases aau.mp hb with rfl | hb
     . exact aap Tp
     . have:b=it:=by simpa using hb
       subst this
       exact aap Vo
   rw[ag this]
   exact(hf b hb).1
 done:=by
   intro X hP hw hK hc i pins s σ H E I hf st hg
   subst hP hw hK
   obtain⟨xs,hq,hx⟩:=hg
   obtain⟨aE,rv,p,hz⟩:=I.list hq
   obtain⟨⟨old,he⟩,hit⟩:=st
   obtain⟨f0,f1,f2,f3,f4,f5⟩:=hf it (by simp)
   have hl:=rv.length
   exact wpAny_pyNext_enum_end (I.ok.hd hc) he hit p.isList (by simp;omega) fun h' eb=>⟨rfl,I.turned (t':=s.toks) (fun b o hb q=>eb b o hb q) f0 f1 f3 f4 f5⟩
 self:=fun _ i s Q E st h=>by
   obtain⟨⟨old,he⟩,_⟩:=st
   exact wpAny_pyIter_enum he h
theorem boot_enumerate:bootBuiltins "enumerate"=some (.type "enumerate"):=by decide +kernel
section
variable {X:Cx}{G:Gr}{dl:List Slot}{a:Expr}{xs:List Dt}{p pos:Pos}
def Nl (K:W.Frag)(ta:TA):TI:=fun σ H R=>ta σ H fun vs H1=>∃ a,vs=[.ref a]/\(∃ xs,lS K H1 a xs)/\R (YX K a) H1
theorem Ln {elts:List Expr}{kt:Nat}{rC:Pos}{ta:TA}(hg:Gl X "enumerate")(hm:X.mg "enumerate"=none)(ha:PA X [a] ta)(hs:starEach [a] X.env=[(false,eval a X.env)]:=by rfl):PI X (.Tuple elts kt rC) (.Call (.Name "enumerate" p) [a] [] pos) (Nl X.K ta):=by
 intro pins s σ H R I h
 refine Call_ (nE I hg hm boot_enumerate (PyProof.Rows.callWith_type1 (bM (ha pos pins s σ H _ I h) fun us s1 ⟨vs,H1,I1,r1,q1⟩=>?_) hs rfl))
 obtain⟨l,e,⟨xs,hq⟩,q⟩:=q1
 subst e
 cases r1 with
 | cons r rr=>
   cases rr
   cases r
   obtain⟨aE,rv,pl,hz⟩:=I1.list hq
   refine call_enumerate_list pl.isList fun h' he hit hsz k=>wpAny_pyIter_enum he ?_
   have I2:L2.Inv X pins σ H1 { s1 with heap:=h'}:=I1.kept (t':=s1.toks) k
   refine⟨s1.heap.objs.size+1,[s1.heap.objs.size+1,s1.heap.objs.size],_,_,H1,rfl,I2,E4 l _ s1.heap.objs.size (abu _),⟨⟨_,he⟩,hit⟩,fun b hb=>?_,q⟩
   have Kn:s1.heap.objs.size<=b:=by
     rcases aau.mp hb with rfl | hb
     . exact abe _
     . have:b=s1.heap.objs.size:=by simpa using hb
       rw[this];exact aac _
   exact I1.rq Kn (I1.bh.fresh Kn)
noncomputable def sN (xs:List Dt):List Dt:=(aag xs.length).map fun(k:Nat)=>.tup [.int k,xs.getD k .cy]
theorem E5:qC X G dl (sN xs) (Nl X.K (OQ X.K G dl [.lst xs])):=fun st H R zq=>aaa zq fun Hf zq=>have S:=zq.1;have k:=zq.2;⟨Hf,S,fun vs Hf1 H1 g1 r1=>by
 cases r1 with
 | cons r t=>
   cases t
   cases r with
   | @lst q vs _ hq rp=>
     have hl:=rp.length
     refine⟨q,rfl,⟨vs,.of (g1.sub _ _ hq)⟩,k _ Hf1 H1 g1 fun bD H2 s1 s2 i=>⟨fun z hz=>?_,fun hi=>⟨vs,.of (s2 _ _ (s1 _ _ hq)),by unfold sN at hi;rw[Bn,aaA] at hi;omega⟩⟩⟩
     have hi:i < xs.length:=by
       have:=(aad.mp hz).1
       unfold sN at this
       simpa using this
     unfold sN at hz
     rw[aab,aar hi] at hz
     cases hz
     have hx:xs[i]?=some (xs.getD i .cy):=by rw[WY,k3 hi];rfl
     obtain⟨u,z1,z2⟩:=rp.get hx
     have hs:lS X.K H2 q vs:=.of (s2 _ _ (s1 _ _ hq))
     refine⟨⟨vs,u,hs,z1⟩,fun v H3 hy=>?_⟩
     obtain⟨pt,x,rfl,hn,rfl,e2⟩:=hy
     have e2:=e2 vs hs
     rw[z1] at e2;cases e2
     have g3:aV bD H2 (upd bD pt (.tup [.int i,u])) (upd H2 pt (.tup [.int i,u])):=.alloc s2 hn
     exact⟨_,g3,.tup (.inl ak) (.cons (.int _) (.cons ((z2.mono s1).mono g3.bj) .nil))⟩⟩
end
section
noncomputable def noOwn:List Slot->Bool
 | []=>true
 | .own _::_=>false
 | _::r=>noOwn r
theorem aP:∀ {dl:List Slot},noOwn dl=true->∀ (j:Nat) o,dl[j]?≠some (.own o)
 | [],_,j,o,h=>by simp at h
 | .val d::r,q,0,o,h=>by simp at h
 | .aY::r,q,0,o,h=>by simp at h
 | .val d::r,q,j+1,o,h=>aP (dl:=r) q j o (by simpa using h)
 | .aY::r,q,j+1,o,h=>aP (dl:=r) q j o (by simpa using h)
end
section
variable {X:Cx}{G:Gr}{dl:List Slot}{e:Expr}{x:Str}{i j:Int}{pos p2:Pos}{lo hi:Option Expr}{l u:Option Int}
theorem Pj:Wm X (fun x lo hi H Q=>∃ z:Str,x=.str z/\z.length<=sizeLine/\Q (.str (Txt.slice z lo hi)) H):=by
 intro pins s σ H x v vl vu lo hi sl Q I rx hs pl pu h
 obtain⟨z,rfl,hz,q⟩:=h
 obtain⟨t,rfl⟩:=(show ∃ t,v=Value.str z t from rx)
 obtain⟨o,h1,h2,h3⟩:=hs
 refine⟨"str",_,F.slot_str_getitem.lookup,typeIs_str _ _ _,?_⟩
 cases pl with
 | none=>
   cases pu with
   | none=>exact wpAny_getItem_str_slice (l:=none) (u:=none) (st:=none) ⟨o,h1,h2,h3⟩ rfl (post_val_or_str ⟨aav (Txt.slice_le z _ _) hz,fun t' k=>⟨.str (Txt.slice z _ _),H,I.tok _,⟨t',rfl⟩,q⟩⟩)
   | int j uj=>exact wpAny_getItem_str_slice (l:=none) (u:=some (j,uj)) (st:=none) ⟨o,h1,h2,h3⟩ rfl (post_val_or_str ⟨aav (Txt.slice_le z _ _) hz,fun t' k=>⟨.str (Txt.slice z _ _),H,I.tok _,⟨t',rfl⟩,q⟩⟩)
 | int i ui=>
   cases pu with
   | none=>exact wpAny_getItem_str_slice (l:=some (i,ui)) (u:=none) (st:=none) ⟨o,h1,h2,h3⟩ rfl (post_val_or_str ⟨aav (Txt.slice_le z _ _) hz,fun t' k=>⟨.str (Txt.slice z _ _),H,I.tok _,⟨t',rfl⟩,q⟩⟩)
   | int j uj=>exact wpAny_getItem_str_slice (l:=some (i,ui)) (u:=some (j,uj)) (st:=none) ⟨o,h1,h2,h3⟩ rfl (post_val_or_str ⟨aav (Txt.slice_le z _ _) hz,fun t' k=>⟨.str (Txt.slice z _ _),H,I.tok _,⟨t',rfl⟩,q⟩⟩)
def WO (K:W.Frag)(G:Gr)(dl:List Slot)(o:Option Int):TO:=fun st H Q=>∃ Hf,du K G st Hf H dl/\∀ aH H',aV Hf H aH H'->Q o H'
abbrev RD (X:Cx)(G:Gr)(dl:List Slot)(e:Option Expr)(o:Option Int):Prop:=PO X e (WO X.K G dl o)
theorem YY {e:Option Expr}{t t':TO}(h:PO X e t)(i:∀ st H Q,t' st H Q->t st H Q):PO X e t':=fun pins s st H Q I q=>h pins s st H Q I (i st H Q q)
theorem Hr:RD X G dl none none:=YY C9 fun st H Q zq=>aaa zq fun Hf zq=>have S:=zq.1;have k:=zq.2;k Hf H (.refl S.sub)
theorem t7 (h:EE X G dl e (.int i)):RD X G dl (some e) (some i):=YY (tU h) fun st H Q zq=>aaa zq fun Hf zq=>have S:=zq.1;have k:=zq.2;⟨Hf,S,fun v Hf1 H1 g1 r1=>by cases r1;exact⟨i,rfl,k Hf1 H1 g1⟩⟩
theorem Hs (he:EE X G dl e (.str x))(hl:RD X G dl lo l)(hu:RD X G dl hi u)(hx:x.length<=sizeLine):EE X G dl (.Subscript e (.Slice lo hi none p2) pos) (.str (Txt.slice x l u)):=
 hV (qk Pj he hl hu) fun st H Q zq=>aaa zq fun Hf zq=>have S:=zq.1;have k:=zq.2;⟨Hf,S,fun v Hf1 H1 g1 r1=>⟨Hf1,S.grow g1,fun bD H2 g2=>⟨bD,(S.grow g1).grow g2,fun ia H3 g3=>by
   cases r1
   exact⟨x,rfl,hx,k _ ia H3 ((g1.trans g2).trans g3) (.str _)⟩⟩⟩⟩
end
noncomputable def YZ (x:Str):It:=⟨fun i H=>∃ c,x.cps[i]?=some c,fun i H v H'=>H'=H/\∃ c,x.cps[i]?=some c/\v=.str ⟨#[c]⟩,fun i H=>x.cps[i]?=none⟩
theorem Ht {P:Program}{w:World}{K:W.Frag}{tg:Expr}(x:Str)(t:Tok)(it:Addr):Turn P w K tg (YZ x) [it] it (fun i h=>h.IsStrIter it "str_ascii_iterator" x t i) where
 mem:=by simp
 obj:=fun i h st b hb=>by
   have e:b=it:=by simpa using hb
   subst e
   obtain⟨o,e,c,d⟩:=st
   exact⟨o,e,fun v z=>by rw[d] at z;cases z⟩
 keep:=fun i h h' st k=>let ⟨o,e,c,d⟩:=st;⟨o,k it (by simp) o e,c,d⟩
 item:=by
   intro X hP hw hK hc i pins s σ H E I hf st hg
   subst hP hw hK
   obtain⟨c,hx⟩:=hg
   obtain⟨f0,f1,f2,f3,f4,f5⟩:=hf it (by simp)
   refine wpAny_pyNext_ascii_item st hx fun h' jq sb=>?_
   have I1:L2.Inv X pins σ H { s with heap:=h',toks:=s.toks+1}:=I.turned (t':=s.toks+1) (fun b o hb e=>(sb.2 b hb).trans e) f0 f1 f3 f4 f5
   obtain⟨o,e,cc,d⟩:=id jq
   exact⟨_,rfl,z5 (s:={ s with heap:=h',toks:=s.toks+1}) e cc d (by decide) ⟨.str ⟨#[c]⟩,H,I1,⟨_,rfl⟩,⟨rfl,c,hx,rfl⟩,jq,fun b hb=>(hf b hb).1⟩⟩
 done:=by
   intro X hP hw hK hc i pins s σ H E I hf st hg
   subst hP hw hK
   obtain⟨f0,f1,f2,f3,f4,f5⟩:=hf it (by simp)
   exact wpAny_pyNext_ascii_end (I.ok.hd hc) st hg fun h' eb=>⟨rfl,I.turned (t':=s.toks) (fun b o hb e=>eb b o hb e) f0 f1 f3 f4 f5⟩
 self:=fun _ _ _ _ _ st h=>wpAny_pyIter_striter_ascii st h
noncomputable def iX (x:Str):Bool:=x.cps.all (· < 128)
noncomputable def signs (x:Str):List Dt:=x.cps.toList.map fun c=>.str ⟨#[c]⟩
section
variable {X:Cx}{G:Gr}{dl:List Slot}{a b c e:Expr}{x y z:Str}{pos:Pos}{i j k:Int}{u v:Bool}
def Tt (ta:TE):TI:=fun σ H R=>ta σ H fun v H1=>∃ x,v=.str x/\iX x=true/\R (YZ x) H1
theorem ij {tg:Expr}{ta:TE}(ha:PE X a ta):PI X tg a (Tt ta):=by
 intro pins s σ H R I h
 refine bM (ha pins s σ H _ I h) fun v s1 ⟨w,H1,I1,r1,q1⟩=>?_
 obtain⟨x,e,hx,q⟩:=q1
 subst e
 obtain⟨t,rfl⟩:=(show ∃ t,v=Value.str x t from r1)
 refine wpAny_pyIter_ascii hx ?_
 refine⟨s1.heap.objs.size,[s1.heap.objs.size],_,_,H1,rfl,I1.kept (t':=s1.toks) fun b o e=>Vf _ e,Ht x t _,⟨_,aai _ rfl,rfl,rfl⟩,fun b hb=>?_,q⟩
 have e:b=s1.heap.objs.size:=by simpa using hb
 subst e
 exact I1.rq (aac _) (I1.bh.fresh (aac _))
theorem signs_get (x:Str)(i:Nat):(signs x)[i]?=(x.cps[i]?).map fun c=>.str ⟨#[c]⟩:=by
 unfold signs
 rw[aab,abJ]
theorem kG (x:Str):(signs x).length=x.length:=by
 unfold signs
 rw[Bn,abo];rfl
theorem de (hx:iX x=true):qC X G dl (signs x) (Tt (tD X.K G dl (.str x))):=fun st H R zq=>aaa zq fun Hf zq=>have S:=zq.1;have k:=zq.2;⟨Hf,S,fun v Hf1 H1 g1 r1=>by
 cases r1
 refine⟨x,rfl,hx,k _ Hf1 H1 g1 fun bD H2 s1 s2 i=>⟨fun z hz=>?_,fun hi=>?_⟩⟩
 . rw[signs_get] at hz
   cases q:x.cps[i]? with
   | none=>rw[q] at hz;cases hz
   | some c=>
     rw[q] at hz
     cases hz
     refine⟨⟨c,q⟩,fun v H3 ⟨e1,c',e2,e3⟩=>?_⟩
     rw[q] at e2;cases e2
     subst e1 e3
     exact⟨bD,.refl s2,.str _⟩
 . show x.cps[i]?=none
   rw[hi,kG]
   exact Array.getElem?_size_le (aac _)⟩
theorem xy:pj X (compareOp .LtE) (fun x y H Q=>∃ i j,x=.str i/\y=.str j/\Q (.bl (!decide (j.cps.toList < i.cps.toList))) H):=by
 intro pins s σ H x y v u Q I rx ry h
 obtain⟨i,j,rfl,rfl,q⟩:=h
 obtain⟨t,rfl⟩:=rx
 obtain⟨t',rfl⟩:=ry
 exact P.le_str (br I q rfl)
noncomputable def Pk (x y:Str):Bool:=!decide (y.cps.toList < x.cps.toList)
theorem Hu {K:W.Frag}:Di K (fun x y H Q=>∃ i j,x=.str i/\y=.str j/\Q (.bl (!decide (j.cps.toList < i.cps.toList))) H) (.str x) (.str y) (.bl (Pk x y)):=fun v w Hf H Q s r1 r2 k=>by
 cases r1;cases r2;exact⟨x,y,rfl,rfl,k _ Hf H (.refl s) (.bl _)⟩
variable {d1 d2 d3:Dt}
theorem AE {op Ox:CmpOp}{r r':R2}(ho:pj X (compareOp op) r)(Gi:pj X (compareOp Ox) r')(h1:Di X.K r d1 d2 (.bl u))(h2:Di X.K r' d2 d3 (.bl v))(ha:EE X G dl a d1)(hb:EE X G dl b d2)(hc:EE X G dl c d3)(hm:lastMarks [op,Ox] [b,c]=false:=by with_unfolding_all rfl):EE X G dl (.Compare a [op,Ox] [b,c] pos) (.bl (u && v)):=
 hV (Gz ho Gi ha hb hc hm) fun st H Q zq=>aaa zq fun Hf zq=>have S:=zq.1;have k:=zq.2;⟨Hf,S,fun x Hf1 H1 g1 r1=>⟨Hf1,S.grow g1,fun y bD H2 g2 r2=>h1 x y bD H2 _ g2.sub (r1.mono g2.bj) r2 fun z ia H3 g3 r3=>by
   cases r3
   refine⟨u,rfl,?_⟩
   cases u with
   | false=>exact Aj (k _ ia H3 ((g1.trans g2).trans g3) (.bl _))
   | true=>exact Ak ⟨ia,((S.grow g1).grow g2).grow g3,fun w Kt H4 g4 r4=>h2 y w Kt H4 Q g4.sub (r2.mono (g3.bj.trans g4.bj)) r4 fun q we H5 g5 r5=>k q we H5 ((((g1.trans g2).trans g3).trans g4).trans g5) r5⟩⟩⟩
theorem Hv (ha:EE X G dl a (.str x))(hb:EE X G dl b (.str y))(hc:EE X G dl c (.str z))(hm:lastMarks [.LtE,.LtE] [b,c]=false:=by with_unfolding_all rfl):EE X G dl (.Compare a [.LtE,.LtE] [b,c] pos) (.bl (Pk x y && Pk y z)):=AE xy xy Hu Hu ha hb hc hm
theorem Hw (ha:EE X G dl a (.int i))(hb:EE X G dl b (.int j))(hc:EE X G dl c (.int k))(hm:lastMarks [.LtE,.LtE] [b,c]=false:=by with_unfolding_all rfl):EE X G dl (.Compare a [.LtE,.LtE] [b,c] pos) (.bl (decide (i<=j) && decide (j<=k))):=
 AE Gy Gy (sL (g':=fun i j=>.bl (decide (i<=j))) fun _ _ _ _=>.bl _) (sL (g':=fun i j=>.bl (decide (i<=j))) fun _ _ _ _=>.bl _) ha hb hc hm
end
section
variable {X:Cx}{G:Gr}{dl:List Slot}{a b e:Expr}{pos p p2 apos bN:Pos}{k x:Str}{xs:List Str}{ds:List Dt}{bs:List Bool}{ns:List Int}{lo hi:Option Expr}{l u:Option Int}
theorem Hx {neg:Bool}:Di X.K (Va X.K neg) (.str k) (.lst (xs.map .str)) (.bl (if neg then !decide (k∈xs) else decide (k∈xs))):=fun v w Hf H Q s r1 r2 kk=>by
 cases r1
 cases r2 with
 | @lst q vs _ hq rp=>
   have ev:=oB rp
   subst ev
   refine⟨q,_,rfl,.inl (.of (s _ _ hq)),rfl,xx xs,?_⟩
   rw[u0]
   exact kk _ Hf H (.refl s) (.bl _)
theorem Pm (ha:EE X G dl a (.str k))(hb:EE X G dl b (.lst (xs.map .str)))(hm:behindInMarks .In b=false:=by rfl):EE X G dl (.Compare a [.In] [b] pos) (.bl (decide (k∈xs))):=BV xm (Hx (neg:=false)) hm ha hb
theorem Lo (ha:EE X G dl a (.str k))(hb:EE X G dl b (.lst (xs.map .str)))(hm:behindInMarks .NotIn b=false:=by rfl):EE X G dl (.Compare a [.NotIn] [b] pos) (.bl (!decide (k∈xs))):=BV qo (Hx (neg:=true)) hm ha hb
noncomputable def cutD {α:Type}(xs:List α)(lo hi:Option Int):List α:=(xs.drop (HT.wb xs.length 0 lo)).take (HT.wb xs.length xs.length hi - HT.wb xs.length 0 lo)
theorem Hy {K:W.Frag}{H:Hp}{vs:List V}{ds:List Dt}(r:aM K H vs ds)(lo hi:Option Int):aM K H (wj vs lo hi) (cutD ds lo hi):=by
 unfold wj cutD
 rw[r.length]
 exact(r.drop _).take _
theorem Pn (he:EE X G dl e (.lst ds))(hl:RD X G dl lo l)(hu:RD X G dl hi u):EO X G dl (.Subscript e (.Slice lo hi none p2) pos) (.lst (cutD ds l u)):=
 hV (qk yc he hl hu) fun st H Q zq=>aaa zq fun Hf zq=>have S:=zq.1;have k:=zq.2;⟨Hf,S,fun v Hf1 H1 g1 r1=>⟨Hf1,S.grow g1,fun bD H2 g2=>⟨bD,(S.grow g1).grow g2,fun ia H3 g3=>by
   cases r1 with
   | @lst q vs _ hq rp=>
     have g:=(g1.trans g2).trans g3
     exact⟨q,vs,rfl,.of ((g2.trans g3).big _ _ (g1.sub _ _ hq)),fun p hp=>k p ia _ (g.trans (.d8 g.sub hp)) (g.big.free hp) (g.sub.free hp) ⟨_,ak,Hy (rp.mono (g2.bj.trans g3.bj)) l u⟩⟩⟩⟩⟩
theorem range_all (bs:List Bool):(aag bs.length).all (fun i=>bs.getD i true)=bs.all id:=by
 induction bs with
 | nil=>rfl
 | cons b r ih=>
   rw[aaI,List.range_succ_eq_map,abN,List.all_map,abN]
   show(b && (aag r.length).all (fun i=>r.getD i true))=(b && r.all id)
   rw[ih]
theorem E6 (hc:X.calm=true):lY X (.builtin "all") (fun xs H Q=>∃ (p:Addr) (bs:List Bool),xs=[.ref p]/\lS X.K H p (bs.map V.bl)/\Q (.bl (bs.all id)) H):=by
 intro pins s σ H xs us Q I r h
 obtain⟨p,bs,rfl,hq,q⟩:=h
 obtain⟨u,rfl,rx⟩:=vals1 r
 cases rx
 obtain⟨aE,rv,pl,hz⟩:=I.list hq
 have hlen:=rv.length
 rw[Bn] at hlen
 obtain⟨o,n,ho,_⟩:=id pl
 have hp:p < s.heap.objs.size:=aaj ho
 refine call_all_walk (wpAny_pyIter_list pl.isList ?_)
 refine⟨s.heap.objs.size,_,_,_,_,_,fun i=>bs.getD i true,rfl,Walks.list (A:=X.A.in1) (I.ok.hd hc) s.heap.objs.size p (aap hp) aE.toArray,⟨⟨_,aai _ rfl,rfl,rfl⟩,?_⟩,fun i v s' Q' E' hv hQ=>?_,fun h' tk hk=>?_⟩
 . exact pl.isList.at fun o e=>Vf _ e
 . have hv:aE[i]?=some v:=by simpa using hv
   have hi:i < aE.length:=(aad.mp hv).1
   have Tu:i < bs.length:=by omega
   obtain⟨u',h1,h2⟩:=rv.get (i:=i) (x:=V.bl bs[i]) (by rw[aab,k3 Tu];rfl)
   rw[hv] at h1;cases h1
   cases h2
   have e:bs.getD i true=bs[i]:=by rw[WY,k3 Tu];rfl
   have hQ:Q' (bs.getD i true) s':=hQ
   rw[e] at hQ
   exact wpAny_truthy_bool hQ
 . have ea:(aag aE.toArray.size).all (fun i=>bs.getD i true)=bs.all id:=by rw[aan,<- hlen];exact range_all bs
   rw[ea]
   refine⟨.bl _,H,I.kept (t':=tk) fun b o e=>hk b o (fun hm=>?_) (Vf _ e),rfl,q⟩
   have:b=s.heap.objs.size:=by simpa using hm
   subst this
   exact aa8 _ (aaj e)
theorem boot_all:bootBuiltins "all"=some (.builtin "all"):=by decide +kernel
theorem AF {K:W.Frag}{H:Hp}:∀ {bs:List Bool} {vs:List V},aM K H vs (bs.map Dt.bl)->vs=bs.map V.bl
 | [],_,.nil=>rfl
 | b::r,_,.cons h t=>by cases h;rw[AF t];rfl
theorem Po (hm:X.mg "all"=none)(hc:X.calm=true)(ha:EE X G dl a (.lst (bs.map .bl)))(hg:Gl X "all":=by rfl)(he:starEach [a] X.env=[(false,eval a X.env)]:=by rfl):EE X G dl (.Call (.Name "all" p) [a] [] pos) (.bl (bs.all id)):=
 hV (hZ (E6 hc) hg hm boot_all (ae ha ai he) (by decide) (by decide) he rfl) fun st H Q zq=>aaa zq fun Hf zq=>have S:=zq.1;have k:=zq.2;⟨Hf,S,fun vs Hf1 H1 g1 r1=>by
   cases r1 with
   | cons r t=>cases t;cases r with
     | @lst q vs _ z r=>
       have ev:=AF r
       subst ev
       exact⟨q,bs,rfl,.of (g1.sub _ _ z),k _ Hf1 H1 g1 (.bl _)⟩⟩
theorem rQ (ns:List Int):∀ k,k<=ns.length->preSum (fun i=>ns.getD i 0) k=(ns.take k).sum
 | 0,_=>by simp[preSum]
 | k+1,h=>by
   have hk:k < ns.length:=h
   rw[preSum,rQ ns k (aa5 hk),aa0,k3 hk,List.sum_append,WY,k3 hk]
   simp
theorem E7 (hc:X.calm=true):lY X (.builtin "sum") (fun xs H Q=>∃ (p:Addr) (ns:List Int),xs=[.ref p]/\lS X.K H p (ns.map V.int)/\Q (.int ns.sum) H):=by
 intro pins s σ H xs us Q I r h
 obtain⟨p,ns,rfl,hq,q⟩:=h
 obtain⟨u,rfl,rx⟩:=vals1 r
 cases rx
 obtain⟨aE,rv,pl,hz⟩:=I.list hq
 have hlen:=rv.length
 rw[Bn] at hlen
 obtain⟨o,n,ho,_⟩:=id pl
 have hp:p < s.heap.objs.size:=aaj ho
 refine call_sum_walkAnyS (wpAny_pyIter_list pl.isList ?_)
 refine⟨s.heap.objs.size,_,_,_,_,_,_,fun i=>ns.getD i 0,rfl,(Walks.list (A:=X.A.in1) (I.ok.hd hc) s.heap.objs.size p (aap hp) aE.toArray).toS,⟨⟨_,aai _ rfl,rfl,rfl⟩,?_⟩,fun b hb=>?_,fun i v hv=>?_,fun s' t' hm=>?_⟩
 . exact pl.isList.at fun o e=>Vf _ e
 . have hsz:(s.heap.push { cls:=.type "list_iterator",data:=.fields #[.ref p,.int 0 0]}).objs.size=s.heap.objs.size+1:=aaT ..
   show b < (s.heap.push { cls:=.type "list_iterator",data:=.fields #[.ref p,.int 0 0]}).objs.size
   rw[hsz]
   rcases aau.mp hb with e | hb
   . rw[e];exact abg _
   . have:b=p:=by simpa using hb
     rw[this];exact abG hp
 . have hv:aE[i]?=some v:=by simpa using hv
   have hi:i < aE.length:=(aad.mp hv).1
   have Tu:i < ns.length:=by omega
   obtain⟨u',h1,h2⟩:=rv.get (i:=i) (x:=V.int ns[i]) (by rw[aab,k3 Tu];rfl)
   rw[hv] at h1;cases h1
   obtain⟨t,rfl⟩:=h2
   refine⟨t,?_⟩
   show _=Value.int (ns.getD i 0) t
   rw[WY,k3 Tu];rfl
 . have ea:preSum (fun i=>ns.getD i 0) aE.toArray.size=ns.sum:=by
     rw[aan,<- hlen,rQ ns _ (aac _),aa7]
   rw[ea]
   refine⟨.int _,H,?_,⟨t',rfl⟩,q⟩
   obtain⟨h',g',d',tk,Wk⟩:=s'
   have e1:g'=s.gens:=hm.gens
   have e2:d'=s.drawn:=hm.drawn
   have e3:Wk=s.os:=hm.os
   subst e1 e2 e3
   refine I.kept (t':=tk) fun b o e=>hm.heap b o (fun z=>?_) (Vf _ e)
   have:b=s.heap.objs.size:=by simpa using z
   subst this
   exact aa8 _ (aaj e)
theorem boot_sum:bootBuiltins "sum"=some (.builtin "sum"):=by decide +kernel
theorem u6 {K:W.Frag}{H:Hp}:∀ {ns:List Int} {vs:List V},aM K H vs (ns.map Dt.int)->vs=ns.map V.int
 | [],_,.nil=>rfl
 | b::r,_,.cons h t=>by cases h;rw[u6 t];rfl
theorem Hz (hm:X.mg "sum"=none)(hc:X.calm=true)(ha:EE X G dl a (.lst (ns.map .int)))(hg:Gl X "sum":=by rfl)(he:starEach [a] X.env=[(false,eval a X.env)]:=by rfl):EE X G dl (.Call (.Name "sum" p) [a] [] pos) (.int ns.sum):=
 hV (hZ (E7 hc) hg hm boot_sum (ae ha ai he) (by decide) (by decide) he rfl) fun st H Q zq=>aaa zq fun Hf zq=>have S:=zq.1;have k:=zq.2;⟨Hf,S,fun vs Hf1 H1 g1 r1=>by
   cases r1 with
   | cons r t=>cases t;cases r with
     | @lst q vs _ z r=>
       have ev:=u6 r
       subst ev
       exact⟨q,ns,rfl,.of (g1.sub _ _ z),k _ Hf1 H1 g1 (.int _)⟩⟩
theorem xA:∀ {xs:List Str} {us:List Value},Vals (xs.map V.str) us->∃ l:List (Str×Tok),us=strValues l/\l.map (·.1)=xs
 | [],_,.nil=>⟨[],rfl,rfl⟩
 | x::r,_,.cons h t=>by
   obtain⟨tk,rfl⟩:=h
   obtain⟨l,rfl,e⟩:=xA t
   exact⟨(x,tk)::l,rfl,by rw[aao,e]⟩
theorem Lp:Rv X "str.join" (fun x xs H Q=>∃ (z:Str) (p:Addr) (ys:List Str),x=.str z/\xs=[.ref p]/\lS X.K H p (ys.map V.str)/\JoinOk z ys=true/\Q (.str (Txt.join z ys)) H):=by
 intro pins s σ H x xs v us Q I rx rv ⟨z,p,ys,e1,e2,hq,bh,q⟩
 subst e1 e2
 obtain⟨t,rfl⟩:=(show ∃ t,v=Value.str z t from rx)
 obtain⟨u,rfl,ru⟩:=vals1 rv
 cases ru
 obtain⟨aE,r,pl,hz⟩:=I.list hq
 obtain⟨l,rfl,el⟩:=xA r
 exact SC.join pl.isList el bh fun t' k=>⟨.str (Txt.join z ys),H,I.tok _,⟨t',rfl⟩,q⟩
theorem Lq (ha:EE X G dl a (.str x))(he:EE X G dl e (.lst (xs.map .str)))(bh:JoinOk x xs=true)(ju:attributeBase a "join" X.env (eval a X.env)=eval a X.env:=by rfl)
   (uO:((backTo bN (starEach [e] X.env)).all (fun x=>!x.1) && (backToKw bN (keywordEach [] X.env)).all (fun x=>x.1.isSome) && decide ([e].length+([]:List Keyword).length+(if ([]:List Keyword).isEmpty then 0 else 1) < 30))=true:=by rfl)
   (jv:(apos.endLine == bN.line)=true:=by rfl) (pK:starEach [e] X.env=(false,eval e X.env)::starEach [] X.env:=by rfl):EE X G dl (.Call (.Attribute a "join" apos) [e] [] bN) (.str (Txt.join x xs)):=
 hV (uN PySem.F.plainAttrs_str PySem.F.slot_str_join PySem.F.type_str_join Lp ha (ae he ai pK) ju uO jv pK rfl) fun st H Q zq=>aaa zq fun Hf zq=>have S:=zq.1;have k:=zq.2;⟨Hf,S,fun v Hf1 H1 g1 r1=>by
   cases r1
   refine⟨rfl,Hf1,S.grow g1,fun us bD H2 g2 r2=>?_⟩
   cases r2 with
   | cons r2 t2=>cases t2;cases r2 with
     | @lst q vs _ hq rp=>
       have ev:=oB rp
       subst ev
       exact⟨x,q,xs,rfl,rfl,.of (g2.sub _ _ hq),bh,k _ bD H2 (g1.trans g2) (.str _)⟩⟩
end
noncomputable def jF (kds:List (Key×Dt))(k:Key):Option Dt:=(kds.find? fun kv=>decide (kv.1=k)).map (·.2)
theorem nO {p:Key×Dt}{r:List (Key×Dt)}{k:Key}(e:p.1=k):jF (p::r) k=some p.2:=by simp[jF,aa9,e]
theorem l7 {p:Key×Dt}{r:List (Key×Dt)}{k:Key}(e:¬ p.1=k):jF (p::r) k=jF r k:=by simp[jF,aa9,e]
theorem cA.val {K:W.Frag}{H:Hp}{k:Key}:∀ {kvs:List (Key×V)} {kds:List (Key×Dt)} {d:Dt},cA K H kvs kds->jF kds k=some d->∃ v,nI kvs k=some v/\Rep K H v d
 | _,_,_,.nil,e=>by cases e
 | (k1,v1)::r,(_,d1)::s,d,.cons h t,e=>by
   by_cases q:k1=k
   . rw[nO (p:=(k1,d1)) q] at e;cases e
     exact⟨v1,nJ (p:=(k1,v1)) q,h⟩
   . rw[l7 (p:=(k1,d1)) q] at e
     obtain⟨v,z1,z2⟩:=cA.val t e
     exact⟨v,by rw[l3 (p:=(k1,v1)) q];exact z1,z2⟩
theorem cA.AG {K:W.Frag}{H:Hp}{k:Key}:∀ {kvs:List (Key×V)} {kds:List (Key×Dt)},cA K H kvs kds->(nI kvs k).isSome=(jF kds k).isSome
 | _,_,.nil=>rfl
 | (k1,v1)::r,(_,d1)::s,.cons h t=>by
   by_cases q:k1=k
   . rw[nJ (p:=(k1,v1)) q,nO (p:=(k1,d1)) q];rfl
   . rw[l3 (p:=(k1,v1)) q,l7 (p:=(k1,d1)) q]
     exact cA.AG t
theorem cA.snoc {K:W.Frag}{H:Hp}{k:Key}{v:V}{d:Dt}(q:Rep K H v d):∀ {kvs:List (Key×V)} {kds:List (Key×Dt)},cA K H kvs kds->cA K H (kvs ++ [(k,v)]) (kds ++ [(k,d)])
 | _,_,.nil=>.cons q .nil
 | _,_,.cons h t=>.cons h (cA.snoc q t)
theorem DA {kvs:List (Key×V)}{k:Key}{v:V}(h:(nI kvs k).isSome=false):putK kvs k v=kvs ++ [(k,v)]:=by
 unfold putK
 rw[qr,h]
 exact if_neg (by simp)
section
variable {X:Cx}{G:Gr}{E:XK}{dl:List Slot}{a b e i o:Expr}{d:Dt}{pos p:Pos}{k x:Str}{kds:List (Key×Dt)}
theorem DB (hu:X.A.units+1 < cLine)(ho:EE X G dl o (.cV kds))(hi:EE X G dl i (.str k))(h:jF kds (.inr k)=some d)(hs:K4 i):EE X G dl (.Subscript o i pos) d:=
 hV (Df hu ho hi hs) fun st H Q zq=>aaa zq fun Hf zq=>have S:=zq.1;have kk:=zq.2;⟨Hf,S,fun v Hf1 H1 g1 r1=>⟨Hf1,S.grow g1,fun w bD H2 g2 r2=>by
   cases r2
   cases r1 with
   | @cV q kvs _ hq rp=>
     obtain⟨y,z1,z2⟩:=rp.val h
     have e:=sQ.k (H:=H2) (k:=.inr k) (g2.big _ _ (g1.sub _ _ hq))
     rw[z1] at e
     exact⟨q,y,rfl,e,kk y bD H2 (g1.trans g2) (z2.mono g2.bj)⟩⟩⟩
theorem WQ {neg:Bool}:∀ st H Q,tD X.K G dl (.bl (if neg then !(jF kds (.inr k)).isSome else (jF kds (.inr k)).isSome)) st H Q->(if neg then De (tD X.K G dl (.str k)) (tD X.K G dl (.cV kds)) else Wy (tD X.K G dl (.str k)) (tD X.K G dl (.cV kds))) st H Q:=fun st H Q zq=>aaa zq fun Hf zq=>have S:=zq.1;have kk:=zq.2;by
 cases neg with
 | false=>exact⟨Hf,S,fun v Hf1 H1 g1 r1=>⟨Hf1,S.grow g1,fun w bD H2 g2 r2=>by
     cases r1
     cases r2 with
     | @cV q kvs _ hq rp=>exact⟨q,_,rfl,sQ.k (k:=.inr k) (g2.sub _ _ hq),by rw[rp.AG];exact kk _ bD H2 (g1.trans g2) (.bl _)⟩⟩⟩
 | true=>exact⟨Hf,S,fun v Hf1 H1 g1 r1=>⟨Hf1,S.grow g1,fun w bD H2 g2 r2=>by
     cases r1
     cases r2 with
     | @cV q kvs _ hq rp=>exact⟨q,_,rfl,sQ.k (k:=.inr k) (g2.sub _ _ hq),by rw[rp.AG];exact kk _ bD H2 (g1.trans g2) (.bl _)⟩⟩⟩
theorem DC (hu:X.A.units+1 < cLine)(hi:EE X G dl i (.str k))(ho:EE X G dl o (.cV kds))(hm:behindInMarks .NotIn o=false:=by rfl):EB X G dl (.Compare i [.NotIn] [o] pos) (!(jF kds (.inr k)).isSome):=
 Ve (N9 (EJ hu hi ho) hm) fun st H Q zq=>aaa zq fun Hf zq=>have S:=zq.1;have kk:=zq.2;WQ (neg:=true) st H _ ⟨Hf,S,fun v aH H' g r=>by cases r;exact⟨_,rfl,kk aH H' g⟩⟩
theorem AH:bootBuiltins "tuple"=some (.type "tuple"):=by decide +kernel
theorem Lr {ds:List Dt}(hm:X.mg "tuple"=none)(ha:EE X G dl a (.tup ds))(hg:Gl X "tuple":=by rfl)(he:starEach [a] X.env=[(false,eval a X.env)]:=by rfl):EE X G dl (.Call (.Name "tuple" p) [a] [] pos) (.tup ds):=
 hV (rD Ab hg hm AH (ae ha ai he) (he:=he)) fun st H Q zq=>aaa zq fun Hf zq=>have S:=zq.1;have k:=zq.2;⟨Hf,S,fun vs Hf1 H1 g1 r1=>by
   cases r1 with
   | cons r t=>cases t;cases r with
     | @tup q vs _ z r=>exact⟨q,vs,rfl,fj g1.sub z,k _ Hf1 H1 g1 (.tup z r)⟩⟩
theorem yA:EO X G dl (.Dict [] [] pos) (.cV []):=hV Ah fun st H Q zq=>aaa zq fun Hf zq=>have S:=zq.1;have k:=zq.2;fun p hp=>k p Hf _ (.d8 S.sub hp) hp (S.sub.free hp) ⟨[],ak,.nil⟩
noncomputable def pz (kds:List (Key×Dt))(k:Key)(v:Dt):List (Key×Dt):=
 if (jF kds k).isSome=true then kds.map (fun kv=>if kv.1=k then (kv.1,v) else kv) else kds ++ [(k,v)]
theorem cA.map_put {K:W.Frag}{H:Hp}{k:Key}{v:V}{d:Dt}(q:Rep K H v d):∀ {kvs:List (Key×V)} {kds:List (Key×Dt)},cA K H kvs kds ->
   cA K H (kvs.map fun kv=>if kv.1=k then (kv.1,v) else kv) (kds.map fun kv=>if kv.1=k then (kv.1,d) else kv)
 | _,_,.nil=>.nil
 | (k1,v1)::r,(_,d1)::s,.cons h t=>by
   rw[aao,aao]
   by_cases e:k1=k
   . rw[if_pos e,if_pos e];exact .cons q (cA.map_put q t)
   . rw[if_neg e,if_neg e];exact .cons h (cA.map_put q t)
theorem cA.put {K:W.Frag}{H:Hp}{k:Key}{v:V}{d:Dt}{kvs:List (Key×V)}{kds:List (Key×Dt)}(q:Rep K H v d)(r:cA K H kvs kds):cA K H (putK kvs k v) (pz kds k d):=by
 unfold putK pz
 rw[qr,r.AG]
 by_cases h:(jF kds k).isSome=true
 . rw[if_pos h,if_pos h];exact cA.map_put q r
 . rw[if_neg h,if_neg h];exact cA.snoc q r
theorem yB (n:Nat){ps pn:Pos}(hu:X.A.units+1 < cLine)(he:EE X G dl e d)(hb:EE X G dl b (.str k))(hl:kds.length < sizeLine)(hd:dl[n]?=some (.own (.cV kds)):=by rfl)(hN:X.N[n]?=some x:=by rfl)(hv:uB X.env.scope x:=by first | exact aaL rfl | exact aaB (aaL rfl) | exact aaB (aaB rfl))(lU:(x == ("__debug__":Str))=false:=by decide)(lV:(x == ("__classdict__":Str))=false:=by decide)(hs:swapsWith e (some (.Subscript (.Name x pn) b ps)) pos.line X.env=pure false:=by rfl):ES X G E dl (.Assign [.Subscript (.Name x pn) b ps] e pos) (.nx (dl.set n (.own (.cV (pz kds (.inr k) d))))):=
 tV (Dg hu (uX (p:=pn) n hd hN hv lU lV) hb he hs) fun D st H zq=>aaa zq fun Hf zq=>have S:=zq.1;have kk:=zq.2;⟨Hf,S,fun v Hf1 H1 g1 r1=>by
   have S1:=S.grow g1
   obtain⟨q,z1,z2,z3,z4⟩:=S1.own n _ hd
   refine⟨Hf1,q,S1,z1,z2,z4,Hf1,S1,fun iv bD H2 g2 r2=>?_⟩
   cases r2
   have S2:=S1.grow g2
   obtain⟨q',y1,y2,y3,kvs,y4,y5⟩:=S2.own n _ hd
   rw[z1] at y1;cases y1
   have hll:kvs.length < sizeLine:=by rw[y5.length];exact hl
   exact⟨q,_,rfl,EG.k (k:=.inr k) y4 hll,kk st bD _ (g1.bj.trans g2.bj) (S2.ER hd z1 ⟨_,ak,y5.put (r1.mono g2.bj)⟩)⟩⟩
noncomputable def pA (rows:List (Str×List Dt)):List (Key×Dt):=rows.map fun r=>(.inr r.1,.tup (.str r.1::r.2))
noncomputable def u7 (r:Str×List Dt):Dt:=.tup (.str r.1::r.2)
theorem oC {k:Key}:∀ {kds:List (Key×Dt)},(∀ kv∈kds,kv.1≠k)->jF kds k=none
 | [],_=>rfl
 | kv::r,h=>by
   rw[l7 (h kv (aa3 ..))]
   exact oC fun z hz=>h z (aaG _ hz)
theorem HA {rows:List (Str×List Dt)}(nd:(rows.map (·.1)).Nodup){j:Nat}(hj:j < rows.length):jF (pA (rows.take j)) (.inr rows[j].1)=none:=by
 refine oC fun kv Tv=>?_
 obtain⟨r,hr,rfl⟩:=aaM.mp Tv
 intro z
 have z:r.1=rows[j].1:=Sum.inr.inj z
 obtain⟨i,hi,e⟩:=aa4.mp hr
 have Vd:i < j:=by
   rw[aat] at hi;omega
 rw[abm] at e
 have R3:i < rows.length:=by omega
 have h:=aaV.mp nd i j (by rw[Bn];exact R3) (by rw[Bn];exact hj) Vd
 rw[aaK,aaK] at h
 exact h (by rw[e];exact z)
theorem B5 (rows:List (Str×List Dt)){j:Nat}(hj:j < rows.length):pA (rows.take (j+1))=pA (rows.take j) ++ [(.inr rows[j].1,u7 rows[j])]:=by
 unfold pA
 rw[aa0,k3 hj,aaP];rfl
theorem aV.kN {Hf H aH H':Hp}{a:Addr}{u:HO}(g:aV Hf H aH H')(n:Hf a=none)(h:H a=some u)(nk:¬ Kept u:=by exact fun z=>z):aH a=none:=by
 cases q:aH a with
 | none=>rfl
 | some o=>
   obtain⟨o',z⟩:=g.yg h nk q
   rw[n] at z;cases z
theorem oE {K:W.Frag}{st:L2.St}{Hf H:Hp}{dlu:List Slot}{p:Addr}{o:HO}(S:du K G st Hf H dlu)(tY:noOwn dlu=true)(fp:Hf p=none)(gp:G.H p=none):du K G st Hf (upd H p o) dlu:=
 ⟨⟨fun b u e=>by rw[ag (au e gp)];exact S.gr.big _ _ e,S.gr.bj,fun b u e=>by rw[ag (au e fp)];exact S.sub _ _ e,S.gr.new⟩,S.len,S.val,fun j o h=>absurd h (aP tY j o),fun j _ o _ _ h=>absurd h (aP tY j o)⟩
theorem HB (nR nN:Nat){C z:Addr}{fs:List (Str×Dt)}{rows:List (Str×List Dt)}{f self rw_ rn:Str}{px pr pa pn p1 p3 p4 p5 p6 pi:Pos}{ie ve:Expr}{dlu:List Slot}(hu:X.A.units+1 < cLine)(hN:X.N.Nodup)(qw:X.calm=true)(hp:PassesOwn (model X.prog X.w) X.A X.env X.xe)(cl:tT X.K C)(na:bu X.K C f)(hd:dl[0]?=some (.own (.Al z C fs)))(edl:dl.set 0 .aY=dlu)(tY:noOwn dlu=true)(hr:dlu[nR]?=some (.val (.lst (rows.map u7))))(Y0:nN≠0)(hnR:nN≠nR)(hun:dlu[nN]?=some .aY)(nd:(rows.map (·.1)).Nodup)(hlen:rows.length < sizeLine)(hi:∀ r:Str×List Dt,EE X G (dlu.set nN (.val (u7 r))) ie (.str r.1))(hv:∀ r:Str×List Dt,EE X G (dlu.set nN (.val (u7 r))) ve (u7 r))(hl:Nat.ble fs.length 999=true:=by rfl)(RE:X.N[0]?=some self:=by rfl)(hNr:X.N[nR]?=some rn:=by rfl)(WR:X.N[nN]?=some rw_:=by rfl)(hvs:uB X.env.scope self:=by first | exact aaL rfl | exact aaB (aaL rfl) | exact aaB (aaB rfl))(hvr:uB X.env.scope rn:=by first | exact aaL rfl | exact aaB (aaL rfl) | exact aaB (aaB rfl))(lU:(self == ("__debug__":Str))=false:=by decide)(lV:(self == ("__classdict__":Str))=false:=by decide)(WS:(rn == ("__debug__":Str))=false:=by decide)(WT:(rn == ("__classdict__":Str))=false:=by decide)(hx:Loc X.env.scope rw_:=by first | exact aaL rfl | exact aaB rfl)(hf:X.fn rw_=true\/X.env.scope.names.lookup rw_=some .local:=by first | exact .inl rfl | exact .inr rfl | assumption)(F7:swapsWith (.Dict [] [] p1) (some (.Attribute (.Name self pn) f pa)) pos.line X.env=pure false:=by rfl)(sH:swapsWith ve (some (.Subscript (.Attribute (.Name self p3) f p4) ie p5)) p6.line X.env=pure false:=by rfl)(hb:attributeBase (.Name self p3) f X.env (eval (.Name self p3) X.env)=eval (.Name self p3) X.env:=by rfl)(hfs:∀ z,foldedSetIterable (.Name rn pr) X.env z=pure z:=by intro _;rfl):l4 X G E dl [.Assign [.Attribute (.Name self pn) f pa] (.Dict [] [] p1) pos,.For (.Name rw_ px) (.Name rn pr) [.Assign [.Subscript (.Attribute (.Name self p3) f p4) ie p5] ve p6] [] pi] (.nx (dlu.set 0 (.own (.Al z C (putD f (.cV (pA rows)) fs))))):=by
 have Nm:∀ {p:Pos},PE X (.Name self p) fun st H Q=>∃ v,st[0]?=some (some v)/\Q v H:=fun {p}=>iU RE hvs lU lV
 have qi:=mC (Dg (pos:=p6) (pos':=p5) hu (uI (pos:=p4) (Nm (p:=p3)) hb) (fun pins s st H Q I (q:∃ r,tD X.K G (dlu.set nN (.val (u7 r))) (.str r.1) st H Q)=>let ⟨r,q⟩:=q;hi r pins s st H Q I q) (fun pins s st H Q I (q:∃ r,tD X.K G (dlu.set nN (.val (u7 r))) (u7 r) st H Q)=>let ⟨r,q⟩:=q;hv r pins s st H Q I q) sH)
 refine yi (lW (uJ (pos:=pos) (pos':=pa) (Nm (p:=pn)) Ah F7) (mC (x5 hp qw (lh (iU (pos:=pr) hNr hvr WS WT)) (bX hN WR hx hf) qi hfs))) fun D st H zq=>aaa zq fun Hf zq=>have S:=zq.1;have k:=zq.2;?_
 obtain⟨a,sa,fa,ga,ea,dx,fv,ha,rf⟩:=S.own 0 _ hd
 intro p AI
 have Vp:a≠p:=au ha AI
 have fp:Hf p=none:=S.sub.free AI
 have gp:G.H p=none:=S.gr.big.free AI
 have Pp:(upd H p (.dK [])) a=some (.ins C dx fv):=by rw[ag Vp];exact ha
 refine⟨.ref a,sa,a,C,dx,fv,rfl,Pp,cl,na,by rw[rf.length];exact Nat.lt_succ_of_le (aaD hl),?_⟩
 have S0:du X.K G st Hf H dlu:=by
   subst edl
   refine⟨S.gr,by simp[S.len],fun j d h=>?_,fun j o h=>absurd h (aP tY j o),fun j _ o _ _ h=>absurd h (aP tY j o)⟩
   by_cases e:0=j
   . subst e
     by_cases RF:0 < dl.length
     . rw[aae RF] at h;cases h
     . exact absurd (aad.mp hd).1 RF
   . rw[aaf e] at h;exact S.val j d h
 have Su:du X.K G st Hf (upd (upd H p (.dK [])) a (.ins C dx (eJ f (.ref p) fv))) dlu:=oE (oE S0 tY fp gp) tY fa ga
 obtain⟨lv,Nn,Sz⟩:=Su.val nR _ hr
 cases Sz with
 | @lst la vs _ hq rp=>
   have hvl:vs.length=rows.length:=by rw[rp.length,Bn]
   refine⟨.ref la,Nn,la,rfl,⟨vs,.of (Su.sub _ _ hq)⟩,z6 (xs:=vs) (fun j jq H'=>∃ aH kvs,du X.K G jq aH H' dlu/\aC Hf aH/\jq[0]?=some (some (.ref a))/\aH a=none/\aH p=none/\H' a=some (.ins C dx (eJ f (.ref p) fv))/\H' p=some (.dK kvs)/\cA X.K aH kvs (pA (rows.take j)))
     ⟨Hf,[],Su,aC.refl _,sa,fa,fp,ak,by rw[ag (Ne.symm Vp)];exact ak,by rw[List.take_zero];exact .nil⟩ ?_ ?_ ?_⟩
   . rintro j jq H' _ ⟨aH,kvs,S',sm,_⟩
     exact .of (S'.sub _ _ (sm _ _ hq))
   . rintro j v jq H' U9 ⟨aH,kvs,S',sm,s0,WU,WV,Tw,Vq,rk⟩
     obtain⟨dz,hz,rz⟩:=rp.get' U9
     have hj:j < rows.length:=by
       have:=(aad.mp U9).1
       omega
     rw[aab,k3 hj] at hz
     cases hz
     have Sp:du X.K G (jq.set nN (some v)) aH H' (dlu.set nN (.val (u7 rows[j]))):=S'.set (rz.mono sm)
     have Y1:(jq.set nN (some v))[0]?=some (some (.ref a)):=by rw[aaf Y0];exact s0
     refine⟨rows[j],aH,Sp,fun w Hf1 H1 g1 r1=>⟨.ref a,Y1,a,C,dx,_,.ref p,rfl,.of (g1.big _ _ Tw),cl,na,by rw[nF,if_pos rfl],rows[j],Hf1,Sp.grow g1,fun y bD H2 g2 r2=>?_⟩⟩
     cases r2
     have g:=g1.trans g2
     have yf:H2 p=some (.dK kvs):=g.big _ _ Vq
     have Pq:H2 a=some (.ins C dx (eJ f (.ref p) fv)):=g.big _ _ Tw
     have WW:bD p=none:=g.kN WV Vq
     have fa2:bD a=none:=g.kN WU Tw
     have Tx:=rk.mono g.bj
     have Pr:kvs.length < sizeLine:=by
       rw[rk.length]
       unfold pA
       rw[Bn,aat];omega
     have EF:(nI kvs (.inr rows[j].1)).isSome=false:=by rw[rk.AG,HA nd hj];rfl
     have Sw:du X.K G (jq.set nN (some v)) bD H2 dlu:=(Sp.grow g).weak ⟨by simp,fun i s e n=>by
       by_cases hi:nN=i
       . subst hi;rw[hun] at e;cases e;exact absurd rfl n
       . rw[aaf hi];exact e⟩
     refine⟨p,_,rfl,EG.k (k:=.inr rows[j].1) yf Pr,bD,_,oE Sw tY WW gp,sm.trans g.bj,Y1,fa2,WW,by rw[ag Vp];exact Pq,ak,?_⟩
     rw[DA EF,B5 rows hj]
     exact Tx.snoc (r1.mono g2.bj)
   . rintro jq H' ⟨aH,kvs,S',sm,s0,WU,WV,Tw,Vq,rk⟩
     rw[hvl,aa7] at rk
     have Tz:aC aH (upd aH p (.dK kvs)):=bA WV
     have l0:0 < dlu.length:=by
       rw[<- S'.len]
       exact(aad.mp s0).1
     refine k jq (upd aH p (.dK kvs)) H' (sm.trans Tz) ⟨⟨S'.gr.big,S'.gr.bj.trans Tz,fun b u e=>?_,fun b u e=>?_⟩,by simp[S'.len],fun j d h=>?_,fun j o h=>?_,fun i j o o' q h1 h2 h3 h4=>?_⟩
     . by_cases hb:b=p
       . subst hb;rw[ak] at e;cases e;exact Vq
       . rw[ag hb] at e;exact S'.sub _ _ e
     . by_cases hb:b=p
       . subst hb;exact .inr (.inl gp)
       . rw[ag hb] at e;exact S'.gr.new b u e
     . by_cases e:0=j
       . subst e;rw[aae l0] at h;cases h
       . rw[aaf e] at h
         obtain⟨v,z1,z2⟩:=S'.val j d h
         exact⟨v,z1,z2.mono Tz⟩
     . by_cases e:0=j
       . subst e
         rw[aae l0] at h;cases h
         exact⟨a,s0,by rw[ag Vp];exact WU,ga,ea,dx,_,Tw,(rf.mono (sm.trans Tz)).put (.cV ak (rk.mono Tz))⟩
       . rw[aaf e] at h;exact absurd h (aP tY j o)
     . have z:∀ (i:Nat) o,(dlu.set 0 (.own (.Al z C (putD f (.cV (pA rows)) fs))))[i]?=some (.own o)->0=i:=fun i o h=>by
         by_cases e:0=i
         . exact e
         . rw[aaf e] at h;exact absurd h (aP tY i o)
       rw[<- z i o h1,<- z j o' h2]
end
theorem DD:∀ {xs:List V} {us:List Value},xs.length=us.length->(∀ (j:Nat) x u,xs[j]?=some x->us[j]?=some u->RelV x u)->Vals xs us
 | [],[],_,_=>.nil
 | [],_::_,h,_=>by cases h
 | _::_,[],h,_=>by cases h
 | x::xs,u::us,h,f=>.cons (f 0 x u rfl rfl) (DD (Nat.succ.inj h) fun j a b h1 h2=>f (j+1) a b (by simpa using h1) (by simpa using h2))
theorem HC:∀ {kvs:List (Key×V)} {vs:List (Key×Value)},KV kvs vs->∀ {j:Nat} {q:Key×Value},vs[j]?=some q->∃ p,kvs[j]?=some p/\p.1=q.1/\RelV p.2 q.2
 | _,_,.nil,j,q,h=>by simp at h
 | _,_,.cons r t,0,q,h=>by simp at h;subst h;exact⟨_,rfl,r⟩
 | _,_,.cons r t,j+1,q,h=>by
   obtain⟨p,h1,h2⟩:=HC t (j:=j) (q:=q) (by simpa using h)
   exact⟨p,by simpa using h1,h2⟩
theorem B6:∀ {kvs:List (Key×V)} {vs:List (Key×Value)},KV kvs vs->kvs.length=vs.length
 | _,_,.nil=>rfl
 | _,_,.cons r t=>congrArg (·+1) (B6 t)
section
variable {X:Cx}{G:Gr}{dl:List Slot}{a o:Expr}{kds:List (Key×Dt)}{pos p:Pos}
theorem B7 (hc:X.calm=true):lY X (.type "list") (fun xs H Q=>∃ (d:Addr) (kvs:List (Key×V)),xs=[.ref d]/\H d=some (.dK kvs)/\∀ l,H l=none->Q (.ref l) (upd H l (.lst (kvs.map fun kv=>kV kv.1)))):=by
 intro pins s σ H xs us Q I r h
 obtain⟨d,kvs,rfl,hq,q⟩:=h
 obtain⟨u,rfl,rx⟩:=vals1 r
 cases rx
 obtain⟨hz,lo,vs,kv,o,es,ep,ho,hr⟩:=I.bh d _ hq
 have hl:=B6 kv
 refine W.kdl_call (W.kdl_dict (knd:=cz X.prog X.w) (kvs:=vs) (ep:=ep) lo) (I.ok.hd hc) ⟨o,es,ho,hr⟩ (by omega) fun h' tk TB c' kp e it=>?_
 refine⟨.ref s.heap.objs.size,_,I.laid (t':=tk) kp (aac _) (show aO X.prog X.w _ h' _ (.lst _) from⟨by rw[Bn];exact hz,TB.toList,c',DD ?_ fun j x u h1 h2=>?_,e⟩),rfl,q _ (I.bh.fresh (aac _))⟩
 . have e1:TB.toList.length=vs.length:=by rw[abo];exact it.1
   rw[Bn,e1,hl]
 . rw[abJ] at h2
   obtain⟨k,y,z1,z2⟩:=it.2 j u h2
   obtain⟨p,z3,z4,_⟩:=HC kv z1
   rw[aab,z3] at h1
   cases h1
   have z4:p.1=k:=z4
   show RelV (kV p.1) u
   rw[z4]
   rcases cH z2 with⟨i,t,rfl,rfl⟩ | ⟨i,t,rfl,rfl⟩
   . exact⟨t,rfl⟩
   . exact⟨t,rfl⟩
noncomputable def kD:Key->Dt
 | .inl i=>.int i
 | .inr x=>.str x
theorem rR {K:W.Frag}{H:Hp}:∀ {kvs:List (Key×V)} {kds:List (Key×Dt)},cA K H kvs kds->aM K H (kvs.map fun kv=>kV kv.1) (kds.map fun kd=>kD kd.1)
 | _,_,.nil=>.nil
 | (.inl i,_)::_,_,.cons _ t=>.cons (.int i) (rR t)
 | (.inr i,_)::_,_,.cons _ t=>.cons (.str i) (rR t)
theorem HD (hm:X.mg "list"=none)(hc:X.calm=true)(ha:EE X G dl a (.cV kds))(hg:Gl X "list":=by rfl)(he:starEach [a] X.env=[(false,eval a X.env)]:=by rfl):EO X G dl (.Call (.Name "list" p) [a] [] pos) (.lst (kds.map fun kd=>kD kd.1)):=
 hV (rD (B7 hc) hg hm boot_list (ae ha ai he) (he:=he)) fun st H Q zq=>aaa zq fun Hf zq=>have S:=zq.1;have k:=zq.2;⟨Hf,S,fun vs Hf1 H1 g1 r1=>by
   cases r1 with
   | cons r t=>cases t;cases r with
     | @cV q kvs _ z r=>exact⟨q,kvs,rfl,g1.sub _ _ z,fun l hl=>k l Hf1 _ (g1.trans (.d8 g1.sub hl)) (g1.big.free hl) (g1.sub.free hl) ⟨_,ak,rR r⟩⟩⟩
end
section
variable {K:W.Frag}
theorem Pt {n m l:Nat}{z1 z2 z3:Dt}:Vn K (KO K 3 (sG (lX n) (sG (lX m) (sG (lX l) KN)))) (.tup [z1,z2,z3]) (fun dl=>((dl.set n (.val z1)).set m (.val z2)).set l (.val z3)):=fun G st Hf H v dl Q S r k=>by
 cases r with
 | @tup q vs _ hq rp=>
   cases rp with
   | cons r1 t1=>cases t1 with
     | cons r2 t2=>cases t2 with
       | cons r3 t3=>
         cases t3
         exact⟨q,_,rfl,fj S.sub hq,rfl,_,_,rfl,_,_,rfl,_,_,rfl,rfl,k _ (((S.set r1).set r2).set r3)⟩
end
noncomputable def TC (x:Str):It:=
 ⟨fun i H=>∃ c,x.cps[i]?=some c,fun i H v H'=>∃ p c,v=.ref p/\H p=none/\H'=upd H p (.tup [.int i,.str ⟨#[c]⟩])/\x.cps[i]?=some c,fun i H=>i=x.cps.size⟩
theorem B8 {P:Program}{w:World}{K:W.Frag}{elts:List Expr}{kt:Nat}{rC:Pos}(x:Str)(t:Tok)(e it:Addr)(RC:e≠it):Turn P w K (.Tuple elts kt rC) (TC x) [e,it] e (fun i h=>(∃ old,IsEnum h e it i old)/\h.IsStrIter it "str_ascii_iterator" x t i) where
 mem:=by simp
 obj:=fun i h st b hb=>by
   obtain⟨⟨old,he⟩,o,e2,c,d⟩:=st
   rcases aau.mp hb with rfl | hb
   . exact⟨_,he,fun v z=>by cases z⟩
   . have:b=it:=by simpa using hb
     subst this
     exact⟨o,e2,fun v z=>by rw[d] at z;cases z⟩
 keep:=fun i h h' st k=>by
   obtain⟨⟨old,he⟩,o,e2,r⟩:=st
   exact⟨⟨old,k e (by simp) _ he⟩,o,k it (by simp) o e2,r⟩
 item:=by
   intro X hP hw hK hc i pins s σ H E I hf st hg
   subst hP hw hK
   obtain⟨c,hx⟩:=hg
   obtain⟨⟨old,he⟩,hit⟩:=st
   have Tp:e < s.heap.objs.size:=aaj he
   have Vo:it < s.heap.objs.size:=by obtain⟨_,z,_⟩:=hit;exact aaj z
   have cX:i < x.cps.size:=(abt.mp hx).1
   refine wpAny_pyNext_enum_itemD (Draws.strAscii (A:=X.A.in1) (I.ok.hd hc) it x t) he hit cX RC (by simpa using RC) fun u h1 tk hP ho Ph hT hsz hk=>?_
   obtain⟨c',u',BD,rfl⟩:=hP
   rw[hx] at BD;cases BD
   refine⟨_,rfl,wpAny_letOwnedTupleGo_enum ho fun h2 Tq sH=>?_⟩
   have Ts:h2.get? s.heap.objs.size=some { cls:=.type "tuple",data:=.seq #[.int i tk,.str ⟨#[c]⟩ u']}:=(sH.2 _ (abk Tp)).trans hT
   have k2:∀ b o,b ∉ [e,it]->s.heap.get? b=some o->h2.get? b=some o:=fun b o hb q=>(sH.2 b fun z=>hb (by simp[z])).trans (hk b o (fun z=>hb (by simp[z])) (fun z=>hb (by simp[z])) q)
   have hp:H s.heap.objs.size=none:=I.bh.fresh (aac _)
   have I2:L2.Inv X pins σ (upd H s.heap.objs.size (.tup [.int i,.str ⟨#[c]⟩])) { s with heap:=h2,toks:=tk+1}:=u5 I hf k2 (aac _) ⟨aaD rfl,[.int i tk,.str ⟨#[c]⟩ u'],.cons ⟨_,rfl⟩ (.cons ⟨_,rfl⟩ .nil),_,Ts,rfl,_,rfl⟩
   refine⟨.ref s.heap.objs.size,_,I2,rfl,⟨_,c,rfl,hp,rfl,hx⟩,⟨⟨_,by simpa using Tq⟩,let ⟨o,z1,z2⟩:=Ph;⟨o,(sH.2 it (Ne.symm RC)).trans z1,z2⟩⟩,fun b hb=>?_⟩
   have:b≠s.heap.objs.size:=by
     rcases aau.mp hb with rfl | hb
     . exact aap Tp
     . have:b=it:=by simpa using hb
       subst this
       exact aap Vo
   rw[ag this]
   exact(hf b hb).1
 done:=by
   intro X hP hw hK hc i pins s σ H E I hf st hg
   subst hP hw hK
   have hg:i=x.cps.size:=hg
   subst hg
   obtain⟨⟨old,he⟩,hit⟩:=st
   obtain⟨f0,f1,f2,f3,f4,f5⟩:=hf it (by simp)
   exact wpAny_pyNext_enum_endD (Draws.strAscii (A:=X.A.in1) (I.ok.hd hc) it x t) he hit fun h' eb=>⟨rfl,I.turned (t':=s.toks) (fun b o hb q=>eb b o hb q) f0 f1 f3 f4 f5⟩
 self:=fun _ i s Q E st h=>by
   obtain⟨⟨old,he⟩,_⟩:=st
   exact wpAny_pyIter_enum he h
section
variable {X:Cx}{G:Gr}{dl:List Slot}{a:Expr}{x:Str}{p pos:Pos}
def HE (ta:TA):TI:=fun σ H R=>ta σ H fun vs H1=>∃ x,vs=[.str x]/\iX x=true/\R (TC x) H1
theorem HF {elts:List Expr}{kt:Nat}{rC:Pos}{ta:TA}(hg:Gl X "enumerate")(hm:X.mg "enumerate"=none)(ha:PA X [a] ta)(hs:starEach [a] X.env=[(false,eval a X.env)]:=by rfl):PI X (.Tuple elts kt rC) (.Call (.Name "enumerate" p) [a] [] pos) (HE ta):=by
 intro pins s σ H R I h
 refine Call_ (nE I hg hm boot_enumerate (PyProof.Rows.callWith_type1 (bM (ha pos pins s σ H _ I h) fun us s1 ⟨vs,H1,I1,r1,q1⟩=>?_) hs rfl))
 obtain⟨x,e,Pu,q⟩:=q1
 subst e
 cases r1 with
 | cons r rr=>
   cases rr
   obtain⟨t,rfl⟩:=r
   refine call_enumerate_str fun h' he hit hsz k=>wpAny_pyIter_enum he ?_
   have OF:strIterType x="str_ascii_iterator":=by unfold strIterType;rw[show x.cps.all (· < 128)=true from Pu];rfl
   rw[OF] at hit
   have I2:L2.Inv X pins σ H1 { s1 with heap:=h'}:=I1.kept (t':=s1.toks) k
   refine⟨s1.heap.objs.size+1,[s1.heap.objs.size+1,s1.heap.objs.size],_,_,H1,rfl,I2,B8 x t _ s1.heap.objs.size (abu _),⟨⟨_,he⟩,hit⟩,fun b hb=>?_,q⟩
   have Kn:s1.heap.objs.size<=b:=by
     rcases aau.mp hb with rfl | hb
     . exact abe _
     . have:b=s1.heap.objs.size:=by simpa using hb
       rw[this];exact aac _
   exact I1.rq Kn (I1.bh.fresh Kn)
theorem B9 (hx:iX x=true):qC X G dl (sN (Sg.signs x)) (HE (OQ X.K G dl [.str x])):=fun st H R zq=>aaa zq fun Hf zq=>have S:=zq.1;have k:=zq.2;⟨Hf,S,fun vs Hf1 H1 g1 r1=>by
 cases r1 with
 | cons r t=>
   cases t
   cases r
   refine⟨x,rfl,hx,k _ Hf1 H1 g1 fun bD H2 s1 s2 i=>⟨fun z hz=>?_,fun hi=>?_⟩⟩
   . have hi:i < (Sg.signs x).length:=by
       have:=(aad.mp hz).1
       unfold sN at this
       simpa using this
     unfold sN at hz
     rw[aab,aar hi] at hz
     cases hz
     have C5:(Sg.signs x)[i]?=some ((Sg.signs x).getD i .cy):=by rw[WY,k3 hi];rfl
     rw[signs_get] at C5
     cases q:x.cps[i]? with
     | none=>rw[q] at C5;cases C5
     | some c=>
       rw[q] at C5
       have C5:Dt.str ⟨#[c]⟩=(Sg.signs x).getD i .cy:=Option.some.inj C5
       refine⟨⟨c,q⟩,fun v H3 ⟨p,c',e1,e2,e3,e4⟩=>?_⟩
       rw[q] at e4;cases e4
       subst e1 e3
       show ∃ ia,aV bD H2 ia _/\Rep X.K ia (V.ref p) (Dt.tup [Dt.int i,(Sg.signs x).getD i Dt.cy])
       rw[<- C5]
       exact⟨upd bD p (.tup [.int i,.str ⟨#[c]⟩]),.alloc s2 e2,.tup (.of ak) (.cons (.int _) (.cons (.str _) .nil))⟩
   . show i=x.cps.size
     unfold sN at hi
     rw[Bn,aaA,kG] at hi
     exact hi⟩
end
theorem Pw {us:List Value}{d:Value}(h:(us ++ [d]).length=3):∃ a b,us=[a,b]:=by
 rw[aas] at h
 have h:us.length=2:=Nat.succ.inj h
 match us,h with
 | [a,b],_=>exact⟨a,b,rfl⟩
end Sg
namespace Sg
open PySem PySem.Spec PyProof.Rows L2
open Sem (wp)
structure pQ (z tI tO j1 j2:Addr)(f1 f2:List Addr):Prop where
 tz:tI≠z
 oz:tO≠z
 az:j1≠z
 bz:j2≠z
 to:tI≠tO
 ta:tI≠j1
 tb:tI≠j2
 oa:tO≠j1
 ob:tO≠j2
 ab:j1≠j2
 z1:z ∉ f1
 o1:tO ∉ f1
 b1:j2 ∉ f1
 z2:z ∉ f2
 o2:tO ∉ f2
 a2:j1 ∉ f2
section
variable {prog:Program}{w:World}{A:Around}{E:Value->Shared->Prop}{s:Shared}
variable {z tI tO j1 j2:Addr}{f1 f2:List Addr}{n1 n2 k:Nat}{P1 P2:Nat->Value->Prop}{S1 S2:Nat->Heap->Prop}{a b:Value}
theorem HG (D1:Draws prog w A j1 f1 n1 P1 S1)(D2:Draws prog w A j2 f2 n2 P2 S2)(ap:pQ z tI tO j1 j2 f1 f2){Q:Value->Shared->Prop}(hz:IsZip s.heap z tI tO .none)(hI:IsPair s.heap tI (.ref j1) (.ref j2))(hO:IsPair s.heap tO a b)(q1:S1 k s.heap)(q2:S2 k s.heap)(l1:k < n1)(l2:k < n2)(hQ:∀ x y h' tk,P1 k x->P2 k y->IsZip h' z tI tO (rawInt s.heap.objs.size)->IsPair h' tO x y->S1 (k+1) h'->S2 (k+1) h'->IsPair h' s.heap.objs.size x y->(∀ c o,c≠z->c≠tO->c≠j1->c≠j2->s.heap.get? c=some o->h'.get? c=some o)->Q (.ref s.heap.objs.size) { s with heap:=h',toks:=tk}):wpAny (model prog w) A (Builtin.«zip.__next__» ⟨[.ref z],[]⟩) (fun fin s'=>∃ v,fin=.done (.ret v)/\Q v s') E s:=by
 obtain⟨hp,g,dr,t0,os⟩:=s
 show wpAny _ _ (field (.ref z) 2 >>= _) _ _ _
 refine wpAny_bind (wpAny_field hz rfl (x:=.bool false) rfl ?_);show wpAny _ _ (field (.ref z) 3 >>= _) _ _ _
 refine wpAny_bind (wpAny_field hz rfl (x:=.ref tI) rfl (wpAny_bind (wpAny_seqItems hI rfl ?_)))
 show wpAny _ _ (Builtin.SmallTypes.ownedTupleIsFree (.ref z) >>= _) _ _ _;refine wpAny_bind ?_
 unfold Builtin.SmallTypes.ownedTupleIsFree;refine wpAny_bind (wpAny_field hz rfl (x:=.none) rfl (wpAny_pure ?_))
 simp only[if_true];refine wpAny_bind (wpAny_rule (wpAny_bind (wpAny_field hz rfl (x:=.ref tO) rfl ?_)))
 refine wpAny_bind (wpAny_setField_rec hz (by simp) fun h1 wA e1=>?_)
 replace wA:IsZip h1 z tI tO .ellipsis:=wA
 refine wpAny_bind ?_;simp only[List.zipIdx_cons,List.zipIdx_nil,abA,abV]
 refine wpAny_bind (wpAny_bind (wpAny_onRaise ?_));show wpAny _ _ (Builtin.SmallTypes.nextOf (.ref j1) >>= _) _ _ _
 have ne1:∀ c∈f1,c≠z:=fun c hc e=>ap.z1 (e ▸ hc)
 have ne2:∀ c∈f2,c≠z:=fun c hc e=>ap.z2 (e ▸ hc)
 refine wpAny_bind (D1.item k _ _ _ l1 (D1.frame _ _ _ q1 fun c hc o e=>e1.extBut _ _ (ne1 c hc) e) fun x h2 t2 px Y2 e2=>wpAny_pure ?_)
 replace e2:aaX j1 h1 h2:=e2
 have TF:IsPair h2 tO a b:=e2.extBut _ _ ap.oa (e1.extBut _ _ ap.oz hO)
 refine wpAny_bind (wpAny_seqItems TF rfl (wpAny_bind (wpAny_updateSeq_pair TF fun h3 Vr e3=>?_)))
 replace Vr:IsPair h3 tO x b:=Vr
 replace e3:aaX tO h2 h3:=e3
 refine wpAny_bind (wpAny_letGo (wpAny_pure ?_));refine wpAny_bind (wpAny_bind (wpAny_onRaise ?_))
 show wpAny _ _ (Builtin.SmallTypes.nextOf (.ref j2) >>= _) _ _ _
 refine wpAny_bind (D2.item k _ _ _ l2 (D2.frame _ _ _ q2 fun c hc o e=>e3.extBut _ _ (fun z=>ap.o2 (z ▸ hc)) (e2.extBut _ _ (fun z=>ap.a2 (z ▸ hc)) (e1.extBut _ _ (ne2 c hc) e))) fun y h4 t4 py q2' e4=>wpAny_pure ?_)
 replace e4:aaX j2 h3 h4:=e4
 have Y3:IsPair h4 tO x b:=e4.extBut _ _ ap.ob Vr
 refine wpAny_bind (wpAny_seqItems Y3 rfl (wpAny_bind (wpAny_updateSeq_pair Y3 fun h5 Vs e5=>?_)))
 replace Vs:IsPair h5 tO x y:=Vs
 replace e5:aaX tO h4 h5:=e5
 refine wpAny_bind (wpAny_letGo (wpAny_pure (wpAny_pure (wpAny_bind (wpAny_seqItems Vs rfl (wpAny_bind (wpAny_newTuple ?_)))))))
 have hsz:h5.objs.size=hp.objs.size:=by rw[e5.1,e4.1,e3.1,e2.1,e1.1]
 have Y4:IsZip h5 z tI tO .ellipsis:=e5.extBut _ _ ap.oz.symm (e4.extBut _ _ ap.bz.symm (e3.extBut _ _ ap.oz.symm (e2.extBut _ _ ap.az.symm wA)))
 have k5:∀ c o,c≠z->c≠tO->c≠j1->c≠j2->hp.get? c=some o->h5.get? c=some o:=fun c o c1 c2 c3 c4 e=>e5.extBut _ _ c2 (e4.extBut _ _ c4 (e3.extBut _ _ c2 (e2.extBut _ _ c3 (e1.extBut _ _ c1 e))))
 have q15:S1 (k+1) h5:=D1.frame _ _ _ Y2 fun c hc o e=>e5.extBut _ _ (fun z=>ap.o1 (z ▸ hc)) (e4.extBut _ _ (fun z=>ap.b1 (z ▸ hc)) (e3.extBut _ _ (fun z=>ap.o1 (z ▸ hc)) e))
 have q25:S2 (k+1) h5:=D2.frame _ _ _ q2' fun c hc o e=>e5.extBut _ _ (fun z=>ap.o2 (z ▸ hc)) e
 have zl:z < h5.objs.size:=aaj Y4
 show wpAny _ _ (Builtin.SmallTypes.ownedTupleHandOut (.ref z) (.ref h5.objs.size) >>= _) _ _ _
 refine wpAny_bind ?_;unfold Builtin.SmallTypes.ownedTupleHandOut
 have hz6:IsZip (h5.push { cls:=.type "tuple",data:=.seq #[x,y]}) z tI tO .ellipsis:=Vf _ Y4
 refine wpAny_bind (wpAny_setField_rec hz6 (by simp) fun h7 WX e7=>?_)
 replace WX:IsZip h7 z tI tO (rawInt h5.objs.size):=WX
 refine wpAny_setField_rec WX (by simp) fun h8 Vt e8=>?_
 replace Vt:IsZip h8 z tI tO (rawInt h5.objs.size):=Vt
 have up:∀ c o,c≠z->h5.get? c=some o->h8.get? c=some o:=fun c o c1 e=>e8.extBut _ _ c1 (e7.extBut _ _ c1 (Vf _ e))
 have Y5:IsPair h8 h5.objs.size x y:=e8.extBut _ _ (abk zl) (e7.extBut _ _ (abk zl) (aai _ rfl))
 rw[hsz] at Vt Y5
 refine wpAny_pure ⟨_,rfl,?_⟩
 show Q (.ref h5.objs.size) _
 rw[hsz]
 exact hQ x y h8 t4 px py Vt (up _ _ ap.oz Vs) (D1.frame _ _ _ q15 fun c hc o e=>up c o (ne1 c hc) e) (D2.frame _ _ _ q25 fun c hc o e=>up c o (ne2 c hc) e) Y5 fun c o c1 c2 c3 c4 e=>up c o c1 (k5 c o c1 c2 c3 c4 e)
theorem E8 (D1:Draws prog w A j1 f1 n1 P1 S1)(ap:pQ z tI tO j1 j2 f1 f2){Q:Fin->Shared->Prop}(hz:IsZip s.heap z tI tO .none)(hI:IsPair s.heap tI (.ref j1) (.ref j2))(q1:S1 n1 s.heap)(hE:∀ h' e,(∀ c o,c≠z->c≠tO->c≠j1->c≠j2->s.heap.get? c=some o->h'.get? c=some o)->(∃ o,h'.get? e=some o/\o.cls=.type "StopIteration")->E (.ref e) { s with heap:=h'}):wpAny (model prog w) A (Builtin.«zip.__next__» ⟨[.ref z],[]⟩) Q E s:=by
 obtain⟨hp,g,dr,t0,os⟩:=s
 show wpAny _ _ (field (.ref z) 2 >>= _) _ _ _
 refine wpAny_bind (wpAny_field hz rfl (x:=.bool false) rfl ?_);show wpAny _ _ (field (.ref z) 3 >>= _) _ _ _
 refine wpAny_bind (wpAny_field hz rfl (x:=.ref tI) rfl (wpAny_bind (wpAny_seqItems hI rfl ?_)))
 show wpAny _ _ (Builtin.SmallTypes.ownedTupleIsFree (.ref z) >>= _) _ _ _;refine wpAny_bind ?_
 unfold Builtin.SmallTypes.ownedTupleIsFree;refine wpAny_bind (wpAny_field hz rfl (x:=.none) rfl (wpAny_pure ?_))
 simp only[if_true];refine wpAny_bind (wpAny_rule (wpAny_bind (wpAny_field hz rfl (x:=.ref tO) rfl ?_)))
 refine wpAny_bind (wpAny_setField_rec hz (by simp) fun h1 wA e1=>?_)
 replace wA:IsZip h1 z tI tO .ellipsis:=wA
 refine wpAny_bind ?_;simp only[List.zipIdx_cons,List.zipIdx_nil,abA,abV]
 refine wpAny_bind (wpAny_bind (wpAny_onRaise ?_));show wpAny _ _ (Builtin.SmallTypes.nextOf (.ref j1) >>= _) _ _ _
 refine wpAny_bind (D1.done _ _ _ (D1.frame _ _ _ q1 fun c hc o e=>e1.extBut _ _ (fun q=>ap.z1 (q ▸ hc)) e) fun h2 e e2 he=>?_)
 obtain⟨oe,ho,hc⟩:=he
 have RG:IsZip h2 z tI tO .ellipsis:=e2 _ _ ap.az.symm wA
 have ez:e≠z:=fun x=>by subst x;rw[RG] at ho;cases ho;simp at hc
 refine wpAny_setField_rec RG (by simp) fun h3 _ e3=>hE h3 e (fun c o c1 _ c3 _ x=>e3.extBut _ _ c1 (e2 _ _ c3 (e1.extBut _ _ c1 x))) ⟨oe,e3.extBut _ _ ez ho,hc⟩
theorem E9 (D1:Draws prog w A j1 f1 n1 P1 S1)(D2:Draws prog w A j2 f2 n2 P2 S2)(ap:pQ z tI tO j1 j2 f1 f2){Q:Fin->Shared->Prop}(hz:IsZip s.heap z tI tO .none)(hI:IsPair s.heap tI (.ref j1) (.ref j2))(hO:IsPair s.heap tO a b)(q1:S1 n2 s.heap)(l1:n2 < n1)(q2:S2 n2 s.heap)(hE:∀ h' tk e,(∀ c o,c≠z->c≠tO->c≠j1->c≠j2->s.heap.get? c=some o->h'.get? c=some o)->(∃ o,h'.get? e=some o/\o.cls=.type "StopIteration")->E (.ref e) { s with heap:=h',toks:=tk}):wpAny (model prog w) A (Builtin.«zip.__next__» ⟨[.ref z],[]⟩) Q E s:=by
 obtain⟨hp,g,dr,t0,os⟩:=s
 show wpAny _ _ (field (.ref z) 2 >>= _) _ _ _
 refine wpAny_bind (wpAny_field hz rfl (x:=.bool false) rfl ?_);show wpAny _ _ (field (.ref z) 3 >>= _) _ _ _
 refine wpAny_bind (wpAny_field hz rfl (x:=.ref tI) rfl (wpAny_bind (wpAny_seqItems hI rfl ?_)))
 show wpAny _ _ (Builtin.SmallTypes.ownedTupleIsFree (.ref z) >>= _) _ _ _;refine wpAny_bind ?_
 unfold Builtin.SmallTypes.ownedTupleIsFree;refine wpAny_bind (wpAny_field hz rfl (x:=.none) rfl (wpAny_pure ?_))
 simp only[if_true];refine wpAny_bind (wpAny_rule (wpAny_bind (wpAny_field hz rfl (x:=.ref tO) rfl ?_)))
 refine wpAny_bind (wpAny_setField_rec hz (by simp) fun h1 wA e1=>?_)
 replace wA:IsZip h1 z tI tO .ellipsis:=wA
 refine wpAny_bind ?_;simp only[List.zipIdx_cons,List.zipIdx_nil,abA,abV]
 refine wpAny_bind (wpAny_bind (wpAny_onRaise ?_));show wpAny _ _ (Builtin.SmallTypes.nextOf (.ref j1) >>= _) _ _ _
 refine wpAny_bind (D1.item n2 _ _ _ l1 (D1.frame _ _ _ q1 fun c hc o e=>e1.extBut _ _ (fun q=>ap.z1 (q ▸ hc)) e) fun x h2 t2 px Y2 e2=>wpAny_pure ?_)
 replace e2:aaX j1 h1 h2:=e2
 have TF:IsPair h2 tO a b:=e2.extBut _ _ ap.oa (e1.extBut _ _ ap.oz hO)
 refine wpAny_bind (wpAny_seqItems TF rfl (wpAny_bind (wpAny_updateSeq_pair TF fun h3 Vr e3=>?_)))
 replace e3:aaX tO h2 h3:=e3
 refine wpAny_bind (wpAny_letGo (wpAny_pure ?_));refine wpAny_bind (wpAny_bind (wpAny_onRaise ?_))
 show wpAny _ _ (Builtin.SmallTypes.nextOf (.ref j2) >>= _) _ _ _
 refine wpAny_bind (D2.done _ _ _ (D2.frame _ _ _ q2 fun c hc o e=>e3.extBut _ _ (fun z=>ap.o2 (z ▸ hc)) (e2.extBut _ _ (fun z=>ap.a2 (z ▸ hc)) (e1.extBut _ _ (fun z=>ap.z2 (z ▸ hc)) e))) fun h4 e e4 he=>?_)
 obtain⟨oe,ho,hc⟩:=he
 replace e4:Heap.ExtBut j2 h3 h4:=e4
 have Y6:IsZip h4 z tI tO .ellipsis:=e4 _ _ ap.bz.symm (e3.extBut _ _ ap.oz.symm (e2.extBut _ _ ap.az.symm wA))
 have ez:e≠z:=fun x=>by subst x;rw[Y6] at ho;cases ho;simp at hc
 refine wpAny_setField_rec Y6 (by simp) fun h5 _ e5=>hE h5 t2 e (fun c o c1 c2 c3 c4 x=>e5.extBut _ _ c1 (e4 _ _ c4 (e3.extBut _ _ c2 (e2.extBut _ _ c3 (e1.extBut _ _ c1 x))))) ⟨oe,e5.extBut _ _ ez ho,hc⟩
end
inductive ZS where
 | txt (x:Str) (t:Tok)
 | lst (l:Addr)
noncomputable def ZS.val:ZS->Value
 | .txt x t=>.str x t
 | .lst l=>.ref l
noncomputable def ZS.obj:ZS->Obj
 | .txt x t=>{ cls:=.type (strIterType x),data:=.fields #[.str x t,.int 0 0]}
 | .lst l=>{ cls:=.type "list_iterator",data:=.fields #[.ref l,.int 0 0]}
def ZS.ok (h:Heap):ZS->Prop
 | .txt x _=>iX x=true
 | .lst l=>∃ xs,h.IsList l xs
def ZS.at (it:Addr)(i:Nat)(h:Heap):ZS->Prop
 | .txt x t=>h.IsStrIter it "str_ascii_iterator" x t i
 | .lst l=>h.IsListIter it l i
theorem ZS.iter {prog:Program}{w:World}{A:Around}{E:Value->Shared->Prop}{s:Shared}{Q:Value->Shared->Prop}:∀ {S:ZS},S.ok s.heap->Q (.ref s.heap.objs.size) { s with heap:=s.heap.push S.obj}->wpAny (model prog w) A (pyIter S.val) Q E s
 | .txt x t,_,q=>wpAny_pyIter_strU q
 | .lst l,⟨xs,h⟩,q=>wpAny_pyIter_list h q
theorem ZS.Lu {h:Heap}{o:Obj}:∀ {S:ZS},S.ok h->S.ok (h.push o)
 | .txt _ _,q=>q
 | .lst _,⟨xs,q⟩=>⟨xs,Heap.IsList.push q _⟩
noncomputable abbrev Vu (h:Heap)(S T:ZS):Heap:=(h.push S.obj).push T.obj
noncomputable abbrev Vv (h:Heap)(S T:ZS):Heap:=(Vu h S T).push { cls:=.type "tuple",data:=.seq #[.ref h.objs.size,.ref (h.push S.obj).objs.size]}
noncomputable abbrev Vw (h:Heap)(S T:ZS):Heap:=(Vv h S T).push { cls:=.type "tuple",data:=.seq #[.none,.none]}
noncomputable abbrev RH (h:Heap)(S T:ZS):Heap:=(Vw h S T).push { cls:=.type "zip",data:=.fields #[.none,.bool false,.bool false,.ref (Vu h S T).objs.size,.ref (Vv h S T).objs.size]}
theorem Fb (S T:ZS):Meets (Builtin.«zip.__new__» ⟨[.type "zip",S.val,T.val],[]⟩) (fun _ R s=>S.ok s.heap/\T.ok s.heap/\R (.ok (.ret (.ref (Vw s.heap S T).objs.size))) { s with heap:=RH s.heap S T}):=
 .of_wp fun prog w A R s h=>by
   obtain⟨hp,g,d,tk,os⟩:=s;obtain⟨h1,h2,h⟩:=h
   have aa2:=sub_zip
   have k1:S.ok (Shared.heap ⟨hp,g,d,tk,os⟩):=h1
   have k2:T.ok (Shared.heap ⟨hp.push S.obj,g,d,tk,os⟩):=ZS.Lu h2
   wp_walk using ZS.iter k1,ZS.iter k2
   exact⟨_,rfl,h⟩
theorem HH {prog:Program}{w:World}{A:Around}{E:Value->Shared->Prop}{s:Shared}{S T:ZS}{Q:Value->Shared->Prop}(h1:S.ok s.heap)(h2:T.ok s.heap)(h:∀ h' n,n=s.heap.objs.size->IsZip h' (n+4) (n+2) (n+3) .none->IsPair h' (n+2) (.ref n) (.ref (n+1))->IsPair h' (n+3) .none .none->h'.get? n=some S.obj->h'.get? (n+1)=some T.obj->(∀ c o,s.heap.get? c=some o->h'.get? c=some o)->Q (.ref (n+4)) { s with heap:=h'}):wpAny (model prog w) A (call (.type "zip") [S.val,T.val]) Q E s:=by
 refine callType_new F.called_zip (by decide) (F.typeCall_zip_2 _ _) (F.newCall_zip_2 _ _) (fun obj=>F.args_object_init_3 obj _ _) F.entry_zip_new (Fb S T) ⟨h1,h2,?_⟩
 have z1:(s.heap.push S.obj).objs.size=s.heap.objs.size+1:=aaT ..
 have z2:(Vu s.heap S T).objs.size=s.heap.objs.size+2:=by rw[aaT,z1]
 have z3:(Vv s.heap S T).objs.size=s.heap.objs.size+3:=by rw[aaT,z2]
 have z4:(Vw s.heap S T).objs.size=s.heap.objs.size+4:=by rw[aaT,z3]
 have nf:∀ S:ZS,S.obj.isFreed=false:=fun S=>by cases S <;> rfl
 have g5:(RH s.heap S T).get? (Vw s.heap S T).objs.size=some _:=aai _ rfl
 have g4:(RH s.heap S T).get? (Vv s.heap S T).objs.size=some _:=Vf _ (aai _ rfl)
 have g3:(RH s.heap S T).get? (Vu s.heap S T).objs.size=some _:=Vf _ (Vf _ (aai _ rfl))
 have g2:(RH s.heap S T).get? (s.heap.push S.obj).objs.size=some T.obj:=Vf _ (Vf _ (Vf _ (aai _ (nf T))))
 have g1:(RH s.heap S T).get? s.heap.objs.size=some S.obj:=Vf _ (Vf _ (Vf _ (Vf _ (aai _ (nf S)))))
 show _/\_
 rw[z2,z3,z4] at g5
 rw[z1,z2] at g3
 rw[z3] at g4
 rw[z1] at g2
 rw[z4]
 exact⟨⟨_,g5,rfl⟩,h _ _ rfl g5 g3 g4 g1 g2 fun c o x=>Vf _ (Vf _ (Vf _ (Vf _ (Vf _ x))))⟩
def TH (K:W.Frag)(H:Hp)(i:Nat)(x:V):V->Prop
 | .str y=>∃ c,y.cps[i]?=some c/\x=.str ⟨#[c]⟩
 | .ref l=>(∃ xs,lS K H l xs)/\∀ xs,lS K H l xs->xs[i]?=some x
 | _=>False
def yC (K:W.Frag)(H:Hp)(i:Nat):V->Prop
 | .str y=>∃ c,y.cps[i]?=some c
 | .ref l=>∃ xs x,lS K H l xs/\xs[i]?=some x
 | _=>False
def Lv (K:W.Frag)(H:Hp)(i:Nat):V->Prop
 | .str y=>i=y.cps.size
 | .ref l=>∃ xs,lS K H l xs/\xs.length=i
 | _=>False
def Vx (K:W.Frag)(H:Hp):V->Prop
 | .str y=>iX y=true
 | .ref l=>∃ xs,lS K H l xs
 | _=>False
noncomputable def ZS.v:ZS->V
 | .txt x _=>.str x
 | .lst l=>.ref l
noncomputable def Y7 (K:W.Frag)(u v:V):It:=
 ⟨fun i H=>yC K H i u/\yC K H i v,fun i H r H'=>∃ p x y,r=.ref p/\H p=none/\H'=upd H p (.tup [x,y])/\TH K H i x u/\TH K H i y v,fun i H=>Lv K H i u\/(yC K H i u/\Lv K H i v)⟩
section
variable {X:Cx}{pins:List (Addr×Obj)}{σ:List (Option V)}{H:Hp}{s:Shared}{h':Heap}{i:Nat}{x:V}{it:Addr}
theorem Lw {ch:List Addr}{t':Nat}(I:L2.Inv X pins σ H s)(sF:∀ b∈ch,jT X pins H b)(k:∀ b u,b ∉ ch->s.heap.get? b=some u->h'.get? b=some u):L2.Inv X pins σ H { s with heap:=h',toks:=t'}:=by
 have M3:∀ b u,H b=some u->b ∉ ch:=fun b u e z=>by rw[(sF b z).1] at e;cases e
 refine I.step (g':=s.gens) (d':=s.drawn) (ch:=ch) (fun b hb=>⟨(sF b hb).2.2.2.1,(sF b hb).2.1,(sF b hb).2.2.2.2.1,(sF b hb).2.2.2.2.2⟩) (fun b o _ _ hc e _=>k b o hc e) (fun b o _ _ hc e _=>⟨o.slots,k b o hc e⟩) (fun _ _ _ _ n=>n)
   (fun b o hc e=>⟨o,k b o hc e⟩) (fun _ _ e=>e) (fun _ _ _ e=>e) (fun b ps e=>⟨#[],by rw[e];simp⟩) (fun m hm=>?_) (fun b u e=>?_) I.bare
 . obtain⟨o,es,ep,ho,r⟩:=hm
   exact⟨o,es,ep,k _ o (fun z=>(sF _ z).2.1 rfl) ho,r⟩
 . refine(I.bh b u e).wg (fun c v hc q=>k c v ?_ q) (fun _ q=>q) (fun _ _ q=>q) .refl
   rcases hc with z | z | z
   . rw[z];exact M3 b u e
   . exact M3 c _ z
   . exact fun z'=>by rw[(sF c z').1] at z;exact z
theorem yC.go (I:L2.Inv X pins σ H s):∀ {v:V},yC X.K H i v->∃ x,TH X.K H i x v
 | .str y,⟨c,h⟩=>⟨_,c,h,rfl⟩
 | .ref l,⟨xs,x,h1,h2⟩=>⟨x,⟨xs,h1⟩,fun ys hy=>by rw[I.uD hy h1];exact h2⟩
def lJ (h:Heap)(b:Addr):Prop:=∃ o,h.get? b=some o/\o.cls=.type "list"
theorem DE {l:Addr}{k:Nat}{h:Heap}{xs:Array Value}(a:h.IsListIter it l k)(b:h.IsList l xs):l≠it:=fun e=>by
 subst e
 obtain⟨o,h1,h2,_⟩:=a
 obtain⟨o',h3,h4,_⟩:=b
 rw[h1] at h3;cases h3
 rw[h2] at h4;exact absurd (Value.type.inj h4) (by decide)
theorem ZS.draw (I:L2.Inv X pins σ H s)(hc:X.calm=true):∀ {S:ZS},S.at it i s.heap->TH X.K H i x S.v->∃ (fp:List Addr) (n:Nat) (P:Nat->Value->Prop) (st:Nat->Heap->Prop),Draws X.prog X.w X.A.in1 it fp n P st/\i < n/\st i s.heap/\(∀ b∈fp,b=it\/lJ s.heap b)/\(∀ u,P i u->RelV x u)/\∀ h,st (i+1) h->S.at it (i+1) h
 | .txt y t,a,⟨c,h1,h2⟩=>by
   subst h2
   exact⟨_,_,_,_,Draws.strAscii (A:=X.A.in1) (I.ok.hd hc) it y t,(abt.mp h1).1,a,fun b hb=>.inl (by simpa using hb),fun u ⟨c',t',e1,e2⟩=>by
     rw[h1] at e1;cases e1;subst e2;exact⟨_,rfl⟩,fun h z=>z⟩
 | .lst l,a,⟨⟨xs,hq⟩,hx⟩=>by
   have hx:=hx xs hq
   obtain⟨aE,rv,p,hz⟩:=I.list hq
   obtain⟨u,hu,ru⟩:=rv.get hx
   have hl:=p.isList
   refine⟨_,_,_,_,Draws.list (A:=X.A.in1) (I.ok.hd hc) it l (DE a hl) aE.toArray,?_,⟨a,hl⟩,fun b hb=>?_,fun u' e=>?_,fun h z=>z.1⟩
   . have:=(aad.mp hu).1
     simpa using this
   . rcases aau.mp hb with rfl | hb
     . exact .inl rfl
     . have:b=l:=by simpa using hb
       subst this
       obtain⟨o,e,hc,_⟩:=hl
       exact .inr ⟨o,e,hc⟩
   . have e:aE[i]?=some u':=by simpa using e
     rw[hu] at e;cases e
     exact ru
theorem ZS.over (I:L2.Inv X pins σ H s)(hc:X.calm=true):∀ {S:ZS},S.at it i s.heap->Lv X.K H i S.v->∃ (fp:List Addr) (P:Nat->Value->Prop) (st:Nat->Heap->Prop),Draws X.prog X.w X.A.in1 it fp i P st/\st i s.heap/\(∀ b∈fp,b=it\/lJ s.heap b)
 | .txt y t,a,e=>by
   have e:i=y.cps.size:=e
   subst e
   exact⟨_,_,_,Draws.strAscii (A:=X.A.in1) (I.ok.hd hc) it y t,a,fun b hb=>.inl (by simpa using hb)⟩
 | .lst l,a,⟨xs,hq,e⟩=>by
   obtain⟨aE,rv,p,hz⟩:=I.list hq
   have hl:=p.isList
   have en:i=aE.toArray.size:=by rw[<- e,rv.length];simp
   have D:=Draws.list (prog:=X.prog) (w:=X.w) (A:=X.A.in1) (I.ok.hd hc) it l (DE a hl) aE.toArray
   rw[<- en] at D
   refine⟨_,_,_,D,⟨a,hl⟩,fun b hb=>?_⟩
   rcases aau.mp hb with rfl | hb
   . exact .inl rfl
   . have:b=l:=by simpa using hb
     subst this
     obtain⟨o,e,hc,_⟩:=hl
     exact .inr ⟨o,e,hc⟩
end
theorem jG {a b:Nat}(h:a≠b):@Ne Addr a b:=h
theorem yD {it i:Nat}{h:Heap}:∀ {S:ZS},S.at it i h->∃ o n vs,h.get? it=some o/\o.cls=.type n/\n≠"list"/\o.data=.fields vs
 | .txt _ _,⟨o,h1,h2,h3⟩=>⟨o,_,_,h1,h2,by decide,h3⟩
 | .lst _,⟨o,h1,h2,h3⟩=>⟨o,_,_,h1,h2,by decide,h3⟩
theorem t8 {it i:Nat}{h h':Heap}(k:∀ o,h.get? it=some o->h'.get? it=some o):∀ {S:ZS},S.at it i h->S.at it i h'
 | .txt _ _,⟨o,h1,r⟩=>⟨o,k o h1,r⟩
 | .lst _,⟨o,h1,r⟩=>⟨o,k o h1,r⟩
theorem Ca {n:Nat}{h:Heap}{f1 f2:List Addr}{S T:ZS}{i:Nat}{f0 a b c d:Value}(hz:IsZip h (n+4) (n+2) (n+3) f0)(hO:IsPair h (n+3) a b)(h1:S.at n i h)(h2:T.at (n+1) i h)(k1:∀ b∈f1,b=n\/lJ h b)(k2:∀ b∈f2,b=n+1\/lJ h b):pQ (n+4) (n+2) (n+3) n (n+1) f1 f2:=by
 have lz:¬ lJ h (n+4):=fun⟨o,e,c⟩=>by rw[hz] at e;cases e;exact absurd (Value.type.inj c) (by decide)
 have lo:¬ lJ h (n+3):=fun⟨o,e,c⟩=>by rw[hO] at e;cases e;exact absurd (Value.type.inj c) (by decide)
 have l1:¬ lJ h n:=fun⟨o,e,c⟩=>by
   obtain⟨o',m,vs,e1,e2,e3,_⟩:=yD h1
   rw[e] at e1;cases e1;rw[c] at e2;cases e2;exact e3 rfl
 have l2:¬ lJ h (n+1):=fun⟨o,e,c⟩=>by
   obtain⟨o',m,vs,e1,e2,e3,_⟩:=yD h2
   rw[e] at e1;cases e1;rw[c] at e2;cases e2;exact e3 rfl
 have n1:∀ b,b≠n->¬ lJ h b->b ∉ f1:=fun b e l m=>(k1 b m).elim e l
 have n2:∀ b,b≠n+1->¬ lJ h b->b ∉ f2:=fun b e l m=>(k2 b m).elim e l
 exact⟨jG (by omega),jG (by omega),jG (by omega),jG (by omega),jG (by omega),jG (by omega),jG (by omega),jG (by omega),jG (by omega),jG (by omega),n1 _ (jG (by omega)) lz,n1 _ (jG (by omega)) lo,n1 _ (jG (by omega)) l2,n2 _ (jG (by omega)) lz,n2 _ (jG (by omega)) lo,n2 _ (jG (by omega)) l1⟩
theorem HI {P:Program}{w:World}{K:W.Frag}{elts:List Expr}{kt:Nat}{rC:Pos}(S T:ZS)(n:Nat):Turn P w K (.Tuple elts kt rC) (Y7 K S.v T.v) [n+4,n+2,n+3,n,n+1] (n+4) (fun i h=>IsZip h (n+4) (n+2) (n+3) .none/\IsPair h (n+2) (.ref n) (.ref (n+1))/\(∃ a b,IsPair h (n+3) a b)/\S.at n i h/\T.at (n+1) i h) where
 mem:=by simp
 obj:=fun i h st b hb=>by
   obtain⟨hz,hI,⟨a,c,hO⟩,q1,q2⟩:=st
   simp only[aau,abv,or_false] at hb
   rcases hb with rfl | rfl | rfl | rfl | rfl
   . exact⟨_,hz,fun v z=>by cases z⟩
   . exact⟨_,hI,fun v z=>by cases z⟩
   . exact⟨_,hO,fun v z=>by cases z⟩
   . obtain⟨o,_,_,e,_,_,d⟩:=yD q1
     exact⟨o,e,fun v z=>by rw[d] at z;cases z⟩
   . obtain⟨o,_,_,e,_,_,d⟩:=yD q2
     exact⟨o,e,fun v z=>by rw[d] at z;cases z⟩
 keep:=fun i h h' st k=>by
   obtain⟨hz,hI,⟨a,c,hO⟩,q1,q2⟩:=st
   exact⟨k _ (by simp) _ hz,k _ (by simp) _ hI,⟨a,c,k _ (by simp) _ hO⟩,t8 (fun o e=>k _ (by simp) o e) q1,t8 (fun o e=>k _ (by simp) o e) q2⟩
 item:=by
   intro X hP hw hK hc i pins s σ H E I hf st hg
   subst hP hw hK
   obtain⟨gu,gv⟩:=hg
   obtain⟨u,gu⟩:=yC.go I gu
   obtain⟨v,gv⟩:=yC.go I gv
   obtain⟨hz,hI,⟨a,b,hO⟩,q1,q2⟩:=st
   obtain⟨f1,n1,P1,S1,D1,l1,s1,c1,r1,t1⟩:=ZS.draw I hc q1 gu
   obtain⟨f2,n2,P2,S2,D2,l2,s2,c2,r2,t2⟩:=ZS.draw I hc q2 gv
   have ap:pQ (n+4) (n+2) (n+3) n (n+1) f1 f2:=Ca (c:=.none) (d:=.none) hz hO q1 q2 c1 c2
   have hT:s.TypeIs (.ref (n+4)) "zip":=⟨_,hz,rfl⟩
   unfold pyNext
   refine wpAny_bind (wpAny_attempt (wpAny_callSpecial?_slot (name:=Str.ofString "__next__") hT F.slot_zip_next (wpAny_call_entry F.slot_zip_next hT F.entry_zip_next (HG D1 D2 ap hz hI hO s1 s2 l1 l2 fun x y h1 tk px py a1 a2 a3 a4 a5 a6=>wpAny_pure ?_) (F.args_zip_next_1 _))))
   refine⟨_,rfl,wpAny_letOwnedTupleGo_zip a1 fun h2 RG sH=>?_⟩
   replace sH:aaX (n+4) h1 h2:=sH
   have zl:n+4 < s.heap.objs.size:=aaj hz
   have Ts:IsPair h2 s.heap.objs.size x y:=(sH.2 _ (abk zl)).trans a5
   have k2:∀ b o,b ∉ [n+4,n+2,n+3,n,n+1]->s.heap.get? b=some o->h2.get? b=some o:=fun b o hb q=>(sH.2 b fun z=>hb (by simp[z])).trans (a6 b o (fun z=>hb (by simp[z])) (fun z=>hb (by simp[z])) (fun z=>hb (by simp[z])) (fun z=>hb (by simp[z])) q)
   have hp:H s.heap.objs.size=none:=I.bh.fresh (aac _)
   have I2:L2.Inv X pins σ (upd H s.heap.objs.size (.tup [u,v])) { s with heap:=h2,toks:=tk}:=u5 I hf k2 (aac _) ⟨aaD rfl,[x,y],.cons (r1 x px) (.cons (r2 y py) .nil),_,Ts,rfl,_,rfl⟩
   have up:∀ b o,b≠n+4->h1.get? b=some o->h2.get? b=some o:=fun b o hb e=>(sH.2 b hb).trans e
   refine⟨.ref s.heap.objs.size,_,I2,rfl,⟨_,u,v,rfl,hp,rfl,gu,gv⟩,⟨RG,up _ _ (jG (by omega)) (a6 _ _ (jG (by omega)) (jG (by omega)) (jG (by omega)) (jG (by omega)) hI),⟨_,_,up _ _ (jG (by omega)) a2⟩,t8 (fun o e=>up _ o (jG (by omega)) e) (t1 _ a3),t8 (fun o e=>up _ o (jG (by omega)) e) (t2 _ a4)⟩,fun b hb=>?_⟩
   have:b≠s.heap.objs.size:=by
     simp only[aau,abv,or_false] at hb
     have zl:n+4 < Array.size s.heap.objs:=zl
     rcases hb with rfl | rfl | rfl | rfl | rfl <;> exact jG (by omega)
   rw[ag this]
   exact(hf b hb).1
 done:=by
   intro X hP hw hK hc i pins s σ H E I hf st hg
   subst hP hw hK
   obtain⟨hz,hI,⟨a,b,hO⟩,q1,q2⟩:=st
   have hT:s.TypeIs (.ref (n+4)) "zip":=⟨_,hz,rfl⟩
   have fin:∀ (h1:Heap) (tk:Nat),(∀ c o,c≠n+4->c≠n+3->c≠n->c≠n+1->s.heap.get? c=some o->h1.get? c=some o)->L2.Inv X pins σ H { s with heap:=h1,toks:=tk}:=fun h1 tk k=>
     Lw I hf fun b o hb q=>k b o (fun z=>hb (by simp[z])) (fun z=>hb (by simp[z])) (fun z=>hb (by simp[z])) (fun z=>hb (by simp[z])) q
   unfold pyNext
   refine wpAny_bind (wpAny_attempt (wpAny_callSpecial?_slot (name:=Str.ofString "__next__") hT F.slot_zip_next (wpAny_call_entry F.slot_zip_next hT F.entry_zip_next ?_ (F.args_zip_next_1 _))))
   rcases hg with g1 | ⟨gx,g2⟩
   . obtain⟨f1,P1,S1,D1,s1,c1⟩:=ZS.over I hc q1 g1
     have ap:pQ (n+4) (n+2) (n+3) n (n+1) f1 []:=Ca (c:=.none) (d:=.none) hz hO q1 q2 c1 (fun b hb=>absurd hb (by simp))
     refine E8 D1 ap hz hI s1 fun h1 e k he=>?_
     obtain⟨o,ho,Px⟩:=he
     refine wpAny_bind (wpAny_isInstance (T:="StopIteration") (b:=true) ⟨o,ho,Px⟩ isSubtype_stop (wpAny_pure ⟨rfl,?_⟩))
     exact fin h1 s.toks k
   . obtain⟨x,gx⟩:=yC.go I gx
     obtain⟨f1,n1,P1,S1,D1,l1,s1,c1,r1,t1⟩:=ZS.draw I hc q1 gx
     obtain⟨f2,P2,S2,D2,s2,c2⟩:=ZS.over I hc q2 g2
     have ap:pQ (n+4) (n+2) (n+3) n (n+1) f1 f2:=Ca (c:=.none) (d:=.none) hz hO q1 q2 c1 c2
     refine E9 D1 D2 ap hz hI hO s1 l1 s2 fun h1 tk e k he=>?_
     obtain⟨o,ho,Px⟩:=he
     refine wpAny_bind (wpAny_isInstance (T:="StopIteration") (b:=true) ⟨o,ho,Px⟩ isSubtype_stop (wpAny_pure ⟨rfl,?_⟩))
     exact fin h1 tk k
 self:=fun _ i s Q E st h=>wpAny_pyIter_zip st.1 h
theorem boot_zip:bootBuiltins "zip"=some (.type "zip"):=by decide +kernel
section
variable {X:Cx}{G:Gr}{dl:List Slot}{a b:Expr}{p pos:Pos}
def TJ (K:W.Frag)(ta:TA):TI:=fun σ H R=>ta σ H fun vs H1=>∃ u v,vs=[u,v]/\Vx K H1 u/\Vx K H1 v/\R (Y7 K u v) H1
theorem Np {pins:List (Addr×Obj)}{σ:List (Option V)}{H:Hp}{s:Shared}(I:L2.Inv X pins σ H s):∀ {v:V} {u:Value},Vx X.K H v->RelV v u->∃ S:ZS,S.v=v/\S.val=u/\S.ok s.heap
 | .str x,_,h,⟨t,rfl⟩=>⟨.txt x t,rfl,rfl,h⟩
 | .ref l,_,⟨xs,h⟩,r=>by
   cases r
   obtain⟨aE,rv,p,hz⟩:=I.list h
   exact⟨.lst l,rfl,rfl,_,p.isList⟩
theorem Y8 {n:Nat}{h:Heap}:∀ {S:ZS},S.ok h->∀ {h':Heap},h'.get? n=some S.obj->S.at n 0 h'
 | .txt x t,hx,h',e=>by
   have OF:strIterType x="str_ascii_iterator":=by unfold strIterType;rw[show x.cps.all (· < 128)=true from hx];rfl
   exact⟨_,e,by show Value.type (strIterType x)=_;rw[OF],rfl⟩
 | .lst l,_,h',e=>⟨_,e,rfl,rfl⟩
theorem Py {elts:List Expr}{kt:Nat}{rC:Pos}{ta:TA}(hg:Gl X "zip")(hm:X.mg "zip"=none)(ha:PA X [a,b] ta)(hs:starEach [a,b] X.env=(false,eval a X.env)::starEach [b] X.env:=by rfl)(nC:(backTo pos (starEach [b] X.env)).any (·.1)=false:=by rfl):PI X (.Tuple elts kt rC) (.Call (.Name "zip" p) [a,b] [] pos) (TJ X.K ta):=by
 intro pins s σ H R I h
 refine Call_ (nE I hg hm boot_zip (PyProof.Rows.callWith_type1 (bM (ha pos pins s σ H _ I h) fun us s1 ⟨vs,H1,I1,r1,q1⟩=>?_) hs nC))
 obtain⟨u,v,e,ou,ov,q⟩:=q1
 subst e
 cases r1 with
 | cons ru rr=>
   cases rr with
   | cons rv r0=>
     cases r0
     obtain⟨S,rfl,rfl,kS⟩:=Np I1 ou ru
     obtain⟨T,rfl,rfl,kT⟩:=Np I1 ov rv
     refine HH kS kT fun h' n hn hz hI hO g1 g2 k=>wpAny_pyIter_zip hz ?_
     have I2:L2.Inv X pins σ H1 { s1 with heap:=h'}:=I1.kept (t':=s1.toks) k
     refine⟨n+4,[n+4,n+2,n+3,n,n+1],_,_,H1,rfl,I2,HI S T n,⟨hz,hI,⟨_,_,hO⟩,Y8 kS g1,Y8 kT g2⟩,fun b hb=>?_,q⟩
     have Kn:s1.heap.objs.size<=b:=by
       rw[<- hn]
       simp only[aau,abv,or_false] at hb
       rcases hb with rfl | rfl | rfl | rfl | rfl <;> first | exact aac _ | exact abq _ _
     exact I1.rq Kn (I1.bh.fresh Kn)
inductive ZD:Dt->List Dt->Prop
 | lst (xs:List Dt):ZD (.lst xs) xs
 | str (x:Str):iX x=true->ZD (.str x) (Sg.signs x)
noncomputable def Fc (xs ys:List Dt):List Dt:=(aag (min xs.length ys.length)).map fun(k:Nat)=>.tup [xs.getD k .cy,ys.getD k .cy]
theorem Nq {K:W.Frag}{Hf H:Hp}{v:V}{d:Dt}{xs:List Dt}(z:ZD d xs)(r:Rep K Hf v d)(s:aC Hf H):Vx K H v:=by
 cases z with
 | lst xs=>cases r with | lst h rp=>exact⟨_,.of (s _ _ h)⟩
 | str x h=>cases r;exact h
theorem Lx {K:W.Frag}{H:Hp}{a:Addr}{vs:List V}(h:H a=some (.lst vs)):lS K H a vs:=.of h
theorem HJ {K:W.Frag}{Hf H:Hp}{v:V}{d:Dt}{xs:List Dt}{i:Nat}{y:Dt}(z:ZD d xs)(r:Rep K Hf v d)(s:aC Hf H)(e:xs[i]?=some y):yC K H i v/\∀ x,TH K H i x v->Rep K Hf x y:=by
 cases z with
 | lst xs=>
   cases r with
   | @lst a vs _ h rp=>
     have hq:=Lx (K:=K) (s _ _ h)
     obtain⟨u,h1,h2⟩:=rp.get e
     refine⟨⟨vs,u,hq,h1⟩,fun x ⟨_,hx⟩=>?_⟩
     have:=hx vs hq
     rw[h1] at this;cases this
     exact h2
 | str x h=>
   cases r
   rw[signs_get] at e
   cases q:x.cps[i]? with
   | none=>rw[q] at e;cases e
   | some c=>
     rw[q] at e;cases e
     refine⟨⟨c,q⟩,fun x' ⟨c',h1,h2⟩=>?_⟩
     rw[q] at h1;cases h1
     subst h2
     exact .str _
theorem HK {K:W.Frag}{Hf H:Hp}{v:V}{d:Dt}{xs:List Dt}(z:ZD d xs)(r:Rep K Hf v d)(s:aC Hf H):Lv K H xs.length v:=by
 cases z with
 | lst xs=>cases r with | lst h rp=>exact⟨_,.of (s _ _ h),rp.length⟩
 | str x h=>cases r;exact kG x
theorem HL {d1 d2:Dt}{xs ys:List Dt}(z1:ZD d1 xs)(z2:ZD d2 ys):qC X G dl (Fc xs ys) (TJ X.K (OQ X.K G dl [d1,d2])):=fun st H R zq=>aaa zq fun Hf zq=>have S:=zq.1;have k:=zq.2;⟨Hf,S,fun vs Hf1 H1 g1 r1=>by
 cases r1 with
 | @cons u _ _ _ ru t=>
   cases t with
   | @cons v _ _ _ rv t0=>
     cases t0
     refine⟨u,v,rfl,Nq z1 ru g1.sub,Nq z2 rv g1.sub,k _ Hf1 H1 g1 fun bD H2 s1 s2 i=>⟨fun z hz=>?_,fun hi=>?_⟩⟩
     . have hi:i < min xs.length ys.length:=by
         have:=(aad.mp hz).1
         unfold Fc at this
         simpa using this
       unfold Fc at hz
       rw[aab,aar hi] at hz
       cases hz
       have ix:i < xs.length:=by omega
       have iy:i < ys.length:=by omega
       have hx:xs[i]?=some (xs.getD i .cy):=by rw[WY,k3 ix];rfl
       have hy:ys[i]?=some (ys.getD i .cy):=by rw[WY,k3 iy];rfl
       obtain⟨gx,px⟩:=HJ z1 (ru.mono s1) s2 hx
       obtain⟨gy,py⟩:=HJ z2 (rv.mono s1) s2 hy
       refine⟨⟨gx,gy⟩,fun w H3 ⟨p,x,y,e1,e2,e3,ex,ey⟩=>?_⟩
       subst e1 e3
       have g3:aV bD H2 (upd bD p (.tup [x,y])) (upd H2 p (.tup [x,y])):=.alloc s2 e2
       exact⟨_,g3,.tup (.inl ak) (.cons ((px x ex).mono g3.bj) (.cons ((py y ey).mono g3.bj) .nil))⟩
     . have hi:i=min xs.length ys.length:=by
         unfold Fc at hi
         rw[Bn,aaA] at hi
         exact hi
       by_cases hl:xs.length<=ys.length
       . have:i=xs.length:=by omega
         subst this
         exact .inl (HK z1 (ru.mono s1) s2)
       . have:i=ys.length:=by omega
         subst this
         have ix:ys.length < xs.length:=by omega
         exact .inr ⟨(HJ z1 (ru.mono s1) s2 (k3 ix)).1,HK z2 (rv.mono s1) s2⟩⟩
end
noncomputable def exO (C t:Addr)(od:Option Addr):Obj:={ cls:=.ref C,dict:=od,data:=.fields #[.ref t,.none,.none,.none,.bool false,.none]}
def ExB (h:Heap)(e C:Addr)(od:Option Addr):Prop:=∃ t:Addr,h.get? e=some (exO C t od)
section
variable {C:Addr}
structure StX (K:W.Frag)(C:Addr)(f:Str):Prop where
 sa:W.findIn K (.ref C) "__setattr__"=some (some (.builtin "object.__setattr__"))
 na:W.findIn K (.ref C) f=some none
 ob:W.mroIn K C (.type "object")=some true
 mr:∃ G,(W.clsIn K C).map (·.mro)=some [.ref C,.ref G,.type "ValueError",.type "Exception",.type "BaseException",.type "object"]
 hd:(W.clsIn K C).map (·.hasDict)=some true
end
noncomputable def Pz (K:PySem.W.Frag)(C:Addr)(Y9:List Value)(nw:String)(fI:Addr):Bool:=match K.lookup C with
 | some ⟨.type "type",_,.cls cd,sl⟩=>(match cd.mro,sl.toList with
   | .ref D::tl,[_,_,_,_,some (.builtin n),_]=>D == C && (n == nw && (!cd.hasDel && (PySem.W.tailIn K Y9 tl && (PySem.W.nsOkIn K cd.ns && (PySem.W.nsIn K cd.ns "__init__" == some (some (.ref fI)))))))
   | _,_=>false)
 | _=>false
structure XcI (K:W.Frag)(C fI:Addr):Prop where
 ex:Pz K C YM "ValueError.__new__" fI=true
 fn:W.typeIn K (.ref fI)=some (.type "function")
 kp:W.keepIn K (.ref C)=true
structure XcB (K:W.Frag)(G:Addr):Prop where
 sp:W.specialIn K (.ref G) "__getattribute__"=some (some (.builtin "type.__getattribute__"))
 rd:W.readsIn K G (.type "type")=true
 fc:W.findCls K (.ref G) (.type "type") "__init__"=some (.val (.builtin "ValueError.__init__"))
noncomputable abbrev xT (z C:Addr)(od:Option Addr):HO:=.ext fun h=>ExB h z C od
def spX (K:W.Frag)(C:Addr)(f:Str)(ok:Dt->Prop):Sp:=fun vs H Q E=>∃ Hf H1 z v d,vs=[.ref z,v]/\H=upd H1 z (xT z C none)/\H1 z=none/\aC Hf H1/\Rep K Hf v d/\ok d /\
 ∀ bD H2 dx,aV Hf H bD H2->H2 dx=none->dx≠z->Q .cy (upd (upd H2 dx (.xd [(f,v)])) z (xT z C (some dx)))
structure XF (P:Program)(w:World)(K:W.Frag)(mg:Str->Option Value)(base:Heap)(CX:q8)(k:Nat)(x:Str)(C:Addr)(f:Str)(ok:Dt->Prop):Prop where
 ex:∃ fI fd ps,jt P w K mg base CX k fI fd ps (spX K C f ok)/\XcI K C fI/\mg x=some (.ref C)/\Binds K fd ps []
section
variable {X:Cx}{G:Gr}{E:XK}{dl:List Slot}{e:Expr}{p pos apos bN:Pos}{x:Str}{ds Ku:List Dt}
theorem Fd (n:Nat){pn:Pos}(he:EE X G dl e (.lst Ku))(hl:ds.length+Ku.length<=sizeLine)(hd:dl[n]?=some (.own (.lst ds)):=by rfl)(hN:X.N[n]?=some x:=by rfl)(hv:uB X.env.scope x:=by first | exact aaL rfl | exact aaB (aaL rfl) | exact aaB (aaB rfl))
   (lU:(x == ("__debug__":Str))=false:=by decide) (lV:(x == ("__classdict__":Str))=false:=by decide)
   (ju:attributeBase (.Name x pn) "extend" X.env (eval (.Name x pn) X.env)=eval (.Name x pn) X.env:=by rfl)
   (uO:((backTo bN (starEach [e] X.env)).all (fun x=>!x.1) && (backToKw bN (keywordEach [] X.env)).all (fun x=>x.1.isSome) && decide ([e].length+([]:List Keyword).length+(if ([]:List Keyword).isEmpty then 0 else 1) < 30))=true:=by rfl)
   (jv:(apos.endLine == bN.line)=true:=by rfl) (pK:starEach [e] X.env=(false,eval e X.env)::starEach [] X.env:=by rfl) (hs:swapsWith (.Call (.Attribute (.Name x pn) "extend" apos) [e] [] bN) none pos.line X.env=pure false:=by rfl) :
   ES X G E dl (.Expr (.Call (.Attribute (.Name x pn) "extend" apos) [e] [] bN) pos) (.nx (dl.set n (.own (.lst (ds ++ Ku))))):=
 tV (lg (uN PySem.F.plainAttrs_list PySem.F.slot_list_extend PySem.F.type_list_extend ED (uX (p:=pn) n hd hN hv lU lV) (ae he ai pK) ju uO jv pK rfl) hs) fun D st H zq=>aaa zq fun Hf zq=>have S:=zq.1;have k:=zq.2;by
   obtain⟨q,z1,z2,z3,vs,hq,rp⟩:=S.own n _ hd
   refine⟨Hf,q,S,z1,z2,⟨vs,hq,rp⟩,.inl ⟨rfl,vs,.of hq⟩,Hf,S,fun us Hf1 H1 g1 r1=>?_⟩
   cases r1 with
   | cons r1 t1=>
     cases t1
     cases r1 with
     | @lst b zs _ hb rz=>
       refine⟨q,b,vs,zs,rfl,rfl,g1.big _ _ hq,g1.sub _ _ hb,by rw[rp.length,rz.length];exact hl,?_⟩
       exact k st Hf1 _ g1.bj ((S.grow g1).ER hd z1 ⟨_,ak,(rp.mono g1.bj).append rz⟩)
end
mutual
noncomputable def WZ:Dt->Bool
 | .lst _=>false
 | .oy _=>false
 | .tup ds=>TK ds
 | .cV kds=>TL kds
 | .obj _ fs=>TM fs
 | .rF _=>false
 | .xo _=>false
 | .EM _ _=>false
 | .d5 _=>false
 | .memo _ _ _ _=>false
 | .eK _ _ _ _=>false
 | .wq _ _ _=>false
 | .wc _ _ _ _ _=>false
 | .mF _=>false
 | _=>true
noncomputable def TK:List Dt->Bool
 | []=>true
 | d::r=>WZ d && TK r
noncomputable def TL:List (Key×Dt)->Bool
 | []=>true
 | (_,d)::r=>WZ d && TL r
noncomputable def TM:List (Str×Dt)->Bool
 | []=>true
 | (_,d)::r=>WZ d && TM r
end
structure TN (k:Nat)(A:Around):Prop where
 dp:A.depth+3 * k+5 < recursionLimit
 un:A.units+16 * k+200 < cLine
structure TQ (P:Program)(w:World)(K:W.Frag)(mg:Str->Option Value)(base:Heap)(CX:q8)(k:Nat)(f:Addr)(fd:FuncData)(ps:List Str)(sp:Sp):Prop where
 len:∀ vs H Q E,sp vs H Q E->vs.length=ps.length
 run:∀ (A:Around) (outer:List Env) (s:Shared) (H:Hp) (args:Args) (us:List Value) (vs:List V) (Q:VK) (E:XK),TN k A->z7 P w K mg base A outer s H->BindsTo s fd args (ps.zip us)->Vals vs us->sp vs H Q E ->
   codeAny (model P w) A (.call (.ref f) args) (CR CX outer P w H s Q E) s
structure GFH (P:Program)(w:World)(K:W.Frag)(mg:Str->Option Value)(base:Heap)(CX:q8)(k:Nat)(x:Str)(n:Nat)(R:List Dt->Res->Prop):Prop where
 ex:∃ f fd ps,TQ P w K mg base CX k f fd ps (Dm K n R)/\mg x=some (.ref f)/\W.keepIn K (.ref f)=true/\Binds K fd ps []
theorem u9:typeLookup (.type "list") "keys"=pure none:=am_miss_of_fast (by decide +kernel)
theorem Fe {prog:Program}{w:World}{A:Around}{E:Value->Shared->Prop}{s:Shared}{a:Addr}{o:Obj}{xs:Array Value}{k:Nat}{Q:Option Value->Shared->Prop}(hx:s.heap.get? a=some o)(hc:o.cls=.type "list")(TR:o.data=.seq xs k)(hd:o.dict=none)(hA:A.handled=none)(h:∀ h' tk,(∀ b u,s.heap.get? b=some u->h'.get? b=some u)->Q none { s with heap:=h',toks:=tk}):wpAny (model prog w) A (getAttr? (.ref a) "keys") Q E s:=by
 obtain⟨c,dct,dat,sl⟩:=o
 simp only at hc TR hd
 subst hc TR hd
 obtain⟨hp,g,d,tk,os⟩:=s
 have hT:∀ Za,(⟨hp,g,d,Za,os⟩:Shared).TypeIs (.ref a) "list":=fun _=>⟨_,hx,rfl⟩
 have f1:=sub_AttributeError
 have f3:=F.slot_list_getattribute.lookup
 have f4:=F.slot_list_getattribute.bind (.ref a)
 have f5:=am_list_getattr_none
 unfold getAttr? getAttrBy? getAttrBy
 repeat (any_goals (first | assumption | exact hT _ | ((with_reducible show wpAny _ _ (call (Value.builtin "list.__getattribute__") _ _) _ _ _);refine call_meets F.slot_list_getattribute (hT _) am_entry_list_getattribute (F.args_list_getattribute_2 _ _) (meets_getattribute_miss_list a xs k sl "keys" _ u9 (by decide +kernel)) ⟨hx,hA,fun h' Za e C5=>?_⟩) | wp_step))
 obtain⟨t',u',he⟩:=C5.there
 show wpAny _ _ (getattributeRaised _ _ _ _ _ _ _) _ _ _
 unfold getattributeRaised
 repeat (any_goals (first | assumption | wp_step))
 exact h _ _ C5.keeps
theorem ja:plainId "dict.update.loop"=true:=by decide +kernel
theorem pB:entryFor table "dict.update.loop"=some Builtin.«dict.update.loop»:=entryFor_of_fast (by kernel_rfl)
inductive F9 (K:W.Frag)(H:Hp):List V->List (Key×V)->Prop
 | nil:F9 K H [] []
 | cons {t:Addr} {k:Key} {v:V} {xs:List V} {kvs:List (Key×V)}:BF K H t [kV k,v]->F9 K H xs kvs->F9 K H (.ref t::xs) ((k,v)::kvs)
theorem F9.length {K:W.Frag}{H:Hp}:∀ {xs:List V} {kvs:List (Key×V)},F9 K H xs kvs->xs.length=kvs.length
 | _,_,.nil=>rfl
 | _,_,.cons _ r=>congrArg (·+1) (F9.length r)
theorem F9.get {K:W.Frag}{H:Hp}:∀ {xs:List V} {kvs:List (Key×V)} {i:Nat} {kv:Key×V},F9 K H xs kvs->kvs[i]?=some kv->∃ t,xs[i]?=some (.ref t)/\BF K H t [kV kv.1,kv.2]
 | _,_,_,_,.nil,e=>by simp at e
 | _,_,0,_,.cons h _,e=>by simp at e;subst e;exact⟨_,rfl,h⟩
 | _,_,i+1,_,.cons _ r,e=>by
   obtain⟨t,h1,h2⟩:=F9.get (i:=i) r (by simpa using e)
   exact⟨t,by simpa using h1,h2⟩
theorem AJ {kvs:List (Key×V)}{k:Key}(h:k ∉ kvs.map (·.1)):(nI kvs k).isSome=false:=by
 induction kvs with
 | nil=>rfl
 | cons p r ih=>
   have h1:¬ p.1=k:=fun e=>h (by simp[e])
   rw[l3 h1]
   exact ih fun z=>h (by simp at z ⊢;exact .inr z)
section
variable {X:Cx}{pins:List (Addr×Obj)}{σ:L2.St}{H:Hp}{A:Around}{R:Result->Shared->Prop}{L d it:Addr}{xs:List V}{kvs:List (Key×V)}
theorem HM (hA:A.handled=none)(hL:lS X.K H L xs)(hp:F9 X.K H xs kvs)(nd:(kvs.map (·.1)).Nodup)(hd:H d=none)(hf:jT X pins H it)(W0:d≠it)(hz:kvs.length<=sizeLine)(hR:∀ s',L2.Inv X pins σ (upd H d (.dK kvs)) s'->R (.ok (.ret .none)) s'):∀ (k i:Nat) (s:Shared) (tk:Tok),kvs.length - i=k->i<=kvs.length->L2.Inv X pins σ (upd H d (.dK (kvs.take i))) s->s.heap.IsListIter it L i->codeAny (model X.prog X.w) A (.builtin "dict.update.loop" ⟨[.ref d,.ref it,.int i tk,.none],[]⟩) R s:=by
 have hlen:=hp.length
 have sm:∀ o,aC H (upd H d o):=fun o=>bA hd
 obtain⟨f0,f1,f2,f3,f4,f5⟩:=hf
 intro k
 induction k with
 | zero=>
   intro i s tk hk hi I st
   have PB:i=kvs.length:=by omega
   subst PB
   obtain⟨aE,rv,p,Vy⟩:=I.list ((sm _).seq hL)
   have hl:=rv.length
   refine codeAny_builtin pB ?_
   rw[Around.under_plainId ja _]
   show wpAny _ A.in1 (pyNext (.ref it) >>= _) _ _ s
   refine wpAny_bind (wpAny_pyNext_list_end (show A.in1.handled=none from hA) st p.isList (by simp;omega) fun h' eb=>?_)
   have I1:L2.Inv X pins σ (upd H d (.dK (kvs.take kvs.length))) { s with heap:=h'}:=I.turned (t':=s.toks) (fun b o hb e=>eb b o hb e) (by rw[ag (Ne.symm W0)];exact f0) f1 f3 f4 f5
   rw[aa7] at I1
   show wpAny _ A.in1 (Builtin.Dict.addKeywords d [] >>= _) _ _ _
   exact wpAny_bind (wpAny_pure (wpAny_pure (hR _ I1)))
 | succ k ih=>
   intro i s tk hk hi I st
   have cX:i < kvs.length:=by omega
   obtain⟨t,ht1,ht2⟩:=hp.get (k3 cX)
   obtain⟨aE,rv,p,Vy⟩:=I.list ((sm _).seq hL)
   obtain⟨u,hu,ru⟩:=rv.get ht1
   cases (show u=Value.ref t from ru)
   refine codeAny_builtin pB ?_
   rw[Around.under_plainId ja _]
   show wpAny _ A.in1 (pyNext (.ref it) >>= _) _ _ s
   refine wpAny_bind (wpAny_pyNext_list_item st p.isList (x:=.ref t) (by simpa using hu) fun h' jq sb=>?_)
   have I1:L2.Inv X pins σ (upd H d (.dK (kvs.take i))) { s with heap:=h'}:=I.turned (t':=s.toks) (fun b o hb e=>(sb.2 b hb).trans e) (by rw[ag (Ne.symm W0)];exact f0) f1 f3 f4 f5
   obtain⟨pit,rp,pt,hzt⟩:=I1.tuple (fj (sm _) ht2)
   cases rp with
   | cons rk rp=>cases rp with
     | cons rv' rp=>
       cases rp
       rename_i ku vu
       obtain⟨ot,eo,Px,nn,hdt⟩:=pt
       refine wpAny_bind (wpAny_holding (wpAny_bind (wpAny_tryCatch ?_)))
       unfold Builtin.Dict.pairItems
       refine wpAny_bind (wpAny_typeOf (T:="tuple") ⟨_,eo,Px⟩ ?_)
       simp only[show((Value.type "tuple" == Value.type "list") || (Value.type "tuple" == Value.type "tuple"))=true by decide,if_true]
       refine wpAny_bind (wpAny_seqItems eo hdt (wpAny_pure ?_))
       show wpAny _ A.in1 (holding [ku,vu] (dictSet d ku vu)) _ _ _
       refine wpAny_holding ?_
       have ed:(upd H d (HO.dK (kvs.take i))) d=some (.dK (kvs.take i)):=ak
       obtain⟨z,hdm,vs,rel,dd⟩:=Nb I1.bh ed
       have hzv:vs.length<=sizeLine:=by rw[<- rel.length];exact z
       have TU:putK (kvs.take i) kvs[i].1 kvs[i].2=kvs.take (i+1):=by
         rw[DA (AJ ?_),List.take_succ,k3 cX];rfl
         rw[abX]
         intro hm
         obtain⟨j,hj,e⟩:=aa4.mp hm
         rw[aat,Bn] at hj
         rw[abm,aaK] at e
         have:=aaV.mp nd j i (by rw[Bn];omega) (by rw[Bn];omega) (by omega)
         rw[aaK,aaK] at this
         exact this e
       refine wpAny_dictSet_pairs (hsz:=hzv) (Ae rk) dd fun h2 OL hs=>?_
       have he:∃ q,h2.get? d=some q:=let ⟨q,_,_,hq,_⟩:=OL;⟨q,hq⟩
       have I2:L2.Inv X pins σ (upd (upd H d (.dK (kvs.take i))) d (.dK (putK (kvs.take i) kvs[i].1 kvs[i].2))) { s with heap:=h2,toks:=s.toks+1}:=mE (s:={ s with heap:=h'}) (t':=s.toks+1) I1 (by rw[ed];exact True.intro) hs he (GP (by rw[TU,aat];omega) hdm (rel.put _ rv') OL)
       rw[tP,TU] at I2
       exact wpAny_pure ⟨plainId_quiet ja _,ih (i+1) _ _ (by omega) (by omega) I2 (jq.at fun o e=>(hs.2 it (Ne.symm W0)).trans e)⟩
theorem yE (hc:X.calm=true):lY X (.type "dict") (fun xs H Q=>∃ L ys kvs,xs=[.ref L]/\H L=some (.lst ys)/\F9 X.K H ys kvs/\(kvs.map (·.1)).Nodup/\kvs.length<=sizeLine/\∀ l,H l=none->Q (.ref l) (upd H l (.dK kvs))):=by
 intro pins s σ H xs us Q I r h
 obtain⟨L,ys,kvs,rfl,hL,hp,nd,hz,q⟩:=h
 obtain⟨u,rfl,rx⟩:=vals1 r
 cases rx
 refine callType_codes (Q₁:=fun obj s₁=>obj=.ref s.heap.objs.size/\s₁={ s with heap:=s.heap.push { cls:=.type "dict",data:=.dict #[]}}) F.kt_called_dict (F.kt_typeCall_dict_1 _) F.entry_dict_init (kt_code_dict_new _ ⟨rfl,rfl⟩) ?_
 rintro obj s₁ ⟨rfl,rfl⟩
 have EF:(s.heap.push { cls:=.type "dict",data:=.dict #[]}).DictOf (cz X.prog X.w) s.heap.objs.size []:=Heap.DictOf.new s.heap
 have hn:=I.bh.fresh (aac _)
 have I1:L2.Inv X pins σ (upd H s.heap.objs.size (.dK [])) { s with heap:=s.heap.push { cls:=.type "dict",data:=.dict #[]}}:=I.laid (a:=s.heap.objs.size) (o:=.dK []) (t':=s.toks) (fun _ _ q=>Vf _ q) (aac _) (Ag s.heap I.big)
 refine⟨EF.typeIs,F.args_dict_init_2 _ _,?_⟩
 unfold Builtin.«dict.__init__»
 refine wpAny_bind ?_
 unfold Builtin.Dict.selfAndRest
 refine wpAny_bind (wpAny_notOrdered_dict EF.typeIs ?_)
 show wpAny _ _ (pure (s.heap.objs.size,[Value.ref L])) _ _ _
 refine wpAny_pure ?_
 show wpAny _ _ (Builtin.Dict.updateFrom "dict.__init__" s.heap.objs.size (.ref L) [] .none) _ _ _
 unfold Builtin.Dict.updateFrom
 have hdL:s.heap.objs.size≠L:=fun e=>by rw[<- e,hn] at hL;cases hL
 have hL1:(upd H s.heap.objs.size (HO.dK [])) L=some (.lst ys):=by rw[ag (Ne.symm hdL)];exact hL
 obtain⟨Vy,aE,n,rv,eL⟩:=(show aO X.prog X.w _ _ L (.lst ys) from I1.bh L _ hL1)
 have hA:X.A.handled=none:=I.ok.hd hc
 refine wpAny_bind (wpAny_typeOf (T:="list") ⟨_,eL,rfl⟩ ?_)
 rw[if_pos (by decide)]
 refine wpAny_bind (Fe eL rfl rfl rfl (by exact hA) fun h1 TV Zb=>?_)
 rw[if_pos (by rfl)]
 have I2:L2.Inv X pins σ (upd H s.heap.objs.size (.dK [])) { s with heap:=h1,toks:=TV}:=I1.kept (t':=TV) Zb
 have eL2:h1.get? L=some { cls:=.type "list",data:=.seq aE.toArray n}:=Zb _ _ eL
 refine wpAny_bind (wpAny_rule (wpAny_bind (wpAny_pyIter_list (s:={ s with heap:=h1,toks:=TV}) (items:=aE.toArray) ⟨_,eL2,rfl,n,rfl⟩ ?_)))
 have I3:L2.Inv X pins σ (upd H s.heap.objs.size (.dK [])) { s with heap:=h1.push { cls:=.type "list_iterator",data:=.fields #[.ref L,.int 0 0]},toks:=TV}:=I2.kept (t':=TV) fun b o e=>Vf _ e
 have hsz:s.heap.objs.size < h1.objs.size:=I2.bh.lt ak
 have hlo:s.heap.objs.size<=h1.objs.size:=aa5 hsz
 have W2:H h1.objs.size=none:=by
   have:=I2.bh.fresh (aac h1.objs.size)
   rw[ag (abk hsz)] at this
   exact this
 refine wpAny_pure ⟨plainId_quiet ja _,HM (kvs:=kvs) (by exact hA) (.of hL) hp nd hn (I2.rq (b:=h1.objs.size) (aac _) W2) (aap hsz) hz (fun s' I'=>⟨rfl,.ref _,_,I',rfl,q _ hn⟩) kvs.length 0 _ _ (by omega) (by omega) I3 ⟨_,aai _ rfl,rfl,rfl⟩⟩
end
section
variable {X:Cx}{G:Gr}{dl:List Slot}{a:Expr}{pos p:Pos}{kds:List (Key×Dt)}
noncomputable def Kv (kd:Key×Dt):Dt:=.tup [kD kd.1,kd.2]
theorem HN {K:W.Frag}{Hf H:Hp}(sm:aC Hf H):∀ {ys:List V} {kds:List (Key×Dt)},aM K Hf ys (kds.map Kv)->∃ kvs,F9 K H ys kvs/\cA K Hf kvs kds
 | _,[],.nil=>⟨[],.nil,.nil⟩
 | _,(k,d)::kds,.cons r t=>by
   obtain⟨kvs,h1,h2⟩:=HN sm t
   cases r with
   | @tup a vs _ hs rp=>
     cases rp with
     | @cons v1 _ _ _ r1 r2=>cases r2 with
       | @cons v2 _ _ _ r2 r3=>
         cases r3
         have e1:v1=kV k:=by
           cases k with
           | inl i=>cases r1;rfl
           | inr x=>cases r1;rfl
         subst e1
         exact⟨(k,v2)::kvs,.cons (fj sm hs) h1,.cons r2 h2⟩
theorem cA.keys {K:W.Frag}{H:Hp}:∀ {v:List (Key×V)} {d:List (Key×Dt)},cA K H v d->v.map (·.1)=d.map (·.1)
 | _,_,.nil=>rfl
 | _,_,.cons _ r=>by rw[aao,aao,cA.keys r]
theorem l8 (hm:X.mg "dict"=none)(hc:X.calm=true)(ha:EE X G dl a (.lst (kds.map Kv)))(nd:(kds.map (·.1)).Nodup)(hz:kds.length<=sizeLine)(hg:Gl X "dict":=by rfl)(he:starEach [a] X.env=[(false,eval a X.env)]:=by rfl):EO X G dl (.Call (.Name "dict" p) [a] [] pos) (.cV kds):=
 hV (rD (yE hc) hg hm boot_dict (ae ha ai he) (he:=he)) fun st H Q zq=>aaa zq fun Hf zq=>have S:=zq.1;have k:=zq.2;⟨Hf,S,fun vs Hf1 H1 g1 r1=>by
   cases r1 with
   | cons r t=>cases t;cases r with
     | @lst q vs _ z r=>
       obtain⟨kvs,h1,h2⟩:=HN g1.sub r
       exact⟨q,vs,kvs,rfl,g1.sub _ _ z,h1,by rw[h2.keys];exact nd,by rw[h2.length];exact hz,fun l hl=>k l Hf1 _ (g1.trans (.d8 g1.sub hl)) (g1.big.free hl) (g1.sub.free hl) ⟨kvs,ak,h2⟩⟩⟩
theorem Ff:Rv X "str.count" (fun x vs H Q=>∃ z y:Str,x=.str z/\vs=[.str y]/\Q (.int (Txt.count z y)) H):=by
 intro pins s σ H x vs v us Q I rx rv ⟨z,y,e1,e2,q⟩
 subst e1 e2
 obtain⟨t,rfl⟩:=(show ∃ t,v=Value.str z t from rx)
 obtain⟨u,rfl,ru⟩:=vals1 rv
 obtain⟨t',rfl⟩:=(show ∃ t,u=Value.str y t from ru)
 exact PySem.SC.count ⟨.int (Txt.count z y),H,I.tok _,⟨_,rfl⟩,q⟩
end
section
inductive HP:List (Key×Value)->List (Key×Value)->Prop
 | nil:HP [] []
 | cons {k:Key} {i:Int} {t u:Tok} {xs ys:List (Key×Value)}:HP xs ys->HP ((k,.int i t)::xs) ((k,.int i u)::ys)
end
theorem va {H:Hp}{q:Addr}{o:HO}(h:H q=some o):upd H q o=H:=by
 funext b
 by_cases e:b=q
 . subst e;rw[ak,h]
 . rw[ag e]
section
variable {X:Cx}{G:Gr}{dl:List Slot}{a b:Expr}{x:Str}{apos bN:Pos}{kds:List (Key×Dt)}
noncomputable def dI (kds:List (Key×Int)):List (Key×Dt):=kds.map fun kd=>(kd.1,Dt.int kd.2)
theorem Ly {K:W.Frag}{H:Hp}:∀ {kds:List (Key×Int)} {kvs:List (Key×V)},cA K H kvs (dI kds)->kvs=kds.map fun kd=>(kd.1,V.int kd.2)
 | [],_,.nil=>rfl
 | (k,i)::kds,_,.cons r t=>by
   cases r
   rw[Ly (kds:=kds) t];rfl
theorem Fg {z w:Str}(ha:EE X G dl a (.str z))(hb:EE X G dl b (.str w))(ju:attributeBase a "count" X.env (eval a X.env)=eval a X.env:=by rfl)
   (uO:((backTo bN (starEach [b] X.env)).all (fun x=>!x.1) && (backToKw bN (keywordEach [] X.env)).all (fun x=>x.1.isSome) && decide ([b].length+([]:List Keyword).length+(if ([]:List Keyword).isEmpty then 0 else 1) < 30))=true:=by rfl)
   (jv:(apos.endLine == bN.line)=true:=by rfl) (pK:starEach [b] X.env=(false,eval b X.env)::starEach [] X.env:=by rfl):EE X G dl (.Call (.Attribute a "count" apos) [b] [] bN) (.int (Txt.count z w)):=
 hV (uN PySem.F.plainAttrs_str PySem.F.slot_str_count PySem.F.type_str_count Ff ha (ae hb ai pK) ju uO jv pK rfl) fun st H Q zq=>aaa zq fun Hf zq=>have S:=zq.1;have k:=zq.2;⟨Hf,S,fun v Hf1 H1 g1 r1=>by
   cases r1
   exact⟨rfl,Hf1,S.grow g1,fun vs bD H2 g2 r2=>by
     cases r2 with
     | cons r t=>cases t;cases r;exact⟨z,w,rfl,rfl,k _ bD H2 (g1.trans g2) (.int _)⟩⟩⟩
end
structure yF (X:Cx)(N:List Str)(xt:Str)(ix:List Nat)(sc:Scope):Prop where
 nd:N.Nodup
 nm:N=xt::ix.map (fun j=>X.N.getD j "")
 kind:sc.kind=.function
 one:sc.names.filter (fun y=>y.2 == .cell)=[(xt,.cell)]
 names:∀ y∈sc.names,y.2=.local->sc.names.lookup y.1=some .local
 hx:sc.names.lookup xt=some .cell
 N5:∀ y∈sc.names,y.2=.free->y.1≠xt
 fr:∀ y∈sc.names,y.2=.free->X.env.kindOf y.1=some .cell\/X.env.kindOf y.1=some .free
 SU:∀ j∈ix,∃ y,X.N[j]?=some y/\sc.names.lookup y=some .free
noncomputable def k9 (X:Cx)(N:List Str)(sc:Scope)(xt:Str)(c C:Addr)(fp:List Addr)(s:Shared)(H:Hp):Cx:=
 { X with N:=N,s₀:=s,H₀:=H,env:=compEnvC sc ((xt,c)::k8 sc X.env) C X.env,outer:=X.stack,stack:=X.stack,ex:=fp,fn:=fun y=>y == xt,pn:=[],xe:=wu}
theorem DF:∀ {names:List (Str×NameKind)} {acc:List (Str×Addr)} {n:Nat} {h:Heap},names.filter (fun y=>y.2 == .cell)=[]->cellsFrom n names acc=acc/\pushCells h names=h
 | [],_,_,_,_=>⟨rfl,rfl⟩
 | (y,k)::r,acc,n,h,e=>by
   by_cases hk:(k == NameKind.cell)=true
   . rw[abE (by exact hk)] at e;cases e
   . rw[abD (by exact hk)] at e
     unfold cellsFrom pushCells
     rw[if_neg hk,if_neg hk]
     exact DF e
theorem AK {x:Str}:∀ {names:List (Str×NameKind)} {acc:List (Str×Addr)} {n:Nat} {h:Heap},names.filter (fun y=>y.2 == .cell)=[(x,.cell)]->cellsFrom n names acc=(x,n)::acc/\pushCells h names=h.push { cls:=.type "cell",data:=.cell none}
 | [],_,_,_,e=>by cases e
 | (y,k)::r,acc,n,h,e=>by
   by_cases hk:(k == NameKind.cell)=true
   . rw[abE (by exact hk)] at e
     injection e with e1 e2
     cases e1
     unfold cellsFrom pushCells
     rw[if_pos hk,if_pos hk]
     exact DF e2
   . rw[abD (by exact hk)] at e
     unfold cellsFrom pushCells
     rw[if_neg hk,if_neg hk]
     exact AK e
theorem Lz {M:Model}{A:Around}{E:Value->Shared->Prop}{s:Shared}{sc:Scope}{globals:Addr}{cl:List (Str×Addr)}{qual:Str}{around:Env}{x:Str}{Q:Env->Shared->Prop}(h1:sc.names.filter (fun y=>y.2 == .cell)=[(x,.cell)])(hQ:Q { scope:=sc,locals:=s.heap.objs.size,globals:=globals,cells:=(x,s.heap.objs.size+1)::cl,qual:=qual,func:=none,code:=around.code,frame:=around.frame,builtins:=around.builtins} { s with heap:=(s.heap.push { cls:=.type "dict",data:=.dict #[]}).push { cls:=.type "cell",data:=.cell none}}):wpAny M A (newFunctionEnv sc globals cl [] qual none .none (some around)) Q E s:=by
 simp only[newFunctionEnv,Option.isSome_some,if_true]
 refine wpAny_bind (wpAny_alloc ?_)
 refine wpAny_bind (wpAny_layCells _ (fun name kind cells=>by cases hkc:kind == NameKind.cell <;> simp[hkc]) _ _ _ _ ?_)
 obtain⟨e1,e2⟩:=AK (acc:=cl) (n:=(s.heap.push { cls:=.type "dict",data:=.dict #[]}).objs.size) (h:=s.heap.push { cls:=.type "dict",data:=.dict #[]}) h1
 show wpAny M A (forIn [] PUnit.unit _ >>= _) Q E _
 rw[abV]
 refine wpAny_bind (wpAny_pure (wpAny_pure ?_))
 dsimp only
 rw[e1,e2,aaT]
 exact hQ
section
variable {X:Cx}{N:List Str}{xt:Str}{ix:List Nat}{sc:Scope}{pins:List (Addr×Obj)}{st:L2.St}{H H':Hp}{s s':Shared}{c C D:Addr}{fp:List Addr}{h1:Heap}
theorem LA (B:yF X N xt ix sc)(ok:X.Ok):closureFor sc X.env=pure (k8 sc X.env):=yp fun y hy hk=>ok.has y.1 (B.fr y hy hk)
theorem oF (B:yF X N xt ix sc)(ok:X.Ok){y:Str}{c:Addr}(h:(k8 sc X.env).lookup y=some c):X.env.cells.lookup y=some c/\(y,NameKind.free)∈sc.names:=by
 rcases qz _ _ h with⟨h1,h2⟩ | h1
 . obtain⟨c',h3⟩:=ok.has y (B.fr _ h1 rfl)
   rw[h3] at h2
   cases h2
   exact⟨h3,h1⟩
 . cases h1
theorem iY {y xt:Str}{c d:Addr}{cl:List (Str×Addr)}(h:((xt,c)::cl).lookup y=some d):(y=xt/\d=c)\/(y≠xt/\cl.lookup y=some d):=by
 rw[aaO] at h
 cases q:(y == xt) with
 | true=>rw[q] at h;exact .inl ⟨by simpa using q,(Option.some.inj h).symm⟩
 | false=>rw[q] at h;exact .inr ⟨by simpa using q,h⟩
theorem t9 (B:yF X N xt ix sc)(I:L2.Inv X pins st H s)(hC:s.heap.objs.size<=C)(hc:s.heap.objs.size<=c)(hf:∀ b∈fp,jT X pins H b)(cX:∀ b∈fp,b < s.heap.objs.size):(k9 X N sc xt c C fp s H).Ok where
 mod:=I.ok.mod
 kind:=B.kind
 glob:=I.ok.glob
 blt:=I.ok.blt
 above:=hC
 inj:=fun y z d h1 h2=>by
   have old:∀ {y:Str},(k8 sc X.env).lookup y=some c->False:=fun {y} h=>by
     obtain⟨v,q⟩:=I.cell y c (oF B I.ok h).1
     exact absurd (aak q.lt hc) (aa8 _)
   rcases iY h1 with⟨e1,e2⟩ | ⟨e1,e2⟩ <;> rcases iY h2 with⟨e3,e4⟩ | ⟨e3,e4⟩
   . rw[e1,e3]
   . rw[e2] at e4;exact(old e4).elim
   . rw[e4] at e2;exact(old e2).elim
   . exact I.ok.inj y z d (oF B I.ok e2).1 (oF B I.ok e4).1
 has:=fun y hy=>by
   have hy:(relabel sc X.env).names.lookup y=some .cell\/(relabel sc X.env).names.lookup y=some .free:=hy
   show ∃ d,((xt,c)::k8 sc X.env).lookup y=some d
   by_cases e:y=xt
   . subst e;exact⟨c,by simp[aaO]⟩
   . have nc:(y,NameKind.cell) ∉ sc.names:=fun hm=>by
       have:(y,NameKind.cell)∈sc.names.filter (fun y=>y.2 == .cell):=List.mem_filter.mpr ⟨hm,rfl⟩
       rw[B.one] at this
       have:=List.mem_singleton.mp this
       exact e (congrArg Prod.fst this)
     have:(y,NameKind.free)∈sc.names:=by
       rcases hy with hy | hy
       . obtain⟨k',h1,h2⟩:=fm hy
         rcases h2 with h2 | h2
         . subst h2;exact absurd h1 nc
         . subst h2;exact h1
       . obtain⟨k',h1,h2⟩:=fm hy
         rcases h2 with h2 | h2 <;> subst h2 <;> exact h1
     obtain⟨d,hd⟩:=jw (cells:=X.env.cells) sc.names [] (.inl this)
     refine⟨d,?_⟩
     rw[aaO,show(y == xt)=false by simpa using e]
     exact hd
 Rq:=fun y d h1 h2=>by
   rcases iY h2 with⟨_,e⟩ | ⟨e,_⟩
   . rw[e];exact hc
   . exact absurd (by have h1:(y == xt)=true:=h1;simpa using h1) e
 hd:=I.ok.hd
 frames:=I.ok.frames
 RT:=.inl rfl
 KH:=fun b hb=>⟨aap (aak (cX b hb) hC),fun y d h=>by
   rcases iY h with⟨_,e⟩ | ⟨_,e⟩
   . rw[e];exact abk (aak (cX b hb) hc)
   . exact(hf b hb).2.2.2.2.1 y d (oF B I.ok e).1⟩
 bs:=I.bs
 C1:=aav I.ok.C1 I.sz
 zU:=fun b o e hb=>by
   rcases (hf b hb).2.2.2.1 with z | z
   . exact I.ok.zU b o e z
   . exact absurd (aak (aaj e) (aav I.ok.C1 z)) (aa8 _)
 zV:=fun b hb z=>by
   rcases aau.mp (I.uC b z) with z | z
   . exact(hf b hb).2.1 z
   . exact(hf b hb).2.2.1 z
 rh:=I.stack
 M0:=I.tQ
theorem Cb (B:yF X N xt ix sc)(I:L2.Inv X pins st H s)(hf:∀ b∈fp,jT X pins H b)(cX:∀ b∈fp,b < s.heap.objs.size)(hC:C=s.heap.objs.size+1)(RV:c=s.heap.objs.size+2)(k:∀ b o,s.heap.get? b=some o->h1.get? b=some o)(hn:h1.Ns C fun _=>none)(W3:h1.IsCell c none)(hD:h1.get? s.heap.objs.size=some { cls:=.type "list",data:=.seq ([]:List Value).toArray 0}){t':Nat}:L2.Inv (k9 X N sc xt c C fp s H) [] (aah 1 none ++ frees ix st) (upd H s.heap.objs.size (.lst [])) { s with heap:=h1,toks:=t'}:=by
 have Ng:s.heap.objs.size<=C:=by rw[hC];exact abe _
 have BD:s.heap.objs.size<=c:=by rw[RV];exact abq _ _
 have fr:∀ a,s.heap.objs.size<=a->H a=none:=fun a ha=>I.bh.fresh ha
 have ok:=t9 (c:=c) B I Ng BD hf cX
 have BC:∀ y c,(k8 sc X.env).lookup y=some c->H c=none/\c < s.heap.objs.size/\∃ v,s.heap.IsCell c v:=fun y c h=>by
   have h:=(oF B I.ok h).1
   obtain⟨v,q⟩:=I.cell y c h
   exact⟨I.pf y c h,q.lt,v,q⟩
 refine⟨ok,rfl,I.bare,Un.laid k (aac _) (fr _ (aac _)),⟨_,hn,fun i y v e1 e2 e3=>?_⟩,fun y d h=>?_,?_,fun y d h=>?_,fun p hp=>absurd (show p∈([]:List (Addr×Obj)) from hp) (by simp),?_,?_⟩
 . have e1:N[i]?=some y:=e1
   cases i with
   | zero=>cases e2
   | succ i=>
     rw[B.nm,aa1,aab] at e1
     have e2:(frees ix st)[i]?=some (some v):=e2
     unfold frees at e2
     rw[aab] at e2
     cases q:ix[i]? with
     | none=>rw[q] at e1;cases e1
     | some j=>
       rw[q] at e1 e2
       obtain⟨y',Ko,G4⟩:=B.SU j (abi q)
       have Ld:=PySem.mem_of_lookup G4
       have ey:y=y':=by
         have e1:X.N.getD j ""=y:=Option.some.inj e1
         rw[WY,Ko] at e1
         exact e1.symm
       subst ey
       have e2:(st[j]?).join=some v:=Option.some.inj e2
       have SV:st[j]?=some (some v):=by
         cases q2:st[j]? with
         | none=>rw[q2] at e2;cases e2
         | some z=>rw[q2] at e2;rw[show z=some v from e2]
       have kd:=B.fr _ Ld rfl
       have nx:y≠xt:=B.N5 _ Ld rfl
       have SW:uB X.env.scope y:=by
         rcases kd with z | z
         . exact .inr (.inl z)
         . exact .inr (.inr z)
       obtain⟨m,_,hl⟩:=I.loc
       obtain⟨u,r,l⟩:=hl j y v Ko SV SW
       refine⟨u,r,.inr ?_⟩
       rcases l with⟨z,_⟩ | ⟨_,d,hd,ic⟩
       . rcases kd with z' | z' <;> rw[z] at z' <;> cases z'
       . obtain⟨d',Rr⟩:=jw (cells:=X.env.cells) sc.names [] (.inl Ld)
         have:=(oF B I.ok Rr).1
         rw[hd] at this;cases this
         obtain⟨oc,C4,EU⟩:=ic
         refine⟨?_,d,?_,oc,k _ _ C4,EU⟩
         . rcases e3 with e3 | e3 | e3
           . have e3:(relabel sc X.env).names.lookup y=some .local:=e3
             rcases mG (env:=X.env) G4 with z | z
             . exact absurd (e3.symm.trans z) (by decide)
             . exact absurd (e3.symm.trans z) (by decide)
           . exact .inl e3
           . exact .inr e3
         . show((xt,c)::k8 sc X.env).lookup y=some d
           rw[aaO,show(y == xt)=false by simpa using nx]
           exact Rr
 . rcases iY h with⟨_,e⟩ | ⟨_,e⟩
   . rw[e];exact⟨none,W3⟩
   . obtain⟨_,_,v,oc,C4,hd⟩:=BC y d e
     exact⟨v,oc,k _ _ C4,hd⟩
 . show upd H s.heap.objs.size (.lst []) C=none
   rw[ag (by rw[hC];exact abu _)]
   exact fr _ Ng
 . show upd H s.heap.objs.size (.lst []) d=none
   rcases iY h with⟨_,e⟩ | ⟨_,e⟩
   . rw[e,ag (by rw[RV];exact abk (Nat.lt_add_of_pos_right (by decide)))]
     exact fr _ BD
   . obtain⟨q1,q2,_⟩:=BC y d e
     rw[ag (aap q2)]
     exact q1
 . exact I.bh.laid k (aac _) ⟨aaQ _,[],0,.nil,hD⟩
 . show(aah 1 none ++ frees ix st).length=N.length
   rw[B.nm]
   unfold frees
   simp
theorem HQ {elt iter tg:Expr}{ifs:List Expr}{pos:Pos}{g:TG}{tt:TT}{te:TE}{J:It}{it:Addr}{tj:Nat->Heap->Prop}{Q:Addr->List V->Hp->Prop}{RR:Value->Addr->Result->Shared->Prop}{E:Value->Shared->Prop}(hc:X.calm=true)(B:yF X N xt ix sc)(hg:∀ c C fp s H,PG (k9 X N sc xt c C fp s H) tg g)(ht:∀ c C fp s H,Nj (k9 X N sc xt c C fp s H) ifs tt)(jD:∀ c C fp s H,PE (k9 X N sc xt c C fp s H) elt te)(I:L2.Inv X pins st H s)(T:Turn X.prog X.w X.K tg J fp it tj)(h0:tj 0 s.heap)(hf:∀ b∈fp,jT X pins H b)(hq:∀ D,H D=none->Dx 1 g tt te (frees ix st) J D (Q D) H)(SY:∀ D C ys H' s',L2.Inv X pins st H' s'->(∃ m,s'.heap.Ns C m)->jT X pins H' C->Q D ys H'->RR (.ref D) C (.ok .next) s'):wpAny (model X.prog X.w) X.A (newList []) (fun acc s3=>wpAny (model X.prog X.w) X.A (newFunctionEnv sc X.env.globals (k8 sc X.env) [] X.env.qual none .none (some X.env)) (fun Ao s4=>codeAny (model X.prog X.w) X.A (.compStart (.ListComp elt [⟨tg,iter,ifs,0⟩] sc pos) 0 (.ref it) acc { Ao with scope:=relabel sc X.env}) (RR acc Ao.locals) s4) E s3) E s:=by
 have cX:∀ b∈fp,b < s.heap.objs.size:=fun b hb=>by
   obtain⟨o,e,_⟩:=T.obj _ _ h0 b hb
   exact aaj e
 refine wpAny_newObj_type (Lz B.one ?_)
 dsimp only
 generalize hG:s.heap.push { cls:=.type "list",dict:=none,data:=.seq ([]:List Value).toArray}=g'
 generalize Vz:(g'.push { cls:=.type "dict",data:=.dict #[]}).push { cls:=.type "cell",data:=.cell none}=h1
 have hC:g'.objs.size=s.heap.objs.size+1:=by rw[<- hG,aaT]
 have Vh:s.heap.objs.size≠g'.objs.size:=by rw[hC];exact aap (abg _)
 have old:∀ b o,s.heap.get? b=some o->h1.get? b=some o:=fun b o e=>by
   rw[<- Vz,<- hG]
   exact Vf _ (Vf _ (Vf _ e))
 have G5:h1.get? s.heap.objs.size=some { cls:=.type "list",data:=.seq ([]:List Value).toArray 0}:=by
   rw[<- Vz,<- hG]
   exact Vf _ (Vf _ (aai _ rfl))
 have F6:h1.Ns g'.objs.size fun _=>none:=by
   rw[<- Vz]
   exact(Heap.Ns.new g' (.type "dict")).keeps fun b o e=>Vf _ e
 have W3:h1.IsCell (g'.objs.size+1) none:=by
   rw[<- Vz]
   have e:g'.objs.size+1=(g'.push { cls:=.type "dict",data:=.dict #[]}).objs.size:=by rw[aaT]
   rw[e]
   exact⟨_,aai _ rfl,rfl⟩
 have hD:H s.heap.objs.size=none:=I.bh.fresh (aac _)
 obtain⟨W,⟨m0,w0⟩,turn⟩:=hq _ hD
 have I0:=Cb (t':=s.toks) B I hf cX hC (show g'.objs.size+1=s.heap.objs.size+2 by rw[hC]) old F6 W3 G5
 have Nh:tj 0 h1:=T.keep _ _ _ h0 fun b _ o e=>old b o e
 have nM:s.heap.objs.size<=g'.objs.size:=by rw[hC];exact abe _
 have pL:∀ {H':Hp},(∀ b∈fp,H' b=none)->∀ b∈fp,jT (k9 X N sc xt (g'.objs.size+1) g'.objs.size fp s H) [] H' b:=fun {H'} hn b hb=>
   ⟨hn b hb,((t9 B I nM (aav nM (abe _)) hf cX).KH b hb).1,(t9 B I nM (aav nM (abe _)) hf cX).zV b hb,.inl hb,((t9 B I nM (aav nM (abe _)) hf cX).KH b hb).2,fun p hp=>absurd (show p∈([]:List (Addr×Obj)) from hp) (by simp)⟩
 have loop:∀ s3:Shared,s3={ s with heap:=h1} ->
     codeAny (model X.prog X.w) X.A (.compLoop (.ListComp elt [⟨tg,iter,ifs,0⟩] sc pos) 0 (.ref it) (.ref s.heap.objs.size) (compEnvC sc ((xt,g'.objs.size+1)::k8 sc X.env) g'.objs.size X.env)) (RR (.ref s.heap.objs.size) g'.objs.size) s3:=by
   rintro s3 rfl
   refine Ay (fun n s'=>∃ i ys σ H',σ.length=1/\L2.Inv (k9 X N sc xt (g'.objs.size+1) g'.objs.size fp s H) [] (σ ++ frees ix st) H' s'/\tj i s'.heap/\(∀ b∈fp,H' b=none)/\W i n ys H') ?_ m0
     ⟨0,[],aah 1 none,_,by simp,I0,Nh,fun b hb=>?_,w0⟩
   . rintro n s5 ⟨i,ys,σ,H5,hσ,I5,F5,Kl,w5⟩
     rcases turn i n ys H5 w5 with⟨stop,qn⟩ | ⟨go,hz,step⟩
     . refine bM (T.done (k9 X N sc xt (g'.objs.size+1) g'.objs.size fp s H) rfl rfl rfl hc i [] s5 _ H5 wu I5 (pL Kl) F5 stop) fun r s6 ⟨hr,I6⟩=>?_
       subst hr
       refine SY _ _ ys H5 s6 ?_ ?_ (I.rq nM I6.free) qn
       . exact I.Gm I6.os I6.base I6.bh I6.bare fun b hb=>⟨(hf b hb).2.2.2.1,(hf b hb).2.1,(hf b hb).2.2.2.2.1,(hf b hb).2.2.2.2.2⟩
       . obtain⟨m,hm,_⟩:=I6.loc
         exact⟨m,hm⟩
     . refine bM (T.item (k9 X N sc xt (g'.objs.size+1) g'.objs.size fp s H) rfl rfl rfl hc i [] s5 _ H5 wu I5 (pL Kl) F5 go) fun r s6 ⟨u,hr,h6⟩=>?_
       subst hr
       refine bM h6 fun _ s7 ⟨v,H7,I7,r7,y7,G6,S5⟩=>?_
       have S6:=I7.pinned (pL S5) (T.obj _ _ G6)
       refine bM (hg (g'.objs.size+1) g'.objs.size fp s H _ s7 _ H7 v u _ S6 r7 (step σ hσ v H7 y7)) fun _ s8 h8=>?_
       obtain⟨σ8,H8,I8,σ',e8,Tn,h8⟩:=h8
       subst e8
       have pinned:∀ {σ9:L2.St} {H9:Hp} {s9:Shared},L2.Inv (k9 X N sc xt (g'.objs.size+1) g'.objs.size fp s H) ([] ++ rA fp s7.heap) σ9 H9 s9->tj (i+1) s9.heap/\∀ b∈fp,H9 b=none:=fun {σ9 H9 s9} I9=>by
         refine⟨T.keep _ _ _ G6 fun b hb o e=>(I9.pin (b,o) (aaq _ (aaq _ (fi hb e)))).1,fun b hb=>?_⟩
         obtain⟨o,e,d⟩:=T.obj _ _ G6 b hb
         exact(I9.pin (b,o) (aaq _ (aaq _ (fi hb e)))).2.1
       refine bM (ht (g'.objs.size+1) g'.objs.size fp s H _ s8 _ H8 _ I8 h8) fun ok WL Li=>?_
       obtain⟨WM,Lj,Li⟩:=Li
       cases ok with
       | false=>
         obtain⟨m',hm,w8⟩:=Li
         exact⟨m',hm,i+1,ys,σ',_,Tn,Lj.jr (pins:=[]),(pinned Lj).1,(pinned Lj).2,w8⟩
       | true=>
         refine bM (jD (g'.objs.size+1) g'.objs.size fp s H _ WL _ WM _ Lj Li) fun z s9 ⟨y,H9,I9,r9,S9,m',hm,w9⟩=>?_
         refine bM (om _ s9 _ H9 (.ref s.heap.objs.size) [y] (.ref s.heap.objs.size) [z] (fun _ H'=>H'=upd H9 s.heap.objs.size (.lst (ys ++ [y]))) I9 rfl (.cons r9 .nil) ⟨_,ys,y,rfl,rfl,S9,hz,rfl⟩) fun _ YN Ta=>?_
         obtain⟨_,YO,G7,_,rfl⟩:=Ta
         exact⟨m',hm,i+1,ys ++ [y],σ',_,Tn,G7.jr (pins:=[]),(pinned G7).1,(pinned G7).2,w9⟩
   . rw[ag (aap (cX b hb))]
     exact(hf b hb).1
 exact codeAny_compStart_list (loop _ rfl) (T.self _ 0 _ _ _ Nh (loop _ rfl))
theorem vb {env:Env}{y:Str}:∀ {names:List (Str×NameKind)},names.lookup y=some .cell->(names.map fun(n,k)=>if (k == NameKind.free && env.scope.kind == .function && env.kindOf n == some .cell) then (n,NameKind.cell) else (n,k)).lookup y=some .cell
 | [],h=>by simp at h
 | (n,kk)::r,h=>by
   rw[aao,aaO]
   rw[aaO] at h
   cases q:(y == n) with
   | true=>
     rw[q] at h
     have:kk=.cell:=Option.some.inj h
     subst this
     simp[q]
   | false=>
     rw[q] at h
     have ih:=vb (env:=env) h
     by_cases hc:(kk == NameKind.free && env.scope.kind == .function && env.kindOf n == some .cell)=true
     . simp only[hc,if_true,q];exact ih
     . simp only[hc,abh,if_false,q];exact ih
end
section
variable {X:Cx}{G:Gr}{dl:List Slot}{a b elt iter tg:Expr}{ifs:List Expr}{pos px:Pos}{o:Out}{xt:Str}{N:List Str}{ix:List Nat}{sc:Scope}
variable {α:Type}{as:List α}{z f:α->Dt}{sl:α->List Slot}{keep:α->Bool}{g:TG}{wi:TI}
inductive yG (X:Cx)(N:List Str)(xt:Str)(sc:Scope)(dl:List Slot)(ix:List Nat)(as:List α)(sl:α->List Slot)(keep:α->Bool):List Expr->Prop
 | nil:(∀ a∈as,keep a=true)->yG X N xt sc dl ix as sl keep []
 | one {ce:Expr}:(∀ a∈as,∀ c C fp s H G',EB (k9 X N sc xt c C fp s H) G' (sl a ++ iS dl ix) ce (keep a))->yG X N xt sc dl ix as sl keep [ce]
theorem LB (h:yG X N xt sc dl ix as sl keep ifs):∀ c C fp s H,Nj (k9 X N sc xt c C fp s H) ifs (Lk X.K dl ix as sl keep):=fun c C fp s H=>by
 cases h with
 | nil h=>exact fun pins s' st H' Q I ⟨a,G',ha,Hf,S,k⟩=>wpAny_tests_nil ⟨H',I,by have:=k Hf H' (.refl S.sub);rw[h a ha] at this;exact this⟩
 | one h=>exact Dw fun pins s' st H' Q I ⟨a,G',ha,q⟩=>h a ha c C fp s H G' pins s' st H' Q I q
def TX (X:Cx)(N:List Str)(xt:Str)(sc:Scope)(dl:List Slot)(ix:List Nat)(as:List α)(sl:α->List Slot)(keep:α->Bool)(f:α->Dt)(elt:Expr):Prop:=∀ a∈as,keep a=true->∀ c C fp s H G',EE (k9 X N sc xt c C fp s H) G' (sl a ++ iS dl ix) elt (f a)
theorem PD (h:TX X N xt sc dl ix as sl keep f elt):∀ c C fp s H,PE (k9 X N sc xt c C fp s H) elt (Ll X.K dl ix as sl keep f):=fun c C fp s H pins s' st H' Q I ⟨a,G',ha,hk,q⟩=>h a ha hk c C fp s H G' pins s' st H' Q I q
theorem PF {tt:TT}{te:TE}(hc:X.calm=true)(B:yF X N xt ix sc)(hi:PI X tg iter wi)(hg:∀ c C fp s H,PG (k9 X N sc xt c C fp s H) tg g)(ht:∀ c C fp s H,Nj (k9 X N sc xt c C fp s H) ifs tt)(jD:∀ c C fp s H,PE (k9 X N sc xt c C fp s H) elt te)(hs:∀ z,foldedSetIterable iter X.env z=pure z):PE X (.ListComp elt [⟨tg,iter,ifs,0⟩] sc pos) (Lm wi 1 ix g tt te):=by
 intro pins s st H Q I h
 rw[eval_ListComp]
 refine wpAny_comprehension_free (use:=none) rfl hs (LA B I.ok) B.kind B.names (bM (hi pins s st H _ I h) fun v s1 h1=>bM h1 fun Ol s2 h2=>?_)
 obtain⟨it,fp,tj,J,H2,e,I2,T,F4,f2,hq⟩:=h2
 subst e
 refine HQ (RR:=fun acc C=>compPost (model X.prog X.w) X.A X.xe none (EP X pins st Q) acc C) hc B hg ht jD I2 T F4 f2 hq ?_
 intro D C ws H' s' I' ⟨m,hn⟩ o5 q
 exact⟨m,hn,fun h' Lg=>⟨.ref D,H',I'.turned (t':=s'.toks) (it:=C) (fun b o hb e=>(Lg.2 b hb).trans e) o5.1 o5.2.1 o5.2.2.2.1 o5.2.2.2.2.1 o5.2.2.2.2.2,rfl,q⟩⟩
theorem PH (as:List α)(z f:α->Dt)(sl:α->List Slot)(keep:α->Bool)(hc:X.calm=true)(B:yF X N xt ix sc)(hi:PI X tg iter wi)(hg:∀ c C fp s H,PG (k9 X N sc xt c C fp s H) tg g)(uZ:qC X G dl (as.map z) wi)(Hm:∀ a∈as,Pa X.K 1 g (z a) (sl a))(Hn:yG X N xt sc dl ix as sl keep ifs)(jD:TX X N xt sc dl ix as sl keep f elt)(hn:as.length<=sizeLine)(hs:∀ z,foldedSetIterable iter X.env z=pure z:=by intro _;rfl):EO X G dl (.ListComp elt [⟨tg,iter,ifs,0⟩] sc pos) (.lst ((as.filter keep).map f)):=hV (PF hc B hi hg (LB Hn) (PD jD) hs) (rP uZ Hm hn)
theorem HR {px:Pos}(B:yF X N xt ix sc):∀ c C fp s H,PG (k9 X N sc xt c C fp s H) (.Name xt px) (lX 0):=fun c C fp s H=>by
 have hN:(k9 X N sc xt c C fp s H).N[0]?=some xt:=by
   show N[0]?=some xt
   rw[B.nm];rfl
 have Kq:(k9 X N sc xt c C fp s H).env.scope.names.lookup xt=some .cell:=vb B.hx
 exact bX (X:=k9 X N sc xt c C fp s H) B.nd hN (.inr Kq) (.inl (by show(xt == xt)=true;simp))
end
noncomputable def HS (sc Ax:Scope)(XN N:List Str)(xt:Str)(ix:List Nat):Bool:=
 decide N.Nodup && (decide (N=xt::ix.map (fun j=>XN.getD j "")) && (decide (sc.kind=.function) && (decide (sc.names.filter (fun y=>y.2 == .cell)=[(xt,.cell)]) && (sc.names.all (fun y=>decide (y.2=.local->sc.names.lookup y.1=some .local)) && (decide (sc.names.lookup xt=some .cell) && (sc.names.all (fun y=>decide (y.2=.free->y.1≠xt)) &&
   (sc.names.all (fun y=>decide (y.2=.free->Ax.names.lookup y.1=some .cell\/Ax.names.lookup y.1=some .free)) && ix.all (fun j=>decide (sc.names.lookup (XN.getD j "")=some .free) && decide (j < XN.length)))))))))
theorem Nr {X:Cx}{sc Ax:Scope}{XN N:List Str}{xt:Str}{ix:List Nat}(h:HS sc Ax XN N xt ix=true)(e1:X.env.scope=Ax:=by rfl)(e2:X.N=XN:=by rfl):yF X N xt ix sc:=by
 subst e1 e2
 unfold HS at h
 simp only[aaN,abL,decide_eq_true_eq] at h
 obtain⟨h1,h2,h3,h4,h5,h6,h6',h7,h8⟩:=h
 refine⟨h1,h2,h3,h4,h5,h6,h6',h7,fun j hj=>?_⟩
 obtain⟨q1,q2⟩:=h8 j hj
 refine⟨X.N.getD j "",?_,q1⟩
 rw[WY,k3 q2];rfl
noncomputable def mk:HO->Bool
 | .memo _=>true
 | .bo _ _=>true
 | _=>false
theorem Rd.ex {H:Hp}{a C dx:Addr}{fs:List (Str×V)}(h:Rd H a (.ins C dx fs)):∃ o,H a=some o/\mk o=false/\(∀ x,o≠.dK x)/\∀ H':Hp,H' a=some o->Rd H' a (.ins C dx fs):=by
 rcases h with h | ⟨o,h⟩ | ⟨tg,o,kvs,h,z⟩ | ⟨o,h⟩
 . exact⟨_,h,rfl,(fun _ z=>nomatch z),fun H' e=>.inl e⟩
 . exact⟨_,h,rfl,(fun _ z=>nomatch z),fun H' e=>.inr (.inl ⟨o,e⟩)⟩
 . cases z
 . exact⟨_,h,rfl,(fun _ z=>nomatch z),fun H' e=>.inr (.inr (.inr ⟨o,e⟩))⟩
theorem bO.Zc {H:Hp}{a:Addr}{ls:iR}(h:bO H a ls):∃ o,H a=some o/\mk o=true:=by
 rcases h with h | ⟨ns,h⟩
 . exact⟨_,h,rfl⟩
 . exact⟨_,h,rfl⟩
theorem bO.inj {H:Hp}{a:Addr}{ls ls':iR}(h:bO H a ls)(h':bO H a ls'):ls=ls':=by
 rcases h with h | ⟨ns,h⟩ <;> rcases h' with h' | ⟨ns',h'⟩ <;> rw[h] at h' <;> cases h' <;> rfl
section
variable {K:W.Frag}{Hf H:Hp}{a:Addr}{ls:iR}{u:HO}
theorem LC (hm:bO Hf a ls){b:Addr}{o:HO}(h:Hf b=some o)(n:mk o=false):b≠a:=fun e=>by
 obtain⟨o',h1,h2⟩:=hm.Zc
 rw[e,h1] at h;cases h
 rw[h2] at n;cases n
theorem aW (hm:bO Hf a ls){b:Addr}{o:HO}(h:Hf b=some o)(n:mk o=false):(upd Hf a u) b=some o:=by rw[ag (LC hm h n)];exact h
theorem qD (hm:bO Hf a ls)(hu:mk u=true):Kp Hf (upd Hf a u):=⟨fun b o e kq=>aW hm e (by cases o <;> first | rfl | exact(show False from kq).elim),fun b e=>by
 by_cases q:b=a
 . rw[q,ak]
   cases u <;> first | trivial | cases hu
 . rw[ag q];exact e,fun b x e=>aW hm e rfl⟩
def l9 (ls:iR)(u:HO):Prop:=u=.memo ls\/∃ ns,u=.bo ls ns
theorem l9.mk {ls:iR}{u:HO}(h:l9 ls u):mk u=true:=by rcases h with rfl | ⟨ns,rfl⟩ <;> rfl
theorem Fh (hm:bO Hf a ls)(hu:l9 ls u){b:Addr}{ls':iR}(h:bO Hf b ls'):bO (upd Hf a u) b ls':=by
 by_cases e:b=a
 . subst e
   rw[h.inj hm]
   rcases hu with rfl | ⟨ns,rfl⟩
   . exact .inl ak
   . exact .inr ⟨ns,ak⟩
 . rcases h with h | ⟨ns,h⟩
   . exact .inl (by rw[ag e];exact h)
   . exact .inr ⟨ns,by rw[ag e];exact h⟩
theorem mJ (hm:bO Hf a ls)(hu:l9 ls u){p:Addr}{f:Nat->List (Key×FD)}{n:Nat}(h:Known Hf p f n):Known (upd Hf a u) p f n:=fun i hi=>let ⟨q,o,kvs,h1,h2⟩:=h i hi;⟨q,o,kvs,aW hm h1 rfl,h2.kp (qD hm hu.mk)⟩
theorem PJ (hm:bO Hf a ls){b:Addr}{vs:List V}(s:BF K Hf b vs):BF K (upd Hf a u) b vs:=by
 rcases s with s | s
 . exact .inl (aW hm s rfl)
 . exact .inr s
theorem HU (hm:bO Hf a ls){b C dx:Addr}{fs:List (Str×V)}(s:Rd Hf b (.ins C dx fs)):Rd (upd Hf a u) b (.ins C dx fs):=by
 rcases s with s | ⟨o,s⟩ | ⟨_,_,_,_,s⟩ | ⟨o,s⟩
 . exact .inl (aW hm s rfl)
 . exact .inr (.inl ⟨o,aW hm s rfl⟩)
 . cases s
 . exact .inr (.inr (.inr ⟨o,aW hm s rfl⟩))
theorem PK (hm:bO Hf a ls){b:Addr}{vs:List V}(s:lS K Hf b vs):lS K (upd Hf a u) b vs:=by
 rcases s with(s | ⟨o,s⟩ | ⟨_,_,_,_,s⟩ | ⟨o,s⟩) | s
 . exact .inl (.inl (aW hm s rfl))
 . exact .inl (.inr (.inl ⟨o,aW hm s rfl⟩))
 . cases s
 . exact .inl (.inr (.inr (.inr ⟨o,aW hm s rfl⟩)))
 . exact .inr s
mutual
noncomputable def rS (a:Addr):Dt->Bool
 | .tup ds=>HV a ds
 | .lst ds=>HV a ds
 | .cV kds=>yH a kds
 | .rF kds=>yH a kds
 | .d5 kds=>yH a kds
 | .obj _ fs=>jY a fs
 | .EM _ fs=>jY a fs
 | .memo b _ _ _=>decide (b≠a)
 | .wc _ _ _ _ _=>false
 | _=>true
noncomputable def HV (a:Addr):List Dt->Bool
 | []=>true
 | d::r=>rS a d && HV a r
noncomputable def yH (a:Addr):List (Key×Dt)->Bool
 | []=>true
 | (_,d)::r=>rS a d && yH a r
noncomputable def jY (a:Addr):List (Str×Dt)->Bool
 | []=>true
 | (_,d)::r=>rS a d && jY a r
end
mutual
theorem ik (hm:bO Hf a ls)(hu:l9 ls u):∀ {v:V} {d:Dt},rS a d=true->Rep K Hf v d->Rep K (upd Hf a u) v d
 | _,_,_,.cy=>.cy
 | _,_,_,.bl b=>.bl b
 | _,_,_,.int i=>.int i
 | _,_,_,.str x=>.str x
 | _,.tup ds,h,.tup s r=>.tup (PJ hm s) (rT hm hu (by rw[rS] at h;exact h) r)
 | _,.lst ds,h,.lst s r=>.lst (aW hm s rfl) (rT hm hu (by rw[rS] at h;exact h) r)
 | _,_,_,.oy s=>.oy (PK hm s)
 | _,.cV _,h,.cV s r=>.cV (aW hm s rfl) (oG hm hu (by rw[rS] at h;exact h) r)
 | _,.obj _ _,h,.obj s r=>.obj (HU hm s) (iZ hm hu (by rw[rS] at h;exact h) r)
 | _,_,_,.ty n=>.ty n
 | _,_,_,.cls C=>.cls C
 | _,_,_,.xo s r=>.xo (aW hm s rfl) r
 | _,.rF _,h,.rF s r=>.rF (aW hm s rfl) (oG hm hu (by rw[rS] at h;exact h) r)
 | _,.EM _ _,h,.EM s q g r=>.EM (aW hm s rfl) q (aW hm g rfl) (iZ hm hu (by rw[rS] at h;exact h) r)
 | _,.d5 _,h,.d5 s r=>.d5 (aW hm s rfl) (oG hm hu (by rw[rS] at h;exact h) r)
 | _,.memo b _ _ _,h,.memo h1 h2 h3 h4=>.memo h1 (by rw[rS] at h;rw[ag (of_decide_eq_true h)];exact h2) (h3.imp id fun z=>aW hm z rfl) (mJ hm hu h4)
 | _,_,_,.eK h1 h2 h3 h4=>.eK h1 (Fh hm hu h2) (h3.imp id fun z=>aW hm z rfl) (mJ hm hu h4)
 | _,_,_,.wq h=>.wq fun j p f z=>mJ hm hu (h j p f z)
 | _,.wc _ _ _ _ _,h,.wc _ _ _=>by rw[rS] at h;cases h
 | _,_,_,.hX s=>.hX (s.st (qD hm hu.mk).st)
 | _,_,_,.mF s=>.mF (aW hm s rfl)
theorem rT (hm:bO Hf a ls)(hu:l9 ls u):∀ {v:List V} {d:List Dt},HV a d=true->aM K Hf v d->aM K (upd Hf a u) v d
 | _,_,_,.nil=>.nil
 | _,d::ds,h,.cons r t=>by
   rw[HV,aaN] at h
   exact .cons (ik hm hu h.1 r) (rT hm hu h.2 t)
theorem oG (hm:bO Hf a ls)(hu:l9 ls u):∀ {v:List (Key×V)} {d:List (Key×Dt)},yH a d=true->cA K Hf v d->cA K (upd Hf a u) v d
 | _,_,_,.nil=>.nil
 | _,(k,d)::ds,h,.cons r t=>by
   rw[yH,aaN] at h
   exact .cons (ik hm hu h.1 r) (oG hm hu h.2 t)
theorem iZ (hm:bO Hf a ls)(hu:l9 ls u):∀ {v:List (Str×V)} {d:List (Str×Dt)},jY a d=true->aU K Hf v d->aU K (upd Hf a u) v d
 | _,_,_,.nil=>.nil
 | _,(k,d)::ds,h,.cons r t=>by
   rw[jY,aaN] at h
   exact .cons (ik hm hu h.1 r) (iZ hm hu h.2 t)
end
noncomputable def i3 (Hf H:Hp):Hp:=fun b=>match H b with
 | some (.kd tg o kvs)=>some (.kd tg o kvs)
 | some (.kx o u)=>some (.kx o u)
 | some (.tup xs)=>some (.tup xs)
 | _=>Hf b
theorem yI {b:Addr}{u:HO}(h:H b=some u)(k:Kept u):i3 Hf H b=some u:=by
 unfold i3;rw[h]
 cases u <;> first | rfl | exact(show False from k).elim
theorem DG {b:Addr}{tg:Option (Addr×Nat)}{o:Obj}{kvs:List (Key×V)}(h:H b=some (.kd tg o kvs)):i3 Hf H b=some (.kd tg o kvs):=by unfold i3;rw[h]
theorem oH (b:Addr):(∃ u,H b=some u/\Kept u/\i3 Hf H b=some u)\/i3 Hf H b=Hf b:=by
 unfold i3
 cases h:H b with
 | none=>exact .inr rfl
 | some u=>cases u <;> first | exact .inr rfl | exact .inl ⟨_,rfl,trivial,rfl⟩
theorem fH (s:aC Hf H):aC Hf (i3 Hf H):=fun b u e=>by
 rcases oH (Hf:=Hf) (H:=H) b with⟨u',h1,_,h3⟩ | h
 . rw[s _ _ e] at h1;cases h1;exact h3
 . rw[h];exact e
theorem nP (s:aC Hf H):aC (i3 Hf H) H:=fun b u e=>by
 rcases oH (Hf:=Hf) (H:=H) b with⟨u',h1,_,h3⟩ | h
 . rw[h3] at e;cases e;exact h1
 . rw[h] at e;exact s _ _ e
theorem oJ (s:aC Hf H):aV Hf H (i3 Hf H) H:=⟨aC.refl _,fH s,nP s,fun b u e=>by
 rcases oH (Hf:=Hf) (H:=H) b with⟨u',h1,h2,h3⟩ | h
 . rw[h3] at e;cases e;exact .inr (.inr h2)
 . rw[h] at e;exact .inl ⟨u,e⟩⟩
end
noncomputable def VA:FD->Dt
 | .int i=>.int i
 | .cV kds=>.d5 (dI kds)
 | d=>.hX d
noncomputable def nz (fd:List (Key×FD)):List (Key×Dt):=fd.map fun kd=>(kd.1,VA kd.2)
theorem xB {K:W.Frag}{H:Hp}:∀ (kds:List (Key×Int)),cA K H (kds.map fun kd=>(kd.1,V.int kd.2)) (dI kds)
 | []=>.nil
 | (k,i)::r=>.cons (.int i) (xB r)
theorem HW {K:W.Frag}{H:Hp}:∀ {v:V} {d:FD},Fz H v d->Rep K H v (VA d)
 | _,_,.int i=>.int i
 | _,_,.cV e=>.d5 e (xB _)
 | _,_,.lst e=>.hX (.lst e)
 | _,_,.tup e=>.hX (.tup e)
 | _,_,.obj e f=>.hX (.obj e f)
theorem ua {K:W.Frag}{H:Hp}:∀ {kvs:List (Key×V)} {fd:List (Key×FD)},rg H kvs fd->cA K H kvs (nz fd)
 | _,_,.nil=>.nil
 | _,_,.cons h t=>.cons (HW h) (ua t)
theorem Nt {K:W.Frag}{H:Hp}:∀ {v:V} {d:FD},Rep K H v (VA d)->Fz H v d
 | _,.int i,r=>by cases r;exact .int i
 | _,.lst ns,r=>by cases r with | hX h=>exact h
 | _,.tup K ns,r=>by cases r with | hX h=>exact h
 | _,.obj C fs,r=>by cases r with | hX h=>exact h
 | _,.cV kds,r=>by
   cases r with
   | @d5 a tg ob kvs _ h r=>
     rw[Ly r] at h
     exact .cV h
theorem pR {K:W.Frag}{H:Hp}:∀ {kvs:List (Key×V)} {fd:List (Key×FD)},cA K H kvs (nz fd)->rg H kvs fd
 | _,[],.nil=>.nil
 | _,(k,d)::fd,.cons h t=>.cons (Nt h) (pR t)
theorem PM {H H':Hp}(k:∀ b u,H b=some u->Kept u->H' b=some u){v:V}{d:FD}(h:Fz H v d):Fz H' v d:=h.st k
theorem fJ {H H':Hp}(k:∀ b u,H b=some u->Kept u->H' b=some u):∀ {kvs:List (Key×V)} {kds:List (Key×FD)},rg H kvs kds->rg H' kvs kds
 | _,_,.nil=>.nil
 | _,_,.cons h t=>.cons (PM k h) (fJ k t)
section
variable {X:Cx}{G:Gr}{dl:List Slot}{a b e i:Expr}{pos p:Pos}{ls:iR}{j n:Nat}{l:Addr}{f:Nat->List (Key×FD)}{ns:List Nat}
theorem LD:Ru X (fun x y H Q=>∃ (p:Addr) (k:Nat) (q:Addr) (o:Obj) (kvs:List (Key×V)),x=.ref p/\y=.int (k:Int)/\H q=some (.kd (some (p,k)) o kvs)/\k < 10000/\Q (.ref q) H):=by
 intro value slice pins s σ H x y v u Q I rx ry h hs
 obtain⟨p,k,q,o,kvs,rfl,rfl,hq,hk,kk⟩:=h
 cases rx
 obtain⟨t,rfl⟩:=ry
 obtain⟨_,_,hm⟩:=(show aO X.prog X.w H s.heap q (.kd (some (p,k)) o kvs) from I.bh q _ hq)
 obtain⟨_,aE,c,e1,e2⟩:=hm p k rfl
 have hn:=lH
 exact item_listR (items:=aE.toArray) ⟨_,e1,rfl,c,rfl⟩ (by omega) (by omega) (by rw[aaY];simpa using e2) ⟨.ref q,H,I,rfl,kk⟩ hs
theorem Cc {k:Nat}(hb:EE X G dl b (.memo l ls j n))(hi:EE X G dl i (.int (k:Int)))(hf:(ls.map (·.2))[j]?=some f)(hk:k < n)(hn:n<=1000)(hs:jU i:=by intro _ _;rfl):EE X G dl (.Subscript b i pos) (.d5 (nz (f k))):=
 hV (uM LD hb hi hs) fun st H Q zq=>aaa zq fun Hf zq=>have S:=zq.1;have kk:=zq.2;⟨Hf,S,fun v Hf1 H1 g1 r1=>⟨Hf1,S.grow g1,fun w bD H2 g2 r2=>by
   cases r2
   cases r1 with
   | @memo _ p _ _ _ f' h1 h2 h3 h4=>
     have e:f'=f:=by
       rw[aab,h1] at hf
       exact Option.some.inj hf
     subst e
     obtain⟨q,o,kvs,q1,q2⟩:=h4 k hk
     exact⟨p,k,q,o,kvs,rfl,rfl,g2.big _ _ (g1.sub _ _ q1),by omega,kk _ bD H2 (g1.trans g2) (.d5 (g2.bj _ _ q1) (ua (q2.kp (.of g2.bj))))⟩⟩⟩
theorem HX:Ru X (fun x y H Q=>∃ (a:Addr) (ls:iR) (ns:List Nat) (j:Nat) (p:Addr) (f:Nat->List (Key×FD)) (N:Nat),x=.ref p/\y=.int (-1)/\H a=some (.bo ls ns)/\ls[j]?=some (p,f)/\ns[j]?=some N/\0 < N/\∀ q o kvs,H q=some (.kd (some (p,N - 1)) o kvs)->rg H kvs (f (N - 1))->Q (.ref q) H):=by
 intro value slice pins s σ H x y v u Q I rx ry h hs
 obtain⟨a,ls,ns,j,p,f,N,rfl,rfl,ha,hj,hN,h0,kk⟩:=h
 cases rx
 obtain⟨t,rfl⟩:=ry
 obtain⟨_,_,_,_,_,h5,h6⟩:=(show aO X.prog X.w H s.heap a (.bo ls ns) from I.bh a _ ha)
 obtain⟨aE,c,e1,e2,e3⟩:=h6 j p f N hj hN
 obtain⟨q,o,kvs,q1,q2,q3⟩:=e3 (N - 1) (by omega)
 have hn:=lH
 have hN':=h5 N (abi hN)
 have hl:Heap.IsList s.heap p aE.toArray:=⟨_,e1,rfl,c,rfl⟩
 exact subscriptTail_builtinR (x:=.ref q) hl.typeIs slot_list_getitem.lookup
     (wpAny_getItem_list_neg (Q:=fun r s'=>r=.ref q/\EP X pins σ Q r s') hl (by omega) (by rw[aan] <;> omega) (by omega) (by rw[aan,e2,show((-1:Int)+(N:Nat)).toNat=N - 1 by omega];simpa using q1) ⟨rfl,.ref q,H,I,rfl,kk q o kvs q2 q3⟩) hs
theorem AL {N:Nat}(hx:G.Hf l=some (.bo ls ns))(hb:EE X G dl b (.eK l ls j n))(hi:EE X G dl i (.int (-1)))(hf:(ls.map (·.2))[j]?=some f)(hN:ns[j]?=some N)(h0:0 < N)(hs:jU i:=by intro _ _;rfl):EE X G dl (.Subscript b i pos) (.d5 (nz (f (N - 1)))):=
 hV (uM HX hb hi hs) fun st H Q zq=>aaa zq fun Hf zq=>have S:=zq.1;have kk:=zq.2;⟨Hf,S,fun v Hf1 H1 g1 r1=>⟨Hf1,S.grow g1,fun w bD H2 g2 r2=>by
   cases r2
   cases r1 with
   | @eK _ p _ _ _ f' h1 h2 h3 h4=>
     have e:f'=f:=by
       rw[aab,h1] at hf
       exact Option.some.inj hf
     subst e
     have g:=g1.trans g2
     refine⟨l,ls,ns,j,p,f',N,rfl,rfl,g.sub _ _ (g.bj _ _ (S.gr.bj _ _ hx)),h1,hN,h0,fun q o kvs q1 q2=>?_⟩
     have ga:=oJ g2.sub
     exact kk _ _ H2 (g.trans ga) (.d5 (DG q1) (ua (fJ (fun b u e kq=>yI e kq) q2)))⟩⟩
theorem Fi:lY X (.builtin "len") (fun xs H Q=>∃ (a:Addr) (ls:iR) (ns:List Nat) (j:Nat) (p:Addr) (f:Nat->List (Key×FD)) (N:Nat),xs=[.ref p]/\H a=some (.bo ls ns)/\ls[j]?=some (p,f)/\ns[j]?=some N/\Q (.int (N:Nat)) H):=by
 intro pins s σ H xs us Q I r h
 obtain⟨a,ls,ns,j,p,f,N,rfl,ha,hj,hN,q⟩:=h
 obtain⟨u,rfl,rx⟩:=vals1 r
 cases rx
 obtain⟨_,_,_,_,_,h5,h6⟩:=(show aO X.prog X.w H s.heap a (.bo ls ns) from I.bh a _ ha)
 obtain⟨aE,c,e1,e2,e3⟩:=h6 j p f N hj hN
 have hn:=lH
 have hN':=h5 N (abi hN)
 have hl:Heap.IsList s.heap p aE.toArray:=⟨_,e1,rfl,c,rfl⟩
 exact Calls.call_len_list hl (by simp only[aan] <;> omega) ⟨.int (N:Nat),H,I.tok _,⟨s.toks+1,by rw[aan,e2]⟩,q⟩
theorem DH {N:Nat}(hm:X.mg "len"=none)(hx:G.Hf l=some (.bo ls ns))(hb:EE X G dl b (.eK l ls j n))(hN:ns[j]?=some N)(hg:Gl X "len":=by rfl)(he:starEach [b] X.env=[(false,eval b X.env)]:=by rfl):EE X G dl (.Call (.Name "len" p) [b] [] pos) (.int (N:Nat)):=
 hV (hZ Fi hg hm PySem.boot_len (ae hb ai he) (he:=he)) fun st H Q zq=>aaa zq fun Hf zq=>have S:=zq.1;have kk:=zq.2;⟨Hf,S,fun vs Hf1 H1 g1 r1=>by
   cases r1 with
   | cons r t=>cases t;cases r with
     | @eK _ p _ _ _ f' h1 h2 h3 h4=>exact⟨l,ls,ns,j,p,f',N,rfl,g1.sub _ _ (g1.bj _ _ (S.gr.bj _ _ hx)),h1,hN,kk _ Hf1 H1 g1 (.int _)⟩⟩
theorem kO {d:Dt}{k:Str}{kds:List (Key×Dt)}(hu:X.A.units+1 < cLine)(ho:EE X G dl b (.d5 kds))(hi:EE X G dl i (.str k))(h:jF kds (.inr k)=some d)(hs:K4 i):EE X G dl (.Subscript b i pos) d:=
 hV (Df hu ho hi hs) fun st H Q zq=>aaa zq fun Hf zq=>have S:=zq.1;have kk:=zq.2;⟨Hf,S,fun v Hf1 H1 g1 r1=>⟨Hf1,S.grow g1,fun w bD H2 g2 r2=>by
   cases r2
   cases r1 with
   | @d5 q tg ob kvs _ hq rp=>
     obtain⟨y,z1,z2⟩:=rp.val h
     have e:sQ H2 q (kV (.inr k)) (nI kvs (.inr k)):=.inl ⟨kvs,.inr k,.inr (.inr (.inl ⟨tg,ob,kvs,g2.big _ _ (g1.sub _ _ hq),rfl⟩)),rfl,rfl⟩
     rw[z1] at e
     exact⟨q,y,rfl,e,kk y bD H2 (g1.trans g2) (z2.mono g2.bj)⟩⟩⟩
theorem Nu {kds:List (Key×Dt)}(h:EO X G dl e (.cV kds)):EE X G dl e (.d5 kds):=by
 intro pins s st H Q I ⟨Hf,S,kk⟩
 refine bM (h pins s st H (fun v H'=>∃ p aH,v=.ref p/\aV Hf H aH H'/\H p=none/\aH p=none/\gj X.K aH H' p (.cV kds)) I ⟨Hf,S,fun p aH H' g n n' r=>⟨p,aH,rfl,g,n,n',r⟩⟩) fun u s1 ⟨v,H',I1,rv,q,aH,ev,g,n,n',kvs,hq,rp⟩=>?_
 subst ev
 obtain⟨hz,lo,vs,kv,ob,es,ep,ho,hr⟩:=(show aO X.prog X.w H' s1.heap q (.dK kvs) from I1.bh q _ hq)
 have I2:L2.Inv X pins st (upd H' q (.kd none ob kvs)) s1:=mE (h':=s1.heap) (t':=s1.toks) I1 (by rw[hq];trivial) ⟨rfl,fun _ _=>rfl⟩ ⟨ob,ho⟩ ⟨ho,⟨hz,lo,vs,kv,ob,es,ep,ho,hr⟩,fun p i z=>by cases z⟩
 have sm:aC aH (upd aH q (.kd none ob kvs)):=bA n'
 refine⟨.ref q,_,I2,rv,kk _ (upd aH q (.kd none ob kvs)) _ ⟨fun b o hb=>?_,g.bj.trans sm,cK g.sub,fun b o hb=>?_⟩ (.d5 ak (rp.mono sm))⟩
 . rw[ag (au hb n)];exact g.big _ _ hb
 . by_cases e:b=q
   . subst e;exact .inr (.inl n)
   . rw[ag e] at hb;exact g.new b o hb
theorem Cd:Rv X "dict.values" (fun x xs H Q=>∃ (d:Addr) (kvs:List (Key×V)),x=.ref d/\xs=[]/\Rd H d (.dK kvs)/\∀ l,H l=none->Q (.ref l) (upd H l (.ext fun h=>h.IsValuesView l d))):=by
 intro pins s σ H x xs v us Q I rx rv ⟨d,kvs,e1,e2,hq,q⟩
 subst e1 e2
 cases rx
 cases rv
 obtain⟨hz,lo,vs,kv,hD⟩:=xp I.bh hq
 refine call_meetsIn PySem.F.slot_dict_values hD.typeIs PySem.F.entry_dict_values (PySem.F.args_dict_values_1 _) (meets_dict_values (cz X.prog X.w) d lo) ⟨⟨vs,hD⟩,?_⟩
 refine⟨.ref s.heap.objs.size,_,I.laid (a:=s.heap.objs.size) (t':=s.toks) (o:=.ext fun h=>h.IsValuesView s.heap.objs.size d) (fun b o e=>Vf _ e) (aac _) ?_,rfl,q _ (I.bh.fresh (aac _))⟩
 exact⟨⟨_,aai _ rfl,rfl,rfl⟩,⟨_,aai _ rfl⟩,fun h1 h2 ⟨ox,z1,z2⟩ kk=>⟨ox,kk _ z1,z2⟩⟩
theorem HY:∀ {kds:List (Key×Int)} {vs:List (Key×Value)} {i:Nat} {k:Key} {v:Value},KV (kds.map fun kd=>(kd.1,V.int kd.2)) vs->vs[i]?=some (k,v)->∃ t,v=.int ((kds.map (·.2)).getD i 0) t
 | [],_,_,_,_,.nil,e=>by simp at e
 | (k0,z)::kds,_,0,_,_,.cons r _,e=>by
   simp at e
   subst e
   obtain⟨_,t,q⟩:=r
   exact⟨t,q⟩
 | (k0,z)::kds,_,i+1,_,_,.cons _ t,e=>by
   obtain⟨t',q⟩:=HY (i:=i) t (by simpa using e)
   exact⟨t',by simpa using q⟩
theorem Fj (hc:X.calm=true):lY X (.builtin "sum") (fun xs H Q=>∃ (v d:Addr) (φ:Heap->Prop) (kds:List (Key×Int)),xs=[.ref v]/\H v=some (.ext φ)/\(∀ h,φ h->h.IsValuesView v d)/\Rd H d (.dK (kds.map fun kd=>(kd.1,V.int kd.2)))/\Q (.int (kds.map (·.2)).sum) H):=by
 intro pins s σ H xs us Q I r h
 obtain⟨v,d,φ,kds,rfl,hv,hφ,hq,q⟩:=h
 obtain⟨u,rfl,rx⟩:=vals1 r
 cases rx
 obtain⟨hz,lo,vs,kv,o,es,ep,ho,hr⟩:=xp I.bh hq
 have hvv:=hφ _ (I.bh v _ hv).1
 have hl:=B6 kv
 rw[Bn] at hl
 have hA:X.A.handled=none:=I.ok.hd hc
 refine call_sum_walkAnyS ?_
 have Ks:=PySem.W.kdl_values (prog:=X.prog) (w:=X.w) (knd:=cz X.prog X.w) (r:=v) (d:=d) (kvs:=vs) (ep:=ep)
 have bh:s.heap.IsValuesView v d/\s.heap.DictAt (cz X.prog X.w) d vs ep:=⟨hvv,o,es,ho,hr⟩
 obtain⟨oI,St,hit,W,st⟩:=Ks.iter X.A.in1 s hA bh
 refine hit _ _ ⟨s.heap.objs.size,_,_,_,vs.length,_,_,fun i=>(kds.map (·.2)).getD i 0,rfl,W.toS,st,fun b hb=>?_,fun i w ⟨k,hk⟩=>HY kv hk,fun s' t' hm=>?_⟩
 . show b < (s.heap.push oI).objs.size
   rw[aaT]
   rcases aau.mp hb with e | hb
   . rw[e];exact abg _
   . rw[List.mem_singleton.mp hb];exact abG (Ks.there _ bh).2
 . have hk:∀ b o,s.heap.get? b=some o->s'.heap.get? b=some o:=fun b o e=>
     hm.heap b o (fun hI=>absurd (aaj e) (by rw[List.mem_singleton.mp hI];exact aa8 _)) (Vf _ e)
   have es:preSum (fun i=>(kds.map (·.2)).getD i 0) vs.length=(kds.map (·.2)).sum:=by
     rw[rQ _ _ (by rw[Bn];omega),aa6 (by rw[Bn];omega)]
   rw[es,Moved.eq_with hm]
   exact⟨.int _,H,I.kept (t':=s'.toks) hk,⟨t',rfl⟩,q⟩
def intsOf (d:Dt)(kds:List (Key×Int)):Prop:=d=.d5 (dI kds)\/d=.cV (dI kds)
theorem LF {kds:List (Key×Int)}{d:Dt}{apos bN:Pos}(hm:X.mg "sum"=none)(hc:X.calm=true)(ha:EE X G dl a d)(hd:intsOf d kds)(hg:Gl X "sum":=by rfl)(ju:attributeBase a "values" X.env (eval a X.env)=eval a X.env:=by rfl)(jv:(apos.endLine == bN.line)=true:=by rfl)(he:starEach [.Call (.Attribute a "values" apos) [] [] bN] X.env=[(false,eval (.Call (.Attribute a "values" apos) [] [] bN) X.env)]:=by rfl):EE X G dl (.Call (.Name "sum" p) [.Call (.Attribute a "values" apos) [] [] bN] [] pos) (.int (kds.map (·.2)).sum):=
 hV (hZ (Fj hc) hg hm boot_sum (lj (GL PySem.F.plainAttrs_dict PySem.F.slot_dict_values PySem.F.type_dict_values Cd ha ju jv) nG he) (he:=he)) fun st H Q zq=>aaa zq fun Hf zq=>have S:=zq.1;have k:=zq.2;⟨Hf,S,fun v Hf1 H1 g1 r1=>by
   have key:∃ q,v=.ref q/\Rd H1 q (.dK (kds.map fun kd=>(kd.1,V.int kd.2)))/\Vb X.K "dict" v H1:=by
     rcases hd with rfl | rfl
     . cases r1 with
       | @d5 q tg ob kvs _ hq rp=>
         rw[Ly rp] at hq
         exact⟨q,rfl,.inr (.inr (.inl ⟨tg,ob,_,g1.sub _ _ hq,rfl⟩)),.inr (.inr (.inl ⟨rfl,.inr (.inr ⟨tg,ob,_,g1.sub _ _ hq⟩)⟩))⟩
     . cases r1 with
       | @cV q kvs _ hq rp=>
         rw[Ly rp] at hq
         exact⟨q,rfl,.inl (g1.sub _ _ hq),.inr (.inr (.inl ⟨rfl,.inl ⟨_,g1.sub _ _ hq⟩⟩))⟩
   obtain⟨q,rfl,hq,ty⟩:=key
   refine⟨ty,q,_,rfl,rfl,hq,fun v hv=>⟨v,q,_,kds,rfl,ak,fun h x=>x,?_,k _ Hf1 _ (g1.trans (.d8 g1.sub hv)) (.int _)⟩⟩
   exact i9 (bA hv) hq⟩
variable {pins:List (Addr×Obj)}{σ:L2.St}{H:Hp}{s:Shared}
theorem Inv.flip {u:HO}(I:L2.Inv X pins σ H s)(hm:bO H l ls)(hu:l9 ls u)(new:aO X.prog X.w (upd H l u) s.heap l u):L2.Inv X pins σ (upd H l u) s:=by
 refine I.un (h':=s.heap) (t':=s.toks) ⟨fun b o e _ _ _=>e,fun b o e _ _ _=>⟨o.slots,e⟩,fun b o e n _=>?_,fun b o e _=>⟨o,e⟩,fun b xs e=>aW hm e rfl,fun b o u e=>aW hm e rfl,fun b ps e=>⟨#[],by rw[aW hm e rfl];simp⟩⟩ fun b o e=>?_
 . rw[ag (fun z=>by obtain⟨o',h1,_⟩:=hm.Zc;rw[z,h1] at n;cases n)];exact n
 . by_cases eb:b=l
   . subst eb;rw[ak] at e;cases e;exact new
   . rw[ag eb] at e
     exact(I.bh b o e).wg (fun _ _ _ q=>q) (fun c q=>aW hm q rfl) (fun c xs q=>aW hm q rfl) (qD hm hu.mk)
theorem Inv.exact(I:L2.Inv X pins σ H s)(hm:H l=some (.memo ls)):∃ n,0 < n/\n<=10000/\L2.Inv X pins σ (upd H l (.bo ls (aah ls.length n))) s:=by
 obtain⟨ho,n,hn,q⟩:=(show aO X.prog X.w H s.heap l (.memo ls) from I.bh l _ hm)
 have hl:0 < ls.length:=by
   obtain⟨⟨f,hf⟩,_⟩:=q
   exact(aad.mp hf).1
 have h5:n<=10000:=q.2.2.2.2.1 n (by rw[List.mem_replicate];exact⟨by omega,rfl⟩)
 exact⟨n,hn,h5,Inv.flip I (.inl hm) (.inr ⟨_,rfl⟩) ⟨ho,q.kp (qD (.inl hm) rfl) fun _ _ _ e=>e⟩⟩
theorem Inv.pack {n:Nat}(I:L2.Inv X pins σ H s)(hm:H l=some (.bo ls (aah ls.length n)))(hn:0 < n):L2.Inv X pins σ (upd H l (.memo ls)) s:=by
 obtain⟨ho,q⟩:=(show aO X.prog X.w H s.heap l (.bo ls _) from I.bh l _ hm)
 exact Inv.flip I (.inr ⟨_,hm⟩) (.inl rfl) ⟨ho,n,hn,q.kp (qD (.inr ⟨_,hm⟩) rfl) fun _ _ _ e=>e⟩
theorem pS:Rv X "list.append" (fun x vs H Q=>∃ (a:Addr) (ls:iR) (ns:List Nat) (j:Nat) (p:Addr) (f:Nat->List (Key×FD)) (N:Nat) (q:Addr) (kvs:List (Key×V)),x=.ref p/\vs=[.ref q]/\H a=some (.bo ls ns)/\ls[j]?=some (p,f)/\ns[j]?=some N/\N < 9000/\H q=some (.dK kvs)/\rg H kvs (f N)/\∀ o,Q .cy (upd (upd H a (.bo ls (ns.set j (N+1)))) q (.kd (some (p,N)) o kvs))):=by
 intro pins s σ H x vs v us Q I rx rv ⟨a,ls,ns,j,p,f,N,q,kvs,e1,e2,ha,hj,hN,hN9,hq,hfz,kk⟩
 subst e1 e2
 cases (show v=Value.ref p from rx)
 obtain⟨u,rfl,ru⟩:=vals1 rv
 cases (show u=Value.ref q from ru)
 obtain⟨⟨oa,hoa⟩,⟨f0,h1⟩,h2,h3,h4,h5,h6⟩:=(show aO X.prog X.w H s.heap a (.bo ls ns) from I.bh a _ ha)
 obtain⟨aE,c,e,hlen,hit⟩:=h6 j p f N hj hN
 obtain⟨hz,lo,vs,kv,oq,es,ep,hoq,hr⟩:=(show aO X.prog X.w H s.heap q (.dK kvs) from I.bh q _ hq)
 have Ga:lG (H p):=by
   rcases h3 j p f hj with z | z
   . rw[z,ha];trivial
   . rw[z];trivial
 have VB:p≠q:=fun z=>by rw[z,hq] at Ga;exact Ga
 have haq:a≠q:=fun z=>by rw[z,hq] at ha;cases ha
 have WE:=lH
 refine call_meets PySem.F.slot_list_append ⟨_,e,rfl⟩ PySem.F.entry_list_append (PySem.F.args_list_append_2 _ _) (PySem.list_append p aE.toArray c (.ref q) (by rw[aan];exact aav (show aE.length<=10000 by omega) (by decide))) ⟨e,?_⟩
 have e':=PySem.IsL.update e (fun x=>x.push (Value.ref q))
 rw[show aE.toArray.push (Value.ref q)=(aE ++ [Value.ref q]).toArray by simp] at e'
 generalize hh':s.heap.update p (Obj.mapSeq fun x=>x.push (Value.ref q))=h' at e'
 have Ce:∀ b o,b≠p->s.heap.get? b=some o->h'.get? b=some o:=fun b o hb z=>by rw[<- hh'];exact(abF s.heap _ (Ne.symm hb)).trans z
 let H':Hp:=upd (upd H a (.bo ls (ns.set j (N+1)))) q (.kd (some (p,N)) oq kvs)
 have sU:∀ b o,H b=some o->b≠a->b≠q->H' b=some o:=fun b o z n1 n2=>by show(upd (upd H a _) q _) b=_;rw[ag n2,ag n1];exact z
 have nk:∀ b o,H b=some o->mk o=false->b≠a:=fun b o z n z'=>by rw[z',ha] at z;cases z;cases n
 have nq:∀ b o,H b=some o->(∀ x,o≠.dK x)->b≠q:=fun b o z n z'=>by rw[z',hq] at z;exact n _ (Option.some.inj z).symm
 have kp:Kp H H':=⟨fun b o z kq=>sU b _ z (nk b _ z (by cases o <;> first | rfl | exact(show False from kq).elim)) (nq b _ z fun x y=>by subst y;exact kq),fun b z=>by
   by_cases ba:b=a
   . rw[ba];show lG ((upd (upd H a _) q _) a);rw[ag haq,ak];trivial
   . have bq:b≠q:=fun z'=>by rw[z',hq] at z;exact z
     show lG ((upd (upd H a _) q _) b);rw[ag bq,ag ba];exact z,fun b x z=>sU b _ z (nk b _ z rfl) (nq b _ z fun x y=>by cases y)⟩
 have hl:∀ p' i c',lG (H p')->RP s.heap p' i c'->RP h' p' i c':=fun p' i c' _ ⟨its',n',z1,z2⟩=>by
   by_cases pp:p'=p
   . subst pp
     rw[e] at z1
     have z3:its'=aE:=by
       have:=congrArg (fun o:Option Obj=>o.map (·.data)) z1
       simp at this
       exact this.1.symm
     subst z3
     exact⟨_,_,e',by rw[aay (aad.mp z2).1];exact z2⟩
   . exact⟨its',n',Ce _ _ pp z1,z2⟩
 have Nn:RP h' p N q:=⟨_,_,e',by rw[aaz (by omega),hlen,Nat.sub_self];rfl⟩
 have fz':rg H' kvs (f N):=hfz.kp kp
 have Zd:h'.get? q=some oq:=Ce _ _ (Ne.symm VB) hoq
 have TY:∀ b,H b=none->H' b=none:=fun b n=>by
   have n1:b≠a:=fun z=>by rw[z,ha] at n;cases n
   have n2:b≠q:=fun z=>by rw[z,hq] at n;cases n
   show(upd (upd H a _) q _) b=none
   rw[ag n2,ag n1];exact n
 have Ze:∀ b,H b=none->b≠p:=fun b n z=>by rw[<- z,n] at Ga;exact Ga
 have Zf:∀ b o,s.heap.get? b=some o->∃ o',h'.get? b=some o':=fun b o z=>by
   by_cases bp:b=p
   . rw[bp];exact⟨_,e'⟩
   . exact⟨o,Ce _ _ bp z⟩
 refine⟨.cy,H',I.un (h':=h') (t':=s.toks) ⟨fun b o z n _ _=>Ce b o (Ze b n) z,fun b o z n _ _=>⟨o.slots,Ce b o (Ze b n) z⟩,fun b o _ n _=>TY b n,fun b o z _=>Zf b o z,fun b xs z=>sU b _ z (nk b _ z rfl) (nq b _ z fun x y=>by cases y),
   fun b o u z=>sU b _ z (nk b _ z rfl) (nq b _ z fun x y=>by cases y),fun b ps z=>⟨#[],by rw[sU b _ z (nk b _ z rfl) (nq b _ z fun x y=>by cases y)];simp⟩⟩ fun b u z=>?_,rfl,kk oq⟩
 by_cases bq:b=q
 . subst bq
   have z:(upd (upd H a _) b _) b=some u:=z
   rw[ak] at z;cases z
   refine⟨Zd,⟨hz,lo,vs,kv,oq,es,ep,Zd,hr⟩,fun p' i ht=>?_⟩
   cases ht
   exact⟨kp.mem _ Ga,Nn⟩
 . by_cases ba:b=a
   . subst ba
     have z:(upd (upd H b _) q _) b=some u:=z
     rw[ag bq,ak] at z;cases z
     refine⟨Zf _ _ hoa,⟨f0,h1⟩,by rw[abR];exact h2,fun j' p' f' z=>(h3 j' p' f' z).imp id fun z=>kp.part _ _ z,h4,fun n hn=>?_,fun j' p' f' n z1 z2=>?_⟩
     . obtain⟨i,hi,ei⟩:=aa4.mp hn
       rw[List.getElem_set] at ei
       split at ei
       . omega
       . rw[<- ei];exact h5 _ (aaJ _)
     . by_cases jj:j=j'
       . subst jj
         rw[hj] at z1;cases z1
         have hjl:j < ns.length:=(aad.mp hN).1
         rw[aae hjl] at z2;cases z2
         refine⟨_,_,e',by rw[aas,hlen];rfl,fun i hi=>?_⟩
         by_cases hiN:i < N
         . obtain⟨q',o',kv',w1,w2,w3⟩:=hit i hiN
           exact⟨q',o',kv',by rw[aay (by omega)];exact w1,kp.kd _ _ _ _ w2,w3.kp kp⟩
         . have:i=N:=by omega
           subst this
           exact⟨q,oq,kvs,by rw[aaz (by omega),hlen,Nat.sub_self];rfl,ak,fz'⟩
       . rw[aaf jj] at z2
         have pp:p'≠p:=fun z=>by
           subst z
           obtain⟨i1,e1⟩:=aad.mp hj
           obtain⟨i2,e2⟩:=aad.mp z1
           have pw:=aaV.mp h4
           rcases Nat.lt_or_gt_of_ne jj with lt | lt
           . have:=pw j j' (by rw[Bn];exact i1) (by rw[Bn];exact i2) lt
             rw[aaK,aaK,e1,e2] at this
             exact this rfl
           . have:=pw j' j (by rw[Bn];exact i2) (by rw[Bn];exact i1) lt
             rw[aaK,aaK,e1,e2] at this
             exact this rfl
         exact(h6 j' p' f' n z1 z2).kp kp fun u z=>Ce _ _ pp z
   . have z0:H b=some u:=by
       have z:(upd (upd H a _) q _) b=some u:=z
       rw[ag bq,ag ba] at z;exact z
     by_cases bp:b=p
     . subst bp
       rcases h3 j b f hj with z1 | z1
       . exact absurd z1 ba
       . rw[z1] at z0;cases z0
         exact⟨_,e'⟩
     . refine(I.bh b u z0).MZ (fun c' v' BD z'=>Ce c' v' ?_ z') (fun c' z'=>sU c' _ z' (nk c' _ z' rfl) (nq c' _ z' fun x y=>by cases y)) (fun c' xs z'=>sU c' _ z' (nk c' _ z' rfl) (nq c' _ z' fun x y=>by cases y)) kp hl
       rcases BD with rfl | z1 | z1
       . exact bp
       . exact fun z'=>by rw[z'] at z1;rw[z1] at Ga;exact Ga
       . intro z'
         rw[z'] at z1
         rcases h3 j p f hj with z2 | z2
         . rw[z2,ha] at z1;cases z1
         . rw[z2] at z1;cases z1;exact ba rfl
end
noncomputable def o6 (fs:List (Str×Dt))(nm:List Str)(a:Addr)(ls:iR)(n:Nat):List (Str×Dt):=fs ++ (aag nm.length).map fun j=>(nm.getD j "",.eK a ls j n)
section
variable {K:W.Frag}{Hf H:Hp}
theorem aU.split:∀ {RI Ku:List (Str×Dt)} {fv:List (Str×V)},aU K H fv (RI ++ Ku)->∃ f1 f2,fv=f1 ++ f2/\aU K H f1 RI/\aU K H f2 Ku
 | [],_,fv,r=>⟨[],fv,rfl,.nil,r⟩
 | (k,d)::RI,Ku,_,.cons h t=>by
   obtain⟨f1,f2,e,r1,r2⟩:=aU.split t
   exact⟨(k,_)::f1,f2,by rw[e];rfl,.cons h r1,r2⟩
theorem aU.join:∀ {RI Ku:List (Str×Dt)} {f1 f2:List (Str×V)},aU K H f1 RI->aU K H f2 Ku->aU K H (f1 ++ f2) (RI ++ Ku)
 | _,_,_,_,.nil,r=>r
 | _,_,_,_,.cons h t,r=>.cons h (aU.join t r)
theorem oK {nm:Nat->Str}{d d':Nat->Dt}{H':Hp}(h:∀ j v,Rep K H v (d j)->Rep K H' v (d' j)):∀ {js:List Nat} {fv:List (Str×V)},aU K H fv (js.map fun j=>(nm j,d j))->aU K H' fv (js.map fun j=>(nm j,d' j))
 | [],_,.nil=>.nil
 | j::js,_,.cons r t=>.cons (h j _ r) (oK h t)
def ub (H:Hp)(ls:iR)(n:Nat):Prop:=∀ (j:Nat) (p:Addr) (f:Nat->List (Key×FD)),ls[j]?=some (p,f)->Known H p f n
variable {fs:List (Str×Dt)}{nm:List Str}{l:Addr}{ls:iR}{n m:Nat}{fv:List (Str×V)}{u:HO}
theorem vc (hn:0 < nm.length)(r:aU K Hf fv (q9 fs nm l ls n)):Hf l=some (.memo ls):=by
 obtain⟨f1,f2,_,_,r2⟩:=aU.split r
 cases hk:nm.length with
 | zero=>omega
 | succ k=>
   rw[hk,List.range_succ_eq_map,aao] at r2
   cases r2 with
   | cons h t=>cases h with
     | memo _ h2 _ _=>exact h2
theorem TZ (hs:jY l fs=true)(hm:Hf l=some (.memo ls))(hu:l9 ls u)(r:aU K Hf fv (q9 fs nm l ls n)):aU K (upd Hf l u) fv (o6 fs nm l ls n):=by
 obtain⟨f1,f2,e,r1,r2⟩:=aU.split r
 subst e
 refine aU.join (iZ (.inl hm) hu hs r1) (oK (fun j v q=>?_) r2)
 cases q with
 | memo h1 h2 h3 h4=>exact ik (.inl hm) hu rfl (.eK h1 (.inl h2) h3 h4)
theorem Nv (hs:jY l fs=true)(hm:bO Hf l ls)(r:aU K Hf fv (o6 fs nm l ls n)):aU K (upd Hf l (.memo ls)) fv (q9 fs nm l ls n):=by
 obtain⟨f1,f2,e,r1,r2⟩:=aU.split r
 subst e
 refine aU.join (iZ hm (.inl rfl) hs r1) (oK (fun j v q=>?_) r2)
 cases q with
 | eK h1 h2 h3 h4=>exact .memo h1 ak (h3.imp id fun z=>aW hm z rfl) (mJ hm (.inl rfl) h4)
theorem AM (hk:ub Hf ls m)(r:aU K Hf fv (q9 fs nm l ls n)):aU K Hf fv (q9 fs nm l ls m):=by
 obtain⟨f1,f2,e,r1,r2⟩:=aU.split r
 subst e
 refine aU.join r1 (oK (fun j v q=>?_) r2)
 cases q with
 | memo h1 h2 h3 h4=>exact .memo h1 h2 h3 (hk _ _ _ h1)
theorem LG (hl:ls.length<=nm.length)(r:aU K Hf fv (q9 fs nm l ls n)):ub Hf ls n:=fun j p f e=>by
 obtain⟨f1,f2,_,_,r2⟩:=aU.split r
 have hj:j < nm.length:=aak (aad.mp e).1 hl
 have key:∀ {js:List Nat} {fv:List (Str×V)},aU K Hf fv (js.map fun j=>(nm.getD j "",Dt.memo l ls j n))->j∈js->Known Hf p f n:=by
   intro js
   induction js with
   | nil=>intro fv _ h;cases h
   | cons i js ih=>
     intro fv r h
     cases r with
     | cons q t=>
       rcases aau.mp h with z | z
       . subst z
         cases q with
         | memo h1 h2 h3 h4=>rw[e] at h1;cases h1;exact h4
       . exact ih t z
 exact key r2 (abp.mpr hj)
theorem PN {A B bD H2:Hp}(hA:A l=some (.memo ls))(hB:B l=some (.memo ls))(g:aV (upd A l u) (upd B l u) bD H2):aV A B (upd bD l (.memo ls)) (upd H2 l (.memo ls)):=by
 refine⟨fun b o e=>?_,fun b o e=>?_,cK g.sub,fun b o e=>?_⟩
 . by_cases hb:b=l
   . subst hb;rw[hB] at e;cases e;exact ak
   . rw[ag hb];exact g.big _ _ (by rw[ag hb];exact e)
 . by_cases hb:b=l
   . subst hb;rw[hA] at e;cases e;exact ak
   . rw[ag hb];exact g.bj _ _ (by rw[ag hb];exact e)
 . by_cases hb:b=l
   . subst hb;exact .inl ⟨_,hA⟩
   . rw[ag hb] at e
     rcases g.new b o e with⟨o',z⟩ | z | z
     . rw[ag hb] at z;exact .inl ⟨o',z⟩
     . rw[ag hb] at z;exact .inr (.inl z)
     . exact .inr (.inr z)
variable {G G0:Gr}{st:L2.St}{dl:List Slot}
theorem du.rebase (S:du K G0 st Hf H dl)(no:noOwn dl=true)(g:aV G.Hf G.H G0.Hf G0.H):du K G st Hf H dl:=⟨g.trans S.gr,S.len,S.val,fun i o h=>absurd h (aP no i o),fun i j o o' a h=>absurd h (aP no i o)⟩
noncomputable def qE (a:Addr):List Slot->Bool
 | []=>true
 | .aY::r=>qE a r
 | .val d::r=>rS a d && qE a r
 | .own _::_=>false
theorem ma {l:Addr}:∀ {tl:List Slot} {i:Nat} {d:Dt},qE l tl=true->tl[i]?=some (.val d)->rS l d=true
 | [],_,_,_,e=>by simp at e
 | .aY::r,0,_,_,e=>by simp at e
 | .aY::r,i+1,_,h,e=>ma (tl:=r) (i:=i) h (by simpa using e)
 | .val d::r,0,_,h,e=>by
   rw[qE,aaN] at h
   simp at e
   subst e
   exact h.1
 | .val d::r,i+1,_,h,e=>by
   rw[qE,aaN] at h
   exact ma (tl:=r) (i:=i) h.2 (by simpa using e)
theorem gm {l:Addr}:∀ {tl:List Slot},qE l tl=true->noOwn tl=true
 | [],_=>rfl
 | .aY::r,h=>gm (tl:=r) h
 | .val d::r,h=>by
   rw[qE,aaN] at h
   exact gm (tl:=r) h.2
variable {C:Addr}{tl:List Slot}
noncomputable abbrev zN (C:Addr)(fs:List (Str×Dt))(nm:List Str)(l:Addr)(ls:iR)(n:Nat)(tl:List Slot):List Slot:=.val (.obj C (q9 fs nm l ls n))::tl
noncomputable abbrev W4 (C:Addr)(fs:List (Str×Dt))(nm:List Str)(l:Addr)(ls:iR)(n:Nat)(tl:List Slot):List Slot:=.val (.obj C (o6 fs nm l ls n))::tl
theorem du.T1 {m:Nat}(S:du K G st Hf H (zN C fs nm l ls n tl))(kn:ub Hf ls m):du K G st Hf H (zN C fs nm l ls m tl):=by
 have own:∀ {i:Nat} {o:Own},(zN C fs nm l ls m tl)[i]?=some (.own o)->(zN C fs nm l ls n tl)[i]?=some (.own o):=fun {i o} h=>by
   cases i with
   | zero=>cases h
   | succ i=>exact h
 refine⟨S.gr,S.len,fun i d h=>?_,fun i o h=>S.own i o (own h),fun i j o o' a h1 h2=>S.EN i j o o' a (own h1) (own h2)⟩
 cases i with
 | zero=>
   cases h
   obtain⟨v,hv,rv⟩:=S.val 0 _ rfl
   cases rv with
   | obj q r=>exact⟨_,hv,.obj q (AM kn r)⟩
 | succ i=>exact S.val (i+1) d h
noncomputable def T2 (G0:Gr)(l:Addr)(u:HO):Gr:=⟨upd G0.Hf l u,upd G0.H l u⟩
theorem du.W5 (S:du K G st Hf H (zN C fs nm l ls n tl))(hs:jY l fs=true)(ht:qE l tl=true)(hn:0 < nm.length)(hu:l9 ls u):Hf l=some (.memo ls)/\du K (T2 ⟨i3 Hf H,H⟩ l u) st (upd (i3 Hf H) l u) (upd H l u) (W4 C fs nm l ls n tl):=by
 obtain⟨v,hv,rv⟩:=S.val 0 _ rfl
 have sm:=fH S.sub
 cases rv with
 | @obj a _ dx fv _ q r=>
   have hm:=vc hn r
   have W6:i3 Hf H l=some (.memo ls):=sm _ _ hm
   refine⟨hm,⟨.refl (cK (nP S.sub)),S.len,fun i d h=>?_,fun i o h=>?_,fun i j o o' a h=>?_⟩⟩
   . cases i with
     | zero=>
       cases h
       exact⟨_,hv,.obj (HU (.inl W6) (i9 sm q)) (TZ hs W6 hu (r.mono sm))⟩
     | succ i=>
       have h:tl[i]?=some (.val d):=h
       obtain⟨w,w1,w2⟩:=S.val (i+1) d h
       exact⟨w,w1,ik (.inl W6) hu (ma ht h) (w2.mono sm)⟩
   . cases i with
     | zero=>cases h
     | succ i=>exact absurd h (aP (gm ht) i o)
   . cases i with
     | zero=>cases h
     | succ i=>exact absurd h (aP (gm ht) i o)
end
section
variable {X:Cx}{G:Gr}{E:XK}{dl:List Slot}{c e:Expr}{body:List Stmt}{pos p:Pos}{fs:List (Str×Dt)}{nm:List Str}{l C:Addr}{ls:iR}{n m age:Nat}{tl:List Slot}
def PQ (X:Cx)(c:Expr):TT:=fun st H Q=>∃ G dl b,EB X G dl c b/\SO X.K G dl b st H Q
theorem HZ:PT X c (PQ X c):=fun pins s st H Q I ⟨G,dl,b,h,q⟩=>h pins s st H Q I q
def PR (X:Cx)(E:XK)(body:List Stmt):TS:=fun D st H=>∃ G pre o,l4 X G E pre body o/\tO X.K G E pre o D st H
theorem Fl {body:List Stmt}:BE X body (PR X E body):=fun pins s st H D J ⟨G,pre,o,h,q⟩=>h pins s st H D J q
def RM (K:W.Frag)(G0:Gr)(C:Addr)(fs:List (Str×Dt))(nm:List Str)(l:Addr)(ls:iR)(n:Nat)(tl:List Slot)(M:Nat):L2.St->Hp->Prop:=fun st H=>H l=some (.bo ls (aah ls.length M))/\∃ Hf,du K G0 st Hf (upd H l (.memo ls)) (zN C fs nm l ls n tl)
theorem xC (hp:PassesOwn (model X.prog X.w) X.A X.env X.xe)(hs:jY l fs=true)(ht:qE l tl=true)(hn:0 < nm.length)(lK:age < 9000)(hc:∀ (N:Nat) (G:Gr),G.Hf l=some (.bo ls (aah ls.length N))->EB X G (W4 C fs nm l ls n tl) c (decide (N<=age)))(hb:∀ N,0 < N->N<=age->∀ G0:Gr,G0.Hf l=some (.memo ls)->G0.H l=some (.memo ls)->l4 X (T2 G0 l (.bo ls (aah ls.length N))) E (W4 C fs nm l ls n tl) body (.raw (RM X.K G0 C fs nm l ls n tl (N+1)))):ES X G E (zN C fs nm l ls n tl) (.While c body [] pos) (.nx (zN C fs nm l ls (age+1) tl)):=by
 intro pins s st H D I ⟨Hf,S,k⟩
 have no:noOwn (zN C fs nm l ls n tl)=true:=show noOwn tl=true from gm ht
 have hm:Hf l=some (.memo ls):=(S.W5 (u:=.memo ls) hs ht hn (.inl rfl)).1
 obtain⟨N0,h0,h1,IX⟩:=Inv.exact I (S.sub _ _ hm)
 let XX:Nat->HO:=fun N=>.bo ls (aah ls.length N)
 have mu:∀ N,l9 ls (XX N):=fun N=>.inr ⟨_,rfl⟩
 let W:Nat->L2.St->Hp->Prop:=fun m st H=>∃ N,m=age+1 - N/\0 < N/\H l=some (XX N)/\∃ Hf1,aC Hf Hf1/\du X.K G st Hf1 (upd H l (.memo ls)) (zN C fs nm l ls n tl)
 refine bM (zZ (pos:=pos) hp (HZ (X:=X) (c:=c)) (Fl (E:=E)) pins s st _ { D with nx:=fun jq H'=>∃ N,age < N/\H' l=some (XX N)/\∃ Hf1,aC Hf Hf1/\du X.K G jq Hf1 (upd H' l (.memo ls)) (zN C fs nm l ls n tl)} IX ?_) fun f s7 q7=>?_
 . refine⟨W,⟨_,N0,rfl,h0,ak,Hf,aC.refl _,by rw[tP,va (S.sub _ _ hm)];exact S⟩,?_⟩
   rintro mm Vl H1 ⟨N,rfl,hN,Nn,Hf1,s1,S1⟩
   have eH:upd (upd H1 l (.memo ls)) l (XX N)=H1:=by rw[tP,va Nn]
   obtain⟨Zg,SX⟩:=S1.W5 (u:=XX N) hs ht hn (mu N)
   rw[eH] at SX
   have hA:i3 Hf1 (upd H1 l (.memo ls)) l=some (.memo ls):=fH S1.sub _ _ Zg
   refine⟨_,_,decide (N<=age),hc N (T2 ⟨i3 Hf1 (upd H1 l (.memo ls)),upd H1 l (.memo ls)⟩ l (XX N)) ak,_,SX,fun bD H2 g2=>?_⟩
   have g2':aV (upd (i3 Hf1 (upd H1 l (.memo ls))) l (XX N)) (upd (upd H1 l (.memo ls)) l (XX N)) bD H2:=by rw[eH];exact g2
   have gp:=PN (ls:=ls) hA ak g2'
   have gg:=(oJ S1.sub).trans gp
   have S2:=S1.grow gg
   have Sz:H2 l=some (XX N):=g2.big _ _ Nn
   by_cases hle:N<=age
   . rw[decide_eq_true hle]
     have eH2:upd (upd H2 l (.memo ls)) l (XX N)=H2:=by rw[tP,va Sz]
     obtain⟨Zh,Zi⟩:=S2.W5 (u:=XX N) hs ht hn (mu N)
     rw[eH2] at Zi
     have hA2:i3 (upd bD l (.memo ls)) (upd H2 l (.memo ls)) l=some (.memo ls):=fH S2.sub _ _ Zh
     refine Ak ⟨fun jq H'=>H' l=some (XX (N+1))/\∃ Hf1,aC Hf Hf1/\du X.K G jq Hf1 (upd H' l (.memo ls)) (zN C fs nm l ls n tl),fun jq H' ⟨z1,z2⟩=>⟨age+1 - (N+1),by omega,N+1,rfl,by omega,z1,z2⟩,?_⟩
     refine⟨_,_,_,hb N hN hle ⟨i3 (upd bD l (.memo ls)) (upd H2 l (.memo ls)),upd H2 l (.memo ls)⟩ hA2 ak,_,Zi,fun jq H' ⟨z1,aH,z2⟩=>⟨z1,aH,?_,?_⟩⟩
     . exact((s1.trans gg.bj).trans (fH S2.sub)).trans z2.gr.bj
     . exact z2.rebase no (S2.gr.trans (oJ S2.sub))
   . rw[decide_eq_false hle]
     exact Aj ⟨N,by omega,Sz,_,s1.trans gg.bj,S2⟩
 . cases f with
   | next=>
     obtain⟨σ7,H7,I7,N,hN,W7,Zj,s7',S7⟩:=q7
     have I8:=Inv.pack I7 W7 (by omega)
     refine⟨σ7,_,I8,?_⟩
     obtain⟨_,_,hlen,_,_,_,h6⟩:=(show aO X.prog X.w H7 s7.heap l (XX N) from I7.bh l _ W7)
     have kn:ub (i3 Zj (upd H7 l (.memo ls))) ls (age+1):=fun j p f e i hi=>by
       have hj:j < ls.length:=(aad.mp e).1
       obtain⟨aE,cc,e1,e2,e3⟩:=h6 j p f N e (by rw[aaR,if_pos hj])
       obtain⟨q,o,kvs,q1,q2,q3⟩:=e3 i (by omega)
       have key:∀ b u,H7 b=some u->Kept u->i3 Zj (upd H7 l (.memo ls)) b=some u:=fun b u z kq=>yI (by rw[ag (fun zz=>by rw[zz,W7] at z;cases z;exact kq)];exact z) kq
       exact⟨q,o,kvs,key _ _ q2 trivial,fJ key q3⟩
     have S8:=S7.grow (oJ S7.sub)
     exact k σ7 _ _ (s7'.trans (fH S7.sub)) (S8.T1 kn)
   | cont=>exact q7
   | brk=>exact q7
   | ret v=>exact q7
theorem qF (he:EE X G (zN C fs nm l ls n tl) e (.wq l ls m))(hs:swapsWith e none pos.line X.env=pure false:=by rfl):ES X G E (zN C fs nm l ls n tl) (.Expr e pos) (.nx (zN C fs nm l ls m tl)):=
 tV (lg he hs) fun D st H zq=>aaa zq fun Hf zq=>have S:=zq.1;have k:=zq.2;⟨Hf,S,fun v Hf1 H1 g1 r1=>by
   have S1:=S.grow g1
   cases r1 with
   | wq kn=>
     exact k st Hf1 H1 g1.bj (S1.T1 kn)⟩
theorem oM (hl:ls.length<=nm.length):Comes (.nx (zN C fs nm l ls n tl)) (.ret (.wq l ls n)):=.kn fun K G st Hf H S=>by
 obtain⟨v,hv,rv⟩:=S.val 0 _ rfl
 cases rv with
 | obj q r=>exact .wq (LG hl r)
theorem Ia (i:Nat){o:Out}{sts:List Stmt}{gs:List (Nat->List (Key×FD))}(h:∀ l ls,ls.map (·.2)=gs->l4 X G E (dl.set i (.val (.obj C (q9 fs nm l ls n)))) sts o)(hd:dl[i]?=some (.val (.wc C fs gs nm n)):=by rfl):l4 X G E dl sts o:=by
 intro pins s st H D I ⟨Hf,S,k⟩
 obtain⟨v,hv,rv⟩:=S.val i _ hd
 cases rv with
 | @wc s' a _ dx fv _ _ _ _ ls' e q r=>
   refine h a ls' e pins s st H D I ⟨Hf,⟨S.gr,by simp[S.len],fun j d hj=>?_,fun j o' hj=>?_,fun j m o1 o2 c q1 q2 q3 q4=>?_⟩,k⟩
   . by_cases ej:i=j
     . subst ej
       have hl:i < dl.length:=(aad.mp hd).1
       rw[aae hl] at hj;cases hj
       exact⟨_,hv,.obj q r⟩
     . rw[aaf ej] at hj;exact S.val j d hj
   . have ej:i≠j:=fun z=>by
       subst z
       rw[aae (aad.mp hd).1] at hj;cases hj
     rw[aaf ej] at hj;exact S.own j o' hj
   . have ne:∀ {j:Nat} {o':Own},(dl.set i (.val (.obj C (q9 fs nm a ls' n))))[j]?=some (.own o')->dl[j]?=some (.own o'):=fun {j o'} hj=>by
       have ej:i≠j:=fun z=>by
         subst z
         rw[aae (aad.mp hd).1] at hj;cases hj
       rw[aaf ej] at hj;exact hj
     exact S.EN j m o1 o2 c (ne q1) (ne q2) q3 q4
end
theorem AN {l:Addr}:∀ (a b:List (Str×Dt)),jY l (a ++ b)=(jY l a && jY l b)
 | [],b=>by rw[List.nil_append,jY];rfl
 | (k,d)::a,b=>by rw[List.cons_append,jY,jY,AN a b,Bool.and_assoc]
theorem Ib (nm:Nat->Str)(l:Addr)(ls:iR)(n:Nat):∀ js:List Nat,jY l (js.map fun j=>(nm j,Dt.eK l ls j n))=true
 | []=>rfl
 | j::js=>by rw[aao,jY,Ib nm l ls n js];rfl
theorem xD {fs:List (Str×Dt)}{nm:List Str}{l:Addr}{ls:iR}{n:Nat}(h:jY l fs=true):jY l (o6 fs nm l ls n)=true:=by
 unfold o6
 rw[AN,h,Ib];rfl
section
variable {X:Cx}{G0:Gr}{E:XK}{arg:Expr}{fs:List (Str×Dt)}{l C:Addr}{ls:iR}{n N:Nat}{tl:List Slot}{f g:Nat->List (Key×FD)}{n0 n1 x0 xg:Str}{p1 p2 p3 p4 p5 a1 a2 c1 c2 q1 q2:Pos}
theorem AO (ng:Nat)(hs:jY l fs=true)(ht:qE l tl=true)(hu:tl[ng]?=some .aY)(pT:ls.map (·.2)=[f,g])(hN:N < 9000)(cl:tT X.K C)(PU:bu X.K C n0)(W8:bu X.K C n1)(hA:G0.Hf l=some (.memo ls))(hB:G0.H l=some (.memo ls))
   (W9:∀ G2,EO X G2 (.val (.obj C (o6 fs [n0,n1] l ls n))::tl.set ng (.val (.d5 (nz (f N))))) arg (.cV (nz (g N))))
   (RF:(o6 fs [n0,n1] l ls n).lookup n0=some (.eK l ls 0 n):=by rfl) (Nn:(o6 fs [n0,n1] l ls n).lookup n1=some (.eK l ls 1 n):=by rfl)
   (RE:X.N[0]?=some x0:=by rfl) (VC:uB X.env.scope x0:=by first | exact aaL rfl | exact aaB (aaL rfl) | exact aaB (aaB rfl)) (VD:(x0 == ("__debug__":Str))=false:=by decide) (VE:(x0 == ("__classdict__":Str))=false:=by decide)
   (Xa:X.N[ng+1]?=some xg:=by rfl) (Xb:uB X.env.scope xg:=by first | exact aaL rfl | exact aaB (aaL rfl) | exact aaB (aaB rfl)) (Xc:(xg == ("__debug__":Str))=false:=by decide) (Xd:(xg == ("__classdict__":Str))=false:=by decide)
   (T3:attributeBase (.Name x0 p1) n0 X.env (eval (.Name x0 p1) X.env)=eval (.Name x0 p1) X.env:=by rfl) (Xe:attributeBase (.Name x0 p4) n1 X.env (eval (.Name x0 p4) X.env)=eval (.Name x0 p4) X.env:=by rfl)
   (Cf:attributeBase (.Attribute (.Name x0 p1) n0 p2) "append" X.env (eval (.Attribute (.Name x0 p1) n0 p2) X.env)=eval (.Attribute (.Name x0 p1) n0 p2) X.env:=by rfl)
   (PV:attributeBase (.Attribute (.Name x0 p4) n1 p5) "append" X.env (eval (.Attribute (.Name x0 p4) n1 p5) X.env)=eval (.Attribute (.Name x0 p4) n1 p5) X.env:=by rfl)
   (Ic:((backTo c1 (starEach [.Name xg p3] X.env)).all (fun x=>!x.1) && (backToKw c1 (keywordEach [] X.env)).all (fun x=>x.1.isSome) && decide ([Expr.Name xg p3].length+([]:List Keyword).length+(if ([]:List Keyword).isEmpty then 0 else 1) < 30))=true:=by rfl)
   (T4:((backTo c2 (starEach [arg] X.env)).all (fun x=>!x.1) && (backToKw c2 (keywordEach [] X.env)).all (fun x=>x.1.isSome) && decide ([arg].length+([]:List Keyword).length+(if ([]:List Keyword).isEmpty then 0 else 1) < 30))=true:=by rfl)
   (Cg:(a1.endLine == c1.line)=true:=by rfl) (PX:(a2.endLine == c2.line)=true:=by rfl) (yJ:starEach [.Name xg p3] X.env=(false,eval (.Name xg p3) X.env)::starEach [] X.env:=by rfl) (LH:starEach [arg] X.env=(false,eval arg X.env)::starEach [] X.env:=by rfl)
   (F7:swapsWith (.Call (.Attribute (.Attribute (.Name x0 p1) n0 p2) "append" a1) [.Name xg p3] [] c1) none q1.line X.env=pure false:=by rfl) (sH:swapsWith (.Call (.Attribute (.Attribute (.Name x0 p4) n1 p5) "append" a2) [arg] [] c2) none q2.line X.env=pure false:=by rfl) :
   l4 X (T2 G0 l (.bo ls (aah ls.length N))) E (.val (.obj C (o6 fs [n0,n1] l ls n))::tl.set ng (.own (.cV (nz (f N)))))
     [.Expr (.Call (.Attribute (.Attribute (.Name x0 p1) n0 p2) "append" a1) [.Name xg p3] [] c1) q1,.Expr (.Call (.Attribute (.Attribute (.Name x0 p4) n1 p5) "append" a2) [arg] [] c2) q2] (.raw (RM X.K G0 C fs [n0,n1] l ls n tl (N+1))):=by
 have T5:PE X arg (fun st H Q=>∃ G2,Vi X.K G2 (.val (.obj C (o6 fs [n0,n1] l ls n))::tl.set ng (.val (.d5 (nz (f N))))) (.cV (nz (g N))) st H Q):=fun pins s st H Q I ⟨G2,q⟩=>W9 G2 pins s st H Q I q
 refine yi (lW (lg (uN PySem.F.plainAttrs_list PySem.F.slot_list_append PySem.F.type_list_append pS (uI (iU (pos:=p1) RE VC VD VE) T3) (lj (iU (pos:=p3) Xa Xb Xc Xd) nG yJ) Cf Ic Cg yJ rfl) F7)
   (mC (lg (uN PySem.F.plainAttrs_list PySem.F.slot_list_append PySem.F.type_list_append pS (uI (iU (pos:=p4) RE VC VD VE) Xe) (lj T5 nG LH) PV T4 PX LH rfl) sH))) fun D st H zq=>aaa zq fun Hf zq=>have S:=zq.1;have k:=zq.2;?_
 have e2:ls.length=2:=by have:=congrArg abf pT;simpa using this
 have eR:∀ M:Nat,aah ls.length M=[M,M]:=fun M=>by rw[e2];rfl
 rw[eR] at S
 have T6:ng < tl.length:=(aad.mp hu).1
 obtain⟨v0,hv,rv⟩:=S.val 0 _ rfl
 cases rv with
 | @obj sa _ dx fv _ PY rf=>
   obtain⟨oa,Ci,VF,_,back⟩:=Rd.ex PY
   have PZ:Hf l=some (.bo ls [N,N]):=S.gr.bj _ _ ak
   have Nw:H l=some (.bo ls [N,N]):=S.sub _ _ PZ
   have hm:bO Hf l ls:=.inr ⟨_,PZ⟩
   obtain⟨y0,Xf,Xg⟩:=rf.lookup RF
   obtain⟨y1,Ko,ry1⟩:=rf.lookup Nn
   obtain⟨qa,hq,T7,Xh,kvs,Nx,rk⟩:=S.own (ng+1) (.cV (nz (f N))) (by show(tl.set ng _)[ng]?=_;rw[aae T6])
   cases Xg with
   | @eK _ p _ _ _ f0 AI _ Xi _=>cases ry1 with
     | @eK _ pp _ _ _ f1 Xj _ abC _=>
       have Xk:f0=f:=by
         have:=congrArg (fun z=>z[0]?) pT
         simp only[aab,AI] at this
         exact Option.some.inj this
       have ef1:f1=g:=by
         have:=congrArg (fun z=>z[1]?) pT
         simp only[aab,Xj] at this
         exact Option.some.inj this
       subst Xk ef1
       have VG:rg H kvs (f0 N):=fJ (fun b u e _=>S.sub _ _ e) (pR rk)
       have Xl:qa≠l:=fun z=>by rw[z,Nw] at Nx;cases Nx
       have T8:sa≠l:=fun z=>by rw[z,PZ] at Ci;cases Ci;cases VF
       have Zk:sa≠qa:=fun z=>by rw[z,T7] at Ci;cases Ci
       refine⟨_,hv,sa,C,dx,fv,_,rfl,back _ (S.sub _ _ Ci),cl,PU,Xf,.inr (.inr (.inr (.inr ⟨rfl,l,ls,[N,N],0,f0,N,Nw,AI,rfl⟩))),_,hq,l,ls,[N,N],0,p,f0,N,qa,kvs,rfl,rfl,Nw,AI,rfl,hN,Nx,VG,fun oq=>?_⟩
       let H4:Hp:=upd (upd H l (.bo ls ([N,N].set 0 (N+1)))) qa (.kd (some (p,N)) oq kvs)
       let u4:HO:=.bo ls [N+1,N]
       have VH:H4 l=some u4:=by show(upd (upd H l _) qa _) l=_;rw[ag (Ne.symm Xl),ak];rfl
       have Zl:H4 qa=some (.kd (some (p,N)) oq kvs):=ak
       have VI:∀ b o,H b=some o->b≠l->b≠qa->H4 b=some o:=fun b o e n1 n2=>by show(upd (upd H l _) qa _) b=_;rw[ag n2,ag n1];exact e
       have h4n:∀ b,H4 b=none->H b=none:=fun b e=>by
         have n1:b≠l:=fun z=>by rw[z,VH] at e;cases e
         have n2:b≠qa:=fun z=>by rw[z,Zl] at e;cases e
         have e:(upd (upd H l _) qa _) b=none:=e
         rw[ag n2,ag n1] at e;exact e
       have hfq:∀ b o,Hf b=some o->b≠qa:=fun b o e z=>by rw[z,T7] at e;cases e
       have yK:aC (upd Hf l u4) H4:=fun b o e=>by
         by_cases bl:b=l
         . rw[bl,ak] at e;cases e;rw[bl];exact VH
         . rw[ag bl] at e;exact VI b o (S.sub _ _ e) bl (hfq b o e)
       let Kt:Hp:=i3 (upd Hf l u4) H4
       have T9:aC (upd Hf l u4) Kt:=fH yK
       have VJ:l9 ls u4:=.inr ⟨_,rfl⟩
       have Xm:∀ b u,H b=some u->Kept u->Kt b=some u:=fun b u e kq=>yI (VI b _ e (fun z=>by rw[z,Nw] at e;cases e;exact kq) (fun z=>by rw[z,Nx] at e;cases e;exact kq)) kq
       have S4:du X.K ⟨Kt,H4⟩ st Kt H4 (.val (.obj C (o6 fs [n0,n1] l ls n))::tl.set ng (.val (.d5 (nz (f0 N))))):=by
         have no:∀ (i:Nat) o,(Slot.val (.obj C (o6 fs [n0,n1] l ls n))::tl.set ng (.val (.d5 (nz (f0 N)))))[i]?≠some (.own o):=fun i o h=>by
           cases i with
           | zero=>cases h
           | succ i=>
             have h:(tl.set ng (.val (.d5 (nz (f0 N)))))[i]?=some (.own o):=h
             by_cases e:ng=i
             . subst e;rw[aae T6] at h;cases h
             . rw[aaf e] at h;exact aP (gm ht) i o h
         refine⟨.refl (nP yK),by have:=S.len;simpa using this,fun i d h=>?_,fun i o h=>absurd h (no i o),fun i j o o' a h=>absurd h (no i o)⟩
         cases i with
         | zero=>
           cases h
           exact⟨_,hv,.obj (back _ (T9 _ _ (aW hm Ci VF))) ((iZ hm VJ (xD hs) rf).mono T9)⟩
         | succ i=>
           have h:(tl.set ng (.val (.d5 (nz (f0 N)))))[i]?=some (.val d):=h
           by_cases e:ng=i
           . subst e
             rw[aae T6] at h;cases h
             exact⟨_,hq,.d5 (DG Zl) (ua (fJ Xm VG))⟩
           . rw[aaf e] at h
             obtain⟨w,w1,w2⟩:=S.val (i+1) d (by show(tl.set ng _)[i]?=_;rw[aaf e];exact h)
             exact⟨w,w1,(ik hm VJ (ma ht h) w2).mono T9⟩
       refine⟨_,hv,sa,C,dx,fv,_,rfl,back _ (VI _ _ (S.sub _ _ Ci) T8 Zk),cl,W8,Ko,.inr (.inr (.inr (.inr ⟨rfl,l,ls,[N+1,N],1,f1,N,VH,Xj,rfl⟩))),⟨Kt,H4⟩,Kt,S4,fun ra we H5 g5 n5 n5' ⟨P0,Nc,Tx⟩=>?_⟩
       have Zm:H5 l=some u4:=g5.big _ _ VH
       have nrl:ra≠l:=fun z=>by rw[z,Zm] at Nc;have Nc:=Option.some.inj Nc;have Nc:HO.bo ls [N+1,N]=.dK P0:=Nc;cases Nc
       refine⟨l,ls,[N+1,N],1,pp,f1,N,ra,P0,rfl,rfl,Zm,Xj,rfl,hN,Nc,fJ (fun b u e _=>g5.sub _ _ e) (pR Tx),fun or=>?_⟩
       let H6:Hp:=upd (upd H5 l (.bo ls ([N+1,N].set 1 (N+1)))) ra (.kd (some (pp,N)) or P0)
       show D.nx st H6
       have Xn:H6 l=some (.bo ls [N+1,N+1]):=by show(upd (upd H5 l _) ra _) l=_;rw[ag (Ne.symm nrl),ak];rfl
       have Ua:∀ b o,H5 b=some o->b≠l->b≠ra->(upd H6 l (.memo ls)) b=some o:=fun b o e n1 n2=>by
         rw[ag n1]
         show(upd (upd H5 l _) ra _) b=_
         rw[ag n2,ag n1];exact e
       have Xo:∀ b o,we b=some o->b≠ra:=fun b o e z=>by rw[z,n5'] at e;cases e
       have Ie:aC (upd we l (.memo ls)) (upd H6 l (.memo ls)):=fun b o e=>by
         by_cases bl:b=l
         . rw[bl,ak] at e ⊢;exact e
         . rw[ag bl] at e;exact Ua b o (g5.sub _ _ e) bl (Xo b o e)
       have Ig:=fH Ie
       have f4:∀ b o,Hf b=some o->b≠l->we b=some o:=fun b o e n1=>g5.bj _ _ (T9 _ _ (by rw[ag n1];exact e))
       have g6:aV G0.Hf G0.H (i3 (upd we l (.memo ls)) (upd H6 l (.memo ls))) (upd H6 l (.memo ls)):=by
         refine⟨fun b o e=>?_,fun b o e=>?_,nP Ie,fun b o e=>?_⟩
         . by_cases bl:b=l
           . rw[bl,hB] at e;cases e;rw[bl];exact ak
           . have h3:H b=some o:=S.gr.big _ _ (by show(upd G0.H l _) b=_;rw[ag bl];exact e)
             have Xp:b≠qa:=fun z=>by
               have:(upd G0.H l (.bo ls [N,N])) qa=none:=Xh
               rw[<- z,ag bl,e] at this;cases this
             have h4:=VI b o h3 bl Xp
             exact Ua b o (g5.big _ _ h4) bl (fun z=>by have n5:H4 ra=none:=n5;rw[z,n5] at h4;cases h4)
         . by_cases bl:b=l
           . rw[bl,hA] at e;cases e;rw[bl];exact Ig _ _ ak
           . have h3:Hf b=some o:=S.gr.bj _ _ (by show(upd G0.Hf l _) b=_;rw[ag bl];exact e)
             exact Ig _ _ (by rw[ag bl];exact f4 b o h3 bl)
         . rcases oH (Hf:=upd we l (.memo ls)) (H:=upd H6 l (.memo ls)) b with⟨u',z1,z2,z3⟩ | z
           . rw[z3] at e;cases e;exact .inr (.inr z2)
           . rw[z] at e
             by_cases bl:b=l
             . rw[bl];exact .inl ⟨_,hA⟩
             . rw[ag bl] at e
               rcases g5.new b o e with⟨o',w⟩ | w | w
               . have eo:o'=o:=by have:=g5.bj _ _ w;rw[e] at this;exact(Option.some.inj this).symm
                 subst eo
                 rcases oH (Hf:=upd Hf l u4) (H:=H4) b with⟨u',z1,z2,z3⟩ | z'
                 . have w:i3 (upd Hf l u4) H4 b=some o':=w
                   rw[z3] at w;cases w;exact .inr (.inr z2)
                 . have w:i3 (upd Hf l u4) H4 b=some o':=w
                   rw[z',ag bl] at w
                   rcases S.gr.new b o' w with⟨OP,y⟩ | y | y
                   . have y:(upd G0.Hf l _) b=some OP:=y
                     rw[ag bl] at y;exact .inl ⟨OP,y⟩
                   . have y:(upd G0.H l _) b=none:=y
                     rw[ag bl] at y;exact .inr (.inl y)
                   . exact .inr (.inr y)
               . have y:(upd G0.H l (.bo ls [N,N])) b=none:=S.gr.big.free (h4n b w)
                 rw[ag bl] at y;exact .inr (.inl y)
               . exact .inr (.inr w)
       have Xq:aC (upd Hf l u4) we:=T9.trans g5.bj
       have Zn:bO we l ls:=.inr ⟨_,Xq _ _ ak⟩
       have P4:∀ {v:V} {d:Dt},rS l d=true->Rep X.K Hf v d->Rep X.K (i3 (upd we l (.memo ls)) (upd H6 l (.memo ls))) v d:=fun {v d} hn r=>(ik Zn (.inl rfl) hn ((ik hm VJ hn r).mono Xq)).mono Ig
       refine k st H6 ⟨by rw[eR];exact Xn,_,⟨g6,by have:=S.len;simpa using this,fun i d h=>?_,fun i o h=>?_,fun i j o o' a h=>?_⟩⟩
       . cases i with
         | zero=>
           cases h
           refine⟨_,hv,.obj (back _ (Ig _ _ (by rw[ag T8];exact f4 _ _ Ci T8))) ?_⟩
           have r5:=(iZ hm VJ (xD hs) rf).mono Xq
           exact(Nv hs Zn r5).mono Ig
         | succ i=>
           have h:tl[i]?=some (.val d):=h
           have e:ng≠i:=fun z=>by rw[<- z,hu] at h;cases h
           obtain⟨w,w1,w2⟩:=S.val (i+1) d (by show(tl.set ng _)[i]?=_;rw[aaf e];exact h)
           exact⟨w,w1,P4 (ma ht h) w2⟩
       . cases i with
         | zero=>cases h
         | succ i=>exact absurd h (aP (gm ht) i o)
       . cases i with
         | zero=>cases h
         | succ i=>exact absurd h (aP (gm ht) i o)
end
noncomputable def Zo:HO->Bool
 | .lst _=>true
 | .dK _=>true
 | _=>false
noncomputable def conv (H:Hp)(p p2 q1 q2:Addr)(u1 u2 u3 u4:HO):Hp:=upd (upd (upd (upd H p u1) p2 u2) q1 u3) q2 u4
section
variable {X:Cx}{pins:List (Addr×Obj)}{σ:L2.St}{H:Hp}{s:Shared}{p p2 q1 q2:Addr}{nh zO:List (Key×V)}{f g:Nat->List (Key×FD)}
theorem Inv.P5 (I:L2.Inv X pins σ H s)(hp:H p=some (.lst [.ref q1]))(yf:H p2=some (.lst [.ref q2]))(Kw:H q1=some (.dK nh))(Ub:H q2=some (.dK zO))(f1:rg H nh (f 0))(f2:rg H zO (g 0))(n1:p≠p2)(n2:q1≠q2):∃ o1 o2,L2.Inv X pins σ (conv H p p2 q1 q2 (.memo [(p,f),(p2,g)]) (.part p) (.kd (some (p,0)) o1 nh) (.kd (some (p2,0)) o2 zO)) s:=by
 obtain⟨z1,i1,c1,r1,e1⟩:=(show aO X.prog X.w H s.heap p (.lst [.ref q1]) from I.bh p _ hp)
 obtain⟨z2,i2,c2,r2,e2⟩:=(show aO X.prog X.w H s.heap p2 (.lst [.ref q2]) from I.bh p2 _ yf)
 obtain⟨wA,lo1,Xr,Xs,o1,Xt,Xu,Uc,Xv⟩:=(show aO X.prog X.w H s.heap q1 (.dK nh) from I.bh q1 _ Kw)
 obtain⟨RG,lo2,vs2,kr2,o2,es2,ep2,VL,hr2⟩:=(show aO X.prog X.w H s.heap q2 (.dK zO) from I.bh q2 _ Ub)
 obtain⟨u1,rfl,w1⟩:=vals1 r1
 obtain⟨u2,rfl,w2⟩:=vals1 r2
 cases (show u1=Value.ref q1 from w1)
 cases (show u2=Value.ref q2 from w2)
 refine⟨o1,o2,?_⟩
 have m1:p≠q1:=fun z=>by rw[z,Kw] at hp;cases hp
 have m2:p≠q2:=fun z=>by rw[z,Ub] at hp;cases hp
 have m3:p2≠q1:=fun z=>by rw[z,Kw] at yf;cases yf
 have m4:p2≠q2:=fun z=>by rw[z,Ub] at yf;cases yf
 generalize LI:conv H p p2 q1 q2 (.memo [(p,f),(p2,g)]) (.part p) (.kd (some (p,0)) o1 nh) (.kd (some (p2,0)) o2 zO)=H'
 have Ud:H' p=some (.memo [(p,f),(p2,g)]):=by rw[<- LI];unfold conv;rw[ag m2,ag m1,ag n1,ak]
 have P6:H' p2=some (.part p):=by rw[<- LI];unfold conv;rw[ag m4,ag m3,ak]
 have Ih:H' q1=some (.kd (some (p,0)) o1 nh):=by rw[<- LI];unfold conv;rw[ag n2,ak]
 have Ue:H' q2=some (.kd (some (p2,0)) o2 zO):=by rw[<- LI];unfold conv;rw[ak]
 have Ce:∀ b,b≠p->b≠p2->b≠q1->b≠q2->H' b=H b:=fun b a1 a2 a3 a4=>by rw[<- LI];unfold conv;rw[ag a4,ag a3,ag a2,ag a1]
 have sU:∀ b o,H b=some o->Zo o=false->H' b=some o:=fun b o e n=>by
   rw[Ce b (fun z=>by rw[z,hp] at e;cases e;cases n) (fun z=>by rw[z,yf] at e;cases e;cases n) (fun z=>by rw[z,Kw] at e;cases e;cases n) (fun z=>by rw[z,Ub] at e;cases e;cases n)]
   exact e
 have kp:Kp H H':=⟨fun b o e kq=>sU b _ e (by cases o <;> first | rfl | exact(show False from kq).elim),fun b e=>by
   cases q:H b with
   | none=>rw[q] at e;exact e.elim
   | some u=>
     rw[q] at e
     rw[sU b u q (by cases u <;> first | rfl | exact e.elim)]
     exact e,fun b x e=>sU b _ e rfl⟩
 refine I.un (h':=s.heap) (t':=s.toks) ⟨fun b o e _ _ _=>e,fun b o e _ _ _=>⟨o.slots,e⟩,fun b o e n _=>?_,fun b o e _=>⟨o,e⟩,fun b xs e=>sU b _ e rfl,fun b o u e=>sU b _ e rfl,fun b ps e=>⟨#[],by rw[sU b _ e rfl];simp⟩⟩ fun b u e=>?_
 . rw[Ce b (fun z=>by rw[z,hp] at n;cases n) (fun z=>by rw[z,yf] at n;cases n) (fun z=>by rw[z,Kw] at n;cases n) (fun z=>by rw[z,Ub] at n;cases n)]
   exact n
 . by_cases b1:b=p
   . subst b1
     rw[Ud] at e;cases e
     refine⟨⟨_,e1⟩,1,by decide,⟨f,rfl⟩,rfl,fun j a h hj=>?_,by simp[n1],fun n hn=>by rw[List.mem_replicate] at hn;omega,fun j a h n hj hn=>?_⟩
     . match j,hj with
       | 0,hj=>cases hj;exact .inl rfl
       | 1,hj=>cases hj;exact .inr P6
     . match j,hj,hn with
       | 0,hj,hn=>
         cases hj;cases hn
         refine⟨_,_,e1,rfl,fun i hi=>?_⟩
         have:i=0:=by omega
         subst this
         exact⟨q1,o1,nh,rfl,Ih,f1.kp kp⟩
       | 1,hj,hn=>
         cases hj;cases hn
         refine⟨_,_,e2,rfl,fun i hi=>?_⟩
         have:i=0:=by omega
         subst this
         exact⟨q2,o2,zO,rfl,Ue,f2.kp kp⟩
   . by_cases b2:b=p2
     . subst b2;rw[P6] at e;cases e;exact⟨_,e2⟩
     . by_cases b3:b=q1
       . subst b3;rw[Ih] at e;cases e
         refine⟨Uc,⟨wA,lo1,Xr,Xs,o1,Xt,Xu,Uc,Xv⟩,fun a i ht=>?_⟩
         cases ht
         exact⟨by rw[Ud];trivial,_,_,e1,rfl⟩
       . by_cases b4:b=q2
         . subst b4;rw[Ue] at e;cases e
           refine⟨VL,⟨RG,lo2,vs2,kr2,o2,es2,ep2,VL,hr2⟩,fun a i ht=>?_⟩
           cases ht
           exact⟨by rw[P6];trivial,_,_,e2,rfl⟩
         . rw[Ce b b1 b2 b3 b4] at e
           exact(I.bh b u e).wg (fun _ _ _ q=>q) (fun c q=>sU c _ q rfl) (fun c xs q=>sU c _ q rfl) kp
end
theorem DI (n0:Str)(v:V):∀ fv:List (Str×V),(eJ n0 v fv).length<=fv.length+1
 | []=>aac _
 | (k,w)::r=>by
   have ih:=DI n0 v r
   unfold eJ
   split
   . simp
   . simp only[aaI];omega
section
variable {X:Cx}{G:Gr}{E:XK}{e1 e2:Expr}{fs:List (Str×Dt)}{z C:Addr}{tl:List Slot}{f g:Nat->List (Key×FD)}{n0 n1 x0:Str}{P7 Xw P8 Xx P9 Xy q1 q2:Pos}
theorem yL (no:noOwn tl=true)(cl:tT X.K C)(PU:bu X.K C n0)(W8:bu X.K C n1)(Xz:EO X G (.own (.Al z C fs)::tl) e1 (.cV (nz (f 0))))(Tq:EO X G (.aY::tl) e2 (.cV (nz (g 0))))(Qa:∀ p ls,putD n1 (.memo p ls 1 1) (putD n0 (.memo p ls 0 1) fs)=q9 fs [n0,n1] p ls 1:=by intro _ _;rfl)(hlen:Nat.ble fs.length 990=true:=by rfl)(hN:X.N[0]?=some x0:=by rfl)(hv:uB X.env.scope x0:=by first | exact aaL rfl | exact aaB (aaL rfl) | exact aaB (aaB rfl))(lU:(x0 == ("__debug__":Str))=false:=by decide)(lV:(x0 == ("__classdict__":Str))=false:=by decide)(yJ:starEach [e1] X.env=[(false,eval e1 X.env)]:=by rfl)(LH:starEach [e2] X.env=[(false,eval e2 X.env)]:=by rfl)(F7:swapsWith (.List [e1] P9) (some (.Attribute (.Name x0 P7) n0 P8)) q1.line X.env=pure false:=by rfl)(sH:swapsWith (.List [e2] Xy) (some (.Attribute (.Name x0 Xw) n1 Xx)) q2.line X.env=pure false:=by rfl):l4 X G E (.own (.Al z C fs)::tl) [.Assign [.Attribute (.Name x0 P7) n0 P8] (.List [e1] P9) q1,.Assign [.Attribute (.Name x0 Xw) n1 Xx] (.List [e2] Xy) q2] (.nx (.own (.yh z C fs [f,g] [n0,n1] 1)::tl)):=by
 intro pins s st H D I ⟨Hf,S,k⟩
 have base:=lW (uJ (pos:=q1) (pos':=P8) (iU (pos:=P7) hN hv lU lV) (uL (pos:=P9) (lj Xz nG yJ)) F7) (mC (uJ (pos:=q2) (pos':=Xx) (iU (pos:=Xw) hN hv lU lV) (uL (pos:=Xy) (lj Tq nG LH)) sH))
 let RQ:L2.St->Hp->Prop:=fun jq H'=>∃ p p2 a1 a2 nh zO,H' p=some (.lst [.ref a1])/\H' p2=some (.lst [.ref a2])/\H' a1=some (.dK nh)/\H' a2=some (.dK zO)/\rg H' nh (f 0)/\rg H' zO (g 0)/\p≠p2/\a1≠a2/\ ∀ o1 o2,D.nx jq (conv H' p p2 a1 a2 (.memo [(p,f),(p2,g)]) (.part p) (.kd (some (p,0)) o1 nh) (.kd (some (p2,0)) o2 zO))
 refine bM (base pins s st H { D with nx:=RQ} I ?_) fun fl s7 q7=>?_
 . obtain⟨za,hz,XA,RJ,ez,dx,fv,LJ,rf⟩:=S.own 0 _ rfl
   subst ez
   refine⟨Hf,S,fun a1 Hf1 H1 g1 Ug Qb ⟨nh,Pp,XB⟩=>⟨aaD rfl,fun p hp=>?_⟩⟩
   have wA:H1 za=some (.ins C dx fv):=g1.big _ _ LJ
   have Kx:za≠p:=au wA hp
   have Uh:a1≠p:=au Pp hp
   have Ny:za≠a1:=fun w=>by rw[w,Ug] at LJ;cases LJ
   have XC:(upd H1 p (.lst [.ref a1])) za=some (.ins C dx fv):=by rw[ag Kx];exact wA
   refine⟨_,hz,za,C,dx,fv,rfl,XC,cl,PU,by rw[rf.length];exact aaH (aaD hlen) (by decide),?_⟩
   let H2:Hp:=upd (upd H1 p (.lst [.ref a1])) za (.ins C dx (eJ n0 (.ref p) fv))
   have Fm:Hf1 za=none:=g1.kN XA LJ
   have XD:aV Hf1 H1 Hf1 (upd H1 p (.lst [.ref a1])):=.d8 g1.sub hp
   have S0:du X.K G st Hf H (.aY::tl):=S.weak ⟨rfl,fun i s' e n=>by
     cases i with
     | zero=>cases e;exact absurd rfl n
     | succ i=>exact e⟩
   have VM:noOwn (.aY::tl)=true:=no
   have S2:du X.K G st Hf1 H2 (.aY::tl):=oE ((S0.grow g1).grow XD) VM Fm RJ
   refine⟨Hf1,S2,fun a2 ia H3 g3 n3 n3' ⟨zO,Pq,Tx⟩=>⟨aaD rfl,fun p2 yf=>?_⟩⟩
   have XE:H2 a2=none:=n3
   have VN:H2 za=some (.ins C dx (eJ n0 (.ref p) fv)):=ak
   have VO:H2 p=some (.lst [.ref a1]):=by show(upd (upd H1 p _) za _) p=_;rw[ag (Ne.symm Kx),ak]
   have VP:H2 a1=some (.dK nh):=by show(upd (upd H1 p _) za _) a1=_;rw[ag (Ne.symm Ny),ag Uh];exact Pp
   have Zp:=g3.big _ _ VN
   have Zq:=g3.big _ _ VO
   have Zr:=g3.big _ _ VP
   have LK:za≠p2:=au Zp yf
   have Qc:p≠p2:=au Zq yf
   have Nz:a1≠p2:=au Zr yf
   have NA:a2≠p2:=au Pq yf
   have Qd:za≠a2:=fun w=>by rw[w,XE] at VN;cases VN
   have XG:p≠a2:=fun w=>by rw[w,XE] at VO;cases VO
   have Ui:a1≠a2:=fun w=>by rw[w,XE] at VP;cases VP
   have XH:(upd H3 p2 (.lst [.ref a2])) za=some (.ins C dx (eJ n0 (.ref p) fv)):=by rw[ag LK];exact Zp
   refine⟨_,hz,za,C,dx,_,rfl,XH,cl,W8,?_,?_⟩
   . have:=DI n0 (.ref p) fv
     have h9:=aaD hlen
     have:=rf.length
     omega
   let H4:Hp:=upd (upd H3 p2 (.lst [.ref a2])) za (.ins C dx (eJ n1 (.ref p2) (eJ n0 (.ref p) fv)))
   have XI:H4 p=some (.lst [.ref a1]):=by show(upd (upd H3 p2 _) za _) p=_;rw[ag (Ne.symm Kx),ag Qc];exact Zq
   have XJ:H4 p2=some (.lst [.ref a2]):=by show(upd (upd H3 p2 _) za _) p2=_;rw[ag (Ne.symm LK),ak]
   have Qe:H4 a1=some (.dK nh):=by show(upd (upd H3 p2 _) za _) a1=_;rw[ag (Ne.symm Ny),ag Nz];exact Zr
   have XM:H4 a2=some (.dK zO):=by show(upd (upd H3 p2 _) za _) a2=_;rw[ag (Ne.symm Qd),ag NA];exact Pq
   have XO:H4 za=some (.ins C dx (eJ n1 (.ref p2) (eJ n0 (.ref p) fv))):=ak
   have XQ:ia za=none:=g3.kN Fm VN
   have VQ:ia p=none:=g3.kN (g1.sub.free hp) VO
   have XR:ia a1=none:=g3.kN Qb VP
   have Uj:ia p2=none:=g3.sub.free yf
   have yK:aC ia H4:=fun b o e=>by
     have b1:b≠za:=fun w=>by rw[w,XQ] at e;cases e
     have b2:b≠p2:=fun w=>by rw[w,Uj] at e;cases e
     show(upd (upd H3 p2 _) za _) b=_
     rw[ag b1,ag b2];exact g3.sub _ _ e
   have S4:du X.K G st ia H4 (.aY::tl):=oE ((S2.grow g3).grow (.d8 g3.sub yf)) VM XQ RJ
   have gp:G.H p=none:=S.gr.big.free (g1.big.free hp)
   have Uk:G.H a1=none:=S.gr.big.free Ug
   have Zs:G.H p2=none:=S2.gr.big.free (g3.big.free yf)
   have Zt:G.H a2=none:=S2.gr.big.free n3
   have Ul:rg ia nh (f 0):=pR (XB.mono g3.bj)
   have Zu:rg ia zO (g 0):=pR Tx
   refine⟨p,p2,a1,a2,nh,zO,XI,XJ,Qe,XM,fJ (fun b u e _=>yK _ _ e) Ul,fJ (fun b u e _=>yK _ _ e) Zu,Qc,Ui,fun o1 o2=>?_⟩
   let ls:iR:=[(p,f),(p2,g)]
   let u1:HO:=.memo ls
   let u3:HO:=.kd (some (p,0)) o1 nh
   let u4:HO:=.kd (some (p2,0)) o2 zO
   have m1:p≠a1:=Ne.symm Uh
   have cat:∀ (B:Hp),conv B p p2 a1 a2 u1 (.part p) u3 u4 p=some u1/\conv B p p2 a1 a2 u1 (.part p) u3 u4 p2=some (.part p)/\conv B p p2 a1 a2 u1 (.part p) u3 u4 a1=some u3/\conv B p p2 a1 a2 u1 (.part p) u3 u4 a2=some u4:=fun B=>by
     unfold conv
     refine⟨?_,?_,?_,?_⟩
     . rw[ag XG,ag m1,ag Qc,ak]
     . rw[ag (Ne.symm NA),ag (Ne.symm Nz),ak]
     . rw[ag Ui,ak]
     . rw[ak]
   have vd:∀ (B:Hp) b,b≠p->b≠p2->b≠a1->b≠a2->conv B p p2 a1 a2 u1 (.part p) u3 u4 b=B b:=fun B b c1 c2 c3 c4=>by unfold conv;rw[ag c4,ag c3,ag c2,ag c1]
   let we:Hp:=conv ia p p2 a1 a2 u1 (.part p) u3 u4
   have Gb:aC ia we:=fun b o e=>by
     show conv ia p p2 a1 a2 u1 (.part p) u3 u4 b=some o
     rw[vd ia b (fun w=>by rw[w,VQ] at e;cases e) (fun w=>by rw[w,Uj] at e;cases e) (fun w=>by rw[w,XR] at e;cases e) (fun w=>by rw[w,n3'] at e;cases e)]
     exact e
   have key:∀ (A B:Hp),aC A B->aC (conv A p p2 a1 a2 u1 (.part p) u3 u4) (conv B p p2 a1 a2 u1 (.part p) u3 u4):=fun A B sm=>cK (cK (cK (cK sm)))
   have Qf:aC we (conv H4 p p2 a1 a2 u1 (.part p) u3 u4):=key _ _ yK
   have Ii:aU X.K we (eJ n1 (.ref p2) (eJ n0 (.ref p) fv)) (q9 fs [n0,n1] p ls 1):=by
     rw[<- Qa p ls]
     refine((rf.mono ((g1.bj.trans g3.bj).trans Gb)).put (f:=n0) (d:=.memo p ls 0 1) ?_).put (f:=n1) (d:=.memo p ls 1 1) ?_
     . refine .memo (f:=f) rfl (cat ia).1 (.inl rfl) fun i hi=>?_
       have:i=0:=by omega
       subst this
       exact⟨a1,o1,nh,(cat ia).2.2.1,fJ (fun b u e _=>Gb _ _ e) Ul⟩
     . refine .memo (f:=g) rfl (cat ia).1 (.inr (cat ia).2.1) fun i hi=>?_
       have:i=0:=by omega
       subst this
       exact⟨a2,o2,zO,(cat ia).2.2.2,fJ (fun b u e _=>Gb _ _ e) Zu⟩
   have XS:conv H4 p p2 a1 a2 u1 (.part p) u3 u4 za=some (.ins C dx (eJ n1 (.ref p2) (eJ n0 (.ref p) fv))):=by rw[vd H4 za Kx LK Ny Qd];exact XO
   have XT:we za=none:=by show conv ia p p2 a1 a2 u1 (.part p) u3 u4 za=none;rw[vd ia za Kx LK Ny Qd];exact XQ
   refine k st we _ ((g1.bj.trans g3.bj).trans Gb) ⟨⟨fun b o e=>?_,S4.gr.bj.trans Gb,Qf,fun b o e=>?_⟩,by have:=S4.len;simpa using this,fun i d h=>?_,fun i o h=>?_,fun i j o o' a w1 w2=>?_⟩
   . rw[vd H4 b (fun w=>by rw[w,gp] at e;cases e) (fun w=>by rw[w,Zs] at e;cases e) (fun w=>by rw[w,Uk] at e;cases e) (fun w=>by rw[w,Zt] at e;cases e)]
     exact S4.gr.big _ _ e
   . by_cases c1:b=p
     . rw[c1];exact .inr (.inl gp)
     . by_cases c2:b=p2
       . rw[c2];exact .inr (.inl Zs)
       . by_cases c3:b=a1
         . rw[c3];exact .inr (.inl Uk)
         . by_cases c4:b=a2
           . rw[c4];exact .inr (.inl Zt)
           . have e:conv ia p p2 a1 a2 u1 (.part p) u3 u4 b=some o:=e
             rw[vd ia b c1 c2 c3 c4] at e
             exact S4.gr.new b o e
   . cases i with
     | zero=>cases h
     | succ i=>
       obtain⟨w,w1,w2⟩:=S4.val (i+1) d h
       exact⟨w,w1,w2.mono Gb⟩
   . cases i with
     | zero=>
       cases h
       exact⟨za,hz,XT,RJ,rfl,dx,_,p,ls,rfl,XS,Ii⟩
     | succ i=>exact absurd h (aP no i o)
   . cases i with
     | zero=>cases j with
       | zero=>exact fun _ _=>rfl
       | succ j=>exact absurd w2 (aP no j o')
     | succ i=>exact absurd w1 (aP no i o)
 . cases fl with
   | next=>
     obtain⟨σ7,H7,I7,p,p2,a1,a2,nh,zO,y1,y2,y3,y4,y5,y6,y7,y8,kk⟩:=q7
     obtain⟨o1,o2,I8⟩:=Inv.P5 I7 y1 y2 y3 y4 y5 y6 y7 y8
     exact⟨σ7,_,I8,kk o1 o2⟩
   | cont=>exact q7
   | brk=>exact q7
   | ret v=>exact q7
end
theorem gw:PySem.Slot "reversed" "__next__" "reversed.__next__":=
 .of (owner:="reversed") (n:="__next__") (by rw[typeLookup_type,builtinLookup_eq_fast];kernel_rfl) (by decide +kernel) (by decide +kernel) (by decide +kernel)
   (by first | exact .inl (by decide +kernel) | exact .inr (by decide +kernel)) (by rw[isSubtype_type];kernel_rfl)
theorem nQ:entryFor table "reversed.__next__"=some Builtin.«reversed.__next__»:=entryFor_of_tree (by kernel_rfl)
theorem ni (a:Value):argsOk "reversed.__next__" ⟨[a],[]⟩:=by unfold argsOk;kernel_rfl
theorem pC:PySem.Slot "reversed" "__iter__" "reversed.__iter__":=
 .of (owner:="reversed") (n:="__iter__") (by rw[typeLookup_type,builtinLookup_eq_fast];kernel_rfl) (by decide +kernel) (by decide +kernel) (by decide +kernel)
   (by first | exact .inl (by decide +kernel) | exact .inr (by decide +kernel)) (by rw[isSubtype_type];kernel_rfl)
theorem sV (a:Value):argsOk "reversed.__iter__" ⟨[a],[]⟩:=by unfold argsOk;kernel_rfl
theorem vf:entryFor table "reversed.__iter__"=some Builtin.«dict_keyiterator.__iter__»:=
 entryFor_alias (id':="dict_keyiterator.__iter__") (by kernel_rfl) (by first | rfl | decide +kernel | (unfold String.splitOn;simp +decide [String.splitOnAux])) (by decide +kernel) (by kernel_rfl)
theorem wC:PySem.Slot "reversed" "__init__" "object.__init__":=
 .of (owner:="object") (n:="__init__") (by rw[typeLookup_type,builtinLookup_eq_fast];kernel_rfl) (by decide +kernel) (by decide +kernel) (by decide +kernel)
   (by first | exact .inl (by decide +kernel) | exact .inr (by decide +kernel)) (by rw[isSubtype_type];kernel_rfl)
theorem Cj:TypeCalled "reversed" "reversed.__new__" "object.__init__":=
 ⟨by decide +kernel,by decide +kernel,⟨_,_,F.mro_reversed⟩,F.made_reversed,by decide +kernel,F.sub_reversed_self,wC⟩
theorem o7:typeLookup (.type "str") "__reversed__"=pure none:=by rw[typeLookup_type,builtinLookup_eq_fast];kernel_rfl
theorem kP:typeLookup (.type "str") "__getitem__"=pure (some (.builtin "str.__getitem__")):=by rw[typeLookup_type,builtinLookup_eq_fast];kernel_rfl
theorem wD:isSubtype (.type "str") (.type "dict")=pure false:=by rw[isSubtype_type];kernel_rfl
section
variable {prog:Program}{w:World}{A:Around}{E:Value->Shared->Prop}{s:Shared}
noncomputable def NB (x:Str)(t:Tok)(i:Int):Obj:={ cls:=.type "reversed",data:=.fields #[.str x t,rawInt i]}
def pU (h:Heap)(a:Addr)(x:Str)(t:Tok)(i:Int):Prop:=∃ o,h.get? a=some o/\o.cls=.type "reversed"/\o.data=.fields #[.str x t,rawInt i]
theorem pU.typeIs {a:Addr}{x:Str}{t:Tok}{i:Int}(q:pU s.heap a x t i):s.TypeIs (.ref a) "reversed":=let ⟨o,ho,hc,_⟩:=q;⟨o,ho,hc⟩
theorem Ij (x:Str)(t:Tok)(uP:¬ (x.length:Int) >= 2 ^ 63):MeetsIn prog w (Builtin.«reversed.__new__» ⟨[.type "reversed",.str x t],[]⟩) (fun A R s=>R (.ok (.ret (.ref s.heap.objs.size))) { s with heap:=s.heap.push (NB x t ((x.length:Int) - 1)),toks:=s.toks+1+1}):=
 .of_wp fun A R s h=>by
   unfold Builtin.«reversed.__new__»
   refine wpAny_bind (wpAny_of_eq (newClass_reversed _) ?_)
   try dsimp only
   refine wpAny_bind (wpAny_of_eq (a:=()) (by first | rfl | kernel_rfl) ?_)
   refine wpAny_bind (wpAny_of_eq (a:=()) (by first | rfl | kernel_rfl) ?_)
   try dsimp only
   refine wpAny_bind (wpAny_specialOf (typeIs_str s x t) o7 ?_)
   try dsimp only
   refine wpAny_bind (wpAny_bind (wpAny_isInstance (typeIs_str s x t) wD ?_))
   rw[if_neg aal]
   refine wpAny_bind (wpAny_specialOf (typeIs_str s x t) kP ?_)
   refine wpAny_of_eq (a:=true) (by kernel_rfl) ?_
   rw[if_neg (show ¬ ((!true)=true) from aal)]
   try dsimp only
   refine wpAny_bind (len_str uP ?_)
   refine wpAny_bind (wpAny_of_eq (a:=some (x.length:Int)) rfl ?_)
   try dsimp only
   refine wpAny_bind ?_
   show wpAny _ _ (newObj (.type "reversed") (.fields #[.str x t,rawInt ((x.length:Int) - 1)])) _ _ _
   exact wpAny_newObj_type (wpAny_pure ⟨_,rfl,h⟩)
theorem Fn {x:Str}{t:Tok}{Q:Value->Shared->Prop}(uP:¬ (x.length:Int) >= 2 ^ 63)(h:Q (.ref s.heap.objs.size) { s with heap:=s.heap.push (NB x t ((x.length:Int) - 1)),toks:=s.toks+1+1}):wpAny (model prog w) A (call (.type "reversed") [.str x t]) Q E s:=
 callType_newIn Cj (by decide) (F.typeCall_reversed_1 _) (F.newCall_reversed_1 _) (fun obj=>F.args_object_init_2 obj _) F.entry_reversed_new (Ij x t uP) ⟨⟨_,aai _ rfl,rfl⟩,h⟩
theorem rV {it:Addr}{x:Str}{t:Tok}{i c:Nat}{Q:Option Value->Shared->Prop}(hit:pU s.heap it x t (i:Int))(hx:x.cps[i]?=some c)(uP:¬ (x.length:Int) >= 2 ^ 63)(hQ:∀ h',pU h' it x t ((i:Int) - 1)->aaX it s.heap h'->Q (some (.str ⟨#[c]⟩ (s.toks+1))) { s with heap:=h',toks:=s.toks+1+1}):wpAny (model prog w) A (pyNext (.ref it)) Q E s:=by
 obtain⟨o,ho,hc,hd⟩:=id hit
 have Vo:i < x.length:=by
   have:=(abt.mp hx).1
   exact this
 unfold pyNext
 refine wpAny_bind (wpAny_attempt (wpAny_callSpecial?_slot (name:=Str.ofString "__next__") hit.typeIs gw
   (wpAny_call_entry gw hit.typeIs nQ ?_ (ni _))))
 unfold Builtin.«reversed.__next__»
 refine wpAny_bind (wpAny_of_eq (a:=(Value.ref it,[])) rfl ?_)
 try dsimp only
 refine wpAny_bind (wpAny_field ho hd (x:=.str x t) rfl ?_)
 refine wpAny_bind (wpAny_field ho hd (x:=rawInt (i:Int)) rfl ?_)
 show wpAny _ _ (if (i:Int) < 0 then _ else _) _ _ s
 rw[if_neg (by omega)]
 refine wpAny_bind (wpAny_specialOf (typeIs_str s x t) kP ?_)
 rw[if_neg (show ¬ ((some (Value.builtin "str.__getitem__")).isNone=true) from aal)]
 try dsimp only
 refine wpAny_bind (wpAny_mkInt ?_)
 refine wpAny_bind (wpAny_attempt (getItem_str (c:=c) ?_ ?_ ?_))
 . have e1:decide ((i:Int) < -(2 ^ 63:Int))=false:=decide_eq_false (by omega)
   have e2:decide ((i:Int) >= 2 ^ 63)=false:=decide_eq_false (by omega)
   rw[e1,e2];rfl
 . have e:seqIndex? (i:Int) x.length=some i:=by
     unfold seqIndex?
     simp
     omega
   rw[e];exact hx
 try dsimp only
 refine wpAny_bind (wpAny_field ho hd (x:=rawInt (i:Int)) rfl ?_)
 try dsimp only
 refine wpAny_bind (wpAny_setField ho hd (by simp) ?_)
 refine wpAny_pure ⟨_,rfl,wpAny_pure (hQ _ ?_ (aaX.update ..))⟩
 exact⟨_,abI _ ho (Obj.isFreed_of_fields (Obj.data_mapFields hd _)),(Obj.cls_mapFields ..).trans hc,by
   rw[Obj.data_mapFields hd];simp⟩
theorem sW {it:Addr}{x:Str}{t:Tok}{Q:Option Value->Shared->Prop}(hh:A.handled=none)(hit:pU s.heap it x t (-1))(hQ:∀ h',Heap.ExtBut it s.heap h'->Q none { s with heap:=h'}):wpAny (model prog w) A (pyNext (.ref it)) Q E s:=by
 obtain⟨o,ho,hc,hd⟩:=id hit
 unfold pyNext
 refine wpAny_bind (wpAny_attempt (wpAny_callSpecial?_slot (name:=Str.ofString "__next__") hit.typeIs gw
   (wpAny_call_entry gw hit.typeIs nQ ?_ (ni _))))
 unfold Builtin.«reversed.__next__»
 refine wpAny_bind (wpAny_of_eq (a:=(Value.ref it,[])) rfl ?_)
 try dsimp only
 refine wpAny_bind (wpAny_field ho hd (x:=.str x t) rfl ?_)
 refine wpAny_bind (wpAny_field ho hd (x:=rawInt (-1)) rfl ?_)
 show wpAny _ _ (if (-1:Int) < 0 then _ else _) _ _ s
 rw[if_pos (by decide)]
 refine wpAny_bind (wpAny_rule ?_)
 refine wpAny_bind (wpAny_bind (wpAny_setField ho hd (by simp) ?_))
 have VL:=abI (Obj.mapFields (·.setIfInBounds 1 (rawInt (-1)))) ho (Obj.isFreed_of_fields (Obj.data_mapFields hd _))
 refine wpAny_setField VL (Obj.data_mapFields hd _) (by simp) ?_
 refine wpAny_bind ?_
 show wpAny _ _ (newExc (.type "StopIteration") [] >>= _) _ _ _
 refine wpAny_bind ?_
 simp only[newExc,newTuple]
 refine wpAny_bind (wpAny_newObj_type ?_ (by size_fits))
 refine wpAny_bind (m:=firstArgMember _ _) (wpAny_of_eq (a:=Value.none) (by first | rfl | (simp only[firstArgMember];rfl)) ?_)
 refine wpAny_newObj_type ?_ (by size_fits)
 simp only[raiseNew]
 refine wpAny_bind (wpAny_handled ?_)
 first | rw[show A.in1.handled=none from hh] | rw[hh]
 refine wpAny_bind (wpAny_pure (wpAny_throw ?_))
 refine wpAny_bind (wpAny_isInstance (T:="StopIteration") (b:=true) ⟨_,aai _ rfl,rfl⟩ isSubtype_stop ?_)
 exact wpAny_pure (hQ _ (Heap.ExtBut.push (Heap.ExtBut.push (fun b o ne e=>((aaX.update ..).2 b ne).trans (((aaX.update ..).2 b ne).trans e)) _) _))
theorem sO {it:Addr}{x:Str}{t:Tok}{i:Int}{Q:Value->Shared->Prop}(hit:pU s.heap it x t i)(h:Q (.ref it) s):wpAny (model prog w) A (pyIter (.ref it)) Q E s:=by
 refine wpAny_pyIter_slot hit.typeIs pC (wpAny_call_entry pC hit.typeIs vf ?_ (sV _))
 show wpAny _ _ (ret (.ref it)) _ _ s
 exact wpAny_pure ⟨_,rfl,"reversed",_,hit.typeIs,gw.lookup,h⟩
end
noncomputable def Um (x:Str):It:=
 ⟨fun i H=>i < x.length,fun i H v H'=>H'=H/\∃ c,x.cps[x.length - 1 - i]?=some c/\v=.str ⟨#[c]⟩,fun i H=>i=x.length⟩
theorem Fp {P:Program}{w:World}{K:W.Frag}{tg:Expr}(x:Str)(t:Tok)(it:Addr)(uP:¬ (x.length:Int) >= 2 ^ 63):Turn P w K tg (Um x) [it] it (fun i h=>pU h it x t ((x.length:Int) - 1 - i)) where
 mem:=by simp
 obj:=fun i h st b hb=>by
   have e:b=it:=by simpa using hb
   subst e
   obtain⟨o,e,c,d⟩:=st
   exact⟨o,e,fun v z=>by rw[d] at z;cases z⟩
 keep:=fun i h h' st k=>let ⟨o,e,c,d⟩:=st;⟨o,k it (by simp) o e,c,d⟩
 item:=by
   intro X hP hw hK hc i pins s σ H E I hf st hg
   subst hP hw hK
   have hg:i < x.length:=hg
   obtain⟨f0,f1,f2,f3,f4,f5⟩:=hf it (by simp)
   have e1:(x.length:Int) - 1 - i=((x.length - 1 - i:Nat):Int):=by omega
   rw[e1] at st
   have cX:x.length - 1 - i < x.cps.size:=by show _ < x.length;omega
   refine rV (c:=x.cps[x.length - 1 - i]) st (Array.getElem?_eq_getElem cX) uP fun h' jq sb=>?_
   have I1:L2.Inv X pins σ H { s with heap:=h',toks:=s.toks+1+1}:=I.turned (t':=s.toks+1+1) (fun b o hb e=>(sb.2 b hb).trans e) f0 f1 f3 f4 f5
   have e2:((x.length - 1 - i:Nat):Int) - 1=(x.length:Int) - 1 - ((i+1:Nat):Int):=by omega
   rw[e2] at jq
   obtain⟨o,e,c,d⟩:=id jq
   exact⟨_,rfl,z5 (s:={ s with heap:=h',toks:=s.toks+1+1}) e c d (by decide) ⟨.str ⟨#[x.cps[x.length - 1 - i]]⟩,H,I1,⟨_,rfl⟩,⟨rfl,_,Array.getElem?_eq_getElem cX,rfl⟩,jq,fun b hb=>(hf b hb).1⟩⟩
 done:=by
   intro X hP hw hK hc i pins s σ H E I hf st hg
   subst hP hw hK
   have hg:i=x.length:=hg
   subst hg
   obtain⟨f0,f1,f2,f3,f4,f5⟩:=hf it (by simp)
   have e1:(x.length:Int) - 1 - (x.length:Nat)=-1:=by omega
   rw[e1] at st
   exact sW (I.ok.hd hc) st fun h' eb=>⟨rfl,I.turned (t':=s.toks) (fun b o hb e=>eb b o hb e) f0 f1 f3 f4 f5⟩
 self:=fun _ _ _ _ _ st h=>sO st h
theorem Il:bootBuiltins "reversed"=some (.type "reversed"):=by decide +kernel
section
variable {X:Cx}{G:Gr}{dl:List Slot}{a:Expr}{x:Str}{p pos:Pos}
def NC (ta:TA):TI:=fun σ H R=>ta σ H fun vs H1=>∃ x,vs=[.str x]/\(¬ (x.length:Int) >= 2 ^ 63)/\R (Um x) H1
theorem LL {tg:Expr}{ta:TA}(hm:X.mg "reversed"=none)(ha:PA X [a] ta)(hg:Gl X "reversed":=by rfl)(hs:starEach [a] X.env=[(false,eval a X.env)]:=by rfl):PI X tg (.Call (.Name "reversed" p) [a] [] pos) (NC ta):=by
 intro pins s σ H R I h
 refine Call_ (nE I hg hm Il (PyProof.Rows.callWith_type1 (bM (ha pos pins s σ H _ I h) fun us s1 ⟨vs,H1,I1,r1,q1⟩=>?_) hs rfl))
 obtain⟨x,e,uP,q⟩:=q1
 subst e
 cases r1 with
 | cons r rr=>
   cases rr
   obtain⟨t,rfl⟩:=(show ∃ t,_=Value.str x t from r)
   refine Fn uP (sO (x:=x) (t:=t) (i:=(x.length:Int) - 1) ⟨_,aai _ rfl,rfl,rfl⟩ ?_)
   refine⟨s1.heap.objs.size,[s1.heap.objs.size],_,_,H1,rfl,I1.kept (t':=s1.toks+1+1) fun b o e=>Vf _ e,Fp x t _ uP,?_,fun b hb=>?_,q⟩
   . have e:((x.length:Int) - 1)=(x.length:Int) - 1 - ((0:Nat):Int):=by omega
     rw[<- e]
     exact⟨_,aai _ rfl,rfl,rfl⟩
   . have e:b=s1.heap.objs.size:=by simpa using hb
     subst e
     exact I1.rq (aac _) (I1.bh.fresh (aac _))
theorem Fq (hl:x.length<=1000000):qC X G dl (signs x).reverse (NC (OQ X.K G dl [.str x])):=fun st H R zq=>aaa zq fun Hf zq=>have S:=zq.1;have k:=zq.2;⟨Hf,S,fun vs Hf1 H1 g1 r1=>by
 cases r1 with
 | cons r t=>
   cases t
   cases r
   have Zv:=kG x
   refine⟨x,rfl,by omega,k _ Hf1 H1 g1 fun bD H2 s1 s2 i=>⟨fun z hz=>?_,fun hi=>?_⟩⟩
   . have hi:i < (signs x).length:=by
       have:=(aad.mp hz).1
       simpa using this
     rw[List.getElem?_reverse hi,signs_get,Zv] at hz
     refine⟨by show i < x.length;omega,fun v H3 hy=>?_⟩
     obtain⟨e1,c,e2,e3⟩:=hy
     subst e1 e3
     rw[e2] at hz
     cases hz
     exact⟨bD,.refl s2,.str _⟩
   . show i=x.length
     rw[hi,abw,Zv]⟩
theorem xE {K:W.Frag}{H:Hp}:∀ {ds:List Dt} {d:Dt} {vs:List V},aM K H vs (ds ++ [d])->∃ ws v,vs=ws ++ [v]/\aM K H ws ds/\Rep K H v d
 | [],d,_,.cons r .nil=>⟨[],_,rfl,.nil,r⟩
 | e::ds,d,_,.cons r t=>by
   obtain⟨ws,v,e1,r1,r2⟩:=xE t
   exact⟨_::ws,v,by rw[e1];rfl,.cons r r1,r2⟩
variable {E:XK}{d:Dt}{ds:List Dt}{y z:Str}{px pn apos bN:Pos}
theorem Qg (m n:Nat)(hN:X.N.Nodup)(hd:dl[n]?=some (.own (.lst (ds ++ [d]))))(hm:X.N[m]?=some y:=by rfl)(hy:Loc X.env.scope y:=by first | exact aaL rfl | exact aaB rfl)(WR:X.N[n]?=some z:=by rfl)(hv:uB X.env.scope z:=by first | exact aaL rfl | exact aaB (aaL rfl) | exact aaB (aaB rfl))(lU:(z == ("__debug__":Str))=false:=by decide)(lV:(z == ("__classdict__":Str))=false:=by decide)(ju:attributeBase (.Name z pn) "pop" X.env (eval (.Name z pn) X.env)=eval (.Name z pn) X.env:=by rfl)(jv:(apos.endLine == bN.line)=true:=by rfl)(hs:swapsWith (.Call (.Attribute (.Name z pn) "pop" apos) [] [] bN) (some (.Name y px)) pos.line X.env=pure false:=by rfl)(hf:X.fn y=true\/X.env.scope.names.lookup y=some .local:=by first | exact .inl rfl | exact .inr rfl | assumption):ES X G E dl (.Assign [.Name y px] (.Call (.Attribute (.Name z pn) "pop" apos) [] [] bN) pos) (.nx ((dl.set n (.own (.lst ds))).set m (.val d))):=
 tV (x4 hN hm hy (GL PySem.F.plainAttrs_list PySem.F.slot_list_pop PySem.F.type_list_pop OI (uX (G:=G) (p:=pn) n hd WR hv lU lV) ju jv) hs hf) fun D st H zq=>aaa zq fun Hf zq=>have S:=zq.1;have k:=zq.2;by
   obtain⟨q,z1,z2,z3,vs,hq,rp⟩:=S.own n _ hd
   obtain⟨ws,v,ev,r1,r2⟩:=xE rp
   subst ev
   refine⟨Hf,q,S,z1,z2,⟨_,hq,rp⟩,.inl ⟨rfl,_,.of hq⟩,q,_,v,rfl,rfl,hq,by simp,k _ Hf _ (aC.refl _) ((S.ER hd z1 (w':=.lst ds) ⟨_,ak,?_⟩).set r2)⟩
   rw[List.dropLast_concat];exact r1
end
section
variable {ns:List Int}
theorem oo:∀ {ns:List Int} {aE:List Value},Vals (ns.map V.int) aE->IntsAre aE ns
 | [],_,r=>by cases r;exact .nil
 | n::ns,_,r=>by
   cases r with
   | cons h t=>obtain⟨tk,rfl⟩:=h;exact .cons _ tk (oo t)
end
theorem xF {K:W.Frag}{H:Hp}:∀ (ns:List Int),aM K H (ns.map V.int) (ns.map Dt.int)
 | []=>.nil
 | n::r=>.cons (.int n) (xF r)
theorem qG {K:W.Frag}{H:Hp}:∀ {ns:List Int} {vs:List V},aM K H vs (ns.map Dt.int)->vs=ns.map V.int
 | [],_,.nil=>rfl
 | n::r,_,.cons h t=>by cases h;rw[qG t];rfl
noncomputable def Gd (fs:List (Str×FD)):List (Str×Dt):=fs.map fun kd=>(kd.1,VA kd.2)
theorem DJ {K:W.Frag}{H:Hp}:∀ {fv:List (Str×V)} {fs:List (Str×FD)},Gf H fv fs->aU K H fv (Gd fs)
 | _,_,.nil=>.nil
 | _,_,.cons h t=>.cons (HW h) (DJ t)
theorem Im {K:W.Frag}{H:Hp}:∀ {fv:List (Str×V)} {fs:List (Str×FD)},aU K H fv (Gd fs)->Gf H fv fs
 | _,[],.nil=>.nil
 | _,(k,d)::fd,.cons h t=>.cons (Nt h) (Im t)
section
variable {X:Cx}{G:Gr}{E:XK}{dl:List Slot}{e:Expr}{sts:List Stmt}{ou:Out}{C:Addr}{fs:List (Str×FD)}{ns:List Int}{K':W.Frag}
theorem ND (h:EE X G dl e (.hX (.obj C fs))):EE X G dl e (.obj C (Gd fs)):=hV h fun st H Q zq=>aaa zq fun Hf zq=>have S:=zq.1;have k:=zq.2;⟨Hf,S,fun v Hf1 H1 g1 r1=>by
 cases r1 with
 | hX h=>cases h with
   | @obj a _ dx o fv _ e f=>exact k _ Hf1 H1 g1 (.obj (.inr (.inr (.inr ⟨o,e⟩))) (DJ f))⟩
theorem pV (h:EE X G dl e (.hX (.lst ns))):EE X G dl e (.oy ns):=hV h fun st H Q zq=>aaa zq fun Hf zq=>have S:=zq.1;have k:=zq.2;⟨Hf,S,fun v Hf1 H1 g1 r1=>by
 cases r1 with
 | hX h=>cases h with
   | @lst a o _ e=>exact k _ Hf1 H1 g1 (.oy (.inl (.inr (.inr (.inr ⟨o,e⟩)))))⟩
theorem Qh (h:EE X G dl e (.hX (.tup K' ns)))(hK:K'=X.K):EE X G dl e (.tup (ns.map .int)):=hV h fun st H Q zq=>aaa zq fun Hf zq=>have S:=zq.1;have k:=zq.2;⟨Hf,S,fun v Hf1 H1 g1 r1=>by
 subst hK
 cases r1 with
 | hX h=>cases h with
   | tup e=>exact k _ Hf1 H1 g1 (.tup e (xF _))⟩
theorem Qi (h:EE X G dl e (.tup (ns.map .int)))(hK:K'=X.K):EE X G dl e (.hX (.tup K' ns)):=hV h fun st H Q zq=>aaa zq fun Hf zq=>have S:=zq.1;have k:=zq.2;⟨Hf,S,fun v Hf1 H1 g1 r1=>by
 subst hK
 cases r1 with
 | tup s r=>
   rw[qG r] at s
   exact k _ Hf1 H1 g1 (.hX (.tup s))⟩
theorem Io (h:EO X G dl e (.obj C (Gd fs))):EE X G dl e (.hX (.obj C fs)):=by
 intro pins s st H Q I ⟨Hf,S,kk⟩
 refine bM (h pins s st H (fun v H'=>∃ p aH,v=.ref p/\aV Hf H aH H'/\H p=none/\aH p=none/\gj X.K aH H' p (.obj C (Gd fs))) I ⟨Hf,S,fun p aH H' g n n' r=>⟨p,aH,rfl,g,n,n',r⟩⟩) fun u s1 ⟨v,H',I1,rv,q,aH,ev,g,n,n',dx,fv,hq,rp⟩=>?_
 subst ev
 obtain⟨hd,hz,ne,ho,mA,hr⟩:=(show aO X.prog X.w H' s1.heap q (.ins C dx fv) from I1.bh q _ hq)
 let ob:=W.instObj C dx
 have I2:L2.Inv X pins st (upd H' q (.kx ob (.ins C dx fv))) s1:=mE (h':=s1.heap) (t':=s1.toks) I1 (by rw[hq];trivial) ⟨rfl,fun _ _=>rfl⟩ ⟨ob,ho⟩ ⟨ho,⟨by rw[ag ne];exact hd,hz,ne,ho,mA,hr⟩⟩
 have sm:aC aH (upd aH q (.kx ob (.ins C dx fv))):=bA n'
 refine⟨.ref q,_,I2,rv,kk _ (upd aH q (.kx ob (.ins C dx fv))) _ ⟨fun b o hb=>?_,g.bj.trans sm,cK g.sub,fun b o hb=>?_⟩ (.hX (.obj ak ((Im rp).st fun b u e _=>sm b u e)))⟩
 . rw[ag (au hb n)];exact g.big _ _ hb
 . by_cases e:b=q
   . subst e;exact .inr (.inl n)
   . rw[ag e] at hb;exact g.new b o hb
theorem Qj (h:EO X G dl e (.lst (ns.map .int))):EE X G dl e (.hX (.lst ns)):=by
 intro pins s st H Q I ⟨Hf,S,kk⟩
 refine bM (h pins s st H (fun v H'=>∃ p aH,v=.ref p/\aV Hf H aH H'/\H p=none/\aH p=none/\gj X.K aH H' p (.lst (ns.map .int))) I ⟨Hf,S,fun p aH H' g n n' r=>⟨p,aH,rfl,g,n,n',r⟩⟩) fun u s1 ⟨v,H',I1,rv,q,aH,ev,g,n,n',vs,hq,rp⟩=>?_
 subst ev
 have ev:=qG rp
 subst ev
 obtain⟨hz,aE,c,r,ho⟩:=(show aO X.prog X.w H' s1.heap q (.lst (ns.map V.int)) from I1.bh q _ hq)
 let ob:Obj:={ cls:=.type "list",data:=.seq aE.toArray c}
 have I2:L2.Inv X pins st (upd H' q (.kx ob (.lst (ns.map V.int)))) s1:=mE (h':=s1.heap) (t':=s1.toks) I1 (by rw[hq];trivial) ⟨rfl,fun _ _=>rfl⟩ ⟨ob,ho⟩ ⟨ho,hz,aE,c,r,ho⟩
 have sm:aC aH (upd aH q (.kx ob (.lst (ns.map V.int)))):=bA n'
 refine⟨.ref q,_,I2,rv,kk _ (upd aH q (.kx ob (.lst (ns.map V.int)))) _ ⟨fun b o hb=>?_,g.bj.trans sm,cK g.sub,fun b o hb=>?_⟩ (.hX (.lst ak))⟩
 . rw[ag (au hb n)];exact g.big _ _ hb
 . by_cases e:b=q
   . subst e;exact .inr (.inl n)
   . rw[ag e] at hb;exact g.new b o hb
theorem uc (n:Nat)(h:l4 X G E (dl.set n (.val (.hX (.lst ns)))) sts ou)(hd:dl[n]?=some (.own (.lst (ns.map .int))):=by rfl):l4 X G E dl sts ou:=by
 intro pins s st H D I ⟨Hf,S,k⟩
 have ln:=S.len
 obtain⟨q,h1,h2,h3,vs,h4,h5⟩:=S.own n _ hd
 have ev:=qG h5
 subst ev
 have hl:n < dl.length:=(aad.mp hd).1
 obtain⟨hz,aE,c,r,ho⟩:=(show aO X.prog X.w H s.heap q (.lst (ns.map V.int)) from I.bh q _ h4)
 let ob:Obj:={ cls:=.type "list",data:=.seq aE.toArray c}
 have I':L2.Inv X pins st (upd H q (.kx ob (.lst (ns.map V.int)))) s:=mE (h':=s.heap) (t':=s.toks) I (by rw[h4];trivial) ⟨rfl,fun _ _=>rfl⟩ ⟨ob,ho⟩ ⟨ho,hz,aE,c,r,ho⟩
 have sm:aC Hf (upd Hf q (.kx ob (.lst (ns.map V.int)))):=bA h2
 refine h pins s st _ D I' ⟨upd Hf q (.kx ob (.lst (ns.map V.int))),⟨⟨fun b o hb=>?_,S.gr.bj.trans sm,cK S.sub,fun c o hc=>?_⟩,by simp[S.len],fun j y hj=>?_,fun j o' hj=>?_,fun j m o1 o2 c q1 q2 q3 q4=>?_⟩,k.mono sm⟩
 . rw[ag (au hb h3)];exact S.gr.big _ _ hb
 . by_cases hb:c=q
   . subst hb;exact .inr (.inl h3)
   . rw[ag hb] at hc;exact S.gr.new c o hc
 . by_cases e:n=j
   . subst e
     rw[aae hl] at hj;cases hj
     exact⟨_,h1,.hX (.lst ak)⟩
   . rw[aaf e] at hj
     obtain⟨v,z1,z2⟩:=S.val j y hj
     exact⟨v,z1,z2.mono sm⟩
 . by_cases e:n=j
   . subst e;rw[aae hl] at hj;cases hj
   . rw[aaf e] at hj
     obtain⟨c,z1,z2,z3,z4⟩:=S.own j o' hj
     have ne:c≠q:=fun z=>by subst z;exact e (S.EN n j _ _ _ hd hj h1 z1)
     exact⟨c,z1,by rw[ag ne];exact z2,z3,z4.grow (ag ne) sm⟩
 . have nj:n≠j:=fun e=>by subst e;rw[aae hl] at q1;cases q1
   have nm:n≠m:=fun e=>by subst e;rw[aae hl] at q2;cases q2
   rw[aaf nj] at q1
   rw[aaf nm] at q2
   exact S.EN j m o1 o2 c q1 q2 q3 q4
theorem LM {zs:List Int}:He X G dl zs.length (fun k=>(zs.map Dt.int).getD k .cy) (Gu X.K (tD X.K G dl (.oy zs))):=fun st H R zq=>aaa zq fun Hf zq=>have S:=zq.1;have k:=zq.2;⟨Hf,S,fun v Hf1 H1 g1 r1=>by
 cases r1 with
 | @oy q _ hq=>
   refine⟨q,rfl,⟨_,g1.sub.seq hq⟩,k _ Hf1 H1 g1 fun bD H2 g2 i=>⟨fun hi=>?_,fun hi=>⟨_,g2.big.seq (g1.sub.seq hq),by rw[Bn];omega⟩⟩⟩
   have hs:lS X.K H2 q (zs.map V.int):=g2.big.seq (g1.sub.seq hq)
   have z1:(zs.map V.int)[i]?=some (.int zs[i]):=by rw[aab,k3 hi];rfl
   refine⟨⟨_,_,hs,z1⟩,fun v H3 hy=>?_⟩
   obtain⟨e1,e2⟩:=hy
   have e2:=e2 _ hs
   rw[z1] at e2;cases e2
   refine⟨e1,?_⟩
   have e3:(zs.map Dt.int).getD i .cy=.int zs[i]:=by rw[WY,aab,k3 hi];rfl
   show Rep _ _ _ ((zs.map Dt.int).getD i .cy)
   rw[e3];exact .int _⟩
theorem AQ {x:Str}{p pos:Pos}(M:OX X.K C)(hm:X.mg x=some (.ref C))(hg:Gl X x:=by rfl)(lU:(x == ("__debug__":Str))=false:=by decide):EE X G dl (.Call (.Name x p) [] [] pos) (.hX (.obj C [])):=by
 refine Io (fs:=[]) ?_
 intro pins s st H Q I ⟨Hf,S,k⟩
 refine wpAny_Call_Name_kw (tR I hg hm ?_ lU)
 refine W.callWith_K0 I.zW M.kp (EV M I fun x dx hx O8 ne=>?_)
 have C5:(upd H dx (.own x)) x=none:=by rw[ag (Ne.symm ne)];exact hx
 have g1:aV Hf H Hf (upd H dx (.own x)):=.d8 S.sub O8
 have g2:aV Hf (upd H dx (.own x)) Hf (upd (upd H dx (.own x)) x (.ins C dx [])):=.d8 g1.sub C5
 exact k _ _ _ (g1.trans g2) hx (S.sub.free hx) ⟨dx,[],ak,.nil⟩
end
noncomputable def ip (H:Hp)(p q1:Addr)(u1 u3:HO):Hp:=upd (upd H p u1) q1 u3
section
variable {X:Cx}{pins:List (Addr×Obj)}{σ:L2.St}{H:Hp}{s:Shared}{p q1:Addr}{nh:List (Key×V)}{f:Nat->List (Key×FD)}
theorem Inv.LN (I:L2.Inv X pins σ H s)(hp:H p=some (.lst [.ref q1]))(Kw:H q1=some (.dK nh))(f1:rg H nh (f 0)):∃ o1,L2.Inv X pins σ (ip H p q1 (.memo [(p,f)]) (.kd (some (p,0)) o1 nh)) s:=by
 obtain⟨z1,i1,c1,r1,e1⟩:=(show aO X.prog X.w H s.heap p (.lst [.ref q1]) from I.bh p _ hp)
 obtain⟨wA,lo1,Xr,Xs,o1,Xt,Xu,Uc,Xv⟩:=(show aO X.prog X.w H s.heap q1 (.dK nh) from I.bh q1 _ Kw)
 obtain⟨u1,rfl,w1⟩:=vals1 r1
 cases (show u1=Value.ref q1 from w1)
 refine⟨o1,?_⟩
 have m1:p≠q1:=fun z=>by rw[z,Kw] at hp;cases hp
 generalize LI:ip H p q1 (.memo [(p,f)]) (.kd (some (p,0)) o1 nh)=H'
 have Ud:H' p=some (.memo [(p,f)]):=by rw[<- LI];unfold ip;rw[ag m1,ak]
 have Ih:H' q1=some (.kd (some (p,0)) o1 nh):=by rw[<- LI];unfold ip;rw[ak]
 have Ce:∀ b,b≠p->b≠q1->H' b=H b:=fun b a1 a3=>by rw[<- LI];unfold ip;rw[ag a3,ag a1]
 have sU:∀ b o,H b=some o->Zo o=false->H' b=some o:=fun b o e n=>by
   rw[Ce b (fun z=>by rw[z,hp] at e;cases e;cases n) (fun z=>by rw[z,Kw] at e;cases e;cases n)]
   exact e
 have kp:Kp H H':=⟨fun b o e kq=>sU b _ e (by cases o <;> first | rfl | exact(show False from kq).elim),fun b e=>by
   cases q:H b with
   | none=>rw[q] at e;exact e.elim
   | some u=>
     rw[q] at e
     rw[sU b u q (by cases u <;> first | rfl | exact e.elim)]
     exact e,fun b x e=>sU b _ e rfl⟩
 refine I.un (h':=s.heap) (t':=s.toks) ⟨fun b o e _ _ _=>e,fun b o e _ _ _=>⟨o.slots,e⟩,fun b o e n _=>?_,fun b o e _=>⟨o,e⟩,fun b xs e=>sU b _ e rfl,fun b o u e=>sU b _ e rfl,fun b ps e=>⟨#[],by rw[sU b _ e rfl];simp⟩⟩ fun b u e=>?_
 . rw[Ce b (fun z=>by rw[z,hp] at n;cases n) (fun z=>by rw[z,Kw] at n;cases n)]
   exact n
 . by_cases b1:b=p
   . subst b1
     rw[Ud] at e;cases e
     refine⟨⟨_,e1⟩,1,by decide,⟨f,rfl⟩,rfl,fun j a h hj=>?_,by simp,fun n hn=>by rw[List.mem_replicate] at hn;omega,fun j a h n hj hn=>?_⟩
     . match j,hj with
       | 0,hj=>cases hj;exact .inl rfl
     . match j,hj,hn with
       | 0,hj,hn=>
         cases hj;cases hn
         refine⟨_,_,e1,rfl,fun i hi=>?_⟩
         have:i=0:=by omega
         subst this
         exact⟨q1,o1,nh,rfl,Ih,f1.kp kp⟩
   . by_cases b3:b=q1
     . subst b3;rw[Ih] at e;cases e
       refine⟨Uc,⟨wA,lo1,Xr,Xs,o1,Xt,Xu,Uc,Xv⟩,fun a i ht=>?_⟩
       cases ht
       exact⟨by rw[Ud];trivial,_,_,e1,rfl⟩
     . rw[Ce b b1 b3] at e
       exact(I.bh b u e).wg (fun _ _ _ q=>q) (fun c q=>sU c _ q rfl) (fun c xs q=>sU c _ q rfl) kp
end
section
variable {X:Cx}{G:Gr}{E:XK}{e1:Expr}{fs:List (Str×Dt)}{z C:Addr}{tl:List Slot}{f:Nat->List (Key×FD)}{n0 x0:Str}{P7 P8 P9 q1:Pos}
theorem wF (no:noOwn tl=true)(cl:tT X.K C)(PU:bu X.K C n0)(Xz:EO X G (.own (.Al z C fs)::tl) e1 (.cV (nz (f 0))))(Qa:∀ p ls,putD n0 (.memo p ls 0 1) fs=q9 fs [n0] p ls 1:=by intro _ _;rfl)(hlen:Nat.ble fs.length 990=true:=by rfl)(hN:X.N[0]?=some x0:=by rfl)(hv:uB X.env.scope x0:=by first | exact aaL rfl | exact aaB (aaL rfl) | exact aaB (aaB rfl))(lU:(x0 == ("__debug__":Str))=false:=by decide)(lV:(x0 == ("__classdict__":Str))=false:=by decide)(yJ:starEach [e1] X.env=[(false,eval e1 X.env)]:=by rfl)(F7:swapsWith (.List [e1] P9) (some (.Attribute (.Name x0 P7) n0 P8)) q1.line X.env=pure false:=by rfl):l4 X G E (.own (.Al z C fs)::tl) [.Assign [.Attribute (.Name x0 P7) n0 P8] (.List [e1] P9) q1] (.nx (.own (.yh z C fs [f] [n0] 1)::tl)):=by
 intro pins s st H D I ⟨Hf,S,k⟩
 have base:=mC (uJ (pos:=q1) (pos':=P8) (iU (pos:=P7) hN hv lU lV) (uL (pos:=P9) (lj Xz nG yJ)) F7)
 let RQ:L2.St->Hp->Prop:=fun jq H'=>∃ p a1 nh,H' p=some (.lst [.ref a1])/\H' a1=some (.dK nh)/\rg H' nh (f 0)/\∀ o1,D.nx jq (ip H' p a1 (.memo [(p,f)]) (.kd (some (p,0)) o1 nh))
 refine bM (base pins s st H { D with nx:=RQ} I ?_) fun fl s7 q7=>?_
 . obtain⟨za,hz,XA,RJ,ez,dx,fv,LJ,rf⟩:=S.own 0 _ rfl
   subst ez
   refine⟨Hf,S,fun a1 Hf1 H1 g1 Ug Qb ⟨nh,Pp,XB⟩=>⟨aaD rfl,fun p hp=>?_⟩⟩
   have wA:H1 za=some (.ins C dx fv):=g1.big _ _ LJ
   have Kx:za≠p:=au wA hp
   have Uh:a1≠p:=au Pp hp
   have Ny:za≠a1:=fun w=>by rw[w,Ug] at LJ;cases LJ
   have XC:(upd H1 p (.lst [.ref a1])) za=some (.ins C dx fv):=by rw[ag Kx];exact wA
   refine⟨_,hz,za,C,dx,fv,rfl,XC,cl,PU,by rw[rf.length];exact aaH (aaD hlen) (by decide),?_⟩
   let H4:Hp:=upd (upd H1 p (.lst [.ref a1])) za (.ins C dx (eJ n0 (.ref p) fv))
   have Fm:Hf1 za=none:=g1.kN XA LJ
   have XD:aV Hf1 H1 Hf1 (upd H1 p (.lst [.ref a1])):=.d8 g1.sub hp
   have S0:du X.K G st Hf H (.aY::tl):=S.weak ⟨rfl,fun i s' e n=>by
     cases i with
     | zero=>cases e;exact absurd rfl n
     | succ i=>exact e⟩
   have VM:noOwn (.aY::tl)=true:=no
   have S4:du X.K G st Hf1 H4 (.aY::tl):=oE ((S0.grow g1).grow XD) VM Fm RJ
   have XO:H4 za=some (.ins C dx (eJ n0 (.ref p) fv)):=ak
   have XI:H4 p=some (.lst [.ref a1]):=by show(upd (upd H1 p _) za _) p=_;rw[ag (Ne.symm Kx),ak]
   have Qe:H4 a1=some (.dK nh):=by show(upd (upd H1 p _) za _) a1=_;rw[ag (Ne.symm Ny),ag Uh];exact Pp
   have VQ:Hf1 p=none:=g1.sub.free hp
   have yK:aC Hf1 H4:=fun b o e=>by
     have b1:b≠za:=fun w=>by rw[w,Fm] at e;cases e
     have b2:b≠p:=fun w=>by rw[w,VQ] at e;cases e
     show(upd (upd H1 p _) za _) b=_
     rw[ag b1,ag b2];exact g1.sub _ _ e
   have gp:G.H p=none:=S.gr.big.free (g1.big.free hp)
   have Uk:G.H a1=none:=S.gr.big.free Ug
   have Ul:rg Hf1 nh (f 0):=pR XB
   refine⟨p,a1,nh,XI,Qe,fJ (fun b u e _=>yK _ _ e) Ul,fun o1=>?_⟩
   let ls:iR:=[(p,f)]
   let u1:HO:=.memo ls
   let u3:HO:=.kd (some (p,0)) o1 nh
   have m1:p≠a1:=Ne.symm Uh
   have cat:∀ (B:Hp),ip B p a1 u1 u3 p=some u1/\ip B p a1 u1 u3 a1=some u3:=fun B=>by
     unfold ip
     refine⟨?_,?_⟩
     . rw[ag m1,ak]
     . rw[ak]
   have vd:∀ (B:Hp) b,b≠p->b≠a1->ip B p a1 u1 u3 b=B b:=fun B b c1 c3=>by unfold ip;rw[ag c3,ag c1]
   let we:Hp:=ip Hf1 p a1 u1 u3
   have Gb:aC Hf1 we:=fun b o e=>by
     show ip Hf1 p a1 u1 u3 b=some o
     rw[vd Hf1 b (fun w=>by rw[w,VQ] at e;cases e) (fun w=>by rw[w,Qb] at e;cases e)]
     exact e
   have key:∀ (A B:Hp),aC A B->aC (ip A p a1 u1 u3) (ip B p a1 u1 u3):=fun A B sm=>cK (cK sm)
   have Qf:aC we (ip H4 p a1 u1 u3):=key _ _ yK
   have Ii:aU X.K we (eJ n0 (.ref p) fv) (q9 fs [n0] p ls 1):=by
     rw[<- Qa p ls]
     refine(rf.mono (g1.bj.trans Gb)).put (f:=n0) (d:=.memo p ls 0 1) ?_
     refine .memo (f:=f) rfl (cat Hf1).1 (.inl rfl) fun i hi=>?_
     have:i=0:=by omega
     subst this
     exact⟨a1,o1,nh,(cat Hf1).2,fJ (fun b u e _=>Gb _ _ e) Ul⟩
   have XS:ip H4 p a1 u1 u3 za=some (.ins C dx (eJ n0 (.ref p) fv)):=by rw[vd H4 za Kx Ny];exact XO
   have XT:we za=none:=by show ip Hf1 p a1 u1 u3 za=none;rw[vd Hf1 za Kx Ny];exact Fm
   refine k st we _ (g1.bj.trans Gb) ⟨⟨fun b o e=>?_,S4.gr.bj.trans Gb,Qf,fun b o e=>?_⟩,by have:=S4.len;simpa using this,fun i d h=>?_,fun i o h=>?_,fun i j o o' a w1 w2=>?_⟩
   . rw[vd H4 b (fun w=>by rw[w,gp] at e;cases e) (fun w=>by rw[w,Uk] at e;cases e)]
     exact S4.gr.big _ _ e
   . by_cases c1:b=p
     . rw[c1];exact .inr (.inl gp)
     . by_cases c3:b=a1
       . rw[c3];exact .inr (.inl Uk)
       . have e:ip Hf1 p a1 u1 u3 b=some o:=e
         rw[vd Hf1 b c1 c3] at e
         exact S4.gr.new b o e
   . cases i with
     | zero=>cases h
     | succ i=>
       obtain⟨w,w1,w2⟩:=S4.val (i+1) d h
       exact⟨w,w1,w2.mono Gb⟩
   . cases i with
     | zero=>
       cases h
       exact⟨za,hz,XT,RJ,rfl,dx,_,p,ls,rfl,XS,Ii⟩
     | succ i=>exact absurd h (aP no i o)
   . cases i with
     | zero=>cases j with
       | zero=>exact fun _ _=>rfl
       | succ j=>exact absurd w2 (aP no j o')
     | succ i=>exact absurd w1 (aP no i o)
 . cases fl with
   | next=>
     obtain⟨σ7,H7,I7,p,a1,nh,y1,y3,y5,kk⟩:=q7
     obtain⟨o1,I8⟩:=Inv.LN I7 y1 y3 y5
     exact⟨σ7,_,I8,kk o1⟩
   | cont=>exact q7
   | brk=>exact q7
   | ret v=>exact q7
end
section
variable {X:Cx}{G0:Gr}{E:XK}{fs:List (Str×Dt)}{l C:Addr}{ls:iR}{n N:Nat}{tl:List Slot}{f:Nat->List (Key×FD)}{n0 x0 xg:Str}{p1 p2 p3 a1 c1 q1:Pos}
theorem AR (ng:Nat)(hs:jY l fs=true)(ht:qE l tl=true)(hu:tl[ng]?=some .aY)(pT:ls.map (·.2)=[f])(hN:N < 9000)(cl:tT X.K C)(PU:bu X.K C n0)(hA:G0.Hf l=some (.memo ls))(hB:G0.H l=some (.memo ls))
   (RF:(o6 fs [n0] l ls n).lookup n0=some (.eK l ls 0 n):=by rfl)
   (RE:X.N[0]?=some x0:=by rfl) (VC:uB X.env.scope x0:=by first | exact aaL rfl | exact aaB (aaL rfl) | exact aaB (aaB rfl)) (VD:(x0 == ("__debug__":Str))=false:=by decide) (VE:(x0 == ("__classdict__":Str))=false:=by decide)
   (Xa:X.N[ng+1]?=some xg:=by rfl) (Xb:uB X.env.scope xg:=by first | exact aaL rfl | exact aaB (aaL rfl) | exact aaB (aaB rfl)) (Xc:(xg == ("__debug__":Str))=false:=by decide) (Xd:(xg == ("__classdict__":Str))=false:=by decide)
   (T3:attributeBase (.Name x0 p1) n0 X.env (eval (.Name x0 p1) X.env)=eval (.Name x0 p1) X.env:=by rfl)
   (Cf:attributeBase (.Attribute (.Name x0 p1) n0 p2) "append" X.env (eval (.Attribute (.Name x0 p1) n0 p2) X.env)=eval (.Attribute (.Name x0 p1) n0 p2) X.env:=by rfl)
   (Ic:((backTo c1 (starEach [.Name xg p3] X.env)).all (fun x=>!x.1) && (backToKw c1 (keywordEach [] X.env)).all (fun x=>x.1.isSome) && decide ([Expr.Name xg p3].length+([]:List Keyword).length+(if ([]:List Keyword).isEmpty then 0 else 1) < 30))=true:=by rfl)
   (Cg:(a1.endLine == c1.line)=true:=by rfl) (yJ:starEach [.Name xg p3] X.env=(false,eval (.Name xg p3) X.env)::starEach [] X.env:=by rfl)
   (F7:swapsWith (.Call (.Attribute (.Attribute (.Name x0 p1) n0 p2) "append" a1) [.Name xg p3] [] c1) none q1.line X.env=pure false:=by rfl) :
   l4 X (T2 G0 l (.bo ls (aah ls.length N))) E (.val (.obj C (o6 fs [n0] l ls n))::tl.set ng (.own (.cV (nz (f N)))))
     [.Expr (.Call (.Attribute (.Attribute (.Name x0 p1) n0 p2) "append" a1) [.Name xg p3] [] c1) q1] (.raw (RM X.K G0 C fs [n0] l ls n tl (N+1))):=by
 refine yi (mC (lg (uN PySem.F.plainAttrs_list PySem.F.slot_list_append PySem.F.type_list_append pS (uI (iU (pos:=p1) RE VC VD VE) T3) (lj (iU (pos:=p3) Xa Xb Xc Xd) nG yJ) Cf Ic Cg yJ rfl) F7)) fun D st H zq=>aaa zq fun Hf zq=>have S:=zq.1;have k:=zq.2;?_
 have e2:ls.length=1:=by have:=congrArg abf pT;simpa using this
 have eR:∀ M:Nat,aah ls.length M=[M]:=fun M=>by rw[e2];rfl
 rw[eR] at S
 have T6:ng < tl.length:=(aad.mp hu).1
 obtain⟨v0,hv,rv⟩:=S.val 0 _ rfl
 cases rv with
 | @obj sa _ dx fv _ PY rf=>
   obtain⟨oa,Ci,VF,_,back⟩:=Rd.ex PY
   have PZ:Hf l=some (.bo ls [N]):=S.gr.bj _ _ ak
   have Nw:H l=some (.bo ls [N]):=S.sub _ _ PZ
   have hm:bO Hf l ls:=.inr ⟨_,PZ⟩
   obtain⟨y0,Xf,Xg⟩:=rf.lookup RF
   obtain⟨qa,hq,T7,Xh,kvs,Nx,rk⟩:=S.own (ng+1) (.cV (nz (f N))) (by show(tl.set ng _)[ng]?=_;rw[aae T6])
   cases Xg with
   | @eK _ p _ _ _ f0 AI _ Xi _=>
       have Xk:f0=f:=by
         have:=congrArg (fun z=>z[0]?) pT
         simp only[aab,AI] at this
         exact Option.some.inj this
       subst Xk
       have VG:rg H kvs (f0 N):=fJ (fun b u e _=>S.sub _ _ e) (pR rk)
       have Xl:qa≠l:=fun z=>by rw[z,Nw] at Nx;cases Nx
       have T8:sa≠l:=fun z=>by rw[z,PZ] at Ci;cases Ci;cases VF
       have Zk:sa≠qa:=fun z=>by rw[z,T7] at Ci;cases Ci
       refine⟨_,hv,sa,C,dx,fv,_,rfl,back _ (S.sub _ _ Ci),cl,PU,Xf,.inr (.inr (.inr (.inr ⟨rfl,l,ls,[N],0,f0,N,Nw,AI,rfl⟩))),_,hq,l,ls,[N],0,p,f0,N,qa,kvs,rfl,rfl,Nw,AI,rfl,hN,Nx,VG,fun oq=>?_⟩
       let H6:Hp:=upd (upd H l (.bo ls ([N].set 0 (N+1)))) qa (.kd (some (p,N)) oq kvs)
       show D.nx st H6
       have Xn:H6 l=some (.bo ls [N+1]):=by show(upd (upd H l _) qa _) l=_;rw[ag (Ne.symm Xl),ak];rfl
       have Ua:∀ b o,H b=some o->b≠l->b≠qa->(upd H6 l (.memo ls)) b=some o:=fun b o e n1 n2=>by
         rw[ag n1]
         show(upd (upd H l _) qa _) b=_
         rw[ag n2,ag n1];exact e
       have Xo:∀ b o,Hf b=some o->b≠qa:=fun b o e z=>by rw[z,T7] at e;cases e
       have Ie:aC (upd Hf l (.memo ls)) (upd H6 l (.memo ls)):=fun b o e=>by
         by_cases bl:b=l
         . rw[bl,ak] at e ⊢;exact e
         . rw[ag bl] at e;exact Ua b o (S.sub _ _ e) bl (Xo b o e)
       have Ig:=fH Ie
       have g6:aV G0.Hf G0.H (i3 (upd Hf l (.memo ls)) (upd H6 l (.memo ls))) (upd H6 l (.memo ls)):=by
         refine⟨fun b o e=>?_,fun b o e=>?_,nP Ie,fun b o e=>?_⟩
         . by_cases bl:b=l
           . rw[bl,hB] at e;cases e;rw[bl];exact ak
           . have h3:H b=some o:=S.gr.big _ _ (by show(upd G0.H l _) b=_;rw[ag bl];exact e)
             have Xp:b≠qa:=fun z=>by
               have:(upd G0.H l (.bo ls [N])) qa=none:=Xh
               rw[<- z,ag bl,e] at this;cases this
             exact Ua b o h3 bl Xp
         . by_cases bl:b=l
           . rw[bl,hA] at e;cases e;rw[bl];exact Ig _ _ ak
           . have h3:Hf b=some o:=S.gr.bj _ _ (by show(upd G0.Hf l _) b=_;rw[ag bl];exact e)
             exact Ig _ _ (by rw[ag bl];exact h3)
         . rcases oH (Hf:=upd Hf l (.memo ls)) (H:=upd H6 l (.memo ls)) b with⟨u',z1,z2,z3⟩ | z
           . rw[z3] at e;cases e;exact .inr (.inr z2)
           . rw[z] at e
             by_cases bl:b=l
             . rw[bl];exact .inl ⟨_,hA⟩
             . rw[ag bl] at e
               rcases S.gr.new b o e with⟨OP,y⟩ | y | y
               . have y:(upd G0.Hf l _) b=some OP:=y
                 rw[ag bl] at y;exact .inl ⟨OP,y⟩
               . have y:(upd G0.H l _) b=none:=y
                 rw[ag bl] at y;exact .inr (.inl y)
               . exact .inr (.inr y)
       have P4:∀ {v:V} {d:Dt},rS l d=true->Rep X.K Hf v d->Rep X.K (i3 (upd Hf l (.memo ls)) (upd H6 l (.memo ls))) v d:=fun {v d} hn r=>(ik hm (.inl rfl) hn r).mono Ig
       refine k st H6 ⟨by rw[eR];exact Xn,_,⟨g6,by have:=S.len;simpa using this,fun i d h=>?_,fun i o h=>?_,fun i j o o' a h=>?_⟩⟩
       . cases i with
         | zero=>
           cases h
           refine⟨_,hv,.obj (back _ (Ig _ _ (by rw[ag T8];exact Ci))) ?_⟩
           exact(Nv hs hm rf).mono Ig
         | succ i=>
           have h:tl[i]?=some (.val d):=h
           have e:ng≠i:=fun z=>by rw[<- z,hu] at h;cases h
           obtain⟨w,w1,w2⟩:=S.val (i+1) d (by show(tl.set ng _)[i]?=_;rw[aaf e];exact h)
           exact⟨w,w1,P4 (ma ht h) w2⟩
       . cases i with
         | zero=>cases h
         | succ i=>exact absurd h (aP (gm ht) i o)
       . cases i with
         | zero=>cases h
         | succ i=>exact absurd h (aP (gm ht) i o)
end
noncomputable abbrev RK (g:Str)(C':Addr)(fs':List (Str×Dt))(nm':List Str)(l':Addr)(ls':iR)(n':Nat):List (Str×Dt):=[(g,.obj C' (q9 fs' nm' l' ls' n'))]
section
variable {X:Cx}{G:Gr}{E:XK}{dl:List Slot}{e:Expr}{pos:Pos}{sts:List Stmt}{o:Out}{C C' l l':Addr}{ls ls':iR}{n n' m:Nat}{nm nm':List Str}{fs':List (Str×Dt)}{g:Str}{tl:List Slot}{K:W.Frag}{Hf H:Hp}{st:L2.St}
theorem DK {fv:List (Str×V)}(r:aU K Hf fv (q9 (RK g C' fs' nm' l' ls' n') nm l ls n)):∃ v f2,fv=(g,v)::f2/\Rep K Hf v (.obj C' (q9 fs' nm' l' ls' n'))/\aU K Hf f2 ((aag nm.length).map fun j=>(nm.getD j "",.memo l ls j n)):=by
 have r:aU K Hf fv ((g,.obj C' (q9 fs' nm' l' ls' n'))::(aag nm.length).map fun j=>(nm.getD j "",.memo l ls j n)):=r
 cases r with
 | cons h t=>exact⟨_,_,rfl,h,t⟩
theorem Fs (i:Nat)(hn:0 < nm.length)(N6:0 < nm'.length)(hl:ls'.length≠ls.length)(h:l'≠l->l4 X G E dl sts o)(hd:dl[i]?=some (.val (.obj C (q9 (RK g C' fs' nm' l' ls' n') nm l ls n))):=by rfl):l4 X G E dl sts o:=by
 intro pins s st H D I ⟨Hf,S,k⟩
 obtain⟨v,hv,rv⟩:=S.val i _ hd
 refine h ?_ pins s st H D I ⟨Hf,S,k⟩
 cases rv with
 | obj q r=>
   obtain⟨v',f2,_,r1,r2⟩:=DK r
   have h1:=vc hn r
   cases r1 with
   | obj q' r'=>
     have h2:=vc N6 r'
     intro z
     rw[z,h1] at h2
     have:=HO.memo.inj (Option.some.inj h2)
     exact hl (by rw[this])
theorem Ft (he:EE X G (.val (.obj C (q9 (RK g C' fs' nm' l' ls' n') nm l ls n))::tl) e (.wq l' ls' m))(hs:swapsWith e none pos.line X.env=pure false:=by rfl):ES X G E (.val (.obj C (q9 (RK g C' fs' nm' l' ls' n') nm l ls n))::tl) (.Expr e pos) (.nx (.val (.obj C (q9 (RK g C' fs' nm' l' ls' m) nm l ls n))::tl)):=
 tV (lg he hs) fun D st H zq=>aaa zq fun Hf zq=>have S:=zq.1;have k:=zq.2;⟨Hf,S,fun v Hf1 H1 g1 r1=>by
   have S1:=S.grow g1
   cases r1 with
   | wq kn=>
     refine k st Hf1 H1 g1.bj ⟨S1.gr,S1.len,fun i d h=>?_,fun i o h=>S1.own i o ?_,fun i j o o' a h1 h2=>S1.EN i j o o' a ?_ ?_⟩
     . cases i with
       | zero=>
         cases h
         obtain⟨v,hv,rv⟩:=S1.val 0 _ rfl
         cases rv with
         | obj q r=>
           obtain⟨v',f2,ef,r1,r2⟩:=DK r
           subst ef
           cases r1 with
           | obj q' r'=>exact⟨_,hv,.obj q (.cons (.obj q' (AM kn r')) r2)⟩
       | succ i=>exact S1.val (i+1) d h
     . cases i with
       | zero=>cases h
       | succ i=>exact h
     . cases i with
       | zero=>cases h1
       | succ i=>exact h1
     . cases j with
       | zero=>cases h2
       | succ j=>exact h2⟩
end
theorem AS {P:Program}{w:World}{K:PySem.W.Frag}{tg:Expr}(it:Addr)(lo:Int)(n:Nat):Turn P w K tg (Ep lo n) [it] it (fun i h=>IsLongIter h it (lo+(i:Nat) * 1) ((n:Int) - (i:Nat)) 1) where
 mem:=by simp
 obj:=fun i h st b hb=>by
   have e:b=it:=by simpa using hb
   subst e
   exact⟨_,st,fun v z=>by
     have z':Data.fields _=Data.cell v:=z
     cases z'⟩
 keep:=fun i h h' st k=>k it (by simp) _ st
 item:=by
   intro X hP hw hK hc i pins s σ H E I hf st hg
   subst hP hw hK
   obtain⟨f0,f1,f2,f3,f4,f5⟩:=hf it (by simp)
   have W:=Walks.longrange (prog:=X.prog) (w:=X.w) (I.ok.hd hc) it lo 1 n
   refine W.item i s _ _ hg st fun v h' tk hv jq kk=>?_
   obtain⟨t,rfl⟩:=hv
   have I1:Inv X pins σ H { s with heap:=h',toks:=tk}:=I.turned (fun b o hb e=>kk b o (by simpa using hb) e) f0 f1 f3 f4 f5
   refine⟨_,rfl,z5 (s:={ s with heap:=h',toks:=tk}) (n:="longrange_iterator") jq rfl rfl (by decide) ⟨.int (lo+i),H,I1,⟨t,?_⟩,⟨rfl,rfl⟩,jq,fun b hb=>(hf b hb).1⟩⟩
   rw[Int.mul_one]
 done:=by
   intro X hP hw hK hc i pins s σ H E I hf st hg
   subst hP hw hK
   obtain⟨f0,f1,f2,f3,f4,f5⟩:=hf it (by simp)
   exact wpAny_pyNext_long_end (I.ok.hd hc) st (by have:n<=i:=hg;omega) fun h' eb=>⟨rfl,I.turned (t':=s.toks) (fun b o hb e=>eb b o hb e) f0 f1 f3 f4 f5⟩
 self:=fun _ _ _ _ _ st h=>wpAny_pyIter_longiter st h
section
variable {X:Cx}{G:Gr}{E:XK}{dl:List Slot}{a b:Expr}{ta:TA}{i j:Int}{pos p:Pos}{tg:Expr}
theorem Fu {pins:List (Addr×Obj)}{σ:L2.St}{H:Hp}{s:Shared}{R:It->Hp->Prop}{E:Value->Shared->Prop}{lo hi:Int}{t u v:Tok}{tk:Nat}(I:Inv X pins σ H s)(q:R (Ep lo (hi - lo).toNat) H):wpAny (model X.prog X.w) X.A (pyIter (.ref s.heap.objs.size)) (Wc X pins σ tg R) E { s with heap:=s.heap.push { cls:=.type "range",data:=.fields #[.int lo t,.int hi u,.int 1 v]},toks:=tk}:=by
 have I1:Inv X pins σ H { s with heap:=s.heap.push { cls:=.type "range",data:=.fields #[.int lo t,.int hi u,.int 1 v]},toks:=tk}:=I.kept fun b o e=>Vf _ e
 have e1:lo+((0:Nat):Int) * 1=lo:=by simp
 have e2:(((hi - lo).toNat:Nat):Int) - ((0:Nat):Int)=Builtin.Range.rangeSize lo hi 1:=by rw[rangeSize_one];split <;> omega
 cases hs:Builtin.Range.small lo hi 1
 . refine wpAny_pyIter_longrange (IsRange.new ..) hs ?_
   refine⟨(s.heap.push { cls:=.type "range",data:=.fields #[.int lo t,.int hi u,.int 1 v]}).objs.size,[(s.heap.push { cls:=.type "range",data:=.fields #[.int lo t,.int hi u,.int 1 v]}).objs.size],_,_,H,rfl,
     I1.kept (t':=tk) fun b o e=>Vf _ e,AS _ lo (hi - lo).toNat,?_,fun b hb=>?_,q⟩
   . show IsLongIter _ _ (lo+((0:Nat):Int) * 1) ((((hi - lo).toNat:Nat):Int) - ((0:Nat):Int)) 1
     rw[e1,e2]
     exact aai _ rfl
   . have e:b=(s.heap.push { cls:=.type "range",data:=.fields #[.int lo t,.int hi u,.int 1 v]}).objs.size:=by simpa using hb
     subst e
     exact I1.rq (aac _) (I1.bh.fresh (aac _))
 . refine wpAny_pyIter_range (IsRange.new ..) hs ?_
   refine⟨(s.heap.push { cls:=.type "range",data:=.fields #[.int lo t,.int hi u,.int 1 v]}).objs.size,[(s.heap.push { cls:=.type "range",data:=.fields #[.int lo t,.int hi u,.int 1 v]}).objs.size],_,_,H,rfl,
     I1.kept (t':=tk) fun b o e=>Vf _ e,uF _ lo (hi - lo).toNat,?_,fun b hb=>?_,q⟩
   . show IsRangeIter _ _ (lo+((0:Nat):Int) * 1) ((((hi - lo).toNat:Nat):Int) - ((0:Nat):Int)) 1
     rw[e1,e2]
     exact aai _ rfl
   . have e:b=(s.heap.push { cls:=.type "range",data:=.fields #[.int lo t,.int hi u,.int 1 v]}).objs.size:=by simpa using hb
     subst e
     exact I1.rq (aac _) (I1.bh.fresh (aac _))
def NF (ta:TA):TI:=fun σ H R=>ta σ H fun vs H1=>∃ i j:Int,vs=[.int i,.int j]/\R (Ep i (j - i).toNat) H1
theorem Fv (hg:Gl X "range")(hm:X.mg "range"=none)(ha:PA X [a,b] ta)(hs:starEach [a,b] X.env=[(false,eval a X.env),(false,eval b X.env)]:=by rfl)(sH:starEach [b] X.env=[(false,eval b X.env)]:=by rfl):PI X tg (.Call (.Name "range" p) [a,b] [] pos) (NF ta):=by
 intro pins s σ H R I h
 refine Call_ (nE I hg hm boot_range (PyProof.Rows.callWith_type1 (bM (ha pos pins s σ H _ I h) fun us s1 ⟨vs,H1,I1,r1,q1⟩=>?_) (by rw[hs,sH]) (by rw[sH];rfl)))
 obtain⟨i,j,e,q⟩:=q1
 subst e
 cases r1 with
 | cons r rr=>
   cases rr with
   | cons r' rr=>
     cases rr
     obtain⟨t,rfl⟩:=r
     obtain⟨t',rfl⟩:=r'
     exact call_range_2 (Fu I1 q)
theorem AU:qC X G dl ((aag (j - i).toNat).map fun(k:Nat)=>.int (i+k)) (NF (OQ X.K G dl [.int i,.int j])):=fun st H R zq=>aaa zq fun Hf zq=>have S:=zq.1;have k:=zq.2;⟨Hf,S,fun vs Hf1 H1 g1 r1=>by
 cases r1 with
 | cons r t=>
   cases r
   cases t with
   | cons r t=>
     cases t;cases r
     exact⟨i,j,rfl,k _ Hf1 H1 g1 fun bD H2 s1 s2 m=>Hj (X:=X) (Hf1:=Hf1) (H1:=H1) s2 m⟩⟩
end
structure Two (K:W.Frag)(G0 Hf H:Hp)(a p q:Addr)(ds xs ys:List Dt)(d6:Dt):Prop where
 tu:∃ vs v6,BF K Hf a (vs ++ [.ref p,.ref q,v6])/\aM K Hf vs ds/\Rep K Hf v6 d6
 lp:∃ vs,H p=some (.lst vs)/\aM K Hf vs xs
 lq:∃ vs,H q=some (.lst vs)/\aM K Hf vs ys
 ne:p≠q
 fp:Hf p=none
 fq:Hf q=none
 gp:G0 p=none
 gq:G0 q=none
section
variable {X:Cx}{G:Gr}{E:XK}{dl:List Slot}{e:Expr}{o:Out}{pos pos' Qk p:Pos}{x y:Str}{C C2:Addr}{fs:List (Str×Dt)}{gs gs2:List (Nat->List (Key×FD))}{nm nm2:List Str}{j j2:Nat}{CX:q8}{k k':Nat}{R:List Dt->Res->Prop}{sts:List Stmt}{fs2:Addr->iR->List (Str×Dt)}
theorem Fw (nn:Nat)(hN:X.N.Nodup)(F:O7 X.prog X.w X.K X.mg X.base CX k x C2 2 R)(nx:BG CX)(hr:d0 k' X.A)(ha:EE X G dl e (.wc C fs gs nm j))(h:∀ l ls,(ls:iR).map (·.2)=gs->R [.obj C (q9 fs nm l ls j)] (.own (.pM C2 (fs2 l ls) gs2 nm2 j2)))(h2:∀ l ls,(ls:iR).map (·.2)=gs->l4 X G E (dl.set nn (.val (.wc C2 (fs2 l ls) gs2 nm2 j2))) sts o)(ym:k+1<=k':=by decide)(hg:Gl X x:=by rfl)(lU:(x == ("__debug__":Str))=false:=by decide)(he:starEach [e] X.env=(false,eval e X.env)::starEach [] X.env:=by rfl)(nC:(backTo Qk (starEach [] X.env)).any (·.1)=false:=by rfl)(hi:X.N[nn]?=some y:=by rfl)(hx:Loc X.env.scope y:=by first | exact aaL rfl | exact aaB rfl)(hs:swapsWith (.Call (.Name x p) [e] [] Qk) (some (.Name y pos')) pos.line X.env=pure false:=by rfl)(hf:X.fn y=true\/X.env.scope.names.lookup y=some .local:=by first | exact .inl rfl | exact .inr rfl):l4 X G E dl (.Assign [.Name y pos'] (.Call (.Name x p) [e] [] Qk) pos::sts) o:=by
 obtain⟨f,fd,ps,Fo,M,hm,hb⟩:=F.ex
 have hu:BE X sts (fun D st H=>∃ l ls,(ls:iR).map (·.2)=gs/\tO X.K G E (dl.set nn (.val (.wc C2 (fs2 l ls) gs2 nm2 j2))) o D st H):=fun pins s st H D I ⟨l,ls,hl,q⟩=>h2 l ls hl pins s st H D I q
 refine yi (lW (x4 hN hi hx (x8 (E:=E0) M Fo (hr.mono ym) hg hm hb .nil nx.passes (ae ha ai he) lU he nC) hs hf) hu) fun D st H zq=>aaa zq fun Hf zq=>have S:=zq.1;have kk:=zq.2;⟨Hf,S,fun vs Hf1 H1 g1 r1 z dx hz O8 ne=>?_⟩
 cases r1 with
 | cons r tt=>
   cases tt
   cases r with
   | @wc s' a _ YS fv _ _ _ _ ls' e1 q1 q2=>
     have Vy:(upd H1 dx (.own z)) z=none:=by rw[ag (Ne.symm ne)];exact hz
     have g2:aV Hf1 H1 Hf1 (upd H1 dx (.own z)):=.d8 g1.sub O8
     refine⟨Hf1,upd H1 dx (.own z),z,dx,[.ref s'] ++ [],[.obj C (q9 fs nm a ls' j)],.own (.pM C2 (fs2 a ls') gs2 nm2 j2),rfl,rfl,Vy,g2.sub,by rw[aaS];exact .cons (.obj q1 q2) .nil,rfl,h a ls' e1,.inr ⟨fs2 a ls',gs2,nm2,j2,rfl⟩,fun aH H' g n1 r=>⟨rfl,?_⟩⟩
     have g3:=(g1.trans g2).trans g
     obtain⟨u,hu',rp⟩:=yr r n1
     have g4:=Ap g3 (g1.big.free hz) n1 hu'
     exact⟨a,ls',e1,_,(S.grow g4).set rp,kk.mono g4.bj⟩
end
end Sg
namespace Pf
open PySem PySem.Spec PyProof.Rows L2 Sg
structure gz (K:W.Frag)(x q:Str)(st:Stmt)(ps:List Str)(f:Addr)(d:FuncData):Prop where
 F:Rw K x q st f d
 b:Binds K d ps []
structure LO (K:W.Frag)(x q:Str)(st:Stmt)(ps:List Str)(f:Addr)(d:FuncData):Prop where
 F:Au K x q st f d
 b:Binds K d ps []
structure jx (K:W.Frag)(x:Str)(st:Stmt)(ps:List Str)(f:Addr)(d:FuncData):Prop where
 F:Rw K x x st f d
 b:Binds K d ps []
 a:W.nsIn K mainGlobals x=some (some (.ref f))
structure Fx (K:W.Frag)(x:Str)(C:Addr):Prop where
 a:W.nsIn K mainGlobals x=some (some (.ref C))
 cl:tT K C
 kc:W.keepIn K (.ref C)=true
abbrev Ql (x q:Str)(st:Stmt)(ps:List Str):Prop:=∀ (kV doc pm:Value) (an:Option Addr) (bc ct:Value) (us:List Value),us.length=ps.length->bindArgs (W.fnOf x q (bP st) (aB st) (af st) .none kV doc pm an bc ct) ⟨us,[]⟩=pure (ps.zip us)
section
variable {K:W.Frag}{x q:Str}{st:Stmt}{ps:List Str}{f:Addr}{oc:Value}{od an:Option Addr}{xl:Array (Option Value)}{kV doc pm bc ct:Value}
theorem Qm (l:K.lookup f=some ⟨oc,od,.func (W.fnOf x q (bP st) (aB st) (af st) .none kV doc pm an bc ct),xl⟩)(c:W.codeIn K bc q=true)(k:W.keepIn K (.ref f)=true)(b:Ql x q st ps):gz K x q st ps f (W.fnOf x q (bP st) (aB st) (af st) .none kV doc pm an bc ct):=⟨uQ l c k,(uQ l c k).binds b⟩
theorem Qn (l:K.lookup f=some ⟨oc,od,.func (W.fnOf x q (bP st) (aB st) (af st) .none kV doc pm an bc ct),xl⟩)(c:W.codeIn K bc q=true)(k:W.keepIn K (.ref f)=true)(b:Ql x q st ps):LO K x q st ps f (W.fnOf x q (bP st) (aB st) (af st) .none kV doc pm an bc ct):=⟨qA l c,(uQ l c k).binds b⟩
theorem Qo (a:W.nsIn K mainGlobals q=some (some (.ref f)))(l:K.lookup f=some ⟨oc,od,.func (W.fnOf q q (bP st) (aB st) (af st) .none kV doc pm an bc ct),xl⟩)(c:W.codeIn K bc q=true)(k:W.keepIn K (.ref f)=true)(b:Ql q q st ps):jx K q st ps f (W.fnOf q q (bP st) (aB st) (af st) .none kV doc pm an bc ct):=⟨uQ l c k,(uQ l c k).binds b,a⟩
theorem Qp {C:Addr}(a:W.nsIn K mainGlobals x=some (some (.ref C)))(p:W.plainGet K C Str.empty=true)(h:W.hasDictIn K C=true)(o:W.plainOver K C=true)(s:W.findIn K (.ref C) "__setattr__"=some (some (.builtin "object.__setattr__")))(k:W.keepIn K (.ref C)=true):Fx K x C:=⟨a,⟨p,h,o,s⟩,k⟩
end
theorem gi {N P:List Str}{sc:Scope}(h:(sc.kind == .function && !sc.isCoroutine && !sc.isGenerator && decide N.Nodup && decide (N.take P.length=P) && P.all (fun x=>decide (sc.names.lookup x=some .local\/sc.names.lookup x=some .cell)) && sc.names.all fun y=>decide (y.2≠.free))=true):aq N P sc:=by
 simp only[aaN,abL,decide_eq_true_eq,Bool.not_eq_true',beq_iff_eq] at h
 exact⟨h.1.1.1.1.1.1,h.1.1.1.1.1.2,h.1.1.1.1.2,h.1.1.1.2,h.1.1.2,h.1.2,h.2⟩
noncomputable def top (i:Nat):Stmt:=PySem.Challenge.pw_strokegrow_k87_whole_path_shows_what_tab.main.body.getD i (.Pass ⟨0,0,0,0⟩)
noncomputable abbrev yM:Stmt:=top 13
noncomputable abbrev yN:Stmt:=top 14
noncomputable abbrev kQ:Stmt:=top 15
noncomputable abbrev mK:Stmt:=inClass (top 16) 3
noncomputable abbrev mL:Stmt:=inClass (top 16) 4
noncomputable abbrev pW:Stmt:=inClass (top 16) 5
noncomputable abbrev nS:Stmt:=inClass (top 16) 6
noncomputable abbrev kR:Stmt:=inClass (top 17) 0
noncomputable abbrev eV:Stmt:=inClass (top 17) 1
noncomputable abbrev jH:Stmt:=inClass (top 17) 2
noncomputable abbrev mM:Stmt:=inClass (top 18) 0
noncomputable abbrev fW:Stmt:=inClass (top 18) 1
noncomputable abbrev lL:Stmt:=inClass (top 18) 2
noncomputable abbrev vg:Stmt:=top 19
noncomputable abbrev lM:Stmt:=top 23
noncomputable abbrev qH:Stmt:=top 24
noncomputable abbrev Ck:Stmt:=top 26
noncomputable abbrev nT:Stmt:=top 27
noncomputable abbrev jy:Stmt:=top 29
noncomputable abbrev dH:Stmt:=top 30
noncomputable abbrev dq:Stmt:=inClass (top 31) 0
noncomputable abbrev fX:Stmt:=inClass (top 31) 1
noncomputable abbrev bw:Stmt:=inClass (top 31) 3
noncomputable abbrev kU:Stmt:=inClass (top 31) 4
noncomputable abbrev fo:Stmt:=inClass (top 31) 5
noncomputable abbrev ee:Stmt:=inClass (top 31) 8
noncomputable abbrev cY:Stmt:=inClass (top 31) 9
noncomputable abbrev gA:Stmt:=inClass (top 31) 11
noncomputable abbrev iq:Stmt:=top 35
noncomputable abbrev fu:Stmt:=top 36
noncomputable abbrev eh:Stmt:=top 37
noncomputable abbrev jZ:Stmt:=inClass (top 38) 0
noncomputable abbrev nU:Stmt:=inClass (top 38) 1
noncomputable abbrev jI:Stmt:=inClass (top 38) 2
noncomputable abbrev ir:Stmt:=inClass (top 38) 4
noncomputable abbrev mN:Stmt:=inClass (top 38) 5
noncomputable abbrev mO:Stmt:=inClass (top 38) 6
noncomputable abbrev aR:Stmt:=inClass (top 38) 7
noncomputable abbrev mP:Stmt:=inClass (top 40) 0
noncomputable abbrev mQ:Stmt:=inClass (top 40) 1
noncomputable abbrev mR:Stmt:=inClass (top 40) 2
noncomputable abbrev jJ:Stmt:=inClass (top 40) 3
noncomputable abbrev bY:Stmt:=inClass (top 40) 4
noncomputable abbrev eM:Stmt:=inClass (top 40) 5
noncomputable abbrev bZ:Stmt:=inClass (top 40) 6
noncomputable abbrev b0:Stmt:=inClass (top 40) 7
noncomputable abbrev mS:Stmt:=inClass (top 40) 8
noncomputable abbrev kW:Stmt:=inClass (top 40) 10
noncomputable abbrev yO:Stmt:=top 41
noncomputable abbrev cm:Stmt:=top 42
noncomputable abbrev pX:Stmt:=top 43
noncomputable abbrev fz:Stmt:=inClass (top 45) 0
noncomputable abbrev gY:Stmt:=inClass (top 45) 1
noncomputable abbrev bI:Stmt:=inClass (top 45) 2
noncomputable abbrev b9:Stmt:=inClass (top 45) 4
noncomputable abbrev i4:Stmt:=inClass (top 45) 5
noncomputable abbrev rW:Stmt:=top 47
noncomputable abbrev rX:Stmt:=top 49
noncomputable abbrev Cm:Stmt:=top 50
noncomputable abbrev Cn:Stmt:=top 51
noncomputable abbrev oN:Stmt:=top 52
noncomputable abbrev vh:Stmt:=top 53
noncomputable abbrev rY:Stmt:=top 56
noncomputable abbrev Co:Stmt:=top 57
noncomputable abbrev jK:Stmt:=top 58
noncomputable abbrev xG:Stmt:=top 59
noncomputable abbrev LP:List Str:=["one","other"]
theorem Ip:aq LP ["one","other"] (af yM):=gi (by decide +kernel)
noncomputable abbrev LQ:List Str:=["one","other"]
theorem Iq:aq LQ ["one","other"] (af yN):=gi (by decide +kernel)
noncomputable abbrev vi:List Str:=["deed"]
theorem sX:aq vi ["deed"] (af kQ):=gi (by decide +kernel)
noncomputable abbrev yP:List Str:=["self","number"]
theorem wG:aq yP ["self","number"] (af mK):=gi (by decide +kernel)
noncomputable abbrev yQ:List Str:=["self","spot","by","turns"]
theorem lN:aq yQ ["self","spot","by"] (af mL):=gi (by decide +kernel)
noncomputable abbrev Cp:List Str:=["self","way"]
theorem AV:aq Cp ["self","way"] (af pW):=gi (by decide +kernel)
noncomputable abbrev AW:List Str:=["self","deed","spot","way"]
theorem qI:aq AW ["self","deed","spot","way"] (af nS):=gi (by decide +kernel)
noncomputable abbrev vj:List Str:=["self"]
theorem sY:aq vj ["self"] (af kR):=gi (by decide +kernel)
noncomputable abbrev nA:List Str:=["self","spot"]
theorem mT:aq nA ["self","spot"] (af eV):=gi (by decide +kernel)
noncomputable abbrev sZ:List Str:=["self","way","spot","x","y"]
theorem i5:aq sZ ["self","way","spot"] (af jH):=gi (by decide +kernel)
noncomputable abbrev yR:List Str:=["self"]
theorem wH:aq yR ["self"] (af mM):=gi (by decide +kernel)
noncomputable abbrev o8:List Str:=["self","spot"]
theorem nV:aq o8 ["self","spot"] (af fW):=gi (by decide +kernel)
noncomputable abbrev wI:List Str:=["self","way","spot","x","y"]
theorem kX:aq wI ["self","way","spot"] (af lL):=gi (by decide +kernel)
noncomputable abbrev Ir:List Str:=["ways"]
theorem Fy:aq Ir ["ways"] (af vg):=gi (by decide +kernel)
noncomputable abbrev wJ:List Str:=["age","first","last"]
theorem vk:aq wJ ["age","first","last"] (af lM):=gi (by decide +kernel)
noncomputable abbrev DL:List Str:=["rules","word"]
theorem AX:aq DL ["rules","word"] (af qH):=gi (by decide +kernel)
noncomputable abbrev Qq:List Str:=["rules","word","pen","places","letter","last"]
theorem DM:aq Qq ["rules","word"] (af Ck):=gi (by decide +kernel)
noncomputable abbrev AY:List Str:=["rules","word"]
theorem FA:aq AY ["rules","word"] (af nT):=gi (by decide +kernel)
noncomputable abbrev AZ:List Str:=["tallies","letters"]
theorem xH:aq AZ ["tallies","letters"] (af jy):=gi (by decide +kernel)
noncomputable abbrev md:List Str:=["word","rounds"]
theorem qJ:aq md ["word","rounds"] (af dH):=gi (by decide +kernel)
noncomputable abbrev lO:List Str:=["self","rules","start"]
theorem nW:aq lO ["self","rules","start"] (af dq):=gi (by decide +kernel)
noncomputable abbrev o9:List Str:=["self"]
theorem nX:aq o9 ["self"] (af fX):=gi (by decide +kernel)
noncomputable abbrev gZ:List Str:=["self","age","letters","last","grown","letter"]
theorem jP:aq gZ ["self","age"] (af bw):=gi (by decide +kernel)
noncomputable abbrev vm:List Str:=["self","age"]
theorem tf:aq vm ["self","age"] (af kU):=gi (by decide +kernel)
noncomputable abbrev nY:List Str:=["self","age","place"]
theorem nB:aq nY ["self","age","place"] (af fo):=gi (by decide +kernel)
noncomputable abbrev mU:List Str:=["self","age","begin","end"]
theorem me:aq mU ["self","age","begin","end"] (af ee):=gi (by decide +kernel)
noncomputable abbrev nr:List Str:=["self","age"]
theorem rZ:aq nr ["self","age"] (af cY):=gi (by decide +kernel)
noncomputable abbrev tm:List Str:=["self","age","begin","end","between","waiting","place","piece","rounds","behind"]
theorem mf:aq tm ["self","age","begin","end"] (af gA):=gi (by decide +kernel)
noncomputable abbrev qK:List Str:=["text"]
theorem pY:aq qK ["text"] (af iq):=gi (by decide +kernel)
noncomputable abbrev nZ:List Str:=["word","letters"]
theorem tq:aq nZ ["word","letters"] (af fu):=gi (by decide +kernel)
noncomputable abbrev mV:List Str:=["rows","firsts","letters","number","row","letter_fits"]
theorem pD:aq mV ["rows"] (af eh):=gi (by decide +kernel)
noncomputable abbrev yS:List Str:=["self","ways","rows","drawer","row"]
theorem pE:aq yS ["self","ways","rows"] (af jZ):=gi (by decide +kernel)
noncomputable abbrev A0:List Str:=["self"]
theorem yT:aq A0 ["self"] (af nU):=gi (by decide +kernel)
noncomputable abbrev tw:List Str:=["self"]
theorem r6:aq tw ["self"] (af jI):=gi (by decide +kernel)
noncomputable abbrev vn:List Str:=["self","letter"]
theorem tE:aq vn ["self","letter"] (af ir):=gi (by decide +kernel)
noncomputable abbrev yU:List Str:=["self","letter"]
theorem wK:aq yU ["self","letter"] (af mN):=gi (by decide +kernel)
noncomputable abbrev yV:List Str:=["self","letter"]
theorem wL:aq yV ["self","letter"] (af mO):=gi (by decide +kernel)
noncomputable abbrev tF:List Str:=["self","text","most","at","sign"]
theorem mh:aq tF ["self","text","most"] (af aR):=gi (by decide +kernel)
noncomputable abbrev yW:List Str:=["self","pen","deed_count","last_way","last_spot","stroke_count","reaches","touches","crosses"]
theorem wM:aq yW ["self","pen","deed_count","last_way","last_spot","stroke_count","reaches","touches","crosses"] (af mP):=gi (by decide +kernel)
noncomputable abbrev yX:List Str:=["self"]
theorem wN:aq yX ["self"] (af mQ):=gi (by decide +kernel)
noncomputable abbrev yY:List Str:=["self"]
theorem wO:aq yY ["self"] (af mR):=gi (by decide +kernel)
noncomputable abbrev tG:List Str:=["self"]
theorem r8:aq tG ["self"] (af jJ):=gi (by decide +kernel)
noncomputable abbrev wQ:List Str:=["self","first"]
theorem vo:aq wQ ["self","first"] (af bY):=gi (by decide +kernel)
noncomputable abbrev nu:List Str:=["self","numbers","first"]
theorem sd:aq nu ["self","numbers","first"] (af eM):=gi (by decide +kernel)
noncomputable abbrev wR:List Str:=["self","first"]
theorem vp:aq wR ["self","first"] (af bZ):=gi (by decide +kernel)
noncomputable abbrev wU:List Str:=["self","first"]
theorem vq:aq wU ["self","first"] (af b0):=gi (by decide +kernel)
noncomputable abbrev yZ:List Str:=["self"]
theorem wV:aq yZ ["self"] (af mS):=gi (by decide +kernel)
noncomputable abbrev vt:List Str:=["self","other","pen","shift","reaches","touches","way"]
theorem nv:aq vt ["self","other"] (af kW):=gi (by decide +kernel)
noncomputable abbrev LR:List Str:=["pen"]
theorem Iu:aq LR ["pen"] (af yO):=gi (by decide +kernel)
noncomputable abbrev jL:List Str:=["pen","deed","behind","spot","reaches","touches"]
theorem mi:aq jL ["pen","deed"] (af cm):=gi (by decide +kernel)
noncomputable abbrev Cq:List Str:=["pen","deeds","track","deed"]
theorem sP:aq Cq ["pen","deeds"] (af pX):=gi (by decide +kernel)
noncomputable abbrev n4:List Str:=["self","growth","rules"]
theorem ny:aq n4 ["self","growth"] (af fz):=gi (by decide +kernel)
noncomputable abbrev pZ:List Str:=["self","tracks","whole","track"]
theorem jQ:aq pZ ["self","tracks"] (af gY):=gi (by decide +kernel)
noncomputable abbrev jR:List Str:=["self","age","rules","last","grown","letter"]
theorem jz:aq jR ["self","age"] (af bI):=gi (by decide +kernel)
noncomputable abbrev lr:List Str:=["self","age","begin","end"]
theorem p0:aq lr ["self","age","begin","end"] (af b9):=gi (by decide +kernel)
noncomputable abbrev se:List Str:=["self","age","place","track"]
theorem lu:aq se ["self","age","place"] (af i4):=gi (by decide +kernel)
noncomputable abbrev FC:List Str:=["_law_script","_law_k","_law_cell","_law_low"]
theorem mW:aq FC ["_law_script","_law_k"] (af rW):=gi (by decide +kernel)
noncomputable abbrev FE:List Str:=["_law_cell","_law_many","_law_left","_law_number","_law_found","_law_k","_law_at"]
theorem vv:aq FE ["_law_cell","_law_many"] (af rX):=gi (by decide +kernel)
noncomputable abbrev Qr:List Str:=["_law_letters_here","_law_cell","_law_size","_law_found","_law_k"]
theorem DN:aq Qr ["_law_letters_here","_law_cell","_law_size"] (af Cm):=gi (by decide +kernel)
noncomputable abbrev Qs:List Str:=["_law_letters_here","_law_cells","_law_most","_law_rows_here","_law_k","_law_cell","_law_deed"]
theorem DO:aq Qs ["_law_letters_here","_law_cells","_law_most"] (af Cn):=gi (by decide +kernel)
noncomputable abbrev DP:List Str:=["_law_words","_law_word_here"]
theorem Iv:aq DP ["_law_words","_law_word_here"] (af oN):=gi (by decide +kernel)
noncomputable abbrev Iw:List Str:=["_law_ways","_law_spot","_law_by","_law_x","_law_y","_law_k"]
theorem xI:aq Iw ["_law_ways","_law_spot","_law_by"] (af vh):=gi (by decide +kernel)
noncomputable abbrev FF:List Str:=["_law_words","_law_start","_law_rounds","_law_word_here","_law_age"]
theorem vw:aq FF ["_law_words","_law_start","_law_rounds"] (af rY):=gi (by decide +kernel)
noncomputable abbrev Qt:List Str:=["_law_places","_law_total","_law_x","_law_y","_law_k","_law_here","_law_there"]
theorem DQ:aq Qt ["_law_places"] (af Co):=gi (by decide +kernel)
noncomputable abbrev tH:List Str:=["_law_track","_law_places","_law_ways","_law_first","_law_last","_law_here","_law_there"]
theorem mj:aq tH ["_law_track","_law_places","_law_ways"] (af jK):=gi (by decide +kernel)
noncomputable abbrev NG:List Str:=["_law_script","_law_ways","_law_letters_here","_law_rows_here","_law_words","_law_letter","_law_deed","_law_word_here","_law_rules","_law_start","_law_age","_law_drawing","_law_places","_law_told","_law_begin","_law_end"]
theorem Iy:aq NG ["_law_script"] (af xG):=gi (by decide +kernel)
structure dJ where
 (ud ue iu df dg fA d7 dM bf cZ fK bJ eO qL jb uf zb qM n6 fL eP bK bx dN bB aX cn cq e6 iw j0 er hU c5 cO fM fN aS fO fP fQ c6 b5 c7 b6 b7 fR dO ug gB mX dP bT aZ bF cL oO oP zc zd qN qO oQ ze gC pF:Addr)
 (uh uk iz j4 j5 mY lx iC cS gD j6 dv jc qP jd um zf qQ qR fS je dw eu iD dh cC gE gF e9 iE j7 j8 ly gG iF j9 ka gH ke kf kg gI jf gJ jg jh kh iG uo gK mZ iH eA dy fe fT oR oS zg zh uq qS oT zi gL vx:FuncData)
 (gM ji jk jl:Tok)
 (aJ bQ aI ar av ay ki cJ:Addr)
 (A1 vy zj vz:Tok)
 K:W.Frag
structure Txt (K:W.Frag)(mg:Str->Option Value)(t:dJ):Prop where
 hK:t.K=K
 g:∀ {x:Str} {v:Value},W.nsIn K mainGlobals x=some (some v)->mg x=some v
 gn:∀ {x:Str},W.nsIn K mainGlobals x=some none->mg x=none
 i6:Fx K "Quarter" t.aJ
 m5:Fx K "Sixth" t.bQ
 di:Fx K "Rules" t.aI
 aN:Fx K "Growth" t.ar
 aA:Fx K "Track" t.av
 bC:Fx K "Drawing" t.ay
 p7:OX K t.aJ
 vA:OX K t.bQ
 vB:L2.Mk K t.aI t.er
 sh:L2.Mk K t.ar t.eP
 vC:L2.Mk K t.av t.fO
 p8:L2.Mk K t.ay t.dP
 gN:bu K t.aI "drawer"
 aK:bu K t.aI "row_by_letter"
 cu:bu K t.ar "rules"
 fB:bu K t.ar "seed"
 cb:bu K t.ar "tallies"
 cf:bu K t.ar "lengths"
 c8:bu K t.av "drawer"
 a0:bu K t.av "deed_count"
 bb:bu K t.av "last_way"
 aQ:bu K t.av "last_spot"
 bS:bu K t.av "stroke_count"
 bU:bu K t.av "reaches"
 dQ:bu K t.av "touches"
 dR:bu K t.av "crosses"
 bG:bu K t.ay "growth"
 bH:bu K t.ay "tracks"
 zk:mg "DEEDS"=some (.ref t.ki)
 zm:∀ H,Rep K H (.ref t.ki) (.tup [.str "stroke",.str "step",.str "left",.str "right",.str "rest"])
 pG:mg "GOING_DEEDS"=some (.ref t.cJ)
 pH:∀ H,Rep K H (.ref t.cJ) (.tup [.str "stroke",.str "step"])
 A2:mg "MOST_ROWS"=some (.int 6 t.A1)
 vD:mg "MOST_IN_WORD"=some (.int 8 t.vy)
 zo:mg "LAST_ROUND"=some (.int 200 t.zj)
 vE:mg "MOST_WRITTEN"=some (.int 400 t.vz)
 oU:jx K "added" yM ["one","other"] t.ud t.uh
 oV:jx K "cross" yN ["one","other"] t.ue t.uk
 dS:jx K "turn_of_deed" kQ ["deed"] t.iu t.iz
 eW:Meth K t.aJ "way_of" t.df
 fY:Meth K t.bQ "way_of" t.df
 kj:gz K "way_of" "Pen.way_of" mK ["self","number"] t.df t.j4
 eX:Meth K t.aJ "turned" t.dg
 fZ:Meth K t.bQ "turned" t.dg
 kl:gz K "turned" "Pen.turned" mL ["self","spot","by"] t.dg t.j5
 f6:Meth K t.aJ "step" t.fA
 iI:Meth K t.bQ "step" t.fA
 m6:gz K "step" "Pen.step" pW ["self","way"] t.fA t.mY
 fC:Meth K t.aJ "after" t.d7
 g7:Meth K t.bQ "after" t.d7
 lC:gz K "after" "Pen.after" nS ["self","deed","spot","way"] t.d7 t.lx
 dU:Meth K t.aJ "ways" t.dM
 iJ:gz K "ways" "Quarter.ways" kR ["self"] t.dM t.iC
 bV:Meth K t.aJ "turned_left" t.bf
 cU:gz K "turned_left" "Quarter.turned_left" eV ["self","spot"] t.bf t.cS
 dt:Meth K t.aJ "along" t.cZ
 gO:gz K "along" "Quarter.along" jH ["self","way","spot"] t.cZ t.gD
 f7:Meth K t.bQ "ways" t.fK
 km:gz K "ways" "Sixth.ways" mM ["self"] t.fK t.j6
 cP:Meth K t.bQ "turned_left" t.bJ
 dA:gz K "turned_left" "Sixth.turned_left" fW ["self","spot"] t.bJ t.dv
 fD:Meth K t.bQ "along" t.eO
 jm:gz K "along" "Sixth.along" lL ["self","way","spot"] t.eO t.jc
 ml:jx K "pen_of" vg ["ways"] t.qL t.qP
 eQ:jx K "check_round" lM ["age","first","last"] t.jb t.jd
 oW:jx K "tally" qH ["rules","word"] t.uf t.um
 si:jx K "path" Ck ["rules","word"] t.zb t.zf
 mn:jx K "figure" nT ["rules","word"] t.qM t.qQ
 mq:jx K "summed" jy ["tallies","letters"] t.n6 t.qR
 cM:jx K "waiting_pieces" dH ["word","rounds"] t.fL t.fS
 jo:LO K "__init__" "Growth.__init__" dq ["self","rules","start"] t.eP t.je
 cD:Meth K t.ar "rules_told" t.bK
 dB:gz K "rules_told" "Growth.rules_told" fX ["self"] t.bK t.dw
 cQ:Meth K t.ar "deepen_to" t.bx
 eB:gz K "deepen_to" "Growth.deepen_to" bw ["self","age"] t.bx t.eu
 eC:Meth K t.ar "enter" t.dN
 iK:gz K "enter" "Growth.enter" kU ["self","age"] t.dN t.iD
 cv:Meth K t.ar "check_place" t.bB
 dj:gz K "check_place" "Growth.check_place" fo ["self","age","place"] t.bB t.dh
 bW:Meth K t.ar "check_stretch" t.aX
 cE:gz K "check_stretch" "Growth.check_stretch" ee ["self","age","begin","end"] t.aX t.cC
 dW:Meth K t.ar "length" t.cn
 gQ:gz K "length" "Growth.length" cY ["self","age"] t.cn t.gE
 dX:Meth K t.ar "pieces" t.cq
 gR:gz K "pieces" "Growth.pieces" gA ["self","age","begin","end"] t.cq t.gF
 cg:jx K "is_small_letter" iq ["text"] t.e6 t.e9
 dY:jx K "is_word_over" fu ["word","letters"] t.iw t.iE
 fU:jx K "check_rows" eh ["rows"] t.j0 t.j7
 ko:LO K "__init__" "Rules.__init__" jZ ["self","ways","rows"] t.er t.j8
 g8:Meth K t.aI "pen" t.hU
 lD:gz K "pen" "Rules.pen" nU ["self"] t.hU t.ly
 eD:Meth K t.aI "letters" t.c5
 gS:gz K "letters" "Rules.letters" jI ["self"] t.c5 t.gG
 eY:Meth K t.aI "row_of" t.cO
 iL:gz K "row_of" "Rules.row_of" ir ["self","letter"] t.cO t.iF
 f9:Meth K t.aI "deed" t.fM
 kr:gz K "deed" "Rules.deed" mN ["self","letter"] t.fM t.j9
 gb:Meth K t.aI "word" t.fN
 ky:gz K "word" "Rules.word" mO ["self","letter"] t.fN t.ka
 cF:Meth K t.aI "word_of" t.aS
 sj:Binds K t.gH ["self","text","most"] [.int 8 t.gM]
 tJ:Au K "word_of" "Rules.word_of" aR t.aS t.gH
 Ge:W.keepIn K (.ref t.aS)=true
 tK:Binds K t.gH ["self","text","most"] []
 kz:LO K "__init__" "Track.__init__" mP ["self","pen","deed_count","last_way","last_spot","stroke_count","reaches","touches","crosses"] t.fO t.ke
 gc:Meth K t.av "many" t.fP
 kA:gz K "many" "Track.many" mQ ["self"] t.fP t.kf
 gd:Meth K t.av "turn" t.fQ
 kB:gz K "turn" "Track.turn" mR ["self"] t.fQ t.kg
 eE:Meth K t.av "strokes" t.c6
 gT:gz K "strokes" "Track.strokes" jJ ["self"] t.c6 t.gI
 dk:Meth K t.av "shift" t.b5
 vF:Binds K t.jf ["self","first"] [.int 0 t.ji]
 wW:Au K "shift" "Track.shift" bY t.b5 t.jf
 Ky:W.keepIn K (.ref t.b5)=true
 wX:Binds K t.jf ["self","first"] []
 eF:Meth K t.av "by_ways" t.c7
 gU:gz K "by_ways" "Track.by_ways" eM ["self","numbers","first"] t.c7 t.gJ
 fE:Meth K t.av "reach" t.b6
 Iz:Binds K t.jg ["self","first"] [.int 0 t.jk]
 wY:Au K "reach" "Track.reach" bZ t.b6 t.jg
 Kz:W.keepIn K (.ref t.b6)=true
 wZ:Binds K t.jg ["self","first"] []
 fF:Meth K t.av "touch" t.b7
 IA:Binds K t.jh ["self","first"] [.int 0 t.jl]
 w4:Au K "touch" "Track.touch" b0 t.b7 t.jh
 KA:W.keepIn K (.ref t.b7)=true
 w6:Binds K t.jh ["self","first"] []
 gf:Meth K t.av "area" t.fR
 kC:gz K "area" "Track.area" mS ["self"] t.fR t.kh
 eZ:Meth K t.av "joined" t.dO
 iM:gz K "joined" "Track.joined" kW ["self","other"] t.dO t.iG
 oX:jx K "still" yO ["pen"] t.ug t.uo
 c9:jx K "track_of_deed" cm ["pen","deed"] t.gB t.gK
 i7:jx K "track_of" pX ["pen","deeds"] t.mX t.mZ
 iN:LO K "__init__" "Drawing.__init__" fz ["self","growth"] t.dP t.iH
 cG:Meth K t.ay "join_all" t.bT
 eG:gz K "join_all" "Drawing.join_all" gY ["self","tracks"] t.bT t.eA
 cw:Meth K t.ay "deepen_to" t.aZ
 dC:gz K "deepen_to" "Drawing.deepen_to" bI ["self","age"] t.aZ t.dy
 cR:Meth K t.ay "stretch" t.bF
 ff:gz K "stretch" "Drawing.stretch" b9 ["self","age","begin","end"] t.bF t.fe
 cW:Meth K t.ay "pen_at" t.cL
 fV:gz K "pen_at" "Drawing.pen_at" i4 ["self","age","place"] t.cL t.fT
 kH:jx K "_law_cell_at" rW ["_law_script","_law_k"] t.oO t.oR
 kI:jx K "_law_letters" rX ["_law_cell","_law_many"] t.oP t.oS
 sk:jx K "_law_word" Cm ["_law_letters_here","_law_cell","_law_size"] t.zc t.zg
 sq:jx K "_law_rows" Cn ["_law_letters_here","_law_cells","_law_most"] t.zd t.zh
 oY:jx K "_law_grown" oN ["_law_words","_law_word_here"] t.qN t.uq
 mv:jx K "_law_turned" vh ["_law_ways","_law_spot","_law_by"] t.qO t.qS
 kJ:jx K "_law_written" rY ["_law_words","_law_start","_law_rounds"] t.oQ t.oT
 su:jx K "_law_area" Co ["_law_places"] t.ze t.zi
 da:jx K "_law_stretch_shown" jK ["_law_track","_law_places","_law_ways"] t.gC t.gL
 A3:jx K "law" xG ["_law_script"] t.pF t.vx
 IB:mg "all"=none
 n8:mg "dict"=none
 lE:mg "enumerate"=none
 fg:mg "len"=none
 Cr:mg "list"=none
 IC:mg "max"=none
 ID:mg "min"=none
 gW:mg "range"=none
 p9:mg "reversed"=none
 A4:mg "sum"=none
 zp:mg "tuple"=none
 IE:mg "zip"=none
theorem Qu {K:W.Frag}{h:Heap}{mg:Str->Option Value}(X:K.In h)(G:h.Ns mainGlobals mg){ud ue iu df dg fA d7 dM bf cZ fK bJ eO qL jb uf zb qM n6 fL eP bK bx dN bB aX cn cq e6 iw j0 er hU c5 cO fM fN aS fO fP fQ c6 b5 c7 b6 b7 fR dO ug gB mX dP bT aZ bF cL oO oP zc zd qN qO oQ ze gC pF aJ bQ aI ar av ay ki cJ:Addr}{uh uk iz j4 j5 mY lx iC cS gD j6 dv jc qP jd um zf qQ qR fS je dw eu iD dh cC gE gF e9 iE j7 j8 ly gG iF j9 ka ke kf kg gI gJ kh iG uo gK mZ iH eA dy fe fT oR oS zg zh uq qS oT zi gL vx:FuncData}{gM ji jk jl y0 y1 y2 y3:Tok}{y4:Option Addr}{y5:Nat}{y6:Array (Option Value)}{IF IG IH II IJ:Tok}{y7:Option Addr}{y8:Nat}{y9:Array (Option Value)}{vG vH:Tok}{y10 Zw:Option Addr}{y12:Array (Option Value)}{y13 Zx Zy Zz XU ZA:Value}{jM:Addr}{y19:Option Addr}{y20:Value}{y21:Nat}{y22:Array (Option Value)}{y23 ZC:Option Addr}{y25:Array (Option Value)}{y26 ZE ZF ZG XW ZH:Value}{lP:Addr}{y32:Option Addr}{y33:Value}{y34:Nat}{y35:Array (Option Value)}{y36 ZI:Option Addr}{y38:Array (Option Value)}{y39 ZJ ZK ZL XY ZM:Value}{lQ:Addr}{y45:Option Addr}{y46:Value}{y47:Nat}{y48:Array (Option Value)}{y49 ZN:Option Addr}{y51:Array (Option Value)}{y52 ZO ZP ZQ XZ ZR:Value}{lR:Addr}{y58:Option Addr}{y59:Value}{y60:Nat}{y61:Array (Option Value)}
   (i6:Fx K "Quarter" aJ)
   (m5:Fx K "Sixth" bQ)
   (di:Fx K "Rules" aI)
   (aN:Fx K "Growth" ar)
   (aA:Fx K "Track" av)
   (bC:Fx K "Drawing" ay)
   (p7:OX K aJ)
   (vA:OX K bQ)
   (vB:L2.Mk K aI er)
   (sh:L2.Mk K ar eP)
   (vC:L2.Mk K av fO)
   (p8:L2.Mk K ay dP)
   (gN:W.findIn K (.ref aI) "drawer"=some none)
   (aK:W.findIn K (.ref aI) "row_by_letter"=some none)
   (cu:W.findIn K (.ref ar) "rules"=some none)
   (fB:W.findIn K (.ref ar) "seed"=some none)
   (cb:W.findIn K (.ref ar) "tallies"=some none)
   (cf:W.findIn K (.ref ar) "lengths"=some none)
   (c8:W.findIn K (.ref av) "drawer"=some none)
   (a0:W.findIn K (.ref av) "deed_count"=some none)
   (bb:W.findIn K (.ref av) "last_way"=some none)
   (aQ:W.findIn K (.ref av) "last_spot"=some none)
   (bS:W.findIn K (.ref av) "stroke_count"=some none)
   (bU:W.findIn K (.ref av) "reaches"=some none)
   (dQ:W.findIn K (.ref av) "touches"=some none)
   (dR:W.findIn K (.ref av) "crosses"=some none)
   (bG:W.findIn K (.ref ay) "growth"=some none)
   (bH:W.findIn K (.ref ay) "tracks"=some none)
   (IK:W.nsIn K mainGlobals "DEEDS"=some (some (.ref ki)))
   (IL:K.lookup ki=some ⟨.type "tuple",y4,.seq #[.str "stroke" IF,.str "step" IG,.str "left" IH,.str "right" II,.str "rest" IJ] y5,y6⟩)
   (vI:W.nsIn K mainGlobals "GOING_DEEDS"=some (some (.ref cJ)))
   (vJ:K.lookup cJ=some ⟨.type "tuple",y7,.seq #[.str "stroke" vG,.str "step" vH] y8,y9⟩)
   (zr:W.nsIn K mainGlobals "MOST_ROWS"=some (some (.int 6 y0)))
   (tL:W.nsIn K mainGlobals "MOST_IN_WORD"=some (some (.int 8 y1)))
   (xa:W.nsIn K mainGlobals "LAST_ROUND"=some (some (.int 200 y2)))
   (tM:W.nsIn K mainGlobals "MOST_WRITTEN"=some (some (.int 400 y3)))
   (oU:jx K "added" yM ["one","other"] ud uh)
   (oV:jx K "cross" yN ["one","other"] ue uk)
   (dS:jx K "turn_of_deed" kQ ["deed"] iu iz)
   (eW:Meth K aJ "way_of" df)
   (fY:Meth K bQ "way_of" df)
   (kj:gz K "way_of" "Pen.way_of" mK ["self","number"] df j4)
   (eX:Meth K aJ "turned" dg)
   (fZ:Meth K bQ "turned" dg)
   (kl:gz K "turned" "Pen.turned" mL ["self","spot","by"] dg j5)
   (f6:Meth K aJ "step" fA)
   (iI:Meth K bQ "step" fA)
   (m6:gz K "step" "Pen.step" pW ["self","way"] fA mY)
   (fC:Meth K aJ "after" d7)
   (g7:Meth K bQ "after" d7)
   (lC:gz K "after" "Pen.after" nS ["self","deed","spot","way"] d7 lx)
   (dU:Meth K aJ "ways" dM)
   (iJ:gz K "ways" "Quarter.ways" kR ["self"] dM iC)
   (bV:Meth K aJ "turned_left" bf)
   (cU:gz K "turned_left" "Quarter.turned_left" eV ["self","spot"] bf cS)
   (dt:Meth K aJ "along" cZ)
   (gO:gz K "along" "Quarter.along" jH ["self","way","spot"] cZ gD)
   (f7:Meth K bQ "ways" fK)
   (km:gz K "ways" "Sixth.ways" mM ["self"] fK j6)
   (cP:Meth K bQ "turned_left" bJ)
   (dA:gz K "turned_left" "Sixth.turned_left" fW ["self","spot"] bJ dv)
   (fD:Meth K bQ "along" eO)
   (jm:gz K "along" "Sixth.along" lL ["self","way","spot"] eO jc)
   (ml:jx K "pen_of" vg ["ways"] qL qP)
   (eQ:jx K "check_round" lM ["age","first","last"] jb jd)
   (oW:jx K "tally" qH ["rules","word"] uf um)
   (si:jx K "path" Ck ["rules","word"] zb zf)
   (mn:jx K "figure" nT ["rules","word"] qM qQ)
   (mq:jx K "summed" jy ["tallies","letters"] n6 qR)
   (cM:jx K "waiting_pieces" dH ["word","rounds"] fL fS)
   (jo:LO K "__init__" "Growth.__init__" dq ["self","rules","start"] eP je)
   (cD:Meth K ar "rules_told" bK)
   (dB:gz K "rules_told" "Growth.rules_told" fX ["self"] bK dw)
   (cQ:Meth K ar "deepen_to" bx)
   (eB:gz K "deepen_to" "Growth.deepen_to" bw ["self","age"] bx eu)
   (eC:Meth K ar "enter" dN)
   (iK:gz K "enter" "Growth.enter" kU ["self","age"] dN iD)
   (cv:Meth K ar "check_place" bB)
   (dj:gz K "check_place" "Growth.check_place" fo ["self","age","place"] bB dh)
   (bW:Meth K ar "check_stretch" aX)
   (cE:gz K "check_stretch" "Growth.check_stretch" ee ["self","age","begin","end"] aX cC)
   (dW:Meth K ar "length" cn)
   (gQ:gz K "length" "Growth.length" cY ["self","age"] cn gE)
   (dX:Meth K ar "pieces" cq)
   (gR:gz K "pieces" "Growth.pieces" gA ["self","age","begin","end"] cq gF)
   (cg:jx K "is_small_letter" iq ["text"] e6 e9)
   (dY:jx K "is_word_over" fu ["word","letters"] iw iE)
   (fU:jx K "check_rows" eh ["rows"] j0 j7)
   (ko:LO K "__init__" "Rules.__init__" jZ ["self","ways","rows"] er j8)
   (g8:Meth K aI "pen" hU)
   (lD:gz K "pen" "Rules.pen" nU ["self"] hU ly)
   (eD:Meth K aI "letters" c5)
   (gS:gz K "letters" "Rules.letters" jI ["self"] c5 gG)
   (eY:Meth K aI "row_of" cO)
   (iL:gz K "row_of" "Rules.row_of" ir ["self","letter"] cO iF)
   (f9:Meth K aI "deed" fM)
   (kr:gz K "deed" "Rules.deed" mN ["self","letter"] fM j9)
   (gb:Meth K aI "word" fN)
   (ky:gz K "word" "Rules.word" mO ["self","letter"] fN ka)
   (cF:Meth K aI "word_of" aS)
   (y62:K.lookup aS=some ⟨y13,y10,.func (W.fnOf "word_of" "Rules.word_of" (bP aR) (aB aR) (af aR) (.ref jM) Zx Zy Zz Zw XU ZA),y12⟩)
   (ZT:K.lookup jM=some ⟨y20,y19,.seq #[.int 8 gM] y21,y22⟩)
   (y64:W.codeIn K XU "Rules.word_of"=true)
   (y65:W.keepIn K (.ref aS)=true)
   (kz:LO K "__init__" "Track.__init__" mP ["self","pen","deed_count","last_way","last_spot","stroke_count","reaches","touches","crosses"] fO ke)
   (gc:Meth K av "many" fP)
   (kA:gz K "many" "Track.many" mQ ["self"] fP kf)
   (gd:Meth K av "turn" fQ)
   (kB:gz K "turn" "Track.turn" mR ["self"] fQ kg)
   (eE:Meth K av "strokes" c6)
   (gT:gz K "strokes" "Track.strokes" jJ ["self"] c6 gI)
   (dk:Meth K av "shift" b5)
   (y66:K.lookup b5=some ⟨y26,y23,.func (W.fnOf "shift" "Track.shift" (bP bY) (aB bY) (af bY) (.ref lP) ZE ZF ZG ZC XW ZH),y25⟩)
   (ZU:K.lookup lP=some ⟨y33,y32,.seq #[.int 0 ji] y34,y35⟩)
   (y68:W.codeIn K XW "Track.shift"=true)
   (y69:W.keepIn K (.ref b5)=true)
   (eF:Meth K av "by_ways" c7)
   (gU:gz K "by_ways" "Track.by_ways" eM ["self","numbers","first"] c7 gJ)
   (fE:Meth K av "reach" b6)
   (y70:K.lookup b6=some ⟨y39,y36,.func (W.fnOf "reach" "Track.reach" (bP bZ) (aB bZ) (af bZ) (.ref lQ) ZJ ZK ZL ZI XY ZM),y38⟩)
   (ZV:K.lookup lQ=some ⟨y46,y45,.seq #[.int 0 jk] y47,y48⟩)
   (y72:W.codeIn K XY "Track.reach"=true)
   (y73:W.keepIn K (.ref b6)=true)
   (fF:Meth K av "touch" b7)
   (y74:K.lookup b7=some ⟨y52,y49,.func (W.fnOf "touch" "Track.touch" (bP b0) (aB b0) (af b0) (.ref lR) ZO ZP ZQ ZN XZ ZR),y51⟩)
   (ZW:K.lookup lR=some ⟨y59,y58,.seq #[.int 0 jl] y60,y61⟩)
   (y76:W.codeIn K XZ "Track.touch"=true)
   (y77:W.keepIn K (.ref b7)=true)
   (gf:Meth K av "area" fR)
   (kC:gz K "area" "Track.area" mS ["self"] fR kh)
   (eZ:Meth K av "joined" dO)
   (iM:gz K "joined" "Track.joined" kW ["self","other"] dO iG)
   (oX:jx K "still" yO ["pen"] ug uo)
   (c9:jx K "track_of_deed" cm ["pen","deed"] gB gK)
   (i7:jx K "track_of" pX ["pen","deeds"] mX mZ)
   (iN:LO K "__init__" "Drawing.__init__" fz ["self","growth"] dP iH)
   (cG:Meth K ay "join_all" bT)
   (eG:gz K "join_all" "Drawing.join_all" gY ["self","tracks"] bT eA)
   (cw:Meth K ay "deepen_to" aZ)
   (dC:gz K "deepen_to" "Drawing.deepen_to" bI ["self","age"] aZ dy)
   (cR:Meth K ay "stretch" bF)
   (ff:gz K "stretch" "Drawing.stretch" b9 ["self","age","begin","end"] bF fe)
   (cW:Meth K ay "pen_at" cL)
   (fV:gz K "pen_at" "Drawing.pen_at" i4 ["self","age","place"] cL fT)
   (kH:jx K "_law_cell_at" rW ["_law_script","_law_k"] oO oR)
   (kI:jx K "_law_letters" rX ["_law_cell","_law_many"] oP oS)
   (sk:jx K "_law_word" Cm ["_law_letters_here","_law_cell","_law_size"] zc zg)
   (sq:jx K "_law_rows" Cn ["_law_letters_here","_law_cells","_law_most"] zd zh)
   (oY:jx K "_law_grown" oN ["_law_words","_law_word_here"] qN uq)
   (mv:jx K "_law_turned" vh ["_law_ways","_law_spot","_law_by"] qO qS)
   (kJ:jx K "_law_written" rY ["_law_words","_law_start","_law_rounds"] oQ oT)
   (su:jx K "_law_area" Co ["_law_places"] ze zi)
   (da:jx K "_law_stretch_shown" jK ["_law_track","_law_places","_law_ways"] gC gL)
   (A3:jx K "law" xG ["_law_script"] pF vx)
   (IB:W.nsIn K mainGlobals "all"=some none)
   (n8:W.nsIn K mainGlobals "dict"=some none)
   (lE:W.nsIn K mainGlobals "enumerate"=some none)
   (fg:W.nsIn K mainGlobals "len"=some none)
   (Cr:W.nsIn K mainGlobals "list"=some none)
   (IC:W.nsIn K mainGlobals "max"=some none)
   (ID:W.nsIn K mainGlobals "min"=some none)
   (gW:W.nsIn K mainGlobals "range"=some none)
   (p9:W.nsIn K mainGlobals "reversed"=some none)
   (A4:W.nsIn K mainGlobals "sum"=some none)
   (zp:W.nsIn K mainGlobals "tuple"=some none)
   (IE:W.nsIn K mainGlobals "zip"=some none)
   : ∃ t,Txt K mg t/\t.pF=pF:=
 ⟨⟨ud,ue,iu,df,dg,fA,d7,dM,bf,cZ,fK,bJ,eO,qL,jb,uf,zb,qM,n6,fL,eP,bK,bx,dN,bB,aX,cn,cq,e6,iw,j0,er,hU,c5,cO,fM,fN,aS,fO,fP,fQ,c6,b5,c7,b6,b7,fR,dO,ug,gB,mX,dP,bT,aZ,bF,cL,oO,oP,zc,zd,qN,qO,oQ,ze,gC,pF,uh,uk,iz,j4,j5,mY,lx,iC,cS,gD,j6,dv,jc,qP,jd,um,zf,qQ,qR,fS,je,dw,eu,iD,dh,cC,gE,gF,e9,iE,j7,j8,ly,gG,iF,j9,ka,(W.fnOf "word_of" "Rules.word_of" (bP aR) (aB aR) (af aR) (.ref jM) Zx Zy Zz Zw XU ZA),ke,kf,kg,gI,(W.fnOf "shift" "Track.shift" (bP bY) (aB bY) (af bY) (.ref lP) ZE ZF ZG ZC XW ZH),gJ,(W.fnOf "reach" "Track.reach" (bP bZ) (aB bZ) (af bZ) (.ref lQ) ZJ ZK ZL ZI XY ZM),(W.fnOf "touch" "Track.touch" (bP b0) (aB b0) (af b0) (.ref lR) ZO ZP ZQ ZN XZ ZR),kh,iG,uo,gK,mZ,iH,eA,dy,fe,fT,oR,oS,zg,zh,uq,qS,oT,zi,gL,vx,gM,ji,jk,jl,aJ,bQ,aI,ar,av,ay,ki,cJ,y0,y1,y2,y3,K⟩,⟨rfl,
   W.mg_of X G,
   W.mg_none_of X G,
   i6,
   m5,
   di,
   aN,
   aA,
   bC,
   p7,
   vA,
   vB,
   sh,
   vC,
   p8,
   gN,
   aK,
   cu,
   fB,
   cb,
   cf,
   c8,
   a0,
   bb,
   aQ,
   bS,
   bU,
   dQ,
   dR,
   bG,
   bH,
   W.mg_of X G IK,
   fun H=>.tup (vs:=[.str "stroke",.str "step",.str "left",.str "right",.str "rest"]) (.inr ⟨_,_,_,IL,rfl,rfl,aaD rfl,.cons ⟨_,rfl⟩ (.cons ⟨_,rfl⟩ (.cons ⟨_,rfl⟩ (.cons ⟨_,rfl⟩ (.cons ⟨_,rfl⟩ (.nil)))))⟩) (.cons (.str _) (.cons (.str _) (.cons (.str _) (.cons (.str _) (.cons (.str _) (.nil)))))),
   W.mg_of X G vI,
   fun H=>.tup (vs:=[.str "stroke",.str "step"]) (.inr ⟨_,_,_,vJ,rfl,rfl,aaD rfl,.cons ⟨_,rfl⟩ (.cons ⟨_,rfl⟩ (.nil))⟩) (.cons (.str _) (.cons (.str _) (.nil))),
   W.mg_of X G zr,
   W.mg_of X G tL,
   W.mg_of X G xa,
   W.mg_of X G tM,
   oU,
   oV,
   dS,
   eW,
   fY,
   kj,
   eX,
   fZ,
   kl,
   f6,
   iI,
   m6,
   fC,
   g7,
   lC,
   dU,
   iJ,
   bV,
   cU,
   dt,
   gO,
   f7,
   km,
   cP,
   dA,
   fD,
   jm,
   ml,
   eQ,
   oW,
   si,
   mn,
   mq,
   cM,
   jo,
   cD,
   dB,
   cQ,
   eB,
   eC,
   iK,
   cv,
   dj,
   bW,
   cE,
   dW,
   gQ,
   dX,
   gR,
   cg,
   dY,
   fU,
   ko,
   g8,
   lD,
   eD,
   gS,
   eY,
   iL,
   f9,
   kr,
   gb,
   ky,
   cF,
   fun s us X hl=>by obtain⟨z,y,rfl⟩:=Pw hl;exact BindsTo.of_defaults rfl (X _ _ ZT) rfl rfl rfl,
   qA (st:=aR) y62 y64,
   y65,
   fun s us X hl=>match us,hl with | [_,_,_],_=>BindsTo.of_defaults rfl (X _ _ ZT) rfl rfl rfl,
   kz,
   gc,
   kA,
   gd,
   kB,
   eE,
   gT,
   dk,
   fun s us X hl=>by obtain⟨z,rfl⟩:=B0 hl;exact BindsTo.of_defaults rfl (X _ _ ZU) rfl rfl rfl,
   qA (st:=bY) y66 y68,
   y69,
   fun s us X hl=>by obtain⟨z,y,rfl⟩:=yv hl;exact BindsTo.of_defaults rfl (X _ _ ZU) rfl rfl rfl,
   eF,
   gU,
   fE,
   fun s us X hl=>by obtain⟨z,rfl⟩:=B0 hl;exact BindsTo.of_defaults rfl (X _ _ ZV) rfl rfl rfl,
   qA (st:=bZ) y70 y72,
   y73,
   fun s us X hl=>by obtain⟨z,y,rfl⟩:=yv hl;exact BindsTo.of_defaults rfl (X _ _ ZV) rfl rfl rfl,
   fF,
   fun s us X hl=>by obtain⟨z,rfl⟩:=B0 hl;exact BindsTo.of_defaults rfl (X _ _ ZW) rfl rfl rfl,
   qA (st:=b0) y74 y76,
   y77,
   fun s us X hl=>by obtain⟨z,y,rfl⟩:=yv hl;exact BindsTo.of_defaults rfl (X _ _ ZW) rfl rfl rfl,
   gf,
   kC,
   eZ,
   iM,
   oX,
   c9,
   i7,
   iN,
   cG,
   eG,
   cw,
   dC,
   cR,
   ff,
   cW,
   fV,
   kH,
   kI,
   sk,
   sq,
   oY,
   mv,
   kJ,
   su,
   da,
   A3,
   W.mg_none_of X G IB,
   W.mg_none_of X G n8,
   W.mg_none_of X G lE,
   W.mg_none_of X G fg,
   W.mg_none_of X G Cr,
   W.mg_none_of X G IC,
   W.mg_none_of X G ID,
   W.mg_none_of X G gW,
   W.mg_none_of X G p9,
   W.mg_none_of X G A4,
   W.mg_none_of X G zp,
   W.mg_none_of X G IE⟩,rfl⟩
theorem Qv {K:W.Frag}{mg:Str->Option Value}{t:dJ}(T:Txt K mg t)(s:Shared)(u:Value):BindsTo s t.vx ⟨[u],[]⟩ [("_law_script",u)]:=by
 obtain⟨oc,od,kV,doc,pm,an,bc,ct,xl,e,lk,lV⟩:=T.A3.F.ex
 rw[e];exact .of_eq rfl
abbrev CX:q8:=YK
noncomputable def sg (c:Nat):Str:=⟨#[c]⟩
noncomputable def tx (w:List Nat):Str:=⟨w.toArray⟩
structure Row where
 c:Nat
 d:Str
 w:List Nat
noncomputable def mw:List Str:=["stroke","step","left","right","rest"]
noncomputable def qb (r:Row):Dt:=.tup [.str (sg r.c),.str r.d,.str (tx r.w)]
def small (c:Nat):Prop:=97<=c/\c<=122
structure bg (rows:List Row):Prop where
 pos:0 < rows.length
 le:rows.length<=6
 nd:(rows.map (·.c)).Nodup
 sm:∀ r∈rows,small r.c
 dd:∀ r∈rows,r.d∈mw
 wp:∀ r∈rows,0 < r.w.length/\r.w.length<=8
 wo:∀ r∈rows,∀ x∈r.w,x∈rows.map (·.c)
noncomputable def sv (rows:List Row):List (Key×Dt):=rows.map fun r=>(.inr (sg r.c),qb r)
abbrev Rl:=List Dt->Res->Prop
noncomputable def wy (six:Bool):Int:=if six then 6 else 4
noncomputable def dJ.pc (t:dJ)(six:Bool):Addr:=if six then t.bQ else t.aJ
noncomputable def dJ.pI (t:dJ)(six:Bool)(rows:List Row):Dt:=.obj t.aI [("drawer",.hX (.obj (t.pc six) [])),("row_by_letter",.cV (sv rows))]
theorem n9 {a b:Nat}(h:sg a=sg b):a=b:=by
 have:=congrArg (fun s:Str=>s.cps.toList) h
 simpa [sg] using this
theorem IM {c:Nat}{L:List Nat}:sg c∈L.map sg ↔ c∈L:=by
 constructor
 . intro h
   obtain⟨x,hx,e⟩:=aaM.mp h
   rw[<- n9 e];exact hx
 . exact fun h=>aaM.mpr ⟨c,h,rfl⟩
theorem X0 {c:Nat}(h:97<=c):Pk "a" (sg c)=true:=by
 have e:("a":Str).cps.toList=[97]:=rfl
 unfold Pk
 rw[e]
 show(!decide ([c] < [97]))=true
 have:¬ ([c] < [97]):=by
   intro z
   rcases List.cons_lt_cons_iff.mp z with z | ⟨_,z⟩
   . omega
   . exact absurd z (by simp)
 simp[this]
theorem X1 {c:Nat}(h:c<=122):Pk (sg c) "z"=true:=by
 have e:("z":Str).cps.toList=[122]:=rfl
 unfold Pk
 rw[e]
 show(!decide ([122] < [c]))=true
 have:¬ ([122] < [c]):=by
   intro z
   rcases List.cons_lt_cons_iff.mp z with z | ⟨_,z⟩
   . omega
   . exact absurd z (by simp)
 simp[this]
theorem vK (w:List Nat):Sg.signs (tx w)=(w.map sg).map Dt.str:=by
 unfold Sg.signs tx
 rw[aam];rfl
theorem gh (w:List Nat):(tx w).length=w.length:=by show w.toArray.size=w.length;simp
theorem jA {w:List Nat}(h:∀ x∈w,x < 128):iX (tx w)=true:=by
 unfold iX tx
 rw[Array.all_eq_true_iff_forall_mem]
 intro x hx
 exact decide_eq_true (h x (by simpa using hx))
theorem sx:∀ {rows:List Row},(rows.map (·.c)).Nodup->∀ {r:Row},r∈rows->jF (sv rows) (.inr (sg r.c))=some (qb r)
 | [],_,r,h=>by cases h
 | q::rows,nd,r,h=>by
   rw[aao,abr] at nd
   rcases aau.mp h with rfl | h
   . exact nO (p:=(.inr (sg r.c),qb r)) rfl
   . have ne:¬ (Sum.inr (sg q.c):Key)=.inr (sg r.c):=fun z=>nd.1 (by
       rw[n9 (Sum.inr.inj z)]
       exact aaM.mpr ⟨r,h,rfl⟩)
     show jF ((.inr (sg q.c),qb q)::sv rows) _=_
     rw[l7 (p:=(.inr (sg q.c),qb q)) ne]
     exact sx nd.2 h
theorem rb {n:Nat}(h:n<=2000):n<=sizeLine:=aav h (by decide)
def LU:Rl:=fun ds r=>∃ c,ds=[.str (sg c)]/\small c/\r=.ret (.bl true)
def Qw:Rl:=fun ds r=>∃ (w L:List Nat),ds=[.str (tx w),.lst ((L.map sg).map .str)]/\(0 < w.length/\w.length<=8)/\(∀ x∈w,x∈L)/\(∀ x∈L,small x)/\r=.ret (.bl true)
def LV:Rl:=fun ds r=>∃ rows,ds=[.lst (rows.map qb)]/\bg rows/\r=.ret .cy
noncomputable def Qx:Stmt->Scope
 | .Return (some (.BoolOp _ [_,.Call _ [.ListComp _ _ sc _] _ _] _)) _=>sc
 | _=>af (.Pass ⟨0,0,0,0⟩)
noncomputable abbrev LW:Scope:=Qx ((aB fu).getD 0 (.Pass ⟨0,0,0,0⟩))
theorem DR:iT LW (af fu) nZ ["sign","letters"] ["sign"] [1]=true:=by decide +kernel
noncomputable abbrev FG:Scope:=RB ((aB eh).getD 2 (.Pass ⟨0,0,0,0⟩))
theorem xJ:iT FG (af eh) mV ["row"] ["row"] []=true:=by decide +kernel
noncomputable abbrev LX:Scope:=RB ((aB eh).getD 3 (.Pass ⟨0,0,0,0⟩))
theorem DS:iT LX (af eh) mV ["first"] ["first"] []=true:=by decide +kernel
theorem dm {X:Cx}{G:Gr}{dl:List Slot}{zs ZX:List Dt}{wi:TI}(h:qC X G dl zs wi)(e:ZX=zs):qC X G dl ZX wi:=by subst e;exact h
variable {P:Program}{w:World}{K:W.Frag}{mg:Str->Option Value}{base:Heap}{t:dJ}
theorem IP (T:Txt K mg t):GF P w K mg base CX 1 "is_small_letter" 1 LU:=by
 refine⟨_,_,_,iQ T.cg.F pY rfl fun bc A outer s H E G ds r hr hl hR=>?_,(T.g T.cg.a),T.cg.F.kp,T.cg.b⟩
 obtain⟨c,rfl,⟨h1,h2⟩,rfl⟩:=hR
 exact⟨_,.rt _,ao (aF (yj (u:=true) (v:=true) (bR (BZ (yk T.fg (aa 0 rfl) (rb (n:=1) (by decide))) aj) rfl) fun _=>(tW (bR (Hv dF (aa 0 rfl) dF) (by rw[X0 h1,X1 h2];rfl)))))⟩
theorem LY (T:Txt K mg t):GF P w K mg base CX 1 "is_word_over" 2 Qw:=by
 refine⟨_,_,_,iQ T.dY.F tq rfl fun bc A outer s H E G ds r hr hl hR=>?_,(T.g T.dY.a),T.dY.F.kp,T.dY.b⟩
 obtain⟨wd,L,rfl,⟨h0,h8⟩,hw,hL,rfl⟩:=hR
 have Pu:iX (tx wd)=true:=jA fun x hx=>by have:=hL x (hw x hx);unfold small at this;omega
 have hlen:=gh wd
 have e1:(decide ((1:Int)<=((tx wd).length:Nat)) && decide (((tx wd).length:Nat)<=(8:Int)))=true:=by
   rw[hlen,decide_eq_true (by omega),decide_eq_true (by omega)];rfl
 have e2:(((wd.filter fun _=>true).map fun x=>Dt.bl (decide (sg x∈L.map sg))))=((aah wd.length true).map Dt.bl):=by
   rw[aaC.mpr (fun _ _=>rfl)]
   refine abM (by simp) fun i h1 h2=>?_
   simp only[aaK,List.getElem_replicate]
   have hi:i < wd.length:=by simpa using h1
   rw[decide_eq_true (IM.mpr (hw _ (aaJ hi)))]
 have e3:(aah wd.length true).all id=true:=by simp
 have es:wd.map (fun x=>Dt.str (sg x))=Sg.signs (tx wd):=by rw[vK,aam];rfl
 refine⟨_,.rt _,ao (aF (yj (u:=true) (v:=true) (bR (Hw aj (yk T.fg (aa 0 rfl) (rb (by omega))) (jW (w:=.int 8) T.vD ⟨_,rfl⟩ fun _=>.int 8)) (congrArg Dt.bl e1)) fun _=>(tW (bR (Po (bs:=aah wd.length true) T.IB rfl (bR (pv (ig wd (fun x=>Dt.str (sg x)) (fun x=>.bl (decide (sg x∈L.map sg))) (fun x=>[.val (.str (sg x))]) (fun _=>true) rfl (cI DR) (ij (aa 0 rfl)) (dc (cI DR) rfl) (dm (de Pu) es) (fun a _=>d9) (.nil fun _ _=>rfl)
   (fun a ha _ C fp s' H' G'=>Pm (aa 0 rfl) (aa 1 rfl)) (rb (by omega)))) (congrArg Dt.lst e2))) (congrArg Dt.bl e3)))))⟩
theorem Cs {k:Nat}{ds:List Dt}{K:W.Frag}{H:Hp}{vs:List V}(r:aM K H vs ds)(hk:k<=ds.length):aM K H (wj vs none (some (k:Int))) (ds.take k):=by
 unfold wj
 rw[HT.GH,HT.qj,abW,r.length,Nat.min_eq_left hk,Nat.sub_zero]
 exact r.take k
theorem LZ {X:Cx}{G:Gr}{dl:List Slot}{a b:Expr}{ds:List Dt}{k:Nat}{pos p2:Pos}(ha:EE X G dl a (.lst ds))(hb:EE X G dl b (.int (k:Int)))(hk:k<=ds.length):EO X G dl (.Subscript a (.Slice none (some b) none p2) pos) (.lst (ds.take k)):=
 hV (qk yc ha C9 (tU hb)) fun st H Q zq=>aaa zq fun Hf zq=>have S:=zq.1;have kk:=zq.2;⟨Hf,S,fun v Hf1 H1 g1 r1=>by
   cases r1 with
   | @lst q vs _ hq rp=>
     refine⟨Hf1,S.grow g1,fun z bD H2 g2 r2=>?_⟩
     cases r2
     have g:=g1.trans g2
     refine⟨(k:Int),rfl,q,vs,rfl,.of (g2.big _ _ (g1.sub _ _ hq)),fun p hp=>kk p bD _ (g.trans (.d8 g.sub hp)) (g.big.free hp) (g.sub.free hp) ⟨_,ak,Cs (rp.mono g2.bj) hk⟩⟩⟩
theorem g9 {L:List Dt}{L':List Dt}(e:L=L'){X:Cx}{G:Gr}{dl:List Slot}{z:Expr}(h:EO X G dl z (.lst L)):EE X G dl z (.lst L'):=by subst e;exact pv h
theorem IQ (T:Txt K mg t):GF P w K mg base CX 2 "check_rows" 1 LV:=by
 refine⟨_,_,_,iQ T.fU.F pD rfl fun bc A outer s H E G ds r hr hl hR=>?_,(T.g T.fU.a),T.fU.F.kp,T.fU.b⟩
 obtain⟨rows,rfl,ok,rfl⟩:=hR
 have DT:=IP (P:=P) (w:=w) (base:=base) T
 have Qy:=LY (P:=P) (w:=w) (base:=base) T
 have nd:=pD.nd
 have hp:=ok.pos
 have hl6:=ok.le
 let cs:=rows.map (·.c)
 let lt:List Dt:=(cs.map sg).map Dt.str
 have e0:(decide ((((rows.map qb).length:Nat):Int)=0))=false:=by rw[Bn];exact decide_eq_false (by omega)
 have e1:(decide ((6:Int) < (((rows.map qb).length:Nat):Int)))=false:=by rw[Bn];exact decide_eq_false (by omega)
 have ef:((rows.filter fun _=>true).map fun r=>Dt.str (sg r.c))=lt:=by
   rw[aaC.mpr (fun _ _=>rfl)]
   show _=((rows.map (·.c)).map sg).map Dt.str
   rw[aam,aam];rfl
 have ez:(rows.map fun r=>Dt.str (sg r.c))=lt:=by
   show _=((rows.map (·.c)).map sg).map Dt.str
   rw[aam,aam];rfl
 have hsz:rows.length<=sizeLine:=rb (by omega)
 let S:Nat->List Slot:=fun _=>[.val (.lst (rows.map qb)),.val (.lst lt),.val (.lst lt),.aY,.aY,.aY]
 let xs:=rows.map qb
 have Uo:xs.length=rows.length:=Bn ..
 refine⟨.nx (S rows.length),.nx _,ah (cN (u:=false) (dG (rL (qx T.fg (aa 0 rfl)) aj) e0) (fun h=>nomatch h) (fun h=>dn))
   (ah (cN (u:=false) (dG (GY (qx T.fg (aa 0 rfl)) (jW (w:=.int 6) T.A2 ⟨_,rfl⟩ fun _=>.int 6)) e1) (fun h=>nomatch h) (fun h=>dn))
   (ah (Ho 1 rows qb (fun r=>Dt.str (sg r.c)) (fun r=>[.val (qb r)]) (fun _=>true) rfl nd (cI xJ) (lh (aa 0 rfl)) (dc (cI xJ) rfl) l6 (fun a _=>d9) (.nil fun _ _=>rfl) (fun a ha _ C fp s' H' G'=>aD (aa 0 rfl) aj rfl) hsz)
   ?r1))⟩
 rw[ef]
 refine yu 1 (w:=.lst lt) (ah (Ho 2 rows (fun r=>Dt.str (sg r.c)) (fun r=>Dt.str (sg r.c)) (fun r=>[.val (.str (sg r.c))]) (fun _=>true) rfl nd (cI DS) (lh (aa 1 rfl)) (dc (cI DS) rfl) (dm l6 ez) (fun a _=>d9)
   (.one fun a ha C fp s' H' G'=>GU (b8 DT ax hr (ae (aa 0 rfl) ai) ⟨a.c,rfl,ok.sm a ha,rfl⟩)) (fun a ha _ C fp s' H' G'=>aa 0 rfl) hsz) ?r2)
 rw[ef]
 refine yu 2 (w:=.lst lt) (ao (mI (o:=.nx (S rows.length)) (m:=rows.length) (aag xs.length) (fun(j:Nat)=>.tup [.int j,xs.getD j .cy]) (fun(j:Nat) dl=>(dl.set 3 (.val (.int j))).set 4 (.val (xs.getD j .cy))) S rfl PassesOwn.leaving
   (Ln rfl T.lE (ae (aa 0 rfl) ai)) (E5 (xs:=xs)) (uE rfl (fh (bX nd rfl (.inl rfl)) (fh (bX nd rfl (.inl rfl)) qh))) (fun a _=>Dz) (Le.of ⟨rfl,rfl,rfl,trivial⟩) (by rw[aaA,Uo];exact aac _) (fun j a hj ha=>?l) (by rw[aaA,Uo];exact .all rfl)))
 rw[aar (by omega)] at ha
 cases ha
 have ex:xs.getD j .cy=qb rows[j]:=by
   show(rows.map qb).getD j .cy=_
   rw[WY,aab,k3 hj];rfl
 have hm:=aaJ hj
 have Px:cs.length=rows.length:=Bn ..
 have eT:lt.take j=((cs.take j).map sg).map Dt.str:=by
   show((cs.map sg).map Dt.str).take j=_
   rw[<- abX,<- abX]
 have cX:lt.length=rows.length:=by show((cs.map sg).map Dt.str).length=_;rw[Bn,Bn,Px]
 have X2:sg rows[j].c ∉ (cs.take j).map sg:=by
   intro z
   have z:=IM.mp z
   obtain⟨i,hi,e⟩:=aa4.mp z
   rw[aat] at hi
   rw[abm] at e
   have h:=aaV.mp ok.nd i j (by rw[Bn];omega) (by rw[Bn];exact hj) (by omega)
   exact h (e.trans (aaK (f:=Row.c) (l:=rows) (i:=j) (h:=by rw[Bn];exact hj)).symm)
 have en:(!decide (sg rows[j].c∈(cs.take j).map sg))=true:=by rw[decide_eq_false X2];rfl
 have v4:∀ {X:Cx} {G:Gr} {dl:List Slot} {e:Expr},EE X G dl e (xs.getD j .cy)->EE X G dl e (.tup [.str (sg rows[j].c),.str rows[j].d,.str (tx rows[j].w)]):=fun h=>by rw[ex] at h;exact h
 refine .nx (ah (aw 5 nd (yj (u:=true) (v:=true) (b8 DT ax hr (ae (aD (v4 (aa 4 rfl)) aj rfl) ai) ⟨_,rfl,ok.sm _ hm,rfl⟩) fun _=>(tW (bR (Lo (xs:=(cs.take j).map sg) (aD (v4 (aa 4 rfl)) aj rfl) (g9 eT (LZ (aa 1 rfl) (aa 3 rfl) (by rw[cX];exact aa5 hj)))) (congrArg Dt.bl en)))))
   (ao (cN (u:=false) (OU (u:=true) (sS (nK (u:=true) (v:=true) (GU (aa 5 rfl)) fun _=>(nK (u:=true) (v:=true) (dG (B2 (xs:=mw) (aD (v4 (aa 4 rfl)) aj rfl) (jW (w:=.ref t.ki) T.zk rfl T.zm)) (decide_eq_true (ok.dd _ hm))) fun _=>(qt (GU (b8 Qy ax hr (ae (aD (v4 (aa 4 rfl)) aj rfl) (ae (aa 2 rfl) ai)) ⟨rows[j].w,cs,rfl,ok.wp _ hm,ok.wo _ hm,fun x hx=>?_,rfl⟩))))))) (fun h=>nomatch h) (fun h=>dn)))) (Le.of ⟨rfl,rfl,rfl,trivial⟩)
 obtain⟨r,hr',rfl⟩:=aaM.mp hx
 exact ok.sm r hr'
def IS (t:dJ):Rl:=fun ds r=>∃ six,ds=[.int (wy six)]/\r=.ret (.hX (.obj (t.pc six) []))
def L0 (t:dJ):Rl:=fun ds r=>∃ six rows,ds=[.int (wy six),.lst (rows.map qb)]/\bg rows/\r=.own (.obj t.aI [("drawer",.hX (.obj (t.pc six) [])),("row_by_letter",.cV (sv rows))])
noncomputable def rr (r:Row):Str×List Dt:=(sg r.c,[.str r.d,.str (tx r.w)])
theorem DU (rows:List Row):rows.map qb=(rows.map rr).map u7:=by rw[aam];rfl
theorem Qz (rows:List Row):sv rows=pA (rows.map rr):=by unfold pA sv;rw[aam];rfl
theorem Up {rows:List Row}(nd:(rows.map (·.c)).Nodup):((rows.map rr).map (·.1)).Nodup:=by
 have e:(rows.map rr).map (·.1)=(rows.map (·.c)).map sg:=by rw[aam,aam];rfl
 rw[e]
 exact List.Pairwise.map sg (fun a b h z=>h (n9 z)) nd
theorem FH (T:Txt K mg t):GF P w K mg base CX 1 "pen_of" 1 (IS t):=by
 refine⟨_,_,_,iQ T.ml.F Fy rfl fun bc A outer s H E G ds r hr hl hR=>?_,(T.g T.ml.a),T.ml.F.kp,T.ml.b⟩
 obtain⟨six,rfl,rfl⟩:=hR
 cases six with
 | false=>exact⟨_,.rt _,tX (cN (rL (aa 0 rfl) aj) (fun h=>ao (aF (AQ T.p7 (T.g T.i6.a)))) (fun h=>absurd h (by decide)))⟩
 | true=>exact⟨_,.rt _,ah (cN (rL (aa 0 rfl) aj) (fun h=>absurd h (by decide)) (fun h=>dn)) (tX (cN (rL (aa 0 rfl) aj) (fun h=>ao (aF (AQ T.vA (T.g T.m5.a)))) (fun h=>absurd h (by decide))))⟩
theorem IT (T:Txt K mg t):O7 P w K mg base CX 3 "Rules" t.aI 3 (L0 t):=by
 refine⟨_,_,_,Vk T.ko.F pE rfl fun bc A outer s H E G z ds r hr hl hR=>?_,T.vB,(T.g T.di.a),T.ko.b⟩
 obtain⟨six,rows,rfl,ok,rfl⟩:=hR
 have Uq:=FH (P:=P) (w:=w) (base:=base) T
 have L1:=IQ (P:=P) (w:=w) (base:=base) T
 have nd:=pE.nd
 have hu:(A.deeper (envOfC "Rules.__init__" (af jZ) s.heap.objs.size t.er bc)).units+1 < cLine:=by have:=hr.units;omega
 rw[Qz,DU]
 refine⟨_,.nx ?fin,ah (aw 3 nd (b8 Uq ax hr (ae (aa 1 rfl) ai) ⟨six,rfl,rfl⟩))
   (ah (qu (b8 L1 ax hr (ae (aa 2 rfl) ai) ⟨rows,by rw[DU],ok,rfl⟩))
   (ah (jE (aa 3 rfl) T.di.cl T.gN)
   (HB 2 4 (C:=t.aI) (rows:=rows.map rr) (dlu:=[.aY,.val (.int (wy six)),.val (.lst ((rows.map rr).map u7)),.val (.hX (.obj (t.pc six) [])),.aY]) hu nd rfl PassesOwn.leaving T.di.cl T.aK rfl rfl rfl rfl (by decide) (by decide) rfl (Up ok.nd) (by rw[Bn];exact aaH ok.le (by decide))
     (fun r=>aD (aa 4 rfl) aj (ll (j:=0) rfl)) (fun r=>Lr T.zp (aa 4 rfl)))))⟩
 rfl
open PySem.Builtin.Str in
theorem xK (x:Str){a b:Nat}(X3:a<=b)(hb:b<=x.length){l u:Option Int}(h:strSliceIndices l u 1 x.length=strSliceIndices (some (a:Int)) (some (b:Int)) 1 x.length):Txt.slice x l u=⟨((x.cps.toList.drop a).take (b - a)).toArray⟩:=by
 unfold Txt.slice
 rw[h,PySem.StrLaws.sliced_plain x X3 hb]
 split
 . rename_i q
   rw[PySem.StrLaws.strSliceIndices_plain X3 hb,Bn,aaA] at q
   have q:b - a=x.length:=by simpa using q
   have ea:a=0:=by omega
   have eb:b=x.length:=by omega
   subst ea eb
   rw[abW,Nat.sub_zero]
   have:x.cps.toList.take x.length=x.cps.toList:=aa6 (by simp[Str.length])
   rw[this]
 . rfl
open PySem.Builtin.Str in
theorem IU (L:List Nat){k:Nat}(h:k<=L.length):Txt.slice (tx L) none (some (k:Int))=tx (L.take k):=by
 rw[xK (tx L) (a:=0) (b:=k) (aaQ _) (by rw[gh];exact h)]
 . show(⟨(((L.toArray.toList).drop 0).take (k - 0)).toArray⟩:Str)=_
   simp[tx]
 . simp[strSliceIndices]
   have e:max (0:Int) (min 0 ((tx L).length:Int))=0:=by omega
   rw[e]
open PySem.Builtin.Str in
theorem Ct (L:List Nat){k:Nat}(h:k<=L.length):Txt.slice (tx L) (some (k:Int)) none=tx (L.drop k):=by
 rw[xK (tx L) (a:=k) (b:=(tx L).length) (by rw[gh];exact h) (aac _)]
 . show(⟨(((L.toArray.toList).drop k).take ((tx L).length - k)).toArray⟩:Str)=_
   rw[gh,List.toList_toArray,aa6 (by rw[aaW];exact aac _)]
   rfl
 . simp[strSliceIndices]
   have e:max (0:Int) (min (if ((tx L).length:Int) < 0 then ((tx L).length:Int)+(tx L).length else (tx L).length) ((tx L).length:Int))=(tx L).length:=by
     rw[if_neg (by omega)];omega
   rw[e]
theorem QA (a b:List Nat):tx a ++ tx b=tx (a ++ b):=by
 show(⟨a.toArray ++ b.toArray⟩:Str)=⟨(a ++ b).toArray⟩
 simp
theorem Ur (L:List Nat){k:Nat}(h:k < L.length):lZ (tx L).cps.toList (k:Int)=some (L.getD k 0):=by
 show lZ L.toArray.toList (k:Int)=_
 rw[List.toList_toArray]
 refine ll ?_
 rw[WY,k3 h];rfl
section
variable {X:Cx}{G:Gr}{dl:List Slot}{a b:Expr}{L M:List Nat}{k:Nat}{pos p p2:Pos}
theorem zt (ha:EE X G dl a (.str (tx L)))(hb:EE X G dl b (.str (tx M)))(h:L.length+M.length<=2000):EE X G dl (.BinOp a .Add b pos) (.str (tx (L ++ M))):=
 bR (OT ha hb (by rw[gh,gh];exact rb h)) (by rw[QA])
theorem zu (ha:EE X G dl a (.str (tx L)))(hb:EE X G dl b (.int (k:Int)))(h:k < L.length)(hl:L.length<=2000)(hs:jU b:=by intro _ _;rfl):EE X G dl (.Subscript a b pos) (.str (tx [L.getD k 0])):=
 OW ha hb (Ur L h) (by rw[gh];exact rb hl) hs
theorem L3 (ha:EE X G dl a (.str (tx L)))(hb:EE X G dl b (.int (k:Int)))(h:k<=L.length)(hl:L.length<=2000):EE X G dl (.Subscript a (.Slice none (some b) none p2) pos) (.str (tx (L.take k))):=
 bR (Hs ha Hr (t7 hb) (by rw[gh];exact rb hl)) (by rw[IU L h])
theorem FI (ha:EE X G dl a (.str (tx L)))(hb:EE X G dl b (.int (k:Int)))(h:k<=L.length)(hl:L.length<=2000):EE X G dl (.Subscript a (.Slice (some b) none none p2) pos) (.str (tx (L.drop k))):=
 bR (Hs ha (t7 hb) Hr (by rw[gh];exact rb hl)) (by rw[Ct L h])
theorem fG (hm:X.mg "len"=none)(ha:EE X G dl a (.str (tx L)))(hl:L.length<=2000)(hg:Gl X "len":=by rfl)(he:starEach [a] X.env=[(false,eval a X.env)]:=by rfl):EE X G dl (.Call (.Name "len" p) [a] [] pos) (.int (L.length:Nat)):=
 bR (yk hm ha (by rw[gh];exact rb hl) hg he) (by rw[gh])
end
theorem DV:∀ (Ls:List (List Nat)) (a:List Nat),(Ls.map tx).foldl (fun acc p=>acc ++ (("":Str).cps) ++ p.cps) a.toArray=(a ++ Ls.flatten).toArray
 | [],a=>by simp
 | l::r,a=>by
   have e:a.toArray ++ ("":Str).cps ++ (tx l).cps=(a ++ l).toArray:=by
     show a.toArray ++ (#[]:Array Nat) ++ l.toArray=_
     simp
   rw[aao,List.foldl_cons,e,DV r,aaZ,List.append_assoc]
theorem L4 (Ls:List (List Nat)):Txt.join "" (Ls.map tx)=tx Ls.flatten:=by
 cases Ls with
 | nil=>rfl
 | cons l r=>
   show(⟨(r.map tx).foldl (fun acc p=>acc ++ (("":Str).cps) ++ p.cps) l.toArray⟩:Str)=_
   rw[DV,aaZ];rfl
theorem xM {X:Cx}{G:Gr}{dl:List Slot}{a e:Expr}{apos bN:Pos}{Ls:List (List Nat)}(ha:EE X G dl a (.str ""))(he:EE X G dl e (.lst ((Ls.map tx).map .str)))(hw:Ls.flatten.length+Ls.length<=100000)(ju:attributeBase a "join" X.env (eval a X.env)=eval a X.env:=by rfl)
   (uO:((backTo bN (starEach [e] X.env)).all (fun x=>!x.1) && (backToKw bN (keywordEach [] X.env)).all (fun x=>x.1.isSome) && decide ([e].length+([]:List Keyword).length+(if ([]:List Keyword).isEmpty then 0 else 1) < 30))=true:=by rfl)
   (jv:(apos.endLine == bN.line)=true:=by rfl) (pK:starEach [e] X.env=(false,eval e X.env)::starEach [] X.env:=by rfl):EE X G dl (.Call (.Attribute a "join" apos) [e] [] bN) (.str (tx Ls.flatten)):=by
 have e1:((Ls.map tx).map (·.length)).sum=Ls.flatten.length:=by
   rw[List.length_flatten,aam]
   congr 1
 exact bR (Lq ha he (joinOk_of_weight (by rw[e1,Bn];omega) (by decide)) ju uO jv pK) (by rw[L4])
theorem A5:∀ rows:List Row,(rows.map fun r=>[r.c]).flatten=rows.map (·.c)
 | []=>rfl
 | a::r=>by rw[aao,aaZ,A5 r];rfl
noncomputable def dJ.ur (t:dJ)(six:Bool)(rows:List Row):List (Str×Dt):=[("drawer",.hX (.obj (t.pc six) [])),("row_by_letter",.cV (sv rows))]
noncomputable def dZ (rows:List Row)(x:Nat):Str:=((rows.find? fun r=>decide (r.c=x)).map (·.d)).getD ""
noncomputable def wordOf (rows:List Row)(x:Nat):List Nat:=((rows.find? fun r=>decide (r.c=x)).map (·.w)).getD []
theorem iO {rows:List Row}{x:Nat}(h:x∈rows.map (·.c)):∃ r∈rows,r.c=x/\dZ rows x=r.d/\wordOf rows x=r.w:=by
 obtain⟨q,hq,e⟩:=aaM.mp h
 cases f:rows.find? (fun r=>decide (r.c=x)) with
 | none=>exact absurd (decide_eq_true e) (by simpa using List.find?_eq_none.mp f q hq)
 | some r=>
   refine⟨r,List.mem_of_find?_eq_some f,of_decide_eq_true (List.find?_some (p:=fun r:Row=>decide (r.c=x)) f),?_,?_⟩
   . unfold dZ;rw[f];rfl
   . unfold wordOf;rw[f];rfl
def Cu (t:dJ):Rl:=fun ds r=>∃ six rows,ds=[t.pI six rows]/\bg rows/\r=.ret (.str (tx (rows.map (·.c))))
def IV (t:dJ):Rl:=fun ds r=>∃ six rows q,ds=[t.pI six rows,.str (sg q.c)]/\bg rows/\q∈rows/\r=.ret (qb q)
def L5 (t:dJ):Rl:=fun ds r=>∃ six rows x,ds=[t.pI six rows,.str (sg x)]/\bg rows/\x∈rows.map (·.c)/\r=.ret (.str (dZ rows x))
def L6 (t:dJ):Rl:=fun ds r=>∃ six rows x,ds=[t.pI six rows,.str (sg x)]/\bg rows/\x∈rows.map (·.c)/\r=.ret (.str (tx (wordOf rows x)))
theorem xN (T:Txt K mg t):MF P w K mg base CX 1 t.aI "row_of" 2 (IV t):=by
 refine⟨T.di.cl,_,_,_,iQ T.iL.F tE rfl fun bc A outer s H E G ds r hr hl hR=>?_,T.eY,T.iL.b⟩
 obtain⟨six,rows,q,rfl,ok,hq,rfl⟩:=hR
 have hu:(A.deeper (envOfC "Rules.row_of" (af ir) s.heap.objs.size t.cO bc)).units+1 < cLine:=by have:=hr.units;omega
 have hv:=sx ok.nd hq
 exact⟨_,.rt _,ah (cN (u:=false) (dG (DC hu (aa 1 rfl) (aG (fs:=t.ur six rows) (aa 0 rfl) T.di.cl T.aK rfl)) (by rw[hv];rfl)) (fun h=>nomatch h) (fun h=>dn))
   (ao (aF (DB hu (aG (fs:=t.ur six rows) (aa 0 rfl) T.di.cl T.aK rfl) (aa 1 rfl) hv (fun _ _=>rfl))))⟩
theorem vL (T:Txt K mg t):MF P w K mg base CX 2 t.aI "word" 2 (L6 t):=by
 refine⟨T.di.cl,_,_,_,iQ T.ky.F wL rfl fun bc A outer s H E G ds r hr hl hR=>?_,T.gb,T.ky.b⟩
 obtain⟨six,rows,x,rfl,ok,hx,rfl⟩:=hR
 obtain⟨q,hq,rfl,e1,e2⟩:=iO hx
 have m:=xN (P:=P) (w:=w) (base:=base) T
 rw[e2]
 exact⟨_,.rt _,ao (aF (aD (bE (fs:=t.ur six rows) (aa 0 rfl) m ax hr (ae (aa 1 rfl) ai) ⟨six,rows,q,rfl,ok,hq,rfl⟩) aj rfl))⟩
theorem jB (T:Txt K mg t):MF P w K mg base CX 1 t.aI "letters" 1 (Cu t):=by
 refine⟨T.di.cl,_,_,_,iQ T.gS.F r6 rfl fun bc A outer s H E G ds r hr hl hR=>?_,T.eD,T.gS.b⟩
 obtain⟨six,rows,rfl,ok,rfl⟩:=hR
 have h6:=ok.le
 have el:((sv rows).map fun kd=>kD kd.1)=((rows.map fun r=>[r.c]).map tx).map Dt.str:=by
   unfold sv
   rw[aam,aam,aam];rfl
 have ef:(rows.map fun r=>[r.c]).flatten=rows.map (·.c):=A5 rows
 refine⟨_,.rt _,ao (aF (bR (xM (Ls:=rows.map fun r=>[r.c]) dF (g9 el (HD T.Cr rfl (aG (fs:=t.ur six rows) (aa 0 rfl) T.di.cl T.aK rfl))) (by rw[ef,Bn,Bn];omega)) (by rw[ef])))⟩
theorem vM (T:Txt K mg t):MF P w K mg base CX 2 t.aI "deed" 2 (L5 t):=by
 refine⟨T.di.cl,_,_,_,iQ T.kr.F wK rfl fun bc A outer s H E G ds r hr hl hR=>?_,T.f9,T.kr.b⟩
 obtain⟨six,rows,x,rfl,ok,hx,rfl⟩:=hR
 obtain⟨q,hq,rfl,e1,e2⟩:=iO hx
 have m:=xN (P:=P) (w:=w) (base:=base) T
 rw[e1]
 exact⟨_,.rt _,ao (aF (aD (bE (fs:=t.ur six rows) (aa 0 rfl) m ax hr (ae (aa 1 rfl) ai) ⟨six,rows,q,rfl,ok,hq,rfl⟩) aj rfl))⟩
def sy (t:dJ):Rl:=fun ds r=>∃ (six:Bool) (rows:List Row) (w:List Nat) (m:Nat),ds=[t.pI six rows,.str (tx w),.int (m:Nat)]/\bg rows/\(∀ x∈w,x∈rows.map (·.c))/\(0 < w.length/\w.length<=m/\m<=1000)/\r=.ret (.str (tx w))
theorem uu (w:List Nat):w.map (fun x=>Dt.str (sg x))=Sg.signs (tx w):=by rw[vK,aam];rfl
theorem m7 {rows:List Row}(ok:bg rows){w:List Nat}(h:∀ x∈w,x∈rows.map (·.c)):iX (tx w)=true:=jA fun x hx=>by
 obtain⟨r,hr,rfl⟩:=aaM.mp (h x hx)
 have:=ok.sm r hr
 unfold small at this;omega
theorem vN (T:Txt K mg t):jt P w K mg base CX 1 t.aS t.gH ["self","text","most"] (Dm K 3 (sy t)):=by
 refine Vj T.tJ mh rfl fun bc A outer s H E G ds r hr hl hR=>?_
 obtain⟨six,rows,wd,m,rfl,ok,hw,⟨h0,hm,Zh⟩,rfl⟩:=hR
 have nd:=mh.nd
 have hu:(A.deeper (envOfC "Rules.word_of" (af aR) s.heap.objs.size t.aS bc)).units+1 < cLine:=by have:=hr.units;omega
 have ne:¬ tx wd=("":Str):=fun z=>by
   have:=congrArg Str.length z
   rw[gh] at this
   have e:("":Str).length=0:=rfl
   omega
 let xs:=Sg.signs (tx wd)
 have Uo:xs.length=wd.length:=by show(Sg.signs (tx wd)).length=_;rw[kG,gh]
 let S:Nat->List Slot:=fun _=>[.val (t.pI six rows),.val (.str (tx wd)),.val (.int (m:Nat)),.aY,.aY]
 refine⟨_,.rt _,ah (cN (u:=false) (dG (nL (aa 1 rfl) dF) (decide_eq_false ne)) (fun h=>nomatch h) (fun h=>dn))
   (ah (mI (o:=.nx (S wd.length)) (m:=wd.length) (aag xs.length) (fun(j:Nat)=>.tup [.int j,xs.getD j .cy]) (fun(j:Nat) dl=>(dl.set 3 (.val (.int j))).set 4 (.val (xs.getD j .cy))) S rfl PassesOwn.leaving
     (HF rfl T.lE (ae (aa 1 rfl) ai)) (B9 (m7 ok hw)) (uE rfl (fh (bX nd rfl (.inl rfl)) (fh (bX nd rfl (.inl rfl)) qh))) (fun a _=>Dz) (Le.of ⟨rfl,rfl,rfl,trivial⟩) (by rw[aaA,Uo];exact aac _) (fun j a hj ha=>?_) (by rw[aaA,Uo];exact .all rfl))
   (ao (aF (aa 1 rfl))))⟩
 rw[aar (by omega)] at ha
 cases ha
 have ex:xs.getD j .cy=.str (sg wd[j]):=by
   show(Sg.signs (tx wd)).getD j .cy=_
   rw[<- uu,WY,aab,k3 hj];rfl
 have v4:∀ {X:Cx} {G:Gr} {dl:List Slot} {e:Expr},EE X G dl e (xs.getD j .cy)->EE X G dl e (.str (sg wd[j])):=fun h=>by rw[ex] at h;exact h
 obtain⟨q,hq,hc,_,_⟩:=iO (hw _ (aaJ hj))
 have hv:=sx ok.nd hq
 rw[hc] at hv
 exact .nx (ao (cN (u:=false) (sS (Am (u:=false) (v:=false) (dG (GZ (aa 3 rfl) (aa 2 rfl)) (decide_eq_false (by omega))) fun _=>(uT (dG (DC hu (v4 (aa 4 rfl)) (aG (fs:=t.ur six rows) (aa 0 rfl) T.di.cl T.aK rfl)) (by rw[hv];rfl))))) (fun h=>nomatch h) (fun h=>dn))) (Le.of ⟨rfl,rfl,rfl,trivial⟩)
theorem Cv (T:Txt K mg t):Kr P w K mg base CX 1 t.aI "word_of" 3 [] (sy t):=⟨T.di.cl,_,_,_,[],[],vN T,T.cF,T.tK,.nil,fun _=>.nil⟩
theorem X4 {K:W.Frag}:∀ H,aM K H [.int 8] [.int 8]:=fun _=>.cons (.int 8) .nil
theorem A6 (T:Txt K mg t):Kr P w K mg base CX 1 t.aI "word_of" 3 [.int 8] (sy t):=⟨T.di.cl,_,_,_,_,[.int 8],vN T,T.cF,T.sj,.cons ⟨_,rfl⟩ .nil,X4⟩
def QB (t:dJ):Rl:=fun ds r=>∃ six rows,ds=[t.pI six rows]/\r=.ret (.hX (.obj (t.pc six) []))
theorem zv (T:Txt K mg t):MF P w K mg base CX 1 t.aI "pen" 1 (QB t):=by
 refine⟨T.di.cl,_,_,_,iQ T.lD.F yT rfl fun bc A outer s H E G ds r hr hl hR=>?_,T.g8,T.lD.b⟩
 obtain⟨six,rows,rfl,rfl⟩:=hR
 exact⟨_,.rt _,ao (aF (aG (fs:=t.ur six rows) (aa 0 rfl) T.di.cl T.gN rfl))⟩
noncomputable def tl (six:Bool)(p:Int×Int):Int×Int:=if six then (-p.2,p.1+p.2) else (-p.2,p.1)
noncomputable def tn (six:Bool):Nat->Int×Int->Int×Int
 | 0,p=>p
 | n+1,p=>tl six (tn six n p)
noncomputable def sp (p:Int×Int):Dt:=.tup [.int p.1,.int p.2]
theorem eI (six:Bool):0 < wy six:=by cases six <;> decide
def QC (t:dJ)(six:Bool):Rl:=fun ds r=>ds=[.obj (t.pc six) []]/\r=.ret (.int (wy six))
def QD (t:dJ)(six:Bool):Rl:=fun ds r=>∃ p,ds=[.obj (t.pc six) [],sp p]/\r=.ret (sp (tl six p))
def IW (t:dJ)(six:Bool):Rl:=fun ds r=>∃ z,ds=[.obj (t.pc six) [],.int z]/\r=.ret (.int (z % wy six))
def IY (t:dJ)(six:Bool):Rl:=fun ds r=>∃ p b,ds=[.obj (t.pc six) [],sp p,.int b]/\r=.ret (sp (tn six (b % wy six).toNat p))
theorem uv (T:Txt K mg t)(six:Bool):MF P w K mg base CX 1 (t.pc six) "ways" 1 (QC t six):=by
 cases six with
 | false=>
   refine⟨T.i6.cl,_,_,_,iQ T.iJ.F sY rfl fun bc A outer s H E G ds r hr hl hR=>?_,T.dU,T.iJ.b⟩
   obtain⟨rfl,rfl⟩:=hR
   exact⟨_,.rt _,ao (aF aj)⟩
 | true=>
   refine⟨T.m5.cl,_,_,_,iQ T.km.F wH rfl fun bc A outer s H E G ds r hr hl hR=>?_,T.f7,T.km.b⟩
   obtain⟨rfl,rfl⟩:=hR
   exact⟨_,.rt _,ao (aF aj)⟩
theorem L7 (T:Txt K mg t)(six:Bool):MF P w K mg base CX 1 (t.pc six) "turned_left" 2 (QD t six):=by
 cases six with
 | false=>
   refine⟨T.i6.cl,_,_,_,iQ T.cU.F mT rfl fun bc A outer s H E G ds r hr hl hR=>?_,T.bV,T.cU.b⟩
   obtain⟨p,rfl,rfl⟩:=hR
   exact⟨_,.rt _,(ao (aF (cB (ae (iW (aD (aa 1 rfl) aj rfl)) (ae (aD (aa 1 rfl) aj rfl) ai)) AA3)))⟩
 | true=>
   refine⟨T.m5.cl,_,_,_,iQ T.dA.F nV rfl fun bc A outer s H E G ds r hr hl hR=>?_,T.cP,T.dA.b⟩
   obtain⟨p,rfl,rfl⟩:=hR
   exact⟨_,.rt _,(ao (aF (cB (ae (iW (aD (aa 1 rfl) aj rfl)) (ae (aL (aD (aa 1 rfl) aj rfl) (aD (aa 1 rfl) aj rfl)) ai)) AA3)))⟩
theorem DW {six:Bool}{m:Str}{f:Addr}(hQ:Meth K t.aJ m f)(hS:Meth K t.bQ m f):Meth K (t.pc six) m f:=by cases six <;> assumption
theorem DX (T:Txt K mg t)(six:Bool):tT K (t.pc six):=by cases six;exact T.i6.cl;exact T.m5.cl
theorem mx (T:Txt K mg t)(six:Bool):MF P w K mg base CX 2 (t.pc six) "way_of" 2 (IW t six):=by
 refine⟨DX T six,_,_,_,iQ T.kj.F wG rfl fun bc A outer s H E G ds r hr hl hR=>?_,DW T.eW T.fY,T.kj.b⟩
 obtain⟨z,rfl,rfl⟩:=hR
 have h1:=uv (P:=P) (w:=w) (base:=base) T six
 refine⟨_,.rt _,ao (aF (fk (aa 1 rfl) (ck (aa 0 rfl) h1 ax hr ⟨rfl,rfl⟩) (eI six)))⟩
theorem xO (T:Txt K mg t)(six:Bool):MF P w K mg base CX 3 (t.pc six) "turned" 3 (IY t six):=by
 refine⟨DX T six,_,_,_,iQ T.kl.F lN rfl fun bc A outer s H E G ds r hr hl hR=>?_,DW T.eX T.fZ,T.kl.b⟩
 obtain⟨p,b,rfl,rfl⟩:=hR
 have h1:=mx (P:=P) (w:=w) (base:=base) T six
 have h2:=L7 (P:=P) (w:=w) (base:=base) T six
 have T3:=aaE b (abb (eI six))
 have Xe:=aaF b (eI six)
 have hb3:wy six<=6:=by cases six <;> decide
 refine⟨_,.rt _,ah (kF 3 (fun k=>[.val (.obj (t.pc six) []),.val (sp (tn six k p)),.val (.int b),.aY]) lN.nd rfl PassesOwn.leaving T.gW
   (ae (bE (aa 0 rfl) h1 ax hr (ae (aa 2 rfl) ai) ⟨b,rfl,rfl⟩) ai) ⟨by omega,by omega⟩ (Le.of ⟨rfl,rfl,rfl,trivial⟩) (aac _) (fun k hk=>?_) (.all rfl)) (ao (aF (aa 1 rfl)))⟩
 refine .nx (ao (aw 1 lN.nd (bE (aa 0 rfl) h2 ax hr (ae (aa 1 rfl) ai) ⟨_,rfl,rfl⟩))) (Le.of ⟨rfl,rfl,rfl,trivial⟩)
noncomputable def MM:Int:=2305843009213693951
noncomputable def cellAt (ns:List Int)(k:Nat):Int:=ns.getD k 0 % 10 ^ 60 / MM * MM+(ns.getD k 0+7919 * ((k:Int)+1)) * 6364136223846793005 % MM
theorem IZ {m n:Nat}{a b:Int}(ha:a.natAbs < 2 ^ m)(hb:b.natAbs < 2 ^ n)(h:m+n<=134217728):IntMulOk a b:=IntMulOk.of_le (PySem.intBits_le_iff.mpr ha) (PySem.intBits_le_iff.mpr hb) h
def Us:Rl:=fun ds r=>∃ ns:List Int,ns.length<=63/\ds=[.oy ns]/\r=.ret (.bl true)
def Ja (K:W.Frag):Sp:=Dm K 1 Us
theorem QE {K:W.Frag}{H:Hp}{a:Addr}{ns:List Int}(hl:ns.length<=63)(hS:lS K H a (ns.map V.int)):Ja K [.ref a] H (fun v _=>v=.bl true) fun _ _ _=>False:=
 ⟨H,[.oy ns],.ret (.bl true),aC.refl H,.cons (.oy hS) .nil,rfl,⟨ns,hl,rfl,rfl⟩,fun v aH H' g r=>by cases r;rfl⟩
def FJ:Rl:=fun ds r=>∃ (ns:List Int) (k:Nat),ds=[.oy ns,.int k]/\k<=100/\r=.ret (.int (cellAt ns k))
theorem Jb (ns:List Int)(k:Nat)(h:k < ns.length):lZ ns (k:Int)=some (ns.getD k 0):=by
 refine ll ?_
 rw[WY,k3 h];rfl
theorem vO (T:Txt K mg t):GF P w K mg base CX 1 "_law_cell_at" 2 FJ:=by
 refine⟨_,_,_,iQ T.kH.F mW rfl fun bc A outer s H E G ds r hr hl hR=>?_,(T.g T.kH.a),T.kH.F.kp,T.kH.b⟩
 obtain⟨ns,k,rfl,hk,rfl⟩:=hR
 refine⟨_,.rt _,ah (aw 2 mW.nd aj) (ah (dl1:=[.val (.oy ns),.val (.int k),.val (.int (ns.getD k 0)),.aY]) (cN (qy (aa 1 rfl) (Dp T.fg (aa 0 rfl))) (fun h=>?_) (fun h=>?_))
   (ah (aw 3 mW.nd (fk (iV (aL (aa 2 rfl) (iV aj (aL (aa 1 rfl) aj) (uG.ok (aaL ⟨by decide,by decide⟩)))) aj (uG.ok (aaB ⟨by decide,by decide⟩))) aj (by decide)))
 (ao (aF (aL (iV (jV (fk (aa 2 rfl) (OR aj aj ⟨by decide,by decide,by decide⟩) (by decide)) aj ⟨by decide,by decide +kernel⟩) aj (uG.ok (aaB ⟨by decide,by decide⟩))) (aa 3 rfl))))))⟩
 . have h:=of_decide_eq_true h
   exact ao (aw 2 mW.nd (rG (aa 0 rfl) (aa 1 rfl) (Jb ns k (by omega))))
 . have h:=of_decide_eq_false h
   have e:ns.getD k 0=0:=by rw[WY,aaw (by omega)];rfl
   rw[e]
   exact dn
noncomputable def X5:List Nat:=(aag 26).map (97 + ·)
structure LS where
 left:List Nat
 rest:Int
 out:List Nat
noncomputable def ls (c:Int):Nat->LS
 | 0=>⟨X5,c * 48271 % 308915776,[]⟩
 | k+1=>let s:=ls c k;let at_:=(s.rest % (s.left.length:Nat)).toNat;⟨s.left.take at_ ++ s.left.drop (at_+1),s.rest / 26,s.out ++ [s.left.getD at_ 0]⟩
noncomputable def oZ (s:LS):Nat:=(s.rest % (s.left.length:Nat)).toNat
structure LOk (k:Nat)(s:LS):Prop where
 len:s.left.length+k=26
 ol:s.out.length=k
 sm:∀ x∈s.left,small x
 so:∀ x∈s.out,small x
 nl:s.left.Nodup
 no:s.out.Nodup
 ap:∀ x∈s.out,x ∉ s.left
theorem Jc {s:LS}(h:0 < s.left.length):oZ s < s.left.length:=by
 have h0:=aaE s.rest (show((s.left.length:Nat):Int)≠0 by omega)
 have h1:=aaF s.rest (show(0:Int) < (s.left.length:Nat) by omega)
 unfold oZ
 omega
theorem Jd (c:Int):∀ k,k<=6->LOk k (ls c k)
 | 0,_=>⟨show X5.length+0=26 by decide,rfl,fun x hx=>by
     obtain⟨i,hi,rfl⟩:=aaM.mp (show x∈(aag 26).map (97 + ·) from hx)
     have:=abp.mp hi
     unfold small;omega,fun x h=>absurd h (abv),show X5.Nodup by decide,List.nodup_nil,fun x h=>absurd h (abv)⟩
 | k+1,hk=>by
   have ih:=Jd c k (by omega)
   have hl:=ih.len
   have cX:oZ (ls c k) < (ls c k).left.length:=Jc (by omega)
   generalize hs:ls c k=s at ih hl cX
   have e:ls c (k+1)=⟨s.left.take (oZ s) ++ s.left.drop (oZ s+1),s.rest / 26,s.out ++ [s.left.getD (oZ s) 0]⟩:=by rw[<- hs];rfl
   rw[e]
   have eg:s.left.getD (oZ s) 0=s.left[oZ s]:=by rw[WY,k3 cX];rfl
   have sub:s.left.take (oZ s) ++ s.left.drop (oZ s+1)=s.left.eraseIdx (oZ s):=(List.eraseIdx_eq_take_drop_succ _ _).symm
   have mem:∀ x∈s.left.take (oZ s) ++ s.left.drop (oZ s+1),x∈s.left:=fun x hx=>by
     rcases abd.mp hx with h | h
     . exact List.mem_of_mem_take h
     . exact List.mem_of_mem_drop h
   have PB:s.left[oZ s]∈s.left:=aaJ cX
   have nin:s.left[oZ s] ∉ s.left.take (oZ s) ++ s.left.drop (oZ s+1):=by
     have pw:=aaV.mp ih.nl
     intro h
     rcases abd.mp h with h | h
     . obtain⟨i,hi,e⟩:=aa4.mp h
       rw[aat] at hi
       rw[abm] at e
       exact pw i (oZ s) (by omega) cX (by omega) e
     . obtain⟨i,hi,e⟩:=aa4.mp h
       rw[aaW] at hi
       rw[List.getElem_drop] at e
       exact pw (oZ s) (oZ s+1+i) cX (by omega) (by omega) e.symm
   refine⟨?_,?_,fun x hx=>ih.sm x (mem x hx),fun x hx=>?_,?_,?_,fun x hx=>?_⟩
   . show(s.left.take (oZ s) ++ s.left.drop (oZ s+1)).length+(k+1)=26
     rw[aas,aat,aaW];omega
   . show(s.out ++ [s.left.getD (oZ s) 0]).length=k+1
     rw[aas,ih.ol];rfl
   . rcases abd.mp hx with h | h
     . exact ih.so x h
     . have:x=s.left[oZ s]:=by rw[<- eg];simpa using h
       rw[this];exact ih.sm _ PB
   . show(s.left.take (oZ s) ++ s.left.drop (oZ s+1)).Nodup
     rw[sub]
     exact List.Nodup.sublist (List.eraseIdx_sublist _ _) ih.nl
   . show(s.out ++ [s.left.getD (oZ s) 0]).Nodup
     rw[eg]
     refine List.nodup_append.mpr ⟨ih.no,by simp,fun a ha b hb z=>?_⟩
     have:b=s.left[oZ s]:=by simpa using hb
     subst z this
     exact ih.ap _ ha PB
   . rcases abd.mp hx with h | h
     . exact fun z=>ih.ap x h (mem x z)
     . have:x=s.left[oZ s]:=by rw[<- eg];simpa using h
       rw[this];exact nin
noncomputable def A7 (c:Int)(n:Nat):List Nat:=(ls c n).out
def Cw:Rl:=fun ds r=>∃ (c:Int) (n:Nat),ds=[.int c,.int (n:Nat)]/\n<=6/\r=.ret (.str (tx (A7 c n)))
noncomputable def Cy (L:List Nat)(c:Int):Nat->Int×List Nat
 | 0=>(c,[])
 | k+1=>let s:=Cy L c k;(s.1 / (L.length:Nat),s.2 ++ [L.getD (s.1 % (L.length:Nat)).toNat 0])
noncomputable def vP (L:List Nat)(c:Int)(n:Nat):List Nat:=(Cy L c n).2
theorem zw (L:List Nat)(c:Int):∀ k,(Cy L c k).2.length=k
 | 0=>rfl
 | k+1=>by show((Cy L c k).2 ++ [_]).length=_;rw[aas,zw L c k];rfl
theorem DY (L:List Nat)(hL:0 < L.length)(c:Int):∀ k,∀ x∈(Cy L c k).2,x∈L
 | 0,x,h=>by cases h
 | k+1,x,h=>by
   rcases abd.mp h with h | h
   . exact DY L hL c k x h
   . have h0:=aaE (Cy L c k).1 (show((L.length:Nat):Int)≠0 by omega)
     have h1:=aaF (Cy L c k).1 (show(0:Int) < (L.length:Nat) by omega)
     have cX:((Cy L c k).1 % (L.length:Nat)).toNat < L.length:=by omega
     have:x=L.getD ((Cy L c k).1 % (L.length:Nat)).toNat 0:=by simpa using h
     rw[this,WY,k3 cX]
     exact aaJ cX
def L8:Rl:=fun ds r=>∃ (L:List Nat) (c:Int) (n:Nat),ds=[.str (tx L),.int c,.int (n:Nat)]/\(0 < L.length/\L.length<=100)/\n<=1000/\r=.ret (.str (tx (vP L c n)))
noncomputable def VR (c:Int):Str:=mw.getD (c % 5).toNat ""
theorem L9 (c:Int):VR c∈mw:=by
 have h0:=aaE c (show(5:Int)≠0 by decide)
 have h1:=aaF c (show(0:Int) < 5 by decide)
 have hk:(c % 5).toNat < mw.length:=by show _ < 5;omega
 unfold VR
 rw[WY,k3 hk]
 exact aaJ hk
theorem at_getD {L:List Str}{i:Int}{n:Nat}(hn:L.length=n)(h0:0<=i)(h1:i < n):lZ (L.map Dt.str) i=some (.str (L.getD i.toNat "")):=by
 have e:i=((i.toNat:Nat):Int):=by omega
 rw[e]
 have hk:i.toNat < L.length:=by omega
 refine(ll (j:=i.toNat) ?_).trans rfl
 rw[aab,k3 hk,WY]
 show some (Dt.str L[i.toNat])=some (Dt.str ((L[(i.toNat:Int).toNat]?).getD ""))
 rw[aaY,k3 hk];rfl
noncomputable def rowAt (L:List Nat)(ns:List Int)(m:Int)(k:Nat):Row:=⟨L.getD k 0,VR (cellAt ns k),vP L (cellAt ns k / 5 / m) (1+cellAt ns k / 5 % m).toNat⟩
noncomputable def rowsOf (L:List Nat)(ns:List Int)(m:Int):List Row:=(aag L.length).map (rowAt L ns m)
theorem Je (L:List Nat)(ns:List Int)(m:Int):(rowsOf L ns m).map (·.c)=L:=by
 unfold rowsOf
 rw[aam]
 refine abM (by simp) fun i h1 h2=>?_
 simp only[aaK,List.getElem_range,Function.comp]
 show L.getD i 0=L[i]
 rw[WY,k3 h2];rfl
theorem Jf (c:Int){n:Nat}(h0:0 < n)(h6:n<=6):(A7 c n).length=n/\(A7 c n).Nodup/\∀ x∈A7 c n,small x:=by
 have ok:=Jd c n h6
 exact⟨ok.ol,ok.no,ok.so⟩
theorem vQ {L:List Nat}(hL:0 < L.length)(c:Int)(n:Nat):(vP L c n).length=n/\∀ x∈vP L c n,x∈L:=⟨zw L c n,DY L hL c n⟩
theorem Ma {L:List Nat}(ns:List Int){m:Int}(hm:0 < m)(VS:m<=8)(h0:0 < L.length)(h6:L.length<=6)(nd:L.Nodup)(sm:∀ x∈L,small x):bg (rowsOf L ns m):=by
 have hl:(rowsOf L ns m).length=L.length:=by unfold rowsOf;rw[Bn,aaA]
 have get:∀ r∈rowsOf L ns m,∃ k,k < L.length/\r=rowAt L ns m k:=fun r hr=>by
   obtain⟨k,hk,e⟩:=aaM.mp hr
   exact⟨k,abp.mp hk,e.symm⟩
 refine⟨by omega,by omega,by rw[Je];exact nd,fun r hr=>?_,fun r hr=>?_,fun r hr=>?_,fun r hr x hx=>?_⟩
 . obtain⟨k,hk,rfl⟩:=get r hr
   refine sm _ ?_
   show L.getD k 0∈L
   rw[WY,k3 hk]
   exact aaJ hk
 . obtain⟨k,hk,rfl⟩:=get r hr
   exact L9 _
 . obtain⟨k,hk,rfl⟩:=get r hr
   have h1:=aaE (cellAt ns k / 5) (show m≠0 by omega)
   have h2:=aaF (cellAt ns k / 5) hm
   have:=(vQ h0 (cellAt ns k / 5 / m) (1+cellAt ns k / 5 % m).toNat).1
   show 0 < (vP L (cellAt ns k / 5 / m) (1+cellAt ns k / 5 % m).toNat).length/\(vP L (cellAt ns k / 5 / m) (1+cellAt ns k / 5 % m).toNat).length<=8
   omega
 . obtain⟨k,hk,rfl⟩:=get r hr
   rw[Je]
   exact(vQ h0 _ _).2 x hx
def Mb:Rl:=fun ds r=>∃ (L:List Nat) (ns:List Int) (m:Int),ds=[.str (tx L),.oy ns,.int m]/\(0 < L.length/\L.length<=6)/\(0 < m/\m<=8)/\r=.own (.lst ((rowsOf L ns m).map qb))
theorem Cz (T:Txt K mg t):GF P w K mg base CX 1 "_law_letters" 2 Cw:=by
 refine⟨_,_,_,iQ T.kI.F vv rfl fun bc A outer s H E G ds r hr hl hR=>?_,(T.g T.kI.a),T.kI.F.kp,T.kI.b⟩
 obtain⟨c,n,rfl,hn,rfl⟩:=hR
 have nd:=vv.nd
 let S:Nat->List Slot:=fun k=>[.val (.int c),.val (.int (n:Nat)),.val (.str (tx (ls c k).left)),.val (.int (ls c k).rest),.val (.str (tx (ls c k).out)),.aY,.aY]
 refine⟨_,.rt _,ah (aw 2 nd dF) (ah (aw 3 nd (fk (iV (aa 0 rfl) aj (uG.ok (aaB ⟨by decide,by decide⟩))) aj (by decide))) (ah (aw 4 nd dF)
   (ah (kF (o:=.nx (S n)) (m:=n) 5 S nd rfl PassesOwn.leaving T.gW (ae (aa 1 rfl) ai) ⟨by omega,by omega⟩ (Le.of ⟨rfl,rfl,rfl,rfl,rfl,trivial⟩) (by omega) (fun k hk=>?_) (by rw[aaY];exact .all rfl)) (ao (aF (aa 4 rfl))))))⟩
 have ok:=Jd c k (by omega)
 have hl:=ok.len
 have hol:=ok.ol
 have cX:oZ (ls c k) < (ls c k).left.length:=Jc (by omega)
 have ea:(ls c k).rest % (((ls c k).left.length:Nat):Int)=((oZ (ls c k):Nat):Int):=by
   have h0:=aaE (ls c k).rest (show(((ls c k).left.length:Nat):Int)≠0 by omega)
   unfold oZ;omega
 have ea1:((oZ (ls c k):Nat):Int)+1=((oZ (ls c k)+1:Nat):Int):=by omega
 exact .nx (ah (aw 6 nd (bR (fk (aa 3 rfl) (fG T.fg (aa 2 rfl) (by omega)) (by omega)) (congrArg Dt.int ea)))
   (ah (aw 3 nd (jV (aa 3 rfl) aj ⟨by decide,by decide +kernel⟩))
   (ah (aw 4 nd (zt (aa 4 rfl) (zu (aa 2 rfl) (aa 6 rfl) cX (by omega)) (by rw[hol];show k+1<=2000;omega)))
   (ao (aw 2 nd (zt (L3 (aa 2 rfl) (aa 6 rfl) (aa5 cX) (by omega)) (FI (aa 2 rfl) (bR (aL (aa 6 rfl) aj) (congrArg Dt.int ea1)) cX (by omega)) (by rw[aat,aaW];omega))))))) (Le.of ⟨rfl,rfl,rfl,rfl,rfl,trivial⟩)
theorem DZ (T:Txt K mg t):GF P w K mg base CX 1 "_law_word" 3 L8:=by
 refine⟨_,_,_,iQ T.sk.F DN rfl fun bc A outer s H E G ds r hr hl hR=>?_,(T.g T.sk.a),T.sk.F.kp,T.sk.b⟩
 obtain⟨L,c,n,rfl,⟨QF,hL⟩,hn,rfl⟩:=hR
 have nd:=DN.nd
 have hLb:0 < ((L.length:Nat):Int)/\((L.length:Nat):Int).natAbs.log2 < 9000:=⟨by omega,aaH (Nat.log2_le_self _) (by omega)⟩
 let S:Nat->List Slot:=fun k=>[.val (.str (tx L)),.val (.int (Cy L c k).1),.val (.int (n:Nat)),.val (.str (tx (Cy L c k).2)),.aY]
 refine⟨_,.rt _,ah (aw 3 nd dF)
   (ah (kF (o:=.nx (S n)) (m:=n) 4 S nd rfl PassesOwn.leaving T.gW (ae (aa 2 rfl) ai) ⟨by omega,by omega⟩ (Le.of ⟨rfl,rfl,rfl,rfl,trivial⟩) (by omega) (fun k hk=>?_) (by rw[aaY];exact .all rfl)) (ao (aF (aa 3 rfl))))⟩
 have ON:=zw L c k
 have h2:=aaE (Cy L c k).1 (show((L.length:Nat):Int)≠0 by omega)
 have h3:=aaF (Cy L c k).1 (show(0:Int) < (L.length:Nat) by omega)
 have ea:(Cy L c k).1 % ((L.length:Nat):Int)=((((Cy L c k).1 % (L.length:Nat)).toNat:Nat):Int):=by omega
 exact .nx (ah (aw 3 nd (zt (aa 3 rfl) (zu (aa 0 rfl) (bR (fk (aa 1 rfl) (fG T.fg (aa 0 rfl) (by omega)) (by omega)) (congrArg Dt.int ea)) (by omega) (by omega)) (by rw[ON];show k+1<=2000;omega)))
   (ao (aw 1 nd (jV (aa 1 rfl) (fG T.fg (aa 0 rfl) (by omega)) hLb)))) (Le.of ⟨rfl,rfl,rfl,rfl,trivial⟩)
theorem Mc (T:Txt K mg t):GF P w K mg base CX 2 "_law_rows" 3 Mb:=by
 refine⟨_,_,_,iQ T.sq.F DO rfl fun bc A outer s H E G ds r hr hl hR=>?_,(T.g T.sq.a),T.sq.F.kp,T.sq.b⟩
 obtain⟨L,ns,m,rfl,⟨QF,X6⟩,⟨hm,VS⟩,rfl⟩:=hR
 have nd:=DO.nd
 have kY:=vO (P:=P) (w:=w) (base:=base) T
 have CA:=DZ (P:=P) (w:=w) (base:=base) T
 have hmb:0 < m/\m.natAbs.log2 < 9000:=⟨hm,aaH (Nat.log2_le_self _) (by omega)⟩
 let S:Nat->List Slot:=fun k=>[.val (.str (tx L)),.val (.oy ns),.val (.int m),.own (.lst (((aag k).map (rowAt L ns m)).map qb)),.aY,.aY,.aY]
 refine⟨_,.ro _,ah (jX 3 nd (uY ai AA3)) (ah (kF (o:=.nx (S L.length)) (m:=L.length) 4 S nd rfl PassesOwn.leaving T.gW (ae (fG T.fg (aa 0 rfl) (by omega)) ai) ⟨by omega,by omega⟩ (Le.of ⟨rfl,rfl,rfl,rfl,trivial⟩) (by omega) (fun k hk=>?_) (by rw[aaY];exact .all rfl))
   (ao (yt 3)))⟩
 have h0:=aaE (cellAt ns k) (show(5:Int)≠0 by decide)
 have h1:=aaF (cellAt ns k) (show(0:Int) < 5 by decide)
 have h3:=aaE (cellAt ns k / 5) (show m≠0 by omega)
 have h4:=aaF (cellAt ns k / 5) hm
 have en:(1:Int)+cellAt ns k / 5 % m=(((1+cellAt ns k / 5 % m).toNat:Nat):Int):=by omega
 have e:((aag (k+1)).map (rowAt L ns m)).map qb=((aag k).map (rowAt L ns m)).map qb ++ [qb (rowAt L ns m k)]:=by
   rw[abS,aaP,aaP];rfl
 refine .nx (ah (aw 5 nd (b8 kY ax hr (ae (aa 1 rfl) (ae (aa 4 rfl) ai)) ⟨ns,k,rfl,by omega,rfl⟩))
   (ah (aw 6 nd (d:=.str (VR (cellAt ns k))) (pN (BX (ae dF (ae dF (ae dF (ae dF (ae dF ai))))) AA3) (fk (aa 5 rfl) aj (by decide)) (at_getD (L:=mw) (n:=5) rfl h0 h1)))
   (ao (rM (ds:=((aag k).map (rowAt L ns m)).map qb) 3 (d:=qb (rowAt L ns m k)) (cB (ae (zu (aa 0 rfl) (aa 4 rfl) hk (by omega)) (ae (aa 6 rfl) (ae (b8 CA ax hr (ae (aa 0 rfl) (ae (jV (jV (aa 5 rfl) aj ⟨by decide,by decide +kernel⟩) (aa 2 rfl) hmb) (ae (bR (aL aj (fk (jV (aa 5 rfl) aj ⟨by decide,by decide +kernel⟩) (aa 2 rfl) hm)) (congrArg Dt.int en)) ai))) ⟨L,cellAt ns k / 5 / m,(1+cellAt ns k / 5 % m).toNat,rfl,⟨QF,by omega⟩,by omega,rfl⟩) ai))) AA3) (by rw[Bn,Bn,aaA];exact aak (show k < 2000 by omega) (by decide)))))) (Le.of ⟨rfl,rfl,rfl,?_,trivial⟩)
 show Slot.own (.lst (((aag (k+1)).map (rowAt L ns m)).map qb))=_
 rw[e]
noncomputable def jS (six:Bool)(w:Int)(p:Int×Int):Int:=
 if six then (if w=0 then 2 * p.1+p.2 else if w=1 then p.1+2 * p.2 else if w=2 then p.2 - p.1 else if w=3 then -2 * p.1 - p.2 else if w=4 then -p.1 - 2 * p.2 else p.1 - p.2)
 else (if w=0 then p.1 else if w=1 then p.2 else if w=2 then -p.1 else -p.2)
theorem Ut (six:Bool){w:Int}(h0:0<=w)(h1:w < wy six)(p:Int×Int):jS six ((w+1) % wy six) (Pf.tl six p)=jS six w p:=by
 obtain⟨x,y⟩:=p
 cases six with
 | false=>
   have h1:w < 4:=h1
   have h:w=0\/w=1\/w=2\/w=3:=by omega
   rcases h with rfl | rfl | rfl | rfl <;> simp[jS,Pf.tl,wy]
 | true=>
   have h1:w < 6:=h1
   have h:w=0\/w=1\/w=2\/w=3\/w=4\/w=5:=by omega
   rcases h with rfl | rfl | rfl | rfl | rfl | rfl <;> simp[jS,Pf.tl,wy] <;> omega
theorem NH (six:Bool){w:Int}(h0:0<=w)(h1:w < wy six)(p:Int×Int):∀ n:Nat,jS six ((w+n) % wy six) (tn six n p)=jS six w p
 | 0=>by
   show jS six ((w+0) % wy six) p=_
   rw[Int.add_zero,Int.emod_eq_of_lt h0 h1]
 | n+1=>by
   have hp:=eI six
   have a:=aaE (w+n) (abb hp)
   have b:=aaF (w+n) hp
   show jS six ((w+((n+1:Nat):Int)) % wy six) (Pf.tl six (tn six n p))=_
   rw[<- NH six h0 h1 p n,<- Ut six a b]
   congr 1
   rw[Int.emod_add_emod]
   congr 1
   push_cast
   omega
theorem Jg (six:Bool){w:Int}(h0:0<=w)(h1:w < wy six)(b:Int)(p:Int×Int):jS six ((w+b) % wy six) (tn six (b % wy six).toNat p)=jS six w p:=by
 have a:=aaE b (abb (eI six))
 have e:((((b % wy six).toNat:Nat):Int))=b % wy six:=by omega
 have:=NH six h0 h1 p (b % wy six).toNat
 rw[e,Int.add_emod_emod] at this
 exact this
def Md (t:dJ)(six:Bool):Rl:=fun ds r=>∃ z p,ds=[.obj (t.pc six) [],.int z,sp p]/\(0<=z/\z < wy six)/\r=.ret (.int (jS six z p))
theorem X7 {z:Int}(p:Int×Int)(h0:0<=z)(h1:z < 4):lZ [Dt.int p.1,Dt.int p.2,Dt.int (-p.1),Dt.int (-p.2)] z=some (Dt.int (jS false z p)):=by
 have h:z=0\/z=1\/z=2\/z=3:=by omega
 rcases h with rfl | rfl | rfl | rfl <;> rfl
theorem X8 {z:Int}(p:Int×Int)(h0:0<=z)(h1:z < 6):lZ [Dt.int (2 * p.1+p.2),Dt.int (p.1+2 * p.2),Dt.int (p.2 - p.1),Dt.int (-2 * p.1 - p.2),Dt.int (-p.1 - 2 * p.2),Dt.int (p.1 - p.2)] z=some (Dt.int (jS true z p)):=by
 have h:z=0\/z=1\/z=2\/z=3\/z=4\/z=5:=by omega
 rcases h with rfl | rfl | rfl | rfl | rfl | rfl <;> rfl
theorem mod_lt {z m:Int}(h0:0<=z)(h1:z < m):z % m=z:=Int.emod_eq_of_lt h0 h1
theorem A8 (T:Txt K mg t)(six:Bool):MF P w K mg base CX 3 (t.pc six) "along" 3 (Md t six):=by
 have qT:=mx (P:=P) (w:=w) (base:=base) T six
 cases six with
 | false=>
   refine⟨T.i6.cl,_,_,_,iQ T.gO.F i5 rfl fun bc A outer s H E G ds r hr hl hR=>?_,T.dt,T.gO.b⟩
   obtain⟨z,p,rfl,⟨h0,h1⟩,rfl⟩:=hR
   exact⟨_,.rt _,(ah (aw 3 i5.nd (aD (aa 2 rfl) aj rfl))
 (ah (aw 4 i5.nd (aD (aa 2 rfl) aj rfl))
 (ao (aF (aD (cB (ae (aa 3 rfl) (ae (aa 4 rfl) (ae (iW (aa 3 rfl)) (ae (iW (aa 4 rfl)) ai)))) AA3) (bE (aa 0 rfl) qT ax hr (ae (aa 1 rfl) ai) ⟨z,rfl,rfl⟩) (by rw[mod_lt h0 h1];exact X7 p h0 h1))))))⟩
 | true=>
   refine⟨T.m5.cl,_,_,_,iQ T.jm.F kX rfl fun bc A outer s H E G ds r hr hl hR=>?_,T.fD,T.jm.b⟩
   obtain⟨z,p,rfl,⟨h0,h1⟩,rfl⟩:=hR
   exact⟨_,.rt _,(ah (aw 3 kX.nd (aD (aa 2 rfl) aj rfl))
 (ah (aw 4 kX.nd (aD (aa 2 rfl) aj rfl))
 (ao (aF (aD (cB (ae (aL (iV aj (aa 3 rfl) (uG.ok (aaL ⟨by decide,by decide⟩))) (aa 4 rfl)) (ae (aL (aa 3 rfl) (iV aj (aa 4 rfl) (uG.ok (aaL ⟨by decide,by decide⟩)))) (ae (ib (aa 4 rfl) (aa 3 rfl)) (ae (ib (iV (iW aj) (aa 3 rfl) (uG.ok (aaL ⟨by decide,by decide⟩))) (aa 4 rfl)) (ae (ib (iW (aa 3 rfl)) (iV aj (aa 4 rfl) (uG.ok (aaL ⟨by decide,by decide⟩)))) (ae (ib (aa 3 rfl) (aa 4 rfl)) ai)))))) AA3) (bE (aa 0 rfl) qT ax hr (ae (aa 1 rfl) ai) ⟨z,rfl,rfl⟩) (by rw[mod_lt h0 h1];exact X8 p h0 h1))))))⟩
noncomputable def ad (p q:Int×Int):Int×Int:=(p.1+q.1,p.2+q.2)
def Me:Rl:=fun ds r=>∃ p q,ds=[sp p,sp q]/\r=.ret (sp (ad p q))
noncomputable def KC:List Str:=["stroke","step"]
noncomputable def og (d:Str):Int:=if d="left" then 1 else if d="right" then -1 else 0
noncomputable def qc (six:Bool)(d:Str)(p:Int×Int)(w:Int):(Int×Int)×Int:=(if d∈KC then ad p (tn six (w % wy six).toNat (1,0)) else p,(w+og d) % wy six)
def Mf:Rl:=fun ds r=>∃ d:Str,ds=[.str d]/\r=.ret (.int (og d))
def QG (t:dJ)(six:Bool):Rl:=fun ds r=>∃ w,ds=[.obj (t.pc six) [],.int w]/\r=.ret (sp (tn six (w % wy six).toNat (1,0)))
def Mg (t:dJ)(six:Bool):Rl:=fun ds r=>∃ d p w,ds=[.obj (t.pc six) [],.str d,sp p,.int w]/\d∈mw/\r=.ret (.tup [sp (qc six d p w).1,.int (qc six d p w).2])
theorem A9 (T:Txt K mg t):GF P w K mg base CX 1 "added" 2 Me:=by
 refine⟨_,_,_,iQ T.oU.F Ip rfl fun bc A outer s H E G ds r hr hl hR=>?_,(T.g T.oU.a),T.oU.F.kp,T.oU.b⟩
 obtain⟨p,q,rfl,rfl⟩:=hR
 exact⟨_,.rt _,(ao (aF (cB (ae (aL (aD (aa 0 rfl) aj rfl) (aD (aa 1 rfl) aj rfl)) (ae (aL (aD (aa 0 rfl) aj rfl) (aD (aa 1 rfl) aj rfl)) ai)) AA3)))⟩
theorem Jh (T:Txt K mg t):GF P w K mg base CX 1 "turn_of_deed" 1 Mf:=by
 refine⟨_,_,_,iQ T.dS.F sX rfl fun bc A outer s H E G ds r hr hl hR=>?_,(T.g T.dS.a),T.dS.F.kp,T.dS.b⟩
 obtain⟨d,rfl,rfl⟩:=hR
 by_cases c0:d="left"
 . rw[show og d=1 from if_pos c0]
   exact⟨_,.rt _,tX (cN (nL (aa 0 rfl) dF) (fun h=>ao (aF aj)) (fun h=>absurd c0 (of_decide_eq_false h)))⟩
 by_cases c1:d="right"
 . rw[show og d=-1 by unfold og;rw[if_neg c0,if_pos c1]]
   exact⟨_,.rt _,ah (cN (nL (aa 0 rfl) dF) (fun h=>absurd (of_decide_eq_true h) c0) (fun h=>dn)) (tX (cN (nL (aa 0 rfl) dF) (fun h=>ao (aF (iW aj))) (fun h=>absurd c1 (of_decide_eq_false h))))⟩
 . rw[show og d=0 by unfold og;rw[if_neg c0,if_neg c1]]
   exact⟨_,.rt _,ah (cN (nL (aa 0 rfl) dF) (fun h=>absurd (of_decide_eq_true h) c0) (fun h=>dn)) (ah (cN (nL (aa 0 rfl) dF) (fun h=>absurd (of_decide_eq_true h) c1) (fun h=>dn)) (ao (aF aj)))⟩
theorem Mh (T:Txt K mg t)(six:Bool):MF P w K mg base CX 4 (t.pc six) "step" 2 (QG t six):=by
 refine⟨DX T six,_,_,_,iQ T.m6.F AV rfl fun bc A outer s H E G ds r hr hl hR=>?_,DW T.f6 T.iI,T.m6.b⟩
 obtain⟨z,rfl,rfl⟩:=hR
 have h1:=xO (P:=P) (w:=w) (base:=base) T six
 exact⟨_,.rt _,ao (aF (bE (aa 0 rfl) h1 ax hr (ae (cB (ae aj (ae aj ai)) AA3) (ae (aa 1 rfl) ai)) ⟨(1,0),z,rfl,rfl⟩))⟩
theorem Ba (T:Txt K mg t)(six:Bool):MF P w K mg base CX 5 (t.pc six) "after" 4 (Mg t six):=by
 refine⟨DX T six,_,_,_,iQ T.lC.F qI rfl fun bc A outer s H E G ds r hr hl hR=>?_,DW T.fC T.g7,T.lC.b⟩
 obtain⟨d,p,z,rfl,hd,rfl⟩:=hR
 have h1:=Mh (P:=P) (w:=w) (base:=base) T six
 have h2:=A9 (P:=P) (w:=w) (base:=base) T
 have h3:=Jh (P:=P) (w:=w) (base:=base) T
 have h4:=mx (P:=P) (w:=w) (base:=base) T six
 by_cases c:d∈KC
 . rw[show qc six d p z=(ad p (tn six (z % wy six).toNat (1,0)),(z+og d) % wy six) by unfold qc;rw[if_pos c]]
   exact⟨_,.rt _,(ah (cN (Du (xs:=mw) (aa 1 rfl) (jW (w:=.ref t.ki) T.zk rfl T.zm)) (fun h=>absurd h (by simp[hd])) (fun h=>dn))
 (ah (cN (B2 (xs:=KC) (aa 1 rfl) (jW (w:=.ref t.cJ) T.pG rfl T.pH)) (fun h=>
     (ao (aw 2 qI.nd (b8 h2 ax hr (ae (aa 2 rfl) (ae (bE (aa 0 rfl) h1 ax hr (ae (aa 3 rfl) ai) ⟨_,rfl,rfl⟩) ai)) ⟨_,_,rfl,rfl⟩)))) (fun h=>absurd c (of_decide_eq_false h)))
 (ao (aF (cB (ae (aa 2 rfl) (ae (bE (aa 0 rfl) h4 ax hr (ae (aL (aa 3 rfl) (b8 h3 ax hr (ae (aa 1 rfl) ai) ⟨_,rfl,rfl⟩)) ai) ⟨_,rfl,rfl⟩) ai)) AA3)))))⟩
 . rw[show qc six d p z=(p,(z+og d) % wy six) by unfold qc;rw[if_neg c]]
   exact⟨_,.rt _,(ah (cN (Du (xs:=mw) (aa 1 rfl) (jW (w:=.ref t.ki) T.zk rfl T.zm)) (fun h=>absurd h (by simp[hd])) (fun h=>dn))
 (ah (cN (B2 (xs:=KC) (aa 1 rfl) (jW (w:=.ref t.cJ) T.pG rfl T.pH)) (fun h=>absurd (of_decide_eq_true h) c) (fun h=>dn))
 (ao (aF (cB (ae (aa 2 rfl) (ae (bE (aa 0 rfl) h4 ax hr (ae (aL (aa 3 rfl) (b8 h3 ax hr (ae (aa 1 rfl) ai) ⟨_,rfl,rfl⟩)) ai) ⟨_,rfl,rfl⟩) ai)) AA3)))))⟩
def sm (p:Int×Int):Prop:=p.1.natAbs < 2 ^ 1000/\p.2.natAbs < 2 ^ 1000
noncomputable def cr (p q:Int×Int):Int:=p.1 * q.2 - p.2 * q.1
def Mi:Rl:=fun ds r=>∃ p q,ds=[sp p,sp q]/\(sm p/\sm q)/\r=.ret (.int (cr p q))
theorem Ji (T:Txt K mg t):GF P w K mg base CX 1 "cross" 2 Mi:=by
 refine⟨_,_,_,iQ T.oV.F Iq rfl fun bc A outer s H E G ds r hr hl hR=>?_,(T.g T.oV.a),T.oV.F.kp,T.oV.b⟩
 obtain⟨p,q,rfl,⟨hp,hq⟩,rfl⟩:=hR
 exact⟨_,.rt _,(ao (aF (ib (iV (aD (aa 0 rfl) aj rfl) (aD (aa 1 rfl) aj rfl) (IZ hp.1 hq.2 (by decide))) (iV (aD (aa 0 rfl) aj rfl) (aD (aa 1 rfl) aj rfl) (IZ hp.2 hq.1 (by decide))))))⟩
structure Tr where
 many:Int
 turn:Int
 shift:Int×Int
 dD:Int
 reach:List Int
 cj:List Int
 kZ:Int
noncomputable def dJ.X9 (t:dJ)(six:Bool)(x:Tr):List (Str×FD):=[("drawer",.obj (t.pc six) []),("deed_count",.int x.many),("last_way",.int x.turn),("last_spot",.tup t.K [x.shift.1,x.shift.2]),("stroke_count",.int x.dD),("reaches",.lst x.reach),("touches",.lst x.cj),("crosses",.int x.kZ)]
noncomputable def dJ.kK (t:dJ)(six:Bool)(x:Tr):List (Str×Dt):=[("drawer",.hX (.obj (t.pc six) [])),("deed_count",.int x.many),("last_way",.int x.turn),("last_spot",.hX (.tup t.K [x.shift.1,x.shift.2])),("stroke_count",.int x.dD),("reaches",.hX (.lst x.reach)),("touches",.hX (.lst x.cj)),("crosses",.int x.kZ)]
noncomputable def dJ.D3 (t:dJ)(six:Bool)(x:Tr):Dt:=.obj t.av (t.kK six x)
noncomputable def dJ.pJ (t:dJ)(six:Bool)(x:Tr):Dt:=.hX (.obj t.av (t.X9 six x))
theorem k4 {X:Cx}{G:Gr}{dl:List Slot}{e:Expr}{t:dJ}{six:Bool}{x:Tr}(h:EE X G dl e (t.pJ six x)):EE X G dl e (t.D3 six x):=ND h
theorem CB {X:Cx}{G:Gr}{dl:List Slot}{e:Expr}{t:dJ}{six:Bool}{x:Tr}(h:EO X G dl e (.obj t.av (t.kK six x))):EE X G dl e (t.pJ six x):=Io (fs:=t.X9 six x) h
theorem jN {X:Cx}{G:Gr}{dl:List Slot}{e:Expr}{t:dJ}{six:Bool}(h:EE X G dl e (.hX (.obj (t.pc six) []))):EE X G dl e (.obj (t.pc six) []):=ND h
theorem vR {X:Cx}{G:Gr}{dl:List Slot}{e:Expr}{K':W.Frag}{p:Int×Int}(hK:K'=X.K)(h:EE X G dl e (.hX (.tup K' [p.1,p.2]))):EE X G dl e (sp p):=Qh h hK
theorem CC {X:Cx}{G:Gr}{dl:List Slot}{e:Expr}{K':W.Frag}{p:Int×Int}(hK:K'=X.K)(h:EE X G dl e (sp p)):EE X G dl e (.hX (.tup K' [p.1,p.2])):=Qi (ns:=[p.1,p.2]) h hK
noncomputable def wn (six:Bool):Nat:=if six then 6 else 4
theorem xP (six:Bool):(wn six:Int)=wy six:=by cases six <;> rfl
noncomputable def qf (six:Bool)(ns:List Int)(f:Int):List Int:=(aag (wn six)).map fun(w:Nat)=>ns.getD (((w:Int) - f) % wy six).toNat 0
noncomputable def xb (six:Bool)(x y:Tr)(w:Nat):Int:=if (qf six y.reach x.turn).getD w 0+jS six w x.shift<=x.reach.getD w 0 then x.reach.getD w 0 else (qf six y.reach x.turn).getD w 0+jS six w x.shift
noncomputable def zx (six:Bool)(x y:Tr)(w:Nat):Int:=if (qf six y.reach x.turn).getD w 0+jS six w x.shift<=x.reach.getD w 0 then x.cj.getD w 0 else (qf six y.cj x.turn).getD w 0+x.many
noncomputable def jn (six:Bool)(x y:Tr):Tr where
 many:=x.many+y.many
 turn:=(x.turn+y.turn) % wy six
 shift:=ad x.shift (tn six (x.turn % wy six).toNat y.shift)
 dD:=x.dD+y.dD
 reach:=(aag (wn six)).map (xb six x y)
 cj:=(aag (wn six)).map (zx six x y)
 kZ:=x.kZ+y.kZ+cr x.shift (tn six (x.turn % wy six).toNat y.shift)
noncomputable def BH (six:Bool):Tr:=⟨0,0,(0,0),0,aah (wn six) 0,aah (wn six) 0,0⟩
noncomputable def one (six:Bool)(d:Str):Tr:=⟨1,(qc six d (0,0) 0).2,(qc six d (0,0) 0).1,if d="stroke" then 1 else 0,(aag (wn six)).map fun(w:Nat)=>if jS six w (qc six d (0,0) 0).1 > 0 then jS six w (qc six d (0,0) 0).1 else 0,
 (aag (wn six)).map fun(w:Nat)=>if (if jS six w (qc six d (0,0) 0).1 > 0 then jS six w (qc six d (0,0) 0).1 else 0) < 1 then (if jS six w (qc six d (0,0) 0).1 > 0 then jS six w (qc six d (0,0) 0).1 else 0) else 1,0⟩
noncomputable def bL (six:Bool)(ds:List Str):Tr:=ds.foldl (fun x d=>jn six x (one six d)) (BH six)
structure WF (six:Bool)(x:Tr):Prop where
 rl:x.reach.length=wn six
 tl:x.cj.length=wn six
 sm:x.shift.1.natAbs < 2 ^ 990/\x.shift.2.natAbs < 2 ^ 990
def QH (t:dJ):Rl:=fun ds r=>∃ six x,ds=[.hX (.obj (t.pc six) []),.int x.many,.int x.turn,.hX (.tup t.K [x.shift.1,x.shift.2]),.int x.dD,.hX (.lst x.reach),.hX (.lst x.cj),.int x.kZ]/\r=.own (.obj t.av (t.kK six x))
def D4 (t:dJ)(f:Tr->Dt):Rl:=fun ds r=>∃ six x,ds=[t.D3 six x]/\r=.ret (f x)
def zy (t:dJ):Rl:=fun ds r=>∃ six x f,ds=[t.D3 six x,.int f]/\r=.ret (sp (tn six (f % wy six).toNat x.shift))
def Uu (t:dJ):Rl:=fun ds r=>∃ six x ns f,ds=[t.D3 six x,.oy ns,.int f]/\ns.length=wn six/\r=.own (.lst ((qf six ns f).map .int))
def D5 (t:dJ):Rl:=fun ds r=>∃ six x f,ds=[t.D3 six x,.int f]/\WF six x/\r=.own (.lst ((qf six x.reach f).map .int))
def D6 (t:dJ):Rl:=fun ds r=>∃ six x f,ds=[t.D3 six x,.int f]/\WF six x/\r=.own (.lst ((qf six x.cj f).map .int))
def Jj (t:dJ):Rl:=fun ds r=>∃ six x y,ds=[t.D3 six x,t.D3 six y]/\(WF six x/\WF six y)/\r=.ret (t.pJ six (jn six x y))
def Mj (t:dJ):Rl:=fun ds r=>∃ six,ds=[.hX (.obj (t.pc six) [])]/\r=.ret (t.pJ six (BH six))
def FK (t:dJ):Rl:=fun ds r=>∃ six d,ds=[.hX (.obj (t.pc six) []),.str d]/\d∈mw/\r=.ret (t.pJ six (one six d))
def CD (t:dJ):Rl:=fun ds r=>∃ (six:Bool) (xs:List Str),ds=[.hX (.obj (t.pc six) []),.lst (xs.map .str)]/\(∀ d∈xs,d∈mw)/\xs.length<=1000/\r=.ret (t.pJ six (bL six xs))
theorem zA (T:Txt K mg t):O7 P w K mg base CX 1 "Track" t.av 9 (QH t):=by
 refine⟨_,_,_,Vk T.kz.F wM rfl fun bc A outer s H E G z ds r hr hl hR=>?_,T.vC,(T.g T.aA.a),T.kz.b⟩
 obtain⟨six,x,rfl,rfl⟩:=hR
 exact⟨_,.nx rfl,ah (jE (aa 1 rfl) T.aA.cl T.c8) (ah (jE (aa 2 rfl) T.aA.cl T.a0) (ah (jE (aa 3 rfl) T.aA.cl T.bb) (ah (jE (aa 4 rfl) T.aA.cl T.aQ)
   (ah (jE (aa 5 rfl) T.aA.cl T.bS) (ah (jE (aa 6 rfl) T.aA.cl T.bU) (ah (jE (aa 7 rfl) T.aA.cl T.dQ) (ao (jE (aa 8 rfl) T.aA.cl T.dR))))))))⟩
theorem Ml (T:Txt K mg t):MF P w K mg base CX 1 t.av "many" 1 (D4 t fun x=>.int x.many):=by
 refine⟨T.aA.cl,_,_,_,iQ T.kA.F wN rfl fun bc A outer s H E G ds r hr hl hR=>?_,T.gc,T.kA.b⟩
 obtain⟨six,x,rfl,rfl⟩:=hR
 exact⟨_,.rt _,ao (aF (aG (fs:=t.kK six x) (aa 0 rfl) T.aA.cl T.a0 rfl))⟩
theorem zB (T:Txt K mg t):MF P w K mg base CX 1 t.av "turn" 1 (D4 t fun x=>.int x.turn):=by
 refine⟨T.aA.cl,_,_,_,iQ T.kB.F wO rfl fun bc A outer s H E G ds r hr hl hR=>?_,T.gd,T.kB.b⟩
 obtain⟨six,x,rfl,rfl⟩:=hR
 exact⟨_,.rt _,ao (aF (aG (fs:=t.kK six x) (aa 0 rfl) T.aA.cl T.bb rfl))⟩
theorem vS (T:Txt K mg t):MF P w K mg base CX 1 t.av "strokes" 1 (D4 t fun x=>.int x.dD):=by
 refine⟨T.aA.cl,_,_,_,iQ T.gT.F r8 rfl fun bc A outer s H E G ds r hr hl hR=>?_,T.eE,T.gT.b⟩
 obtain⟨six,x,rfl,rfl⟩:=hR
 exact⟨_,.rt _,ao (aF (aG (fs:=t.kK six x) (aa 0 rfl) T.aA.cl T.bS rfl))⟩
theorem D7 (T:Txt K mg t):MF P w K mg base CX 1 t.av "area" 1 (D4 t fun x=>.int x.kZ):=by
 refine⟨T.aA.cl,_,_,_,iQ T.kC.F wV rfl fun bc A outer s H E G ds r hr hl hR=>?_,T.gf,T.kC.b⟩
 obtain⟨six,x,rfl,rfl⟩:=hR
 exact⟨_,.rt _,ao (aF (aG (fs:=t.kK six x) (aa 0 rfl) T.aA.cl T.dR rfl))⟩
theorem Bb (T:Txt K mg t):jt P w K mg base CX 4 t.b5 t.jf ["self","first"] (Dm K 2 (zy t)):=by
 refine Vj T.wW vo rfl fun bc A outer s H E G ds r hr hl hR=>?_
 obtain⟨six,x,f,rfl,rfl⟩:=hR
 have h1:=xO (P:=P) (w:=w) (base:=base) T six
 exact⟨_,.rt _,ao (aF (bE (jN (aG (fs:=t.kK six x) (aa 0 rfl) T.aA.cl T.c8 rfl)) h1 ax hr (ae (vR T.hK (aG (fs:=t.kK six x) (aa 0 rfl) T.aA.cl T.aQ rfl)) (ae (aa 1 rfl) ai)) ⟨_,_,rfl,rfl⟩))⟩
theorem rep0 {K:W.Frag}:∀ H,aM K H [.int 0] [.int 0]:=fun _=>.cons (.int 0) .nil
theorem Bc (T:Txt K mg t):Kr P w K mg base CX 4 t.av "shift" 2 [] (zy t):=⟨T.aA.cl,_,_,_,[],[],Bb T,T.dk,T.wX,.nil,fun _=>.nil⟩
theorem xQ (T:Txt K mg t):Kr P w K mg base CX 4 t.av "shift" 2 [.int 0] (zy t):=⟨T.aA.cl,_,_,_,_,[.int 0],Bb T,T.dk,T.vF,.cons ⟨_,rfl⟩ .nil,rep0⟩
noncomputable abbrev CF:Scope:=RB ((aB eM).getD 0 (.Pass ⟨0,0,0,0⟩))
theorem CG:rO CF (af eM) nu ["way","self","numbers","first"] [0,1,2] "way"=true:=by decide +kernel
theorem vT {ns:List Int}{k:Int}(h0:0<=k)(h1:k < ns.length):lZ ns k=some (ns.getD k.toNat 0):=by
 obtain⟨n,rfl⟩:=Int.eq_ofNat_of_zero_le h0
 refine ll ?_
 have h:n < ns.length:=by omega
 rw[k3 h,aaY,WY,k3 h];rfl
theorem o3 {f:Nat->Int}{n k:Nat}(h:k < n):(((aag n).map f).map Dt.int).getD k .cy=.int (f k):=by
 rw[WY,aab,aab,aar h];rfl
theorem vU (T:Txt K mg t):MF P w K mg base CX 3 t.av "by_ways" 3 (Uu t):=by
 refine⟨T.aA.cl,_,_,_,iQ T.gU.F sd rfl fun bc A outer s H E G ds r hr hl hR=>?_,T.eF,T.gU.b⟩
 obtain⟨six,x,ns,f,rfl,hn,rfl⟩:=hR
 have h1:=mx (P:=P) (w:=w) (base:=base) T six
 have hw:=xP six
 have ZY:wn six<=6:=by cases six <;> decide
 have N6:ns.length=wn six:=hn
 refine⟨_,.ro _,ao (mH (Ti (N:=["way","self","numbers","first"]) (ix:=[0,1,2]) rfl (yy CG) (oi rfl T.gW (ae (Dp T.fg (aa 1 rfl)) ai)) (pP ?_) (fun k hk C fp s' H' G'=>?_) ?_ ?_))⟩
 . omega
 . rw[aaY,N6] at hk
   have e:((qf six ns f).map Dt.int).getD k .cy=.int (ns.getD (((k:Int) - f) % wy six).toNat 0):=o3 hk
   rw[e]
   have Rx:=aaE ((k:Int) - f) (abb (eI six))
   have Zg:=aaF ((k:Int) - f) (eI six)
   exact rG (aa 2 rfl) (bE (jN (aG (fs:=t.kK six x) (aa 1 rfl) T.aA.cl T.c8 rfl)) h1 ax hr (ae (ib (aa 0 rfl) (aa 3 rfl)) ai) ⟨_,rfl,rfl⟩) (vT Rx (by omega))
 . rw[Bn,aaY,N6]
   unfold qf
   simp
 . rw[aaY]
   exact aa5 (ow (by omega))
theorem Jl (T:Txt K mg t):jt P w K mg base CX 4 t.b6 t.jg ["self","first"] (Dm K 2 (D5 t)):=by
 refine Vj T.wY vp rfl fun bc A outer s H E G ds r hr hl hR=>?_
 obtain⟨six,x,f,rfl,hw,rfl⟩:=hR
 have h1:=O9 (vU (P:=P) (w:=w) (base:=base) T)
 exact⟨_,.ro _,ao (mH (Av (fs:=t.kK six x) (aa 0 rfl) h1 ax hr (ae (pV (aG (fs:=t.kK six x) (aa 0 rfl) T.aA.cl T.bU rfl)) (ae (aa 1 rfl) ai)) ⟨six,x,_,_,rfl,hw.rl,rfl⟩))⟩
theorem Jm (T:Txt K mg t):jt P w K mg base CX 4 t.b7 t.jh ["self","first"] (Dm K 2 (D6 t)):=by
 refine Vj T.w4 vq rfl fun bc A outer s H E G ds r hr hl hR=>?_
 obtain⟨six,x,f,rfl,hw,rfl⟩:=hR
 have h1:=O9 (vU (P:=P) (w:=w) (base:=base) T)
 exact⟨_,.ro _,ao (mH (Av (fs:=t.kK six x) (aa 0 rfl) h1 ax hr (ae (pV (aG (fs:=t.kK six x) (aa 0 rfl) T.aA.cl T.dQ rfl)) (ae (aa 1 rfl) ai)) ⟨six,x,_,_,rfl,hw.tl,rfl⟩))⟩
theorem Jn (T:Txt K mg t):Kr P w K mg base CX 4 t.av "reach" 2 [] (D5 t):=⟨T.aA.cl,_,_,_,[],[],Jl T,T.fE,T.wZ,.nil,fun _=>.nil⟩
theorem Jo (T:Txt K mg t):Kr P w K mg base CX 4 t.av "touch" 2 [] (D6 t):=⟨T.aA.cl,_,_,_,[],[],Jm T,T.fF,T.w6,.nil,fun _=>.nil⟩
theorem Bd (T:Txt K mg t):GF P w K mg base CX 3 "still" 1 (Mj t):=by
 refine⟨_,_,_,iQ T.oX.F Iu rfl fun bc A outer s H E G ds r hr hl hR=>?_,(T.g T.oX.a),T.oX.F.kp,T.oX.b⟩
 obtain⟨six,rfl,rfl⟩:=hR
 have h1:=uv (P:=P) (w:=w) (base:=base) T six
 have h2:=zA (P:=P) (w:=w) (base:=base) T
 have e:∀ {X:Cx} {G:Gr} {dl:List Slot} {e:Expr},EO X G dl e (.lst (aah (wy six).toNat [Dt.int 0]).flatten)->EE X G dl e (.hX (.lst (aah (wn six) (0:Int)))):=fun h=>by
   refine Qj (Dr h ?_)
   cases six <;> rfl
 have hb:-(2 ^ 63)<=wy six/\wy six < 2 ^ 63/\[Dt.int 0].length * (wy six).toNat<=sizeLine:=by cases six <;> decide
 exact⟨_,.rt _,ao (aF (CB (tZ h2 ax hr (ae (aa 0 rfl) (ae aj (ae aj (ae (CC (p:=(0,0)) T.hK (cB (ae aj (ae aj ai)) AA3)) (ae aj
   (ae (e (G8 (BX (ae aj ai) AA3) (ck (jN (aa 0 rfl)) h1 ax hr ⟨rfl,rfl⟩) hb.1 hb.2.1 hb.2.2)) (ae (e (G8 (BX (ae aj ai) AA3) (ck (jN (aa 0 rfl)) h1 ax hr ⟨rfl,rfl⟩) hb.1 hb.2.1 hb.2.2)) (ae aj ai)))))))) ⟨six,BH six,rfl,rfl⟩)))⟩
noncomputable abbrev QI:Scope:=RB ((aB cm).getD 2 (.Pass ⟨0,0,0,0⟩))
noncomputable abbrev QJ:Scope:=RB ((aB cm).getD 3 (.Pass ⟨0,0,0,0⟩))
theorem QK:rO QI (af cm) jL ["way","pen","spot"] [0,3] "way"=true:=by decide +kernel
theorem QL:rO QJ (af cm) jL ["reach"] [] "reach"=true:=by decide +kernel
noncomputable def m8 (six:Bool)(d:Str)(w:Nat):Int:=if jS six w (qc six d (0,0) 0).1 > 0 then jS six w (qc six d (0,0) 0).1 else 0
theorem CH (T:Txt K mg t):GF P w K mg base CX 6 "track_of_deed" 2 (FK t):=by
 refine⟨_,_,_,iQ T.c9.F mi rfl fun bc A outer s H E G ds r hr hl hR=>?_,(T.g T.c9.a),T.c9.F.kp,T.c9.b⟩
 obtain⟨six,d,rfl,hd,rfl⟩:=hR
 have h1:=uv (P:=P) (w:=w) (base:=base) T six
 have h2:=zA (P:=P) (w:=w) (base:=base) T
 have h3:=Ba (P:=P) (w:=w) (base:=base) T six
 have h4:=A8 (P:=P) (w:=w) (base:=base) T six
 have hw:=xP six
 have ZY:wn six<=6:=by cases six <;> decide
 have Uv:(wy six).toNat=wn six:=by omega
 have nd:=mi.nd
 refine⟨_,.rt _,ah (aw 2 nd (bE (jN (aa 0 rfl)) h3 ax hr (ae (aa 1 rfl) (ae (cB (ae aj (ae aj ai)) AA3) (ae aj ai))) ⟨d,(0,0),0,rfl,hd,rfl⟩)) (ah (aw 3 nd (aD (aa 2 rfl) aj rfl))
   (ah (Hh (ys:=((aag (wn six)).map (m8 six d)).map .int) 4 (N:=["way","pen","spot"]) (ix:=[0,3]) rfl nd (yy QK) (oi rfl T.gW (ae (ck (jN (aa 0 rfl)) h1 ax hr ⟨rfl,rfl⟩) ai)) (pP ?_) (fun k hk C fp s' H' G'=>?_) ?_ ?_)
   (uc (ns:=(aag (wn six)).map (m8 six d)) 4 (ah (Hh (ys:=((aag (wn six)).map (fun k=>if m8 six d k < 1 then m8 six d k else 1)).map .int) 5 (N:=["reach"]) (ix:=[]) rfl nd (yy QL) (lh (pV (aa 4 rfl))) LM (fun k hk C fp s' H' G'=>?_) ?_ ?_)
   (uc (ns:=(aag (wn six)).map fun k=>if m8 six d k < 1 then m8 six d k else 1) 5 (ao (aF (CB (tZ h2 ax hr (ae (aa 0 rfl) (ae aj (ae (aD (aa 2 rfl) aj rfl) (ae (CC T.hK (aa 3 rfl)) (ae (bR (d:=.int (if d="stroke" then 1 else 0)) ?_ rfl) (ae (aa 4 rfl) (ae (aa 5 rfl) (ae aj ai)))))))) ⟨six,one six d,rfl,rfl⟩)))))))))⟩
 . omega
 . rw[Uv] at hk
   rw[o3 hk]
   exact O3 T.IC rfl (ae aj (ae (bE (jN (aa 1 rfl)) h4 ax hr (ae (aa 0 rfl) (ae (aa 2 rfl) ai)) ⟨_,_,rfl,⟨by omega,by omega⟩,rfl⟩) ai))
 . rw[Bn,Bn,aaA,Uv]
 . rw[Uv];exact aa5 (ow (by omega))
 . rw[Bn,aaA] at hk
   rw[show(((aag (wn six)).map (fun k=>if m8 six d k < 1 then m8 six d k else 1)).map Dt.int).getD k .cy=.int (if m8 six d k < 1 then m8 six d k else 1) from o3 hk]
   have e:((List.map (m8 six d) (aag (wn six))).map Dt.int).getD k .cy=.int (m8 six d k):=o3 hk
   refine O4 (i:=1) (j:=m8 six d k) T.ID rfl (ae aj (ae ?_ ai))
   rw[<- e]
   exact aa 0 rfl
 . simp
 . rw[Bn,aaA];exact aa5 (ow (by omega))
 . exact OV (nL (aa 1 rfl) dF) (fun h=>bR aj (by rw[if_pos (of_decide_eq_true h)])) (fun h=>bR aj (by rw[if_neg (of_decide_eq_false h)]))
theorem uw {f g:Nat->Int}{n k:Nat}(h:k < n):((aag n).map fun w=>if w < k then f w else g w).set k (f k)=(aag n).map fun w=>if w < k+1 then f w else g w:=by
 refine abH fun i=>?_
 by_cases hi:i < n
 . by_cases e:k=i
   . subst e
     rw[aae (by simp;exact h),aab,aar h]
     simp
   . rw[aaf e,aab,aab,aar hi]
     have:(i < k+1) ↔ (i < k):=by omega
     simp[this]
 . rw[aaw (by simp;omega),aaw (by simp;omega)]
theorem NI {f g:Nat->Int}{n:Nat}:((aag n).map fun w=>if w < 0 then f w else g w)=(aag n).map g:=by simp
theorem NJ {f g:Nat->Int}{n:Nat}:((aag n).map fun w=>if w < n then f w else g w)=(aag n).map f:=by
 refine abx fun i hi=>?_
 rw[if_pos (abp.mp hi)]
theorem qU {l:List Int}{k:Nat}{z:Int}:(l.map Dt.int).set k (.int z)=(l.set k z).map Dt.int:=by rw[List.map_set]
theorem D8 (six:Bool)(ns:List Int)(f:Int):(aag (wn six)).map (fun w=>(qf six ns f).getD w 0)=qf six ns f:=by
 refine abH fun i=>?_
 by_cases hi:i < wn six
 . rw[aab,aar hi]
   have hl:i < (qf six ns f).length:=by unfold qf;simpa using hi
   rw[k3 hl]
   simp[WY,hl]
 . rw[aaw (by simp;omega),aaw (by unfold qf;simp;omega)]
theorem Mm {n k:Nat}(h:k < n):Ac n (k:Int)=some k:=by
 unfold Ac
 simp[h]
theorem Uw {six:Bool}{b:Int}{p:Int×Int}(h:p.1.natAbs < 2 ^ 990/\p.2.natAbs < 2 ^ 990):sm (tn six (b % wy six).toNat p):=by
 obtain⟨x,y⟩:=p
 obtain⟨h1,h2⟩:=h
 simp only at h1 h2
 unfold sm
 cases six with
 | false=>
   have e:wy false=4:=rfl
   rw[e]
   have h:b % 4=0\/b % 4=1\/b % 4=2\/b % 4=3:=by omega
   rcases h with h | h | h | h <;> rw[h] <;> simp[tn,Pf.tl] <;> omega
 | true=>
   have e:wy true=6:=rfl
   rw[e]
   have h:b % 6=0\/b % 6=1\/b % 6=2\/b % 6=3\/b % 6=4\/b % 6=5:=by omega
   rcases h with h | h | h | h | h | h <;> rw[h] <;> simp[tn,Pf.tl] <;> omega
theorem xR (T:Txt K mg t):MF P w K mg base CX 5 t.av "joined" 2 (Jj t):=by
 refine⟨T.aA.cl,_,_,_,iQ T.iM.F nv rfl fun bc A outer s H E G ds r hr hl hR=>?_,T.eZ,T.iM.b⟩
 obtain⟨six,x,y,rfl,⟨wx,Ya⟩,rfl⟩:=hR
 have qV:=Bc (P:=P) (w:=w) (base:=base) T
 have Mn:=Jn (P:=P) (w:=w) (base:=base) T
 have Mo:=Jo (P:=P) (w:=w) (base:=base) T
 have QM:=uv (P:=P) (w:=w) (base:=base) T six
 have D9:=A8 (P:=P) (w:=w) (base:=base) T six
 have qT:=mx (P:=P) (w:=w) (base:=base) T six
 have QN:=Ml (P:=P) (w:=w) (base:=base) T
 have vV:=zB (P:=P) (w:=w) (base:=base) T
 have sA:=vS (P:=P) (w:=w) (base:=base) T
 have CI:=D7 (P:=P) (w:=w) (base:=base) T
 have Mp:=A9 (P:=P) (w:=w) (base:=base) T
 have Mq:=Ji (P:=P) (w:=w) (base:=base) T
 have QO:=zA (P:=P) (w:=w) (base:=base) T
 have hw:=xP six
 have Uv:(wy six).toNat=wn six:=by omega
 have ZY:wn six<=6:=by cases six <;> decide
 have nd:=nv.nd
 let S:Nat->List Slot:=fun k=>[.val (t.D3 six x),.val (t.D3 six y),.val (.hX (.obj (t.pc six) [])),.val (sp (tn six (x.turn % wy six).toNat y.shift)),
   .own (.lst (((aag (wn six)).map fun w=>if w < k then xb six x y w else (qf six y.reach x.turn).getD w 0).map .int)),
   .own (.lst (((aag (wn six)).map fun w=>if w < k then zx six x y w else (qf six y.cj x.turn).getD w 0).map .int)),.aY]
 have e0:S 0=[.val (t.D3 six x),.val (t.D3 six y),.val (.hX (.obj (t.pc six) [])),.val (sp (tn six (x.turn % wy six).toNat y.shift)),.own (.lst ((qf six y.reach x.turn).map .int)),.own (.lst ((qf six y.cj x.turn).map .int)),.aY]:=by
   show [_,_,_,_,Slot.own (.lst (((aag (wn six)).map fun w=>if w < 0 then _ else _).map .int)),Slot.own (.lst (((aag (wn six)).map fun w=>if w < 0 then _ else _).map .int)),_]=_
   rw[NI,NI,D8,D8]
 have en:S (wn six)=[.val (t.D3 six x),.val (t.D3 six y),.val (.hX (.obj (t.pc six) [])),.val (sp (tn six (x.turn % wy six).toNat y.shift)),.own (.lst ((jn six x y).reach.map .int)),.own (.lst ((jn six x y).cj.map .int)),.aY]:=by
   show [_,_,_,_,Slot.own (.lst (((aag (wn six)).map fun w=>if w < wn six then _ else _).map .int)),Slot.own (.lst (((aag (wn six)).map fun w=>if w < wn six then _ else _).map .int)),_]=_
   rw[NJ,NJ];rfl
 refine⟨_,.rt _,ah (aw 2 nd (aG (fs:=t.kK six x) (aa 0 rfl) T.aA.cl T.c8 rfl))
   (ah (aw 3 nd (yx (fs:=t.kK six y) (aa 1 rfl) qV ax hr (ae (aG (fs:=t.kK six x) (aa 0 rfl) T.aA.cl T.bb rfl) ai) ⟨six,y,_,rfl,rfl⟩))
   (ah (jX 4 nd (Av (fs:=t.kK six y) (aa 1 rfl) Mn ax hr (ae (aG (fs:=t.kK six x) (aa 0 rfl) T.aA.cl T.bb rfl) ai) ⟨six,y,_,rfl,Ya,rfl⟩))
   (ah (jX 5 nd (Av (fs:=t.kK six y) (aa 1 rfl) Mo ax hr (ae (aG (fs:=t.kK six x) (aa 0 rfl) T.aA.cl T.bb rfl) ai) ⟨six,y,_,rfl,Ya,rfl⟩))
   (ah (kF (m:=wn six) 6 S nd rfl PassesOwn.leaving T.gW (ae (ck (jN (aa 2 rfl)) QM ax hr ⟨rfl,rfl⟩) ai) ⟨by omega,by omega⟩ (by rw[e0];exact Le.of ⟨rfl,rfl,rfl,rfl,rfl,rfl,trivial⟩) (by omega) (fun k hk=>?_) (by rw[Uv];exact .all rfl))
   ?_))))⟩
 . have Ry:k < ((aag (wn six)).map fun w=>if w < k then xb six x y w else (qf six y.reach x.turn).getD w 0).length:=by simpa using hk
   have acF:k < ((aag (wn six)).map fun w=>if w < k then zx six x y w else (qf six y.cj x.turn).getD w 0).length:=by simpa using hk
   have ga:∀ (f g:Nat->Int) (z:Int),lZ ((((aag (wn six)).map fun w=>if w < k then f w else g w)).map Dt.int) (k:Int)=some (.int (g k)):=fun f g z=>by
     refine ll ?_
     rw[aab,aab,aar hk]
     simp
   have gs:∀ (l:List Int) (z:Int),l.length=wn six->lZ ((l.map Dt.int).set k (.int z)) (k:Int)=some (.int z):=fun l z hl=>by
     refine ll ?_
     rw[aae (by simp;omega)]
   have ix:∀ (l:List Dt),l.length=wn six->Ac l.length (k:Int)=some k:=fun l hl=>Mm (by omega)
   have xr:lZ x.reach (k:Int)=some (x.reach.getD k 0):=by
     have:=vT (ns:=x.reach) (k:=k) (by omega) (by rw[wx.rl];omega)
     simpa using this
   have xt:lZ x.cj (k:Int)=some (x.cj.getD k 0):=by
     have:=vT (ns:=x.cj) (k:=k) (by omega) (by rw[wx.tl];omega)
     simpa using this
   have lA:(((aag (wn six)).map fun w=>if w < k then xb six x y w else (qf six y.reach x.turn).getD w 0).map Dt.int).length=wn six:=by simp
   have lB:(((aag (wn six)).map fun w=>if w < k then zx six x y w else (qf six y.cj x.turn).getD w 0).map Dt.int).length=wn six:=by simp
   have ZZ:((aag (wn six)).map fun w=>if w < k then xb six x y w else (qf six y.reach x.turn).getD w 0).length=wn six:=by simp
   have iA:=ix _ lA
   have iB:=ix _ lB
   have iA':∀ z,Ac (abf (List.set (((aag (wn six)).map fun w=>if w < k then xb six x y w else (qf six y.reach x.turn).getD w 0).map Dt.int) k z)) (k:Int)=some k:=fun z=>ix _ (by rw[abR];exact lA)
   have iB':∀ z,Ac (abf (List.set (((aag (wn six)).map fun w=>if w < k then zx six x y w else (qf six y.cj x.turn).getD w 0).map Dt.int) k z)) (k:Int)=some k:=fun z=>ix _ (by rw[abR];exact lB)
   by_cases c:(qf six y.reach x.turn).getD k 0+jS six k x.shift<=x.reach.getD k 0
   . have eR:xb six x y k=x.reach.getD k 0:=if_pos c
     have eT:zx six x y k=x.cj.getD k 0:=if_pos c
     refine .nx (ah (l5 (m:=k) 4 (aL (pO 4 (aa 6 rfl) (ga _ _ 0)) (bE (jN (aa 2 rfl)) D9 ax hr (ae (aa 6 rfl) (ae (vR T.hK (aG (fs:=t.kK six x) (aa 0 rfl) T.aA.cl T.aQ rfl)) ai)) ⟨_,_,rfl,⟨by omega,by omega⟩,rfl⟩)) (aa 6 rfl) iA)
       (ah (l5 (m:=k) 5 (aL (pO 5 (aa 6 rfl) (ga _ _ 0)) (aG (fs:=t.kK six x) (aa 0 rfl) T.aA.cl T.a0 rfl)) (aa 6 rfl) iB)
       (ao (cN (GZ (rG (pV (aG (fs:=t.kK six x) (aa 0 rfl) T.aA.cl T.bU rfl)) (aa 6 rfl) xr) (pO 4 (aa 6 rfl) (gs _ _ ZZ)))
         (fun h=>ah (l5 (m:=k) 4 (rG (pV (aG (fs:=t.kK six x) (aa 0 rfl) T.aA.cl T.bU rfl)) (aa 6 rfl) xr) (aa 6 rfl) (iA' _))
           (ao (l5 (m:=k) 5 (rG (pV (aG (fs:=t.kK six x) (aa 0 rfl) T.aA.cl T.dQ rfl)) (aa 6 rfl) xt) (aa 6 rfl) (iB' _))))
         (fun h=>absurd c (of_decide_eq_false h)))))) (Le.of ⟨rfl,rfl,rfl,rfl,?_,?_,trivial⟩)
     . rw[List.set_set,qU,<- eR,uw hk]
     . rw[List.set_set,qU,<- eT,uw hk]
   . have eR:xb six x y k=(qf six y.reach x.turn).getD k 0+jS six k x.shift:=if_neg c
     have eT:zx six x y k=(qf six y.cj x.turn).getD k 0+x.many:=if_neg c
     refine .nx (ah (l5 (m:=k) 4 (aL (pO 4 (aa 6 rfl) (ga _ _ 0)) (bE (jN (aa 2 rfl)) D9 ax hr (ae (aa 6 rfl) (ae (vR T.hK (aG (fs:=t.kK six x) (aa 0 rfl) T.aA.cl T.aQ rfl)) ai)) ⟨_,_,rfl,⟨by omega,by omega⟩,rfl⟩)) (aa 6 rfl) iA)
       (ah (l5 (m:=k) 5 (aL (pO 5 (aa 6 rfl) (ga _ _ 0)) (aG (fs:=t.kK six x) (aa 0 rfl) T.aA.cl T.a0 rfl)) (aa 6 rfl) iB)
       (ao (cN (GZ (rG (pV (aG (fs:=t.kK six x) (aa 0 rfl) T.aA.cl T.bU rfl)) (aa 6 rfl) xr) (pO 4 (aa 6 rfl) (gs _ _ ZZ)))
         (fun h=>absurd (of_decide_eq_true h) c)
         (fun h=>dn))))) (Le.of ⟨rfl,rfl,rfl,rfl,?_,?_,trivial⟩)
     . rw[qU,<- eR,uw hk]
     . rw[qU,<- eT,uw hk]
 . rw[en]
   exact uc (ns:=(jn six x y).reach) 4 (uc (ns:=(jn six x y).cj) 5 (ao (aF (CB (tZ QO ax hr (ae (aa 2 rfl) (ae (aL (aG (fs:=t.kK six x) (aa 0 rfl) T.aA.cl T.a0 rfl) (ck (fs:=t.kK six y) (aa 1 rfl) QN ax hr ⟨six,y,rfl,rfl⟩))
     (ae (bE (jN (aa 2 rfl)) qT ax hr (ae (aL (aG (fs:=t.kK six x) (aa 0 rfl) T.aA.cl T.bb rfl) (ck (fs:=t.kK six y) (aa 1 rfl) vV ax hr ⟨six,y,rfl,rfl⟩)) ai) ⟨_,rfl,rfl⟩)
     (ae (CC T.hK (b8 Mp ax hr (ae (vR T.hK (aG (fs:=t.kK six x) (aa 0 rfl) T.aA.cl T.aQ rfl)) (ae (aa 3 rfl) ai)) ⟨_,_,rfl,rfl⟩))
     (ae (aL (aG (fs:=t.kK six x) (aa 0 rfl) T.aA.cl T.bS rfl) (ck (fs:=t.kK six y) (aa 1 rfl) sA ax hr ⟨six,y,rfl,rfl⟩))
     (ae (aa 4 rfl) (ae (aa 5 rfl) (ae (aL (aL (aG (fs:=t.kK six x) (aa 0 rfl) T.aA.cl T.dR rfl) (ck (fs:=t.kK six y) (aa 1 rfl) CI ax hr ⟨six,y,rfl,rfl⟩))
       (b8 Mq ax hr (ae (vR T.hK (aG (fs:=t.kK six x) (aa 0 rfl) T.aA.cl T.aQ rfl)) (ae (aa 3 rfl) ai)) ⟨_,_,rfl,⟨⟨by have:=wx.sm;omega,by have:=wx.sm;omega⟩,Uw Ya.sm⟩,rfl⟩)) ai)))))))) ⟨six,jn six x y,rfl,rfl⟩)))))
theorem iP (six:Bool)(xs:List Str)(d:Str):bL six (xs ++ [d])=jn six (bL six xs) (one six d):=by
 unfold bL
 rw[List.foldl_append];rfl
theorem qW (six:Bool):∀ n:Nat,tn six n (0,0)=(0,0)
 | 0=>rfl
 | n+1=>by rw[tn,qW six n];cases six <;> rfl
theorem vW (six:Bool)(d:Str):(qc six d (0,0) 0).1=if d∈KC then (1,0) else (0,0):=by
 have e:tn six ((0:Int) % wy six).toNat (1,0)=(1,0):=by cases six <;> rfl
 unfold qc
 show(if d∈KC then ad (0,0) (tn six ((0:Int) % wy six).toNat (1,0)) else (0,0))=_
 rw[e];rfl
theorem Mr (six:Bool)(b:Int):(tn six (b % wy six).toNat (1,0)).1.natAbs<=1/\(tn six (b % wy six).toNat (1,0)).2.natAbs<=1:=by
 cases six with
 | false=>
   have e:wy false=4:=rfl
   rw[e]
   have h:b % 4=0\/b % 4=1\/b % 4=2\/b % 4=3:=by omega
   rcases h with h | h | h | h <;> rw[h] <;> decide
 | true=>
   have e:wy true=6:=rfl
   rw[e]
   have h:b % 6=0\/b % 6=1\/b % 6=2\/b % 6=3\/b % 6=4\/b % 6=5:=by omega
   rcases h with h | h | h | h | h | h <;> rw[h] <;> decide
theorem Ms (six:Bool)(x:Tr)(d:Str):(jn six x (one six d)).shift.1.natAbs<=x.shift.1.natAbs+1/\(jn six x (one six d)).shift.2.natAbs<=x.shift.2.natAbs+1:=by
 show(x.shift.1+(tn six (x.turn % wy six).toNat (qc six d (0,0) 0).1).1).natAbs<=_/\(x.shift.2+(tn six (x.turn % wy six).toNat (qc six d (0,0) 0).1).2).natAbs<=_
 rw[vW]
 by_cases c:d∈KC
 . rw[if_pos c]
   have:=Mr six x.turn
   omega
 . rw[if_neg c,qW]
   simp
theorem QP (six:Bool)(d:Str):WF six (one six d):=⟨by unfold one;simp,by unfold one;simp,by
 show(qc six d (0,0) 0).1.1.natAbs < _/\(qc six d (0,0) 0).1.2.natAbs < _
 rw[vW]
 by_cases c:d∈KC
 . rw[if_pos c];decide
 . rw[if_neg c];decide⟩
theorem QQ (six:Bool):WF six (BH six):=⟨by unfold BH;simp,by unfold BH;simp,by show(0:Int).natAbs < _/\(0:Int).natAbs < _;decide⟩
theorem CJ (six:Bool):∀ (n:Nat) (xs:List Str),xs.length=n->(bL six xs).shift.1.natAbs<=n/\(bL six xs).shift.2.natAbs<=n/\(bL six xs).reach.length=wn six/\(bL six xs).cj.length=wn six:=by
 intro n
 induction n with
 | zero=>
   intro xs h
   have e:xs=[]:=aaU h
   subst e
   have w:=QQ six
   exact⟨aac _,aac _,w.rl,w.tl⟩
 | succ n ih=>
   intro xs h
   have BI:xs≠[]:=fun e=>by rw[e] at h;cases h
   have e:=aba BI
   have hl:xs.dropLast.length=n:=by rw[abl];omega
   obtain⟨h1,h2,h3,h4⟩:=ih _ hl
   rw[<- e,iP]
   obtain⟨q1,q2⟩:=Ms six (bL six xs.dropLast) (xs.getLast BI)
   refine⟨by omega,by omega,?_,?_⟩
   . unfold jn;simp
   . unfold jn;simp
theorem zC (six:Bool){xs:List Str}(h:xs.length < 2 ^ 990):WF six (bL six xs):=by
 obtain⟨h1,h2,h3,h4⟩:=CJ six _ xs rfl
 exact⟨h3,h4,aaH h1 h,aaH h2 h⟩
theorem QR (six:Bool){xs:List Str}(h:xs.length<=100000):WF six (bL six xs):=zC six (aaH h (aak (show 100000 < 2 ^ 20 by decide) (abO (by decide) (by decide))))
theorem Be (T:Txt K mg t):GF P w K mg base CX 7 "track_of" 2 (CD t):=by
 refine⟨_,_,_,iQ T.i7.F sP rfl fun bc A outer s H E G ds r hr hl hR=>?_,(T.g T.i7.a),T.i7.F.kp,T.i7.b⟩
 obtain⟨six,xs,rfl,hd,hn,rfl⟩:=hR
 have zD:=Bd (P:=P) (w:=w) (base:=base) T
 have Ux:=CH (P:=P) (w:=w) (base:=base) T
 have vX:=xR (P:=P) (w:=w) (base:=base) T
 have nd:=sP.nd
 let S:Nat->List Slot:=fun k=>[.val (.hX (.obj (t.pc six) [])),.val (.lst (xs.map .str)),.val (t.pJ six (bL six (xs.take k))),.aY]
 have en:S (xs.map Dt.str).length=[.val (.hX (.obj (t.pc six) [])),.val (.lst (xs.map .str)),.val (t.pJ six (bL six xs)),.aY]:=by
   show [_,_,Slot.val (t.pJ six (bL six (xs.take (xs.map Dt.str).length))),_]=_
   rw[Bn,aa7]
 refine⟨_,.rt _,ah (aw 2 nd (b8 zD ax hr (ae (aa 0 rfl) ai) ⟨six,rfl,rfl⟩))
   (ah (Dl (m:=(xs.map Dt.str).length) 3 S nd rfl PassesOwn.leaving (aa 1 rfl) (Le.of ⟨rfl,rfl,rfl,trivial⟩) (aac _) (fun k z hk hz=>?_) (.all rfl)) ?_)⟩
 . rw[Bn] at hk
   rw[aab,k3 hk] at hz
   cases hz
   have hm:xs[k]∈xs:=aaJ hk
   have e:bL six (xs.take (k+1))=jn six (bL six (xs.take k)) (one six xs[k]):=by
     rw[aa0,k3 hk]
     exact iP _ _ _
   have hl:(xs.take k).length<=100000:=by rw[aat];omega
   refine .nx (ao (aw 2 nd (bE (fs:=t.kK six (bL six (xs.take k))) (k4 (aa 2 rfl)) vX ax hr (ae (k4 (b8 Ux ax hr (ae (aa 0 rfl) (ae (aa 3 rfl) ai)) ⟨six,xs[k],rfl,hd _ hm,rfl⟩)) ai) ⟨six,_,one six xs[k],rfl,⟨QR six hl,QP six _⟩,rfl⟩))) (Le.of ⟨rfl,rfl,?_,trivial⟩)
   show Slot.val (t.pJ six (bL six (xs.take (k+1))))=_
   rw[e]
 . rw[en]
   exact ao (aF (aa 2 rfl))
theorem Bf (six:Bool):∀ (n:Nat) (xs:List Str),xs.length=n->(bL six xs).many=n/\(bL six xs).dD=(xs.count ("stroke":Str):Nat):=by
 intro n
 induction n with
 | zero=>
   intro xs h
   have e:xs=[]:=aaU h
   subst e
   exact⟨rfl,rfl⟩
 | succ n ih=>
   intro xs h
   have BI:xs≠[]:=fun e=>by rw[e] at h;cases h
   have e:=aba BI
   have hl:xs.dropLast.length=n:=by rw[abl];omega
   obtain⟨h1,h2⟩:=ih _ hl
   have ec:xs.count ("stroke":Str)=xs.dropLast.count ("stroke":Str)+if xs.getLast BI="stroke" then 1 else 0:=by
     conv=>lhs;rw[<- e]
     rw[List.count_append,List.count_singleton]
     congr 1
     by_cases c:xs.getLast BI="stroke" <;> simp[c]
   rw[ec]
   conv=>lhs;rw[<- e]
   rw[show(bL six xs).dD=(bL six (xs.dropLast ++ [xs.getLast BI])).dD by rw[e],iP]
   refine⟨?_,?_⟩
   . show(bL six xs.dropLast).many+1=_
     rw[h1];omega
   . show(bL six xs.dropLast).dD+(if xs.getLast BI="stroke" then 1 else 0)=_
     rw[h2]
     by_cases c:xs.getLast BI="stroke"
     . rw[if_pos c,if_pos c];omega
     . rw[if_neg c,if_neg c];omega
open PySem.Builtin.Str PySem.StrLaws in
theorem zE (s:Str)(c limit:Nat):∀ (n i:Nat) (acc:Array Nat) (free:Nat),free<=i->acc.size+n<=limit->(forIn (abP i n) (acc,free) (occBody s ⟨#[c]⟩ s.length limit)).run.fst.size=acc.size+(abP i n).countP (fun j=>decide (s.cps.toList[j]?=some c))
 | 0,i,acc,free,_,_=>by simp
 | n+1,i,acc,free,hf,hl=>by
   rw[List.range'_succ,abA,List.countP_cons]
   have Z0:=subAt_one s c i
   by_cases hc:s.cps.toList[i]?=some c
   . obtain⟨h1,h2⟩:=Z0.mpr hc
     have e:occBody s ⟨#[c]⟩ s.length limit i (acc,free)=pure (ForInStep.yield (acc.push i,i+(⟨#[c]⟩:Str).length)):=by
       unfold occBody
       exact if_pos ⟨⟨⟨by show acc.size < limit;omega,hf⟩,h1⟩,h2⟩
     rw[e]
     show(forIn (abP (i+1) n) (acc.push i,i+(⟨#[c]⟩:Str).length) (occBody s ⟨#[c]⟩ s.length limit)).run.fst.size=_
     rw[zE s c limit n (i+1) (acc.push i) _ (by show i+1<=i+1;omega) (by rw[Array.size_push];omega),Array.size_push,if_pos (decide_eq_true hc)]
     omega
   . have e:occBody s ⟨#[c]⟩ s.length limit i (acc,free)=pure (ForInStep.yield (acc,free)):=by
       unfold occBody
       exact if_neg fun h=>hc (Z0.mp ⟨h.1.2,h.2⟩)
     rw[e]
     show(forIn (abP (i+1) n) (acc,free) (occBody s ⟨#[c]⟩ s.length limit)).run.fst.size=_
     rw[zE s c limit n (i+1) acc free (by omega) (by omega),if_neg (by simpa using hc)]
     omega
theorem FL (L:List Nat)(c:Nat):(abP 0 (L.length+1)).countP (fun j=>decide (L[j]?=some c))=L.count c:=by
 rw[<- List.range_eq_range',abS,List.countP_append]
 have e1:(aag L.length).map (fun j=>L[j]?)=L.map some:=by
   refine abH fun i=>?_
   rw[aab,aab]
   by_cases h:i < L.length
   . rw[aar h];simp[h]
   . rw[aaw (by simp;omega),aaw (by omega)];rfl
 have e2:(aag L.length).countP (fun j=>decide (L[j]?=some c))=((aag L.length).map (fun j=>L[j]?)).countP (fun o=>decide (o=some c)):=by
   rw[abT];rfl
 rw[e2,e1,abT]
 have e3:((fun o=>decide (o=some c)) ∘ some)=fun x:Nat=>x == c:=by
   funext x
   by_cases h:x=c <;> simp[h]
 rw[e3]
 simp[List.count]
open PySem.Builtin.Str PySem.StrLaws in
theorem Jp (w:List Nat)(x:Nat):Txt.count (tx w) (sg x)=((w.count x:Nat):Int):=by
 unfold Txt.count
 have hl:=gh w
 rw[occ_eq,abo]
 show(((forIn (abP 0 ((tx w).length+1 - 0)) (#[],0) (occBody (tx w) ⟨#[x]⟩ (tx w).length ((tx w).length+1))).run.fst.size:Nat):Int)=_
 rw[zE (tx w) x _ _ 0 #[] 0 (aac _) (by simp)]
 have e:(tx w).cps.toList=w:=by show w.toArray.toList=w;simp
 rw[e,hl,Nat.sub_zero,FL]
 simp
noncomputable def NK (L w:List Nat):List (Key×Int):=L.map fun x=>(.inr (sg x),((w.count x:Nat):Int))
theorem Jq (L w:List Nat):(dI (NK L w)).map (·.1)=L.map fun x=>(Sum.inr (sg x):Key):=by
 unfold dI NK
 rw[aam,aam];rfl
theorem kL {L:List Nat}(h:L.Nodup):(L.map fun x=>(Sum.inr (sg x):Key)).Nodup:=by
 rw[List.nodup_iff_pairwise_ne,List.pairwise_map]
 exact(List.nodup_iff_pairwise_ne.mp h).imp fun hn e=>hn (n9 (Sum.inr.inj e))
theorem QS (L w:List Nat):(L.map fun x=>Dt.tup [.str (sg x),.int ((w.count x:Nat):Int)])=(dI (NK L w)).map Kv:=by
 unfold dI NK
 rw[aam,aam];rfl
def Mt (t:dJ):Rl:=fun ds r=>∃ six rows w,ds=[t.pI six rows,.str (tx w)]/\bg rows/\r=.own (.cV (dI (NK (rows.map (·.c)) w)))
noncomputable abbrev Yb:Stmt->Scope
 | .Return (some (.Call _ (.ListComp _ _ sc _::_) _ _)) _=>sc
 | _=>af (.Pass ⟨0,0,0,0⟩)
noncomputable abbrev Jr:Scope:=Yb ((aB qH).getD 0 (.Pass ⟨0,0,0,0⟩))
theorem Bg:iT Jr (af qH) DL ["letter","word"] ["letter"] [1]=true:=by decide +kernel
theorem gX (w:List Nat):w.map (fun x=>Dt.str (sg x))=Sg.signs (tx w):=by rw[vK,aam];rfl
theorem vY {rows:List Row}(ok:bg rows):iX (tx (rows.map (·.c)))=true:=jA fun x hx=>by
 obtain⟨r,hr,rfl⟩:=aaM.mp hx
 have:=ok.sm r hr
 unfold small at this;omega
theorem Js (T:Txt K mg t):GF P w K mg base CX 3 "tally" 2 (Mt t):=by
 refine⟨_,_,_,iQ T.oW.F AX rfl fun bc A outer s H E G ds r hr hl hR=>?_,(T.g T.oW.a),T.oW.F.kp,T.oW.b⟩
 obtain⟨six,rows,wd,rfl,ok,rfl⟩:=hR
 have eU:=jB (P:=P) (w:=w) (base:=base) T
 have nd:=AX.nd
 have h6:=ok.le
 let L:=rows.map (·.c)
 have e2:((L.filter fun _=>true).map fun x=>Dt.tup [.str (sg x),.int ((wd.count x:Nat):Int)])=(dI (NK L wd)).map Kv:=by
   rw[aaC.mpr (fun _ _=>rfl)]
   exact QS L wd
 refine⟨_,.ro _,ao (mH (l8 T.n8 rfl (g9 e2 (ig L (fun x=>Dt.str (sg x)) (fun x=>.tup [.str (sg x),.int ((wd.count x:Nat):Int)]) (fun x=>[.val (.str (sg x))]) (fun _=>true) rfl (cI Bg) (ij (ck (fs:=t.ur six rows) (aa 0 rfl) eU ax hr ⟨six,rows,rfl,ok,rfl⟩)) (dc (cI Bg) rfl) (dm (de (vY ok)) (gX L)) (fun a _=>d9) (.nil fun _ _=>rfl)
     (fun a ha _ C fp s' H' G'=>cB (ae (aa 0 rfl) (ae (bR (Fg (aa 1 rfl) (aa 0 rfl)) (congrArg Dt.int (Jp wd a))) ai)) AA3) (rb (by show(rows.map (·.c)).length<=_;rw[Bn];omega)))) ?_ ?_))⟩
 . rw[Jq];exact kL ok.nd
 . show((NK (rows.map (·.c)) wd).map _).length<=_
   unfold NK
   rw[Bn,Bn,Bn]
   exact rb (by omega)
noncomputable def cT (rows:List Row):Nat->Nat->Nat->Int
 | 0,c,x=>(([c].count x:Nat):Int)
 | i+1,c,x=>((wordOf rows c).map fun y=>cT rows i y x).sum
noncomputable def kc (L:List Nat)(T:Nat->Int):List (Key×Int):=L.map fun x=>(.inr (sg x),T x)
noncomputable def lT (rows:List Row)(i c:Nat):Int:=((rows.map (·.c)).map fun x=>cT rows i c x).sum
noncomputable def vZ (rows:List Row)(i:Nat):List (Key×FD):=(rows.map (·.c)).map fun c=>(.inr (sg c),.cV (kc (rows.map (·.c)) (cT rows i c)))
noncomputable def zF (rows:List Row)(i:Nat):List (Key×FD):=(rows.map (·.c)).map fun c=>(.inr (sg c),.int (lT rows i c))
theorem Mu (L:List Nat)(T:Nat->Int):(kc L T).map (·.2)=L.map T:=by unfold kc;rw[aam];rfl
theorem Mv (L:List Nat)(T:Nat->Int):(dI (kc L T)).map (·.1)=L.map fun x=>(Sum.inr (sg x):Key):=by unfold dI kc;rw[aam,aam];rfl
theorem QT (L:List Nat)(T:Nat->Int):(dI (kc L T)).length=L.length:=by unfold dI kc;rw[Bn,Bn]
noncomputable def kd (L:List Nat)(D:Nat->Dt):List (Key×Dt):=L.map fun x=>(.inr (sg x),D x)
theorem lF {D:Nat->Dt}:∀ {L:List Nat} {x:Nat},x∈L->jF (kd L D) (.inr (sg x))=some (D x)
 | [],_,h=>by cases h
 | y::L,x,h=>by
   by_cases e:y=x
   . subst e
     exact nO (p:=((.inr (sg y):Key),D y)) rfl
   . have ne:¬ (Sum.inr (sg y):Key)=.inr (sg x):=fun z=>e (n9 (Sum.inr.inj z))
     have hx:x∈L:=by
       rcases aau.mp h with z | z
       . exact absurd z.symm e
       . exact z
     exact(l7 (p:=((.inr (sg y):Key),D y)) ne).trans (lF hx)
theorem NL (L:List Nat)(T:Nat->Int):dI (kc L T)=kd L fun x=>.int (T x):=by unfold dI kc kd;rw[aam];rfl
theorem Gd (rows:List Row)(i:Nat):nz (vZ rows i)=kd (rows.map (·.c)) fun c=>.d5 (dI (kc (rows.map (·.c)) (cT rows i c))):=by unfold nz vZ kd;rw[aam];rfl
theorem NM (rows:List Row)(i:Nat):nz (zF rows i)=kd (rows.map (·.c)) fun c=>.int (lT rows i c):=by unfold nz zF kd;rw[aam];rfl
theorem qX (L:List Nat)(D:Nat->Dt):(kd L D).map (·.1)=L.map fun x=>(Sum.inr (sg x):Key):=by unfold kd;rw[aam];rfl
theorem Bh (L:List Nat)(D:Nat->Dt):(L.map fun x=>Dt.tup [.str (sg x),D x])=(kd L D).map Kv:=by unfold kd;rw[aam];rfl
theorem Jt {L:List Nat}(nd:L.Nodup){D:Nat->Dt}{j:Nat}(hj:j < L.length):pz (kd (L.take j) D) (.inr (sg L[j])) (D L[j])=kd (L.take (j+1)) D:=by
 have hn:jF (kd (L.take j) D) (.inr (sg L[j]))=none:=by
   refine oC fun kv Tv=>?_
   have:kv.1∈(kd (L.take j) D).map (·.1):=aaM.mpr ⟨kv,Tv,rfl⟩
   rw[qX] at this
   obtain⟨y,hy,e⟩:=aaM.mp this
   intro z
   rw[<- e] at z
   have z:y=L[j]:=n9 (Sum.inr.inj z)
   obtain⟨i,hi,e⟩:=aa4.mp hy
   rw[aat] at hi
   rw[abm] at e
   exact aaV.mp nd i j (by omega) hj (by omega) (e.trans z)
 unfold pz
 rw[hn,if_neg (by simp)]
 unfold kd
 rw[aa0,k3 hj,aaP];rfl
noncomputable def Ju (L:List Nat)(T:Nat->Int):Dt:=.d5 (dI (kc L T))
def Jv:Rl:=fun ds r=>∃ (L:List Nat) (ts:List (Nat->Int)),ds=[.lst (ts.map (Ju L)),.str (tx L)]/\L.Nodup/\L.length<=6/\(∀ x∈L,x < 128)/\ts.length<=1000/\r=.own (.cV (dI (kc L fun x=>(ts.map fun T=>T x).sum)))
noncomputable abbrev QU:Stmt->Scope
 | .Return (some (.Call _ (.ListComp _ _ sc _::_) _ _)) _=>sc
 | _=>af (.Pass ⟨0,0,0,0⟩)
noncomputable abbrev Uy:Stmt->Scope
 | .Return (some (.Call _ (.ListComp (.Tuple [_,.Call _ (.ListComp _ _ sc _::_) _ _] _ _) _ _ _::_) _ _)) _=>sc
 | _=>af (.Pass ⟨0,0,0,0⟩)
noncomputable abbrev NN:Scope:=QU ((aB jy).getD 0 (.Pass ⟨0,0,0,0⟩))
noncomputable abbrev QV:Scope:=Uy ((aB jy).getD 0 (.Pass ⟨0,0,0,0⟩))
noncomputable def Yc (sc:Scope):Env:={ scope:=sc,locals:=0,globals:=0,cells:=[],qual:="",func:=none,code:=.none,frame:=none,builtins:=0}
noncomputable abbrev Uz:Scope:=relabel NN (Yc (af jy))
theorem NO:HS NN (af jy) AZ ["letter","tallies"] "letter" [0]=true:=by decide +kernel
theorem Jw:iT QV Uz ["letter","tallies"] ["counts","letter"] ["counts"] [0]=true:=by decide +kernel
theorem FN (T:Txt K mg t):GF P w K mg base CX 2 "summed" 2 Jv:=by
 refine⟨_,_,_,iQ T.mq.F xH rfl fun bc A outer s H E G ds r hr hl hR=>?_,(T.g T.mq.a),T.mq.F.kp,T.mq.b⟩
 obtain⟨L,ts,rfl,hnd,hL,h7,Z1,rfl⟩:=hR
 have nd:=xH.nd
 have hu:(A.deeper (envOfC "summed" (af jy) s.heap.objs.size t.n6 bc)).units+1 < cLine:=by have:=hr.units;omega
 let D:Nat->Dt:=fun x=>.int (ts.map fun T=>T x).sum
 have e2:((L.filter fun _=>true).map fun x=>Dt.tup [.str (sg x),D x])=(dI (kc L fun x=>(ts.map fun T=>T x).sum)).map Kv:=by
   rw[aaC.mpr (fun _ _=>rfl),NL]
   exact Bh L D
 refine⟨_,.ro _,ao (mH (l8 T.n8 rfl (g9 e2 (PH L (fun x=>Dt.str (sg x)) (fun x=>.tup [.str (sg x),D x]) (fun x=>[.val (.str (sg x))]) (fun _=>true) rfl (Nr NO) (ij (aa 1 rfl)) (HR (Nr NO)) (dm (de (jA h7)) (gX L)) (fun a _=>d9) (.nil fun _ _=>rfl)
     (fun a ha _ c C fp s' H' G'=>?_) (rb (by omega)))) (by rw[Mv];exact kL hnd) (by rw[QT];exact rb (by omega))))⟩
 have e3:((ts.filter fun _=>true).map fun T=>Dt.int (T a))=(ts.map fun T=>T a).map Dt.int:=by
   rw[aaC.mpr (fun _ _=>rfl),aam];rfl
 refine cB (ae (aa 0 rfl) (ae (Hz T.A4 rfl (g9 e3 (ig ts (Ju L) (fun T=>Dt.int (T a)) (fun T=>[.val (Ju L T)]) (fun _=>true) rfl (cI Jw) (lh (aa 1 rfl)) (dc (cI Jw) rfl) l6 (fun a _=>d9) (.nil fun _ _=>rfl)
   (fun T' hT' _ C2 WW s2 H2 G2=>?_) (rb (by omega))))) ai)) AA3
 exact kO hu (aa 0 rfl) (aa 1 rfl) (by rw[NL];exact lF ha) (fun _ _=>rfl)
noncomputable def dJ.Bi (t:dJ)(six:Bool)(rows:List Row)(w:List Nat):List (Str×Dt):=[("rules",t.pI six rows),("seed",.str (tx w))]
noncomputable def sC (rows:List Row):List (Nat->List (Key×FD)):=[vZ rows,zF rows]
noncomputable abbrev dJ.jO (t:dJ)(six:Bool)(rows:List Row)(w:List Nat)(l:Addr)(ls:iR)(n:Nat):List (Str×Dt):=q9 (t.Bi six rows w) ["tallies","lengths"] l ls n
noncomputable abbrev dJ.FO (t:dJ)(six:Bool)(rows:List Row)(w:List Nat)(l:Addr)(ls:iR)(n:Nat):List (Str×Dt):=o6 (t.Bi six rows w) ["tallies","lengths"] l ls n
structure my (rows:List Row)(w:List Nat):Prop where
 ok:bg rows
 w0:0 < w.length
 w8:w.length<=8
 wm:∀ x∈w,x∈rows.map (·.c)
theorem Bj {a:Addr}:∀ rows:List Row,yH a (sv rows)=true
 | []=>rfl
 | r::rows=>by
   show(rS a (qb r) && yH a (sv rows))=true
   rw[Bj rows];rfl
theorem CK {a:Addr}(t:dJ)(six:Bool)(rows:List Row):rS a (t.pI six rows)=true:=by
 show jY a [("drawer",.hX (.obj (t.pc six) [])),("row_by_letter",.cV (sv rows))]=true
 show(true && (yH a (sv rows) && true))=true
 rw[Bj];rfl
theorem Bk {a:Addr}(t:dJ)(six:Bool)(rows:List Row)(w:List Nat):jY a (t.Bi six rows w)=true:=by
 show(rS a (t.pI six rows) && (true && true))=true
 rw[CK];rfl
def Mw (t:dJ):Rl:=fun ds r=>∃ six rows w,ds=[t.pI six rows,.str (tx w)]/\my rows w/\r=.own (.pM t.ar (t.Bi six rows w) (sC rows) ["tallies","lengths"] 1)
noncomputable abbrev CL:Stmt->Scope
 | .Assign _ (.List [.Call _ (.ListComp _ _ sc _::_) _ _] _) _=>sc
 | _=>af (.Pass ⟨0,0,0,0⟩)
noncomputable abbrev QW:Scope:=CL ((aB dq).getD 2 (.Pass ⟨0,0,0,0⟩))
noncomputable abbrev QX:Scope:=CL ((aB dq).getD 3 (.Pass ⟨0,0,0,0⟩))
theorem Jx:iT QW (af dq) lO ["letter","rules"] ["letter"] [1]=true:=by decide +kernel
theorem Jy:iT QX (af dq) lO ["letter"] ["letter"] []=true:=by decide +kernel
theorem Ea:∀ {L:List Nat} {c:Nat},L.Nodup->c∈L->(L.map fun x=>(([c].count x:Nat):Int)).sum=1
 | [],_,_,h=>by cases h
 | y::L,c,nd,h=>by
   rw[abr] at nd
   rw[aao,abn]
   by_cases e:c=y
   . subst e
     have z:(L.map fun x=>(([c].count x:Nat):Int)).sum=0:=by
       have:∀ x∈L,(([c].count x:Nat):Int)=0:=fun x hx=>by
         have:¬ c=x:=fun z=>nd.1 (z ▸ hx)
         simp[List.count_cons,this]
       rw[abx this]
       clear this nd h
       induction L with
       | nil=>rfl
       | cons a r ih=>rw[aao,abn,ih];rfl
     rw[z]
     simp
   . have hc:c∈L:=by
       rcases aau.mp h with z | z
       . exact absurd z e
       . exact z
     rw[Ea nd.2 hc]
     simp[List.count_cons,e]
theorem UA {rows:List Row}(ok:bg rows){c:Nat}(h:c∈rows.map (·.c)):lT rows 0 c=1:=Ea ok.nd h
theorem Jz (T:Txt K mg t):O7 P w K mg base CX 4 "Growth" t.ar 3 (Mw t):=by
 refine⟨_,_,_,Vk T.jo.F nW rfl fun bc A outer s H E G z ds r hr hl hR=>?_,T.sh,(T.g T.aN.a),T.jo.b⟩
 obtain⟨six,rows,wd,rfl,ok,rfl⟩:=hR
 have eU:=jB (P:=P) (w:=w) (base:=base) T
 have sD:=A6 (P:=P) (w:=w) (base:=base) T
 have Mx:=Js (P:=P) (w:=w) (base:=base) T
 have h6:=ok.ok.le
 let L:=rows.map (·.c)
 have hL:L.length<=6:=by show(rows.map (·.c)).length<=6;rw[Bn];exact h6
 have nd:=nW.nd
 have e1:((L.filter fun _=>true).map fun x=>Dt.tup [.str (sg x),Ju L (cT rows 0 x)])=(nz (vZ rows 0)).map Kv:=by
   rw[aaC.mpr (fun _ _=>rfl),Gd]
   exact Bh L _
 have e2:((L.filter fun _=>true).map fun x=>Dt.tup [.str (sg x),.int 1])=(nz (zF rows 0)).map Kv:=by
   rw[aaC.mpr (fun _ _=>rfl),NM,<- Bh]
   exact abx fun x hx=>by rw[UA ok.ok hx]
 refine⟨_,.WJ (fs:=t.Bi six rows wd) (gs:=sC rows) (nm:=["tallies","lengths"]) (n:=1) rfl,ah (jE (aa 1 rfl) T.aN.cl T.cu) (ah (jE (yx (fs:=t.ur six rows) (aa 1 rfl) sD ax hr (ae (aa 2 rfl) ai) ⟨six,rows,wd,8,rfl,ok.ok,ok.wm,⟨ok.w0,ok.w8,by decide⟩,rfl⟩) T.aN.cl T.fB)
   (yL (f:=vZ rows) (g:=zF rows) rfl T.aN.cl T.cb T.cf ?_ ?_))⟩
 . refine l8 T.n8 rfl (g9 e1 (ig L (fun x=>Dt.str (sg x)) (fun x=>.tup [.str (sg x),Ju L (cT rows 0 x)]) (fun x=>[.val (.str (sg x))]) (fun _=>true) rfl (cI Jx) (ij (ck (fs:=t.ur six rows) (aa 1 rfl) eU ax hr ⟨six,rows,rfl,ok.ok,rfl⟩)) (dc (cI Jx) rfl) (dm (de (vY ok.ok)) (gX L)) (fun a _=>d9) (.nil fun _ _=>rfl)
     (fun a ha _ C fp s' H' G'=>cB (ae (aa 0 rfl) (ae (Nu (sM Mx ax hr (ae (aa 1 rfl) (ae (aa 0 rfl) ai)) ⟨six,rows,[a],rfl,ok.ok,rfl⟩)) ai)) AA3) (rb (by omega)))) (by rw[Gd,qX];exact kL ok.ok.nd) (by rw[Gd];show(List.map _ _).length<=_;rw[Bn,Bn];exact rb (by omega))
 . refine l8 T.n8 rfl (g9 e2 (ig L (fun x=>Dt.str (sg x)) (fun x=>.tup [.str (sg x),.int 1]) (fun x=>[.val (.str (sg x))]) (fun _=>true) rfl (cI Jy) (ij (ck (fs:=t.ur six rows) (aa 1 rfl) eU ax hr ⟨six,rows,rfl,ok.ok,rfl⟩)) (dc (cI Jy) rfl) (dm (de (vY ok.ok)) (gX L)) (fun a _=>d9) (.nil fun _ _=>rfl)
     (fun a ha _ C fp s' H' G'=>cB (ae (aa 0 rfl) (ae aj ai)) AA3) (rb (by omega)))) (by rw[NM,qX];exact kL ok.ok.nd) (by rw[NM];show(List.map _ _).length<=_;rw[Bn,Bn];exact rb (by omega))
def JA (t:dJ):Rl:=fun ds r=>∃ six rows w l ls n age,ds=[.obj t.ar (t.jO six rows w l ls n),.int ((age:Nat):Int)]/\my rows w/\ls.map (·.2)=sC rows/\age<=1000/\r=.ret (.wq l ls (age+1))
noncomputable abbrev UB:Stmt->List Stmt
 | .While _ b _ _=>b
 | _=>[]
noncomputable abbrev Bl:Stmt->Scope
 | .For _ _ [.Assign _ (.Call _ (.ListComp _ _ sc _::_) _ _) _] _ _=>sc
 | _=>af (.Pass ⟨0,0,0,0⟩)
noncomputable abbrev My:Stmt->Scope
 | .Expr (.Call _ [.Call _ (.ListComp _ _ sc _::_) _ _] _ _) _=>sc
 | _=>af (.Pass ⟨0,0,0,0⟩)
noncomputable abbrev wB:List Stmt:=UB ((aB bw).getD 1 (.Pass ⟨0,0,0,0⟩))
noncomputable abbrev UC:Scope:=Bl (wB.getD 2 (.Pass ⟨0,0,0,0⟩))
noncomputable abbrev UD:Scope:=My (wB.getD 4 (.Pass ⟨0,0,0,0⟩))
theorem NP:iT UC (af bw) gZ ["younger","last"] ["younger"] [3]=true:=by decide +kernel
theorem NQ:iT UD (af bw) gZ ["letter","grown"] ["letter"] [4]=true:=by decide +kernel
theorem FP (T:Txt K mg t):MF P w K mg base CX 4 t.ar "deepen_to" 2 (JA t):=by
 refine⟨T.aN.cl,_,_,_,iQ T.eB.F jP rfl fun bc A outer s H E G ds r hr hl hR=>?_,T.cQ,T.eB.b⟩
 obtain⟨six,rows,wd,l,ls,n,age,rfl,ok,pT,lK,rfl⟩:=hR
 have eU:=jB (P:=P) (w:=w) (base:=base) T
 have v3:=vL (P:=P) (w:=w) (base:=base) T
 have JB:=FN (P:=P) (w:=w) (base:=base) T
 have nd:=jP.nd
 have h6:=ok.ok.le
 let L:=rows.map (·.c)
 have hL:L.length<=6:=by show(rows.map (·.c)).length<=6;rw[Bn];exact h6
 have h7:∀ x∈L,x < 128:=fun x hx=>by
   obtain⟨r,hr,rfl⟩:=aaM.mp hx
   have:=ok.ok.sm r hr
   unfold small at this;omega
 have hu:(A.deeper (envOfC "Growth.deepen_to" (af bw) s.heap.objs.size t.bx bc)).units+1 < cLine:=by have:=hr.units;omega
 have e2:ls.length=2:=by have:=congrArg abf pT;simpa [sC] using this
 let tl:List Slot:=[.val (.int ((age:Nat):Int)),.val (.str (tx L)),.aY,.aY,.aY]
 refine⟨_,oM (by rw[e2];exact aac 2),ah (dl1:=zN t.ar (t.Bi six rows wd) ["tallies","lengths"] l ls n tl) (aw 2 nd (ck (fs:=t.ur six rows) (aG (fs:=t.jO six rows wd l ls n) (aa 0 rfl) T.aN.cl T.cu rfl) eU ax hr ⟨six,rows,rfl,ok.ok,rfl⟩))
   (ao (xC (age:=age) PassesOwn.leaving (Bk t six rows wd) rfl (by decide) (by omega) (fun N G hx=>?_) (fun N hN hNa G0 hA hB=>?_)))⟩
 . exact dG (pq (DH (N:=N) T.fg hx (aG (fs:=t.FO six rows wd l ls n) (aa 0 rfl) T.aN.cl T.cb rfl) (by rw[e2];rfl)) (aa 1 rfl)) (decide_eq_decide.mpr (by omega))
 . let Dk:Nat->Dt:=fun c=>Ju L (cT rows N c)
   let S:Nat->List Slot:=fun k=>[.val (.obj t.ar (t.FO six rows wd l ls n)),.val (.int ((age:Nat):Int)),.val (.str (tx L)),.val (.d5 (nz (vZ rows (N - 1)))),.own (.cV (kd (L.take k) Dk)),.aY]
   have eS:S L.length=[.val (.obj t.ar (t.FO six rows wd l ls n)),.val (.int ((age:Nat):Int)),.val (.str (tx L)),.val (.d5 (nz (vZ rows (N - 1)))),.own (.cV (nz (vZ rows N))),.aY]:=by
     show [_,_,_,_,Slot.own (.cV (kd (L.take L.length) Dk)),_]=_
     rw[aa7,Gd rows N];rfl
   refine ah (aw 3 nd (AL (f:=vZ rows) (N:=N) ak (aG (fs:=t.FO six rows wd l ls n) (aa 0 rfl) T.aN.cl T.cb rfl) (iW aj) (by rw[pT];rfl) (by rw[e2];rfl) hN)) (ah (jX 4 nd yA)
     (ah (dl1:=S L.length) (mI (o:=.nx (S L.length)) (m:=L.length) L (fun x=>Dt.str (sg x)) (fun x dl=>dl.set 5 (.val (.str (sg x)))) S rfl PassesOwn.leaving (ij (aa 2 rfl)) (dm (de (jA h7)) (gX L)) (bX nd rfl (.inl rfl)) (fun a _=>t6) (Le.of ⟨rfl,rfl,rfl,rfl,rfl,trivial⟩) (aac _) (fun k a hk ha=>?_) (.all rfl)) ?_))
   . rw[k3 hk] at ha
     cases ha
     have hm:L[k]∈L:=aaJ hk
     obtain⟨q,hq,hc,_,ew⟩:=iO hm
     have Yd:=ok.ok.wp q hq
     have UE:∀ y∈wordOf rows L[k],y∈L:=fun y hy=>ok.ok.wo q hq y (by rw[ew] at hy;exact hy)
     have ON:(wordOf rows L[k]).length<=8:=by rw[ew];exact Yd.2
     have Pr:(kd (L.take k) Dk).length < sizeLine:=by
       unfold kd
       rw[Bn,aat];exact aak (show min k L.length < 2000 by omega) (by decide)
     have e3:(((wordOf rows L[k]).filter fun _=>true).map fun y=>Ju L (cT rows (N - 1) y))=((wordOf rows L[k]).map fun y=>cT rows (N - 1) y).map (Ju L):=by
       rw[aaC.mpr (fun _ _=>rfl),aam];rfl
     have eN:N=(N - 1)+1:=by omega
     have ed:Dk L[k]=.d5 (dI (kc L fun x=>(((wordOf rows L[k]).map fun y=>cT rows (N - 1) y).map fun T=>T x).sum)):=by
       have e7:(cT rows N L[k])=fun x=>(((wordOf rows L[k]).map fun y=>cT rows (N - 1) y).map fun T=>T x).sum:=by
         funext x
         rw[aam]
         obtain⟨M,rfl⟩:∃ M,N=M+1:=⟨N - 1,eN⟩
         rfl
       show Ju L (cT rows N L[k])=_
       rw[e7];rfl
     refine .nx (ao (yB (kds:=kd (L.take k) Dk) (d:=Dk L[k]) 4 hu (by rw[ed];exact Nu (sM JB ax hr (ae (g9 e3 (ig (wordOf rows L[k]) (fun x=>Dt.str (sg x)) (fun y=>Ju L (cT rows (N - 1) y)) (fun x=>[.val (.str (sg x))]) (fun _=>true) rfl (cI NP) (ij (bE (fs:=t.ur six rows) (aG (fs:=t.FO six rows wd l ls n) (aa 0 rfl) T.aN.cl T.cu rfl) v3 ax hr (ae (aa 5 rfl) ai) ⟨six,rows,L[k],rfl,ok.ok,hm,rfl⟩)) (dc (cI NP) rfl) (dm (de (m7 ok.ok UE)) (gX _)) (fun a _=>d9) (.nil fun _ _=>rfl)
       (fun y hy _ C fp s' H' G'=>kO hu (aa 1 rfl) (aa 0 rfl) (by rw[Gd];exact lF (UE y hy)) (fun _ _=>rfl)) (rb (by omega)))) (ae (aa 2 rfl) ai)) ⟨L,_,rfl,ok.ok.nd,hL,h7,by rw[Bn];omega,rfl⟩)) (aa 5 rfl) Pr)) (Le.of ⟨rfl,rfl,rfl,rfl,?_,trivial⟩)
     show Slot.own (.cV (kd (L.take (k+1)) Dk))=Slot.own (.cV (pz (kd (L.take k) Dk) (.inr (sg L[k])) (Dk L[k])))
     rw[Jt ok.ok.nd hk]
   . rw[eS]
     refine Dj (dl1:=.val (.obj t.ar (t.FO six rows wd l ls n))::tl.set 3 (.own (.cV (nz (vZ rows N))))) (AO (f:=vZ rows) (g:=zF rows) (tl:=tl) 3 (Bk t six rows wd) rfl rfl pT (by omega) T.aN.cl T.cb T.cf hA hB (fun G2=>?_)) (Le.of ⟨rfl,rfl,rfl,rfl,trivial⟩)
     have e4:((L.filter fun _=>true).map fun x=>Dt.tup [.str (sg x),.int (lT rows N x)])=(nz (zF rows N)).map Kv:=by
       rw[aaC.mpr (fun _ _=>rfl),NM]
       exact Bh L _
     exact l8 T.n8 rfl (g9 e4 (ig L (fun x=>Dt.str (sg x)) (fun x=>.tup [.str (sg x),.int (lT rows N x)]) (fun x=>[.val (.str (sg x))]) (fun _=>true) rfl (cI NQ) (ij (aa 2 rfl)) (dc (cI NQ) rfl) (dm (de (jA h7)) (gX L)) (fun a _=>d9) (.nil fun _ _=>rfl)
       (fun a ha _ C fp s' H' G'=>cB (ae (aa 0 rfl) (ae (bR (LF (kds:=kc L (cT rows N a)) T.A4 rfl (kO (d:=Ju L (cT rows N a)) hu (aa 1 rfl) (aa 0 rfl) (by rw[Gd];exact lF ha) (fun _ _=>rfl)) (.inl rfl)) (by rw[Mu];rfl)) ai)) AA3) (rb (by omega)))) (by rw[NM,qX];exact kL ok.ok.nd) (by rw[NM];show(List.map _ _).length<=_;rw[Bn,Bn];exact rb (by omega))
def Ye:Rl:=fun ds r=>∃ z f l:Int,ds=[.int z,.int f,.int l]/\f<=z/\z<=l/\r=.ret .cy
def Mz (t:dJ):Rl:=fun ds r=>∃ six rows w l ls n age,ds=[.obj t.ar (t.jO six rows w l ls n),.int ((age:Nat):Int)]/\my rows w/\ls.map (·.2)=sC rows/\age<=200/\r=.ret (.wq l ls (age+1))
noncomputable def Z2 (rows:List Row)(w:List Nat)(age:Nat):Int:=(w.map (lT rows age)).sum
def QY (t:dJ):Rl:=fun ds r=>∃ six rows w l ls n age,ds=[.obj t.ar (t.jO six rows w l ls n),.int ((age:Nat):Int)]/\my rows w/\ls.map (·.2)=sC rows/\age<=200/\r=.ret (.int (Z2 rows w age))
def QZ (t:dJ):Rl:=fun ds r=>∃ six rows w l ls n,ds=[.obj t.ar (t.jO six rows w l ls n)]/\r=.ret (t.pI six rows)
noncomputable abbrev JC:Stmt->Scope
 | .Return (some (.Call _ (.ListComp _ _ sc _::_) _ _)) _=>sc
 | _=>af (.Pass ⟨0,0,0,0⟩)
noncomputable abbrev UG:Scope:=JC ((aB cY).getD 1 (.Pass ⟨0,0,0,0⟩))
theorem NR:iT UG (af cY) nr ["letter","self","age"] ["letter"] [0,1]=true:=by decide +kernel
theorem my.asc {rows:List Row}{w:List Nat}(ok:my rows w):iX (tx w)=true:=m7 ok.ok ok.wm
theorem UH (T:Txt K mg t):GF P w K mg base CX 1 "check_round" 3 Ye:=by
 refine⟨_,_,_,iQ T.eQ.F vk rfl fun bc A outer s H E G ds r hr hl hR=>?_,(T.g T.eQ.a),T.eQ.F.kp,T.eQ.b⟩
 obtain⟨z,f,l,rfl,h1,h2,rfl⟩:=hR
 exact⟨_,.nx _,ao (cN (u:=false) (sS (Am (u:=false) (v:=false) (dG (qy (aa 0 rfl) (aa 1 rfl)) (decide_eq_false (by omega))) fun _=>(uT (dG (GY (aa 0 rfl) (aa 2 rfl)) (decide_eq_false (by omega)))))) (fun h=>nomatch h) (fun h=>dn))⟩
theorem Bm (T:Txt K mg t):MF P w K mg base CX 5 t.ar "enter" 2 (Mz t):=by
 refine⟨T.aN.cl,_,_,_,iQ T.iK.F tf rfl fun bc A outer s H E G ds r hr hl hR=>?_,T.eC,T.iK.b⟩
 obtain⟨six,rows,wd,l,ls,n,age,rfl,ok,pT,lK,rfl⟩:=hR
 have Yf:=UH (P:=P) (w:=w) (base:=base) T
 have CM:=FP (P:=P) (w:=w) (base:=base) T
 have e2:ls.length=2:=by have:=congrArg abf pT;simpa [sC] using this
 exact⟨_,oM (nm:=["tallies","lengths"]) (by rw[e2];exact aac 2),ah (qu (b8 Yf ax hr (ae (aa 1 rfl) (ae aj (ae (jW (w:=.int 200) T.zo ⟨_,rfl⟩ fun _=>.int 200) ai))) ⟨_,_,_,rfl,by omega,by omega,rfl⟩))
   (ao (qF (m:=age+1) (tl:=[.val (.int ((age:Nat):Int))]) (bE (fs:=t.jO six rows wd l ls n) (aa 0 rfl) CM ax hr (ae (aa 1 rfl) ai) ⟨six,rows,wd,l,ls,n,age,rfl,ok,pT,by omega,rfl⟩)))⟩
theorem MA (T:Txt K mg t):MF P w K mg base CX 6 t.ar "length" 2 (QY t):=by
 refine⟨T.aN.cl,_,_,_,iQ T.gQ.F rZ rfl fun bc A outer s H E G ds r hr hl hR=>?_,T.dW,T.gQ.b⟩
 obtain⟨six,rows,wd,l,ls,n,age,rfl,ok,pT,lK,rfl⟩:=hR
 have JD:=Bm (P:=P) (w:=w) (base:=base) T
 have hu:(A.deeper (envOfC "Growth.length" (af cY) s.heap.objs.size t.cn bc)).units+1 < cLine:=by have:=hr.units;omega
 have w8:=ok.w8
 have e3:((wd.filter fun _=>true).map fun x=>Dt.int (lT rows age x))=(wd.map (lT rows age)).map Dt.int:=by
   rw[aaC.mpr (fun _ _=>rfl),aam];rfl
 exact⟨_,.rt _,ah (qF (m:=age+1) (tl:=[.val (.int ((age:Nat):Int))]) (bE (fs:=t.jO six rows wd l ls n) (aa 0 rfl) JD ax hr (ae (aa 1 rfl) ai) ⟨six,rows,wd,l,ls,n,age,rfl,ok,pT,by omega,rfl⟩))
   (ao (aF (Hz T.A4 rfl (g9 e3 (ig wd (fun x=>Dt.str (sg x)) (fun x=>Dt.int (lT rows age x)) (fun x=>[.val (.str (sg x))]) (fun _=>true) rfl (cI NR) (ij (aG (fs:=t.jO six rows wd l ls (age+1)) (aa 0 rfl) T.aN.cl T.fB rfl)) (dc (cI NR) rfl) (dm (de ok.asc) (gX wd)) (fun a _=>d9) (.nil fun _ _=>rfl)
     (fun a ha _ C fp s' H' G'=>kO hu (Cc (n:=age+1) (j:=1) (f:=zF rows) (aG (fs:=t.jO six rows wd l ls (age+1)) (aa 1 rfl) T.aN.cl T.cf rfl) (aa 2 rfl) (by rw[pT];rfl) (by omega) (by omega)) (aa 0 rfl) (by rw[NM];exact lF (ok.wm a ha)) (fun _ _=>rfl)) (rb (by omega)))))))⟩
theorem zG (T:Txt K mg t):MF P w K mg base CX 1 t.ar "rules_told" 1 (QZ t):=by
 refine⟨T.aN.cl,_,_,_,iQ T.dB.F nX rfl fun bc A outer s H E G ds r hr hl hR=>?_,T.cD,T.dB.b⟩
 obtain⟨six,rows,wd,l,ls,n,rfl,rfl⟩:=hR
 exact⟨_,.rt _,ao (aF (aG (fs:=t.jO six rows wd l ls n) (aa 0 rfl) T.aN.cl T.cu rfl))⟩
theorem JE (B:List Nat)(f g:Nat->Int):(B.map fun b=>f b+g b).sum=(B.map f).sum+(B.map g).sum:=by
 induction B with
 | nil=>rfl
 | cons b B ih=>rw[aao,abn,ih,aao,abn,aao,abn];omega
theorem JF (B:List Nat):(B.map fun _=>(0:Int)).sum=0:=by
 induction B with
 | nil=>rfl
 | cons b B ih=>rw[aao,abn,ih];rfl
theorem FQ (A B:List Nat)(f:Nat->Nat->Int):(A.map fun a=>(B.map fun b=>f a b).sum).sum=(B.map fun b=>(A.map fun a=>f a b).sum).sum:=by
 induction A with
 | nil=>exact(JF B).symm
 | cons a A ih=>
   rw[aao,abn,ih,<- JE]
   rfl
noncomputable def gP (rows:List Row):Nat->Nat->List Nat
 | 0,c=>[c]
 | r+1,c=>(wordOf rows c).flatMap (gP rows r)
theorem Yg (rows:List Row)(r c:Nat):lT rows (r+1) c=((wordOf rows c).map (lT rows r)).sum:=by
 unfold lT
 exact(FQ (wordOf rows c) (rows.map (·.c)) fun y x=>cT rows r y x).symm
theorem i8 {rows:List Row}(ok:bg rows){c:Nat}(hc:c∈rows.map (·.c)):(∀ y∈wordOf rows c,y∈rows.map (·.c))/\0 < (wordOf rows c).length/\(wordOf rows c).length<=8:=by
 obtain⟨q,hq,_,_,ew⟩:=iO hc
 rw[ew]
 exact⟨ok.wo q hq,ok.wp q hq⟩
theorem v5 {f:Nat->List Nat}{g:Nat->Int}:∀ {w:List Nat},(∀ y∈w,(((f y).length:Nat):Int)=g y)->(((w.flatMap f).length:Nat):Int)=(w.map g).sum
 | [],_=>rfl
 | y::w,h=>by
   rw[abj,aas,aao,abn,<- h y (by simp),<- v5 (f:=f) (g:=g) fun z hz=>h z (by simp[hz])]
   omega
theorem CN {rows:List Row}(ok:bg rows):∀ (r:Nat) {c:Nat},c∈rows.map (·.c)->(((gP rows r c).length:Nat):Int)=lT rows r c
 | 0,c,hc=>by rw[UA ok hc];rfl
 | r+1,c,hc=>by
   rw[Yg]
   exact v5 fun y hy=>CN ok r ((i8 ok hc).1 y hy)
theorem JG {rows:List Row}(ok:bg rows):∀ (r:Nat) {c:Nat},c∈rows.map (·.c)->0 < (gP rows r c).length
 | 0,c,hc=>by show 0 < [c].length;simp
 | r+1,c,hc=>by
   obtain⟨h1,h2,_⟩:=i8 ok hc
   show 0 < ((wordOf rows c).flatMap (gP rows r)).length
   cases hw:wordOf rows c with
   | nil=>rw[hw] at h2;simp at h2
   | cons y w=>
     have:=JG ok r (h1 y (by rw[hw];simp))
     rw[abj,aas];omega
noncomputable abbrev Pc:=Nat×Nat
noncomputable def tN (p:Pc):Dt:=.tup [.int ((p.1:Nat):Int),.str (sg p.2)]
noncomputable def flat (rows:List Row)(st:List Pc):List Nat:=st.flatMap fun p=>gP rows p.1 p.2
noncomputable def wp (r:Nat)(w:List Nat):List Pc:=w.map fun c=>(r,c)
theorem Bo (rows:List Row)(a b:List Pc):flat rows (a ++ b)=flat rows a ++ flat rows b:=List.flatMap_append
theorem zH (rows:List Row)(r:Nat)(w:List Nat):flat rows (wp r w)=w.flatMap (gP rows r):=by unfold flat wp;rw[List.flatMap_map]
theorem UI (rows:List Row)(p:Pc):flat rows [p]=gP rows p.1 p.2:=by unfold flat;simp
theorem xS (rows:List Row)(p:Pc)(st:List Pc):flat rows (p::st)=gP rows p.1 p.2 ++ flat rows st:=by unfold flat;rw[abj]
structure PS where
 place:Nat
 st:List Pc
 bt:List Pc
noncomputable def oh (rows:List Row)(b e:Nat)(s:PS):PS:=match s.st with
 | []=>s
 | p::st=>
   if s.place+(gP rows p.1 p.2).length<=b then ⟨s.place+(gP rows p.1 p.2).length,st,s.bt⟩
   else if b<=s.place/\s.place+(gP rows p.1 p.2).length<=e then ⟨s.place+(gP rows p.1 p.2).length,st,s.bt ++ [p]⟩
   else ⟨s.place,wp (p.1 - 1) (wordOf rows p.2) ++ st,s.bt⟩
noncomputable def run (rows:List Row)(b e:Nat)(s:PS):Nat->PS
 | 0=>s
 | k+1=>oh rows b e (run rows b e s k)
theorem JH (rows:List Row)(b e:Nat)(s:PS):∀ k,run rows b e s (k+1)=run rows b e (oh rows b e s) k
 | 0=>rfl
 | k+1=>by
   show oh rows b e (run rows b e s (k+1))=oh rows b e (run rows b e (oh rows b e s) k)
   rw[JH rows b e s k]
structure RL (rows:List Row)(age b e:Nat)(W:List Nat)(s:PS):Prop where
 be:b<=e
 ew:e<=W.length
 pe:s.place<=e
 fl:flat rows s.st=W.drop s.place
 fb:flat rows s.bt=(W.take s.place).drop b
 mb:∀ p∈s.st,p.2∈rows.map (·.c)/\p.1<=age
 mt:∀ p∈s.bt,p.2∈rows.map (·.c)/\p.1<=age
noncomputable def ins (b p q:Nat):Nat:=if p < b/\b < q then 1 else 0
theorem JI (b p q:Nat):ins b p q<=1:=by unfold ins;split <;> omega
theorem Eb (b:Nat){p q r:Nat}(h1:p<=q)(h2:q<=r):ins b p q+ins b q r<=ins b p r:=by
 unfold ins
 split <;> split <;> split <;> omega
noncomputable def mu (rows:List Row)(b e:Nat):Nat->List Pc->Nat
 | _,[]=>0
 | p,x::st=>1+8 * x.1 * (ins b p (p+(gP rows x.1 x.2).length)+ins e p (p+(gP rows x.1 x.2).length))+mu rows b e (p+(gP rows x.1 x.2).length) st
theorem JJ (rows:List Row)(b e:Nat):∀ (p:Nat) (st:List Pc),st.length<=mu rows b e p st
 | _,[]=>aac 0
 | p,x::st=>by
   have:=JJ rows b e (p+(gP rows x.1 x.2).length) st
   rw[mu,aaI];omega
theorem JK (rows:List Row)(b e r:Nat)(st:List Pc):∀ (p:Nat) (w:List Nat),mu rows b e p (wp r w ++ st)<=w.length+8 * r * (ins b p (p+(flat rows (wp r w)).length)+ins e p (p+(flat rows (wp r w)).length))+mu rows b e (p+(flat rows (wp r w)).length) st
 | p,[]=>by
   show mu rows b e p st<=_
   have:p+(flat rows (wp r [])).length=p:=rfl
   rw[this];omega
 | p,c::w=>by
   have ih:=JK rows b e r st (p+(gP rows r c).length) w
   have el:p+(flat rows (wp r (c::w))).length=p+(gP rows r c).length+(flat rows (wp r w)).length:=by
     show p+(flat rows ((r,c)::wp r w)).length=_
     rw[xS,aas];exact(Nat.add_assoc _ _ _).symm
   rw[el]
   have c1:=Eb b (abq p (gP rows r c).length) (abq (p+(gP rows r c).length) (flat rows (wp r w)).length)
   have c2:=Eb e (abq p (gP rows r c).length) (abq (p+(gP rows r c).length) (flat rows (wp r w)).length)
   have m:=Nat.mul_le_mul_left (8 * r) (Nat.add_le_add c1 c2)
   have m2:8 * r * (ins b p (p+(gP rows r c).length)+ins e p (p+(gP rows r c).length))+8 * r * (ins b (p+(gP rows r c).length) (p+(gP rows r c).length+(flat rows (wp r w)).length)+ins e (p+(gP rows r c).length) (p+(gP rows r c).length+(flat rows (wp r w)).length))<=8 * r * (ins b p (p+(gP rows r c).length+(flat rows (wp r w)).length)+ins e p (p+(gP rows r c).length+(flat rows (wp r w)).length)):=by
     rw[<- Nat.mul_add]
     refine aav (Nat.mul_le_mul_left _ ?_) m
     omega
   show mu rows b e p ((r,c)::(wp r w ++ st))<=_
   rw[mu,aaI]
   show 1+8 * r * (ins b p (p+(gP rows r c).length)+ins e p (p+(gP rows r c).length))+mu rows b e (p+(gP rows r c).length) (wp r w ++ st)<=_
   omega
theorem CO {rows:List Row}(ok:bg rows){age b e:Nat}{W:List Nat}{s:PS}(I:RL rows age b e W s)(hp:s.place < e):RL rows age b e W (oh rows b e s)/\mu rows b e (oh rows b e s).place (oh rows b e s).st < mu rows b e s.place s.st/\(oh rows b e s).bt.length+mu rows b e (oh rows b e s).place (oh rows b e s).st<=s.bt.length+mu rows b e s.place s.st/\∃ p st,s.st=p::st/\(¬ s.place+(gP rows p.1 p.2).length<=b->¬ (b<=s.place/\s.place+(gP rows p.1 p.2).length<=e)->0 < p.1):=by
 obtain⟨be,ew,pe,fl,fb,mb,mt⟩:=I
 obtain⟨place,st,bt⟩:=s
 simp only at pe fl fb mb mt hp ⊢
 cases st with
 | nil=>
   have:=congrArg abf fl
   rw[aaW] at this
   have z:(flat rows []).length=0:=rfl
   omega
 | cons p st=>
   rw[xS] at fl
   have UJ:=JG ok p.1 (mb p (by simp)).1
   have pK:∀ x∈st,x.2∈rows.map (·.c)/\x.1<=age:=fun x hx=>mb x (by simp[hx])
   have hlen:=congrArg abf fl
   rw[aaW,aas] at hlen
   have Z3:flat rows st=W.drop (place+(gP rows p.1 p.2).length):=by
     rw[<- List.drop_drop,<- fl,List.drop_left]
   have ft:W.take (place+(gP rows p.1 p.2).length)=W.take place ++ gP rows p.1 p.2:=by
     rw[List.take_add,<- fl,List.take_left]
   have AI:(¬ place+(gP rows p.1 p.2).length<=b->¬ (b<=place/\place+(gP rows p.1 p.2).length<=e)->0 < p.1):=fun h1 h2=>by
     rcases Nat.eq_zero_or_pos p.1 with z | z
     . rw[z] at h1 h2
       have e1:(gP rows 0 p.2).length=1:=rfl
       rw[e1] at h1 h2
       omega
     . exact z
   refine⟨?_,?_,?_,p,st,rfl,AI⟩
   . unfold oh
     simp only
     split
     . rename_i h
       refine⟨be,ew,by show place+_<=e;omega,Z3,?_,pK,mt⟩
       have n1:(W.take place).drop b=[]:=List.drop_eq_nil_of_le (by rw[aat];omega)
       have n2:(W.take (place+(gP rows p.1 p.2).length)).drop b=[]:=List.drop_eq_nil_of_le (by rw[aat];omega)
       show flat rows bt=(W.take (place+(gP rows p.1 p.2).length)).drop b
       rw[fb,n1,n2]
     . split
       . rename_i h1 h2
         refine⟨be,ew,h2.2,Z3,?_,pK,fun x hx=>?_⟩
         . show flat rows (bt ++ [p])=(W.take (place+(gP rows p.1 p.2).length)).drop b
           rw[Bo,UI,fb,ft,List.drop_append_of_le_length (by rw[aat];omega)]
         . rcases abd.mp hx with hx | hx
           . exact mt x hx
           . have:x=p:=by simpa using hx
             rw[this];exact mb p (by simp)
       . rename_i h1 h2
         have hz:=AI h1 h2
         refine⟨be,ew,pe,?_,fb,fun x hx=>?_,mt⟩
         . show flat rows (wp (p.1 - 1) (wordOf rows p.2) ++ st)=_
           rw[Bo,zH,<- fl]
           congr 1
           obtain⟨r,hr⟩:∃ r,p.1=r+1:=⟨p.1 - 1,by omega⟩
           rw[hr];rfl
         . rcases abd.mp hx with hx | hx
           . obtain⟨y,hy,rfl⟩:=aaM.mp hx
             exact⟨(i8 ok (mb p (by simp)).1).1 y hy,by have:=(mb p (by simp)).2;show p.1 - 1<=age;omega⟩
           . exact pK x hx
   all_goals
     unfold oh
     simp only
     rw[mu]
     split
     . show _;simp only;omega
     . split
       . simp only[aas,List.length_singleton];omega
       . rename_i h1 h2
         have hz:=AI h1 h2
         have hw8:=(i8 ok (mb p (by simp)).1).2.2
         have key:=JK rows b e (p.1 - 1) st place (wordOf rows p.2)
         have ef:(flat rows (wp (p.1 - 1) (wordOf rows p.2))).length=(gP rows p.1 p.2).length:=by
           rw[zH]
           obtain⟨r,hr⟩:∃ r,p.1=r+1:=⟨p.1 - 1,by omega⟩
           rw[hr];rfl
         rw[ef] at key
         have hI:1<=ins b place (place+(gP rows p.1 p.2).length)+ins e place (place+(gP rows p.1 p.2).length):=by
           unfold ins
           split <;> split <;> omega
         generalize ins b place (place+(gP rows p.1 p.2).length)+ins e place (place+(gP rows p.1 p.2).length)=J at key hI ⊢
         have m:8+8 * (p.1 - 1) * J<=8 * p.1 * J:=by
           obtain⟨r,hr⟩:∃ r,p.1=r+1:=⟨p.1 - 1,by omega⟩
           rw[hr,Nat.add_sub_cancel,Nat.mul_add,Nat.add_mul]
           omega
         simp only
         omega
theorem CP {rows:List Row}(ok:bg rows){age b e:Nat}{W:List Nat}{s:PS}(I:RL rows age b e W s){n:Nat}(h:∀ k,k < n->(run rows b e s k).place < e):∀ k,k<=n->RL rows age b e W (run rows b e s k)/\(run rows b e s k).bt.length+mu rows b e (run rows b e s k).place (run rows b e s k).st<=s.bt.length+mu rows b e s.place s.st
 | 0,_=>⟨I,aac _⟩
 | k+1,hk=>by
   obtain⟨i1,i2⟩:=CP ok I h k (by omega)
   obtain⟨j1,_,j3,_⟩:=CO ok i1 (h k (by omega))
   exact⟨j1,aav j3 i2⟩
theorem Bp {rows:List Row}(ok:bg rows){age b e:Nat}{W:List Nat}:∀ (m:Nat) {s:PS},RL rows age b e W s->mu rows b e s.place s.st<=m->∃ n,e<=(run rows b e s n).place/\∀ k,k < n->(run rows b e s k).place < e
 | m,s,I,hm=>by
   by_cases hp:s.place < e
   . obtain⟨j1,j2,_⟩:=CO ok I hp
     cases m with
     | zero=>omega
     | succ m=>
       obtain⟨n,h1,h2⟩:=Bp ok m j1 (by omega)
       refine⟨n+1,by rw[JH];exact h1,fun k hk=>?_⟩
       cases k with
       | zero=>exact hp
       | succ k=>rw[JH];exact h2 k (by omega)
   . exact⟨0,by show e<=s.place;omega,fun k hk=>by omega⟩
noncomputable def k7 (rows:List Row)(w:List Nat)(age:Nat):List Nat:=w.flatMap (gP rows age)
noncomputable def xc (w:List Nat)(age:Nat):PS:=⟨0,wp age w,[]⟩
theorem CQ {rows:List Row}{w:List Nat}(ok:my rows w){age b e:Nat}(be:b<=e)(ew:e<=(k7 rows w age).length):RL rows age b e (k7 rows w age) (xc w age):=
 ⟨be,ew,aaQ _,zH rows age w,by show []=(List.take 0 _).drop b;simp,fun p hp=>by
   obtain⟨y,hy,rfl⟩:=aaM.mp hp
   exact⟨ok.wm y hy,aac _⟩,fun p hp=>by cases hp⟩
theorem JL {rows:List Row}{w:List Nat}(ok:my rows w){age b e:Nat}(ha:age<=200):mu rows b e (xc w age).place (xc w age).st<=4000:=by
 have key:=JK rows b e age [] 0 w
 rw[aaS] at key
 have w8:=ok.w8
 have i1:=JI b 0 (0+(flat rows (wp age w)).length)
 have i2:=JI e 0 (0+(flat rows (wp age w)).length)
 have m:8 * age * (ins b 0 (0+(flat rows (wp age w)).length)+ins e 0 (0+(flat rows (wp age w)).length))<=8 * 200 * 2:=Nat.mul_le_mul (by omega) (by omega)
 have z:mu rows b e (0+(flat rows (wp age w)).length) []=0:=rfl
 show mu rows b e 0 (wp age w)<=4000
 omega
theorem MB {rows:List Row}{w:List Nat}(ok:my rows w)(age:Nat):(((k7 rows w age).length:Nat):Int)=Z2 rows w age:=v5 fun y hy=>CN ok.ok age (ok.wm y hy)
def Q0:Rl:=fun ds r=>∃ (w:List Nat) (n:Nat),ds=[.str (tx w),.int ((n:Nat):Int)]/\w.length<=1000/\r=.own (.lst ((wp n w).reverse.map tN))
noncomputable abbrev Q1:Stmt->Scope
 | .Return (some (.ListComp _ _ sc _)) _=>sc
 | _=>af (.Pass ⟨0,0,0,0⟩)
noncomputable abbrev UK:Scope:=Q1 ((aB dH).getD 0 (.Pass ⟨0,0,0,0⟩))
theorem NS:iT UK (af dH) md ["letter","rounds"] ["letter"] [1]=true:=by decide +kernel
def JM (t:dJ):Rl:=fun ds r=>∃ six rows w l ls N age b e n,ds=[.obj t.ar (t.jO six rows w l ls N),.int ((age:Nat):Int),.int ((b:Nat):Int),.int ((e:Nat):Int)]/\(my rows w/\ls.map (·.2)=sC rows/\age < N/\N<=1000/\age<=200)/\(b<=e/\e<=(k7 rows w age).length)/\(e<=(run rows b e (xc w age) n).place/\∀ k,k < n->(run rows b e (xc w age) k).place < e) /\
 r=.own (.lst ((run rows b e (xc w age) n).bt.map tN))
theorem MC (T:Txt K mg t):GF P w K mg base CX 1 "waiting_pieces" 2 Q0:=by
 refine⟨_,_,_,iQ T.cM.F qJ rfl fun bc A outer s H E G ds r hr hl hR=>?_,(T.g T.cM.a),T.cM.F.kp,T.cM.b⟩
 obtain⟨wd,n,rfl,hw,rfl⟩:=hR
 have e1:(wd.reverse.map fun x=>Dt.str (sg x))=(Sg.signs (tx wd)).reverse:=by rw[<- gX,List.map_reverse]
 have e2:((wd.reverse.filter fun _=>true).map fun x=>Dt.tup [.int ((n:Nat):Int),.str (sg x)])=(wp n wd).reverse.map tN:=by
   rw[aaC.mpr (fun _ _=>rfl)]
   unfold wp
   rw[<- List.map_reverse,aam];rfl
 exact⟨_,.ro _,ao (mH (Dr (ig wd.reverse (fun x=>Dt.str (sg x)) (fun x=>Dt.tup [.int ((n:Nat):Int),.str (sg x)]) (fun x=>[.val (.str (sg x))]) (fun _=>true) rfl (cI NS) (LL T.p9 (ae (aa 0 rfl) ai)) (dc (cI NS) rfl) (dm (Fq (by rw[gh];omega)) e1) (fun a _=>d9) (.nil fun _ _=>rfl)
   (fun a ha _ C fp s' H' G'=>cB (ae (aa 1 rfl) (ae (aa 0 rfl) ai)) AA3) (rb (by rw[abw];omega))) (congrArg Own.lst e2)))⟩
theorem FR (T:Txt K mg t):MF P w K mg base CX 4 t.ar "pieces" 4 (JM t):=by
 refine⟨T.aN.cl,_,_,_,iQ T.gR.F mf rfl fun bc A outer s H E G ds r hr hl hR=>?_,T.dX,T.gR.b⟩
 obtain⟨six,rows,wd,l,ls,N,age,b,e,n,rfl,⟨ok,pT,hN,hN1,lK⟩,⟨zR,JN⟩,⟨hen,cX⟩,rfl⟩:=hR
 have JO:=MC (P:=P) (w:=w) (base:=base) T
 have v3:=vL (P:=P) (w:=w) (base:=base) T
 have nd:=mf.nd
 have hu:(A.deeper (envOfC "Growth.pieces" (af gA) s.heap.objs.size t.cq bc)).units+1 < cLine:=by have:=hr.units;omega
 have w8:=ok.w8
 let R:Nat->PS:=run rows b e (xc wd age)
 have PB:=CP ok.ok (CQ ok zR JN) cX
 have h0:(xc wd age).bt.length+mu rows b e (xc wd age).place (xc wd age).st<=4000:=by
   have:=JL ok (b:=b) (e:=e) lK
   show 0+_<=_;omega
 have hsz:∀ k,k<=n->(R k).bt.length<=4000/\(R k).st.length<=4000:=fun k hk=>by
   have h1:=(PB k hk).2
   have h2:=JJ rows b e (run rows b e (xc wd age) k).place (run rows b e (xc wd age) k).st
   exact⟨by show(run rows b e (xc wd age) k).bt.length<=4000;omega,by show(run rows b e (xc wd age) k).st.length<=4000;omega⟩
 have Z4:∀ {m:Nat},m<=8000->m < sizeLine:=fun h=>aaH h (by decide)
 let sf:Dt:=.obj t.ar (t.jO six rows wd l ls N)
 let S:Nat->List Slot:=fun k=>[.val sf,.val (.int ((age:Nat):Int)),.val (.int ((b:Nat):Int)),.val (.int ((e:Nat):Int)),.own (.lst ((R k).bt.map tN)),.own (.lst ((R k).st.reverse.map tN)),.val (.int (((R k).place:Nat):Int)),.aY,.aY,.aY]
 refine⟨_,.ro _,ah (jX 4 nd (uY ai AA3)) (ah (jX 5 nd (sM JO ax hr (ae (aG (fs:=t.jO six rows wd l ls N) (aa 0 rfl) T.aN.cl T.fB rfl) (ae (aa 1 rfl) ai)) ⟨wd,age,rfl,by omega,rfl⟩))
   (ah (aw 6 nd aj) (ah (dl1:=S n) (Aw S n PassesOwn.leaving (Le.of ⟨rfl,rfl,rfl,rfl,rfl,rfl,rfl,trivial⟩) (fun k hk=>dG (qy (aa 6 rfl) (aa 3 rfl)) (decide_eq_true ?c1)) (dG (qy (aa 6 rfl) (aa 3 rfl)) (decide_eq_false ?c2)) (fun k hk=>?body)) (ao (yt 4)))))⟩
 case c1=>have:=cX k hk;show(((run rows b e (xc wd age) k).place:Nat):Int) < _;omega
 case c2=>show ¬ (((run rows b e (xc wd age) n).place:Nat):Int) < _;omega
 case body=>
   have Ry:=cX k hk
   obtain⟨Ik,_⟩:=PB k (aa5 hk)
   obtain⟨_,_,_,p,st,es,AI⟩:=CO ok.ok Ik Ry
   have eR:R (k+1)=oh rows b e (R k):=rfl
   obtain⟨F7,sH⟩:=hsz k (aa5 hk)
   have KI:(R k).st=p::st:=es
   have Ga:=Ik.mb p (by rw[es];simp)
   have UJ:p.1 < N:=by omega
   have hg:=CN ok.ok p.1 Ga.1
   have Yh:(R k).st.reverse.map tN=st.reverse.map tN ++ [tN p]:=by rw[KI,List.reverse_cons,aaP];rfl
   have acL:st.length<=4000:=by have:=congrArg abf KI;rw[aaI] at this;omega
   let q:Nat:=(R k).place+(gP rows p.1 p.2).length
   have eq:(((R k).place:Nat):Int)+lT rows p.1 p.2=((q:Nat):Int):=by rw[<- hg];show _=(((R k).place+(gP rows p.1 p.2).length:Nat):Int);omega
   let U:List Slot:=[.val sf,.val (.int ((age:Nat):Int)),.val (.int ((b:Nat):Int)),.val (.int ((e:Nat):Int)),.own (.lst ((R k).bt.map tN)),.own (.lst (st.reverse.map tN)),.val (.int (((R k).place:Nat):Int)),.val (tN p),.val (.int ((p.1:Nat):Int)),.val (.int ((q:Nat):Int))]
   have hS:S k=[.val sf,.val (.int ((age:Nat):Int)),.val (.int ((b:Nat):Int)),.val (.int ((e:Nat):Int)),.own (.lst ((R k).bt.map tN)),.own (.lst (st.reverse.map tN ++ [tN p])),.val (.int (((R k).place:Nat):Int)),.aY,.aY,.aY]:=by
     show [_,_,_,_,_,Slot.own (.lst ((R k).st.reverse.map tN)),_,_,_,_]=_
     rw[Yh]
   rw[hS]
   refine .nx (dl':=[.val sf,.val (.int ((age:Nat):Int)),.val (.int ((b:Nat):Int)),.val (.int ((e:Nat):Int)),.own (.lst ((R (k+1)).bt.map tN)),.own (.lst ((R (k+1)).st.reverse.map tN)),.val (.int (((R (k+1)).place:Nat):Int)),.val (tN p),.val (.int ((p.1:Nat):Int)),.val (.int ((q:Nat):Int))]) (ah (Qg (ds:=st.reverse.map tN) (d:=tN p) 7 5 nd rfl) (ah (aw 8 nd (aD (aa 7 rfl) aj rfl)) (ah (dl1:=U) (aw 9 nd (bR (aL (aa 6 rfl) (kO hu (Cc (n:=N) (j:=1) (f:=zF rows) (aG (fs:=t.jO six rows wd l ls N) (aa 0 rfl) T.aN.cl T.cf rfl) (aa 8 rfl) (by rw[pT];rfl) UJ hN1) (aD (aa 7 rfl) aj rfl) (by rw[NM];exact lF Ga.1) (fun _ _=>rfl))) (congrArg Dt.int eq)))
     (ao (cN (u:=decide (q<=b)) (dG (pq (aa 9 rfl) (aa 2 rfl)) (decide_eq_decide.mpr (Int.ofNat_le (m:=q) (n:=b)))) (fun h=>?b1) (fun h=>ao (cN (u:=decide (b<=(R k).place/\q<=e)) ?cc (fun h'=>?b2) (fun h'=>?b3)))))))) (Le.of ⟨rfl,rfl,rfl,rfl,rfl,rfl,rfl,trivial⟩)
   case b1=>
     have h:q<=b:=of_decide_eq_true h
     have e1:R (k+1)=⟨q,st,(R k).bt⟩:=by rw[eR];unfold oh;rw[KI];exact if_pos h
     rw[e1]
     exact ao (aw 6 nd (aa 9 rfl))
   case cc=>
     by_cases h1:b<=(R k).place
     . by_cases h2:q<=e
       . rw[decide_eq_true (⟨h1,h2⟩:b<=(R k).place/\q<=e)]
         exact sS (nK (u:=true) (v:=true) (dG (pq (aa 2 rfl) (aa 6 rfl)) (decide_eq_true (by omega))) fun _=>qt (dG (pq (aa 9 rfl) (aa 3 rfl)) (decide_eq_true (by omega))))
       . rw[decide_eq_false (fun z:b<=(R k).place/\q<=e=>h2 z.2)]
         exact sS (nK (u:=true) (v:=false) (dG (pq (aa 2 rfl) (aa 6 rfl)) (decide_eq_true (by omega))) fun _=>qt (dG (pq (aa 9 rfl) (aa 3 rfl)) (decide_eq_false (by omega))))
     . rw[decide_eq_false (fun z:b<=(R k).place/\q<=e=>h1 z.1)]
       exact sS (nK (u:=false) (v:=false) (dG (pq (aa 2 rfl) (aa 6 rfl)) (decide_eq_false (by omega))) fun z=>nomatch z)
   case b2=>
     have h:¬ q<=b:=of_decide_eq_false h
     have h':=of_decide_eq_true h'
     have e1:R (k+1)=⟨q,st,(R k).bt ++ [p]⟩:=by rw[eR];unfold oh;rw[KI];exact(if_neg h).trans (if_pos h')
     rw[e1]
     show l4 _ _ _ _ _ (.nx [_,_,_,_,.own (.lst (((R k).bt ++ [p]).map tN)),_,_,_,_,_])
     rw[aaP]
     exact ah (rM (ds:=(R k).bt.map tN) 4 (aa 7 rfl) (by rw[Bn];exact Z4 (by omega))) (ao (aw 6 nd (aa 9 rfl)))
   case b3=>
     have h:¬ q<=b:=of_decide_eq_false h
     have h':=of_decide_eq_false h'
     have hz:=AI h h'
     have e1:R (k+1)=⟨(R k).place,wp (p.1 - 1) (wordOf rows p.2) ++ st,(R k).bt⟩:=by rw[eR];unfold oh;rw[KI];exact(if_neg h).trans (if_neg h')
     rw[e1]
     have hw:=i8 ok.ok Ga.1
     show l4 _ _ _ _ _ (.nx [_,_,_,_,_,.own (.lst ((wp (p.1 - 1) (wordOf rows p.2) ++ st).reverse.map tN)),_,_,_,_])
     rw[List.reverse_append,aaP]
     exact ao (Fd (ds:=st.reverse.map tN) 5 (pv (sM JO ax hr (ae (bE (fs:=t.ur six rows) (aG (fs:=t.jO six rows wd l ls N) (aa 0 rfl) T.aN.cl T.cu rfl) v3 ax hr (ae (aD (aa 7 rfl) aj rfl) ai) ⟨six,rows,p.2,rfl,ok.ok,Ga.1,rfl⟩) (ae (bR (ib (aa 8 rfl) aj) (congrArg Dt.int (show((p.1:Nat):Int) - 1=((p.1 - 1:Nat):Int) by omega))) ai)) ⟨wordOf rows p.2,p.1 - 1,rfl,by omega,rfl⟩)) (by
       rw[Bn,Bn,abw,abw]
       show st.length+((wordOf rows p.2).map fun c=>(p.1 - 1,c)).length<=_
       rw[Bn]
       exact aa5 (Z4 (by omega))))
noncomputable def grow (rows:List Row)(w:List Nat):List Nat:=(w.map (wordOf rows)).flatten
theorem JP (rows:List Row)(a b:List Nat):grow rows (a ++ b)=grow rows a ++ grow rows b:=by
 unfold grow;rw[aaP,aby]
theorem zI (rows:List Row)(f:Nat->List Nat):∀ w:List Nat,grow rows (w.flatMap f)=w.flatMap fun y=>grow rows (f y)
 | []=>rfl
 | y::w=>by rw[abj,abj,JP,zI rows f w]
theorem Ec (rows:List Row):∀ (r c:Nat),grow rows (gP rows r c)=gP rows (r+1) c
 | 0,c=>by
   show [wordOf rows c].flatten=(wordOf rows c).flatMap fun y=>[y]
   simp
 | r+1,c=>by
   show grow rows ((wordOf rows c).flatMap (gP rows r))=_
   rw[zI]
   show _=(wordOf rows c).flatMap (gP rows (r+1))
   congr 1
   funext y
   exact Ec rows r y
theorem Bq (rows:List Row)(w:List Nat)(n:Nat):grow rows (k7 rows w n)=k7 rows w (n+1):=by
 unfold k7
 rw[zI]
 congr 1
 funext y
 exact Ec rows n y
theorem Ed (rows:List Row)(w:List Nat):k7 rows w 0=w:=by
 show w.flatMap (fun y=>[y])=w
 simp
theorem ux {rows:List Row}(ok:bg rows){w:List Nat}(h:∀ x∈w,x∈rows.map (·.c)):∀ n,∀ x∈k7 rows w n,x∈rows.map (·.c)
 | 0=>by rw[Ed];exact h
 | n+1=>fun x hx=>by
   rw[<- Bq] at hx
   obtain⟨l,hl,hx⟩:=List.mem_flatten.mp hx
   obtain⟨y,hy,rfl⟩:=aaM.mp hl
   exact(i8 ok (ux ok h n y hy)).1 x hx
theorem uy {rows:List Row}(ok:bg rows):∀ {w:List Nat},(∀ x∈w,x∈rows.map (·.c))->w.length<=(grow rows w).length/\(grow rows w).length<=8 * w.length
 | [],_=>⟨aaQ _,aaQ _⟩
 | x::w,h=>by
   have ih:=uy ok (w:=w) fun y hy=>h y (aaG _ hy)
   have hw:=i8 ok (h x (aa3 ..))
   have e:(grow rows (x::w)).length=(wordOf rows x).length+(grow rows w).length:=by
     show((wordOf rows x::w.map (wordOf rows)).flatten).length=_
     rw[aaZ,aas];rfl
   rw[e,aaI];omega
theorem JQ {rows:List Row}(ok:bg rows){w:List Nat}(h:∀ x∈w,x∈rows.map (·.c))(n:Nat):∀ k,(k7 rows w n).length<=(k7 rows w (n+k)).length
 | 0=>aac _
 | k+1=>aav (JQ ok h n k) (by rw[<- Nat.add_assoc,<- Bq];exact(uy ok (ux ok h (n+k))).1)
theorem JR {rows:List Row}(ok:bg rows){w:List Nat}(h:∀ x∈w,x∈rows.map (·.c)){n m:Nat}(hm:n<=m):(k7 rows w n).length<=(k7 rows w m).length:=by
 have:=JQ ok h n (m - n)
 rwa [Nat.add_sub_cancel' hm] at this
noncomputable abbrev FT (t:dJ)(six:Bool)(rows:List Row)(w:List Nat)(l:Addr)(ls:iR)(n:Nat):Dt:=.obj t.ar (t.jO six rows w l ls n)
def Yi (t:dJ):Rl:=fun ds r=>∃ six rows w l ls n age z,ds=[FT t six rows w l ls n,.int ((age:Nat):Int),.int z]/\my rows w/\ls.map (·.2)=sC rows/\age<=200/\(0<=z/\z<=((k7 rows w age).length:Nat))/\r=.ret .cy
def Yj (t:dJ):Rl:=fun ds r=>∃ six rows w l ls n age,∃ b e:Nat,ds=[FT t six rows w l ls n,.int ((age:Nat):Int),.int (b:Int),.int (e:Int)]/\my rows w/\ls.map (·.2)=sC rows/\age<=200/\(b<=e/\e<=(k7 rows w age).length)/\r=.ret (.wq l ls (age+1))
noncomputable def cut (W:List Nat)(b e:Nat):List Nat:=(W.take e).drop b
theorem UL (T:Txt K mg t):MF P w K mg base CX 7 t.ar "check_place" 3 (Yi t):=by
 refine⟨T.aN.cl,_,_,_,iQ T.dj.F nB rfl fun bc A outer s H E G ds r hr hl hR=>?_,T.cv,T.dj.b⟩
 obtain⟨six,rows,wd,l,ls,n,age,z,rfl,ok,pT,lK,hz,rfl⟩:=hR
 have UM:=MA (P:=P) (w:=w) (base:=base) T
 have e:=MB ok age
 exact⟨_,.nx _,ao (cN (u:=false) (sS (Am (u:=false) (v:=false) (dG (qy (aa 2 rfl) aj) (decide_eq_false (by omega))) fun _=>(uT (dG (GY (aa 2 rfl) (bE (fs:=t.jO six rows wd l ls n) (aa 0 rfl) UM ax hr (ae (aa 1 rfl) ai) ⟨six,rows,wd,l,ls,n,age,rfl,ok,pT,lK,rfl⟩)) (decide_eq_false (by omega)))))) (fun h=>nomatch h) (fun h=>dn))⟩
theorem UN (T:Txt K mg t):MF P w K mg base CX 8 t.ar "check_stretch" 4 (Yj t):=by
 refine⟨T.aN.cl,_,_,_,iQ T.cE.F me rfl fun bc A outer s H E G ds r hr hl hR=>?_,T.bW,T.cE.b⟩
 obtain⟨six,rows,wd,l,ls,n,age,b,e,rfl,ok,pT,lK,⟨zR,JN⟩,rfl⟩:=hR
 have JD:=Bm (P:=P) (w:=w) (base:=base) T
 have UO:=UL (P:=P) (w:=w) (base:=base) T
 have e2:ls.length=2:=by have:=congrArg abf pT;simpa [sC] using this
 exact⟨_,oM (nm:=["tallies","lengths"]) (tl:=[.val (.int ((age:Nat):Int)),.val (.int (b:Int)),.val (.int (e:Int))]) (by rw[e2];exact aac 2),ah (qF (m:=age+1) (tl:=[.val (.int ((age:Nat):Int)),.val (.int (b:Int)),.val (.int (e:Int))]) (bE (fs:=t.jO six rows wd l ls n) (aa 0 rfl) JD ax hr (ae (aa 1 rfl) ai) ⟨six,rows,wd,l,ls,n,age,rfl,ok,pT,by omega,rfl⟩))
   (ah (qu (bE (fs:=t.jO six rows wd l ls (age+1)) (aa 0 rfl) UO ax hr (ae (aa 1 rfl) (ae (aa 2 rfl) ai)) ⟨six,rows,wd,l,ls,_,age,b,rfl,ok,pT,lK,⟨by omega,by omega⟩,rfl⟩))
   (ah (cN (u:=false) (dG (qy (aa 3 rfl) (aa 2 rfl)) (decide_eq_false (by omega))) (fun h=>nomatch h) (fun h=>dn))
   (ao (qu (bE (fs:=t.jO six rows wd l ls (age+1)) (aa 0 rfl) UO ax hr (ae (aa 1 rfl) (ae (aa 3 rfl) ai)) ⟨six,rows,wd,l,ls,_,age,e,rfl,ok,pT,lK,⟨by omega,by omega⟩,rfl⟩)))))⟩
theorem CS (six:Bool)(w:Int)(p q:Int×Int):jS six w (ad p q)=jS six w p+jS six w q:=by
 unfold jS ad
 cases six
 . simp only[abh,if_false]
   split
   . rfl
   . split
     . rfl
     . split <;> omega
 . simp only[if_true]
   split
   . omega
   . split
     . omega
     . split
       . omega
       . split
         . omega
         . split <;> omega
theorem Br (six:Bool){w:Nat}(h:w < wn six)(b:Int)(p:Int×Int):jS six (((w:Int) - b) % wy six) p=jS six w (tn six (b % wy six).toNat p):=by
 have hw:=xP six
 have h0:=aaE ((w:Int) - b) (abb (eI six))
 have h1:=aaF ((w:Int) - b) (eI six)
 have k:=Jg six h0 h1 b p
 rw[<- k]
 congr 1
 cases six with
 | false=>show(((w:Int) - b) % 4+b) % 4=w;have:w < 4:=h;omega
 | true=>show(((w:Int) - b) % 6+b) % 6=w;have:w < 6:=h;omega
theorem CT (six:Bool)(ns:List Int)(f:Int){w:Nat}(h:w < wn six):(qf six ns f).getD w 0=ns.getD (((w:Int) - f) % wy six).toNat 0:=by
 unfold qf
 rw[WY,aab,aar h];rfl
theorem zJ (six:Bool)(w:Nat)(b:Int):(((w:Int) - b) % wy six).toNat < wn six/\((((w:Int) - b) % wy six).toNat:Int)=((w:Int) - b) % wy six:=by
 have hw:=xP six
 have h0:=aaE ((w:Int) - b) (abb (eI six))
 have h1:=aaF ((w:Int) - b) (eI six)
 omega
theorem m9 {f:Nat->Int}{n k:Nat}(h:k < n):((aag n).map f).getD k 0=f k:=by
 rw[WY,aab,aar h];rfl
noncomputable def Q2 (p q:Int):Int:=if q<=p then p else q
theorem jC (six:Bool)(x y:Tr){w:Nat}(h:w < wn six):(jn six x y).reach.getD w 0=Q2 (x.reach.getD w 0) (y.reach.getD (((w:Int) - x.turn) % wy six).toNat 0+jS six w x.shift):=by
 show((aag (wn six)).map (xb six x y)).getD w 0=_
 rw[m9 h]
 unfold xb Q2
 rw[CT six _ _ h]
theorem mz (six:Bool)(x y:Tr){w:Nat}(h:w < wn six):(jn six x y).cj.getD w 0=if y.reach.getD (((w:Int) - x.turn) % wy six).toNat 0+jS six w x.shift<=x.reach.getD w 0 then x.cj.getD w 0 else y.cj.getD (((w:Int) - x.turn) % wy six).toNat 0+x.many:=by
 show((aag (wn six)).map (zx six x y)).getD w 0=_
 rw[m9 h]
 unfold zx
 rw[CT six _ _ h,CT six _ _ h]
theorem JS (six:Bool):∀ (n:Nat) (p q:Int×Int),tn six n (ad p q)=ad (tn six n p) (tn six n q)
 | 0,p,q=>rfl
 | n+1,p,q=>by
   rw[tn,tn,tn,JS six n]
   generalize tn six n p=a
   generalize tn six n q=b
   cases six
   . simp only[Pf.tl,ad,abh,if_false];refine Prod.ext ?_ ?_ <;> simp only <;> omega
   . simp only[Pf.tl,ad,if_true];refine Prod.ext ?_ ?_ <;> simp only <;> omega
theorem CU (six:Bool)(p:Int×Int)(b:Nat):∀ a:Nat,tn six (a+b) p=tn six a (tn six b p)
 | 0=>by rw[Nat.zero_add];rfl
 | a+1=>by
   rw[Nat.succ_add]
   show Pf.tl six (tn six (a+b) p)=Pf.tl six (tn six a (tn six b p))
   rw[CU six p b a]
theorem Q3 (six:Bool)(p:Int×Int):tn six (wn six) p=p:=by
 obtain⟨x,y⟩:=p
 cases six with
 | false=>show Pf.tl false (Pf.tl false (Pf.tl false (Pf.tl false (x,y))))=_;simp[Pf.tl]
 | true=>show Pf.tl true (Pf.tl true (Pf.tl true (Pf.tl true (Pf.tl true (Pf.tl true (x,y))))))=_;simp[Pf.tl];omega
theorem JT (six:Bool)(p:Int×Int)(r:Nat):∀ q:Nat,tn six (r+wn six * q) p=tn six r p
 | 0=>rfl
 | q+1=>by rw[Nat.mul_succ,<- Nat.add_assoc,CU,Q3,JT six p r q]
theorem JU (six:Bool)(a b:Int)(p:Int×Int):tn six (a % wy six).toNat (tn six (b % wy six).toNat p)=tn six (((a+b) % wy six) % wy six).toNat p:=by
 rw[<- CU,<- Nat.mod_add_div ((a % wy six).toNat+(b % wy six).toNat) (wn six),JT]
 congr 1
 have hw:=xP six
 have hp:=eI six
 have h1:=aaE a (abb hp)
 have h2:=aaE b (abb hp)
 have e:((((a % wy six).toNat+(b % wy six).toNat) % wn six:Nat):Int)=((a+b) % wy six) % wy six:=by
   rw[Int.natCast_emod,hw,Int.natCast_add,Int.toNat_of_nonneg h1,Int.toNat_of_nonneg h2,Int.emod_emod,<- Int.add_emod]
 omega
theorem UP (six:Bool)(p q:Int×Int):cr (Pf.tl six p) (Pf.tl six q)=cr p q:=by
 unfold cr Pf.tl
 cases six
 . simp only[abh,if_false]
   have h1:-p.2 * q.1=-(p.2 * q.1):=Int.neg_mul _ _
   have h2:p.1 * -q.2=-(p.1 * q.2):=Int.mul_neg _ _
   omega
 . simp only[if_true]
   have h1:-p.2 * (q.1+q.2)=-(p.2 * q.1) - p.2 * q.2:=by rw[Int.neg_mul,Int.mul_add];omega
   have h2:(p.1+p.2) * -q.2=-(p.1 * q.2) - p.2 * q.2:=by rw[Int.mul_neg,Int.add_mul];omega
   omega
theorem JV (six:Bool):∀ (n:Nat) (p q:Int×Int),cr (tn six n p) (tn six n q)=cr p q
 | 0,_,_=>rfl
 | n+1,p,q=>by rw[tn,tn,UP,JV six n]
theorem Ee (p q r:Int×Int):cr p (ad q r)=cr p q+cr p r:=by
 unfold cr ad
 simp only[Int.mul_add];omega
theorem MD (p q r:Int×Int):cr (ad p q) r=cr p r+cr q r:=by
 unfold cr ad
 simp only[Int.add_mul];omega
theorem JW (p q r:Int×Int):ad p (ad q r)=ad (ad p q) r:=by
 unfold ad
 refine Prod.ext ?_ ?_ <;> simp only <;> omega
theorem list_eq {six:Bool}{a b:List Int}(ha:a.length=wn six)(hb:b.length=wn six)(h:∀ w,w < wn six->a.getD w 0=b.getD w 0):a=b:=by
 refine abM (by omega) fun i h1 h2=>?_
 have:=h i (by omega)
 rw[WY,WY,k3 h1,k3 h2] at this
 exact this
theorem sE (six:Bool)(x y:Tr):(jn six x y).reach.length=wn six/\(jn six x y).cj.length=wn six:=by unfold jn;simp
theorem JX (six:Bool)(x y z:Tr):jn six x (jn six y z)=jn six (jn six x y) z:=by
 have key:∀ w,w < wn six->∃ v u:Nat,v < wn six/\u < wn six/\(((w:Int) - x.turn) % wy six).toNat=v/\(((v:Int) - y.turn) % wy six).toNat=u/\(((w:Int) - (x.turn+y.turn) % wy six) % wy six).toNat=u/\jS six w (tn six (x.turn % wy six).toNat y.shift)=jS six v y.shift:=by
   intro w hw
   obtain⟨h1,h2⟩:=zJ six w x.turn
   obtain⟨h3,h4⟩:=zJ six (((w:Int) - x.turn) % wy six).toNat y.turn
   refine⟨_,_,h1,h3,rfl,rfl,?_,?_⟩
   . rw[h2]
     cases six with
     | false=>show(((w:Int) - (x.turn+y.turn) % 4) % 4).toNat=(((w - x.turn) % 4 - y.turn) % 4).toNat;congr 1;omega
     | true=>show(((w:Int) - (x.turn+y.turn) % 6) % 6).toNat=(((w - x.turn) % 6 - y.turn) % 6).toNat;congr 1;omega
   . rw[h2,Br six hw]
 have hr:(jn six x (jn six y z)).reach=(jn six (jn six x y) z).reach:=by
   refine list_eq (sE _ _ _).1 (sE _ _ _).1 fun w hw=>?_
   obtain⟨v,u,hv,hu,e1,e2,e3,e4⟩:=key w hw
   rw[jC six _ _ hw,jC six _ _ hw,jC six _ _ hw,e1,jC six _ _ hv,e2]
   show _=Q2 _ (z.reach.getD (((w:Int) - (x.turn+y.turn) % wy six) % wy six).toNat 0+jS six w (ad x.shift (tn six (x.turn % wy six).toNat y.shift)))
   rw[e3,CS,e4]
   unfold Q2
   split <;> split <;> split <;> (try split) <;> omega
 have ht:(jn six x (jn six y z)).cj=(jn six (jn six x y) z).cj:=by
   refine list_eq (sE _ _ _).2 (sE _ _ _).2 fun w hw=>?_
   obtain⟨v,u,hv,hu,e1,e2,e3,e4⟩:=key w hw
   rw[mz six _ _ hw,mz six (jn six x y) _ hw,mz six x y hw,jC six x y hw,e1,jC six _ _ hv,mz six _ _ hv,e2]
   show _=if z.reach.getD (((w:Int) - (x.turn+y.turn) % wy six) % wy six).toNat 0+jS six w (ad x.shift (tn six (x.turn % wy six).toNat y.shift))<=_ then _ else z.cj.getD (((w:Int) - (x.turn+y.turn) % wy six) % wy six).toNat 0+(x.many+y.many)
   rw[e3,CS,e4]
   unfold Q2
   split <;> split <;> split <;> (try split) <;> (try split) <;> omega
 have e1:(jn six x (jn six y z)).turn=(jn six (jn six x y) z).turn:=by
   show(x.turn+(y.turn+z.turn) % wy six) % wy six=((x.turn+y.turn) % wy six+z.turn) % wy six
   rw[Int.add_emod_emod,Int.emod_add_emod,Int.add_assoc]
 have e2:(jn six x (jn six y z)).shift=(jn six (jn six x y) z).shift:=by
   show ad x.shift (tn six (x.turn % wy six).toNat (ad y.shift (tn six (y.turn % wy six).toNat z.shift)))=ad (ad x.shift (tn six (x.turn % wy six).toNat y.shift)) (tn six (((x.turn+y.turn) % wy six) % wy six).toNat z.shift)
   rw[JS,JU,JW]
 have e3:(jn six x (jn six y z)).kZ=(jn six (jn six x y) z).kZ:=by
   show x.kZ+(y.kZ+z.kZ+cr y.shift (tn six (y.turn % wy six).toNat z.shift))+cr x.shift (tn six (x.turn % wy six).toNat (ad y.shift (tn six (y.turn % wy six).toNat z.shift)))
     = x.kZ+y.kZ+cr x.shift (tn six (x.turn % wy six).toNat y.shift)+z.kZ+cr (ad x.shift (tn six (x.turn % wy six).toNat y.shift)) (tn six (((x.turn+y.turn) % wy six) % wy six).toNat z.shift)
   have q:=JV six (x.turn % wy six).toNat y.shift (tn six (y.turn % wy six).toNat z.shift)
   rw[JU] at q
   rw[JS,JU,Ee,MD,<- q]
   omega
 have e4:(jn six x (jn six y z)).many=(jn six (jn six x y) z).many:=(Int.add_assoc _ _ _).symm
 have e5:(jn six x (jn six y z)).dD=(jn six (jn six x y) z).dD:=(Int.add_assoc _ _ _).symm
 generalize jn six x (jn six y z)=a at hr ht e1 e2 e3 e4 e5
 generalize jn six (jn six x y) z=b at hr ht e1 e2 e3 e4 e5
 cases a;cases b
 simp only at hr ht e1 e2 e3 e4 e5
 subst hr ht e1 e2 e3 e4 e5
 rfl
noncomputable def Bs (six:Bool)(xs:List Str)(k:Nat):Int×Int:=(bL six (xs.take k)).shift
theorem JY (six:Bool)(xs:List Str):0<=(bL six xs).turn/\(bL six xs).turn < wy six:=by
 by_cases h:xs=[]
 . subst h;exact⟨Int.le_refl _,eI six⟩
 . rw[<- aba h,iP]
   exact⟨aaE _ (abb (eI six)),aaF _ (eI six)⟩
theorem JZ (six:Bool)(xs:List Str)(d:Str):qc six d (bL six xs).shift (bL six xs).turn=((bL six (xs ++ [d])).shift,(bL six (xs ++ [d])).turn):=by
 rw[iP]
 unfold qc jn
 refine Prod.ext ?_ ?_
 . show(if d∈KC then ad (bL six xs).shift (tn six ((bL six xs).turn % wy six).toNat (1,0)) else (bL six xs).shift)=ad (bL six xs).shift (tn six ((bL six xs).turn % wy six).toNat (qc six d (0,0) 0).1)
   rw[vW]
   by_cases c:d∈KC
   . rw[if_pos c,if_pos c]
   . rw[if_neg c,if_neg c,qW]
     unfold ad;simp
 . show((bL six xs).turn+og d) % wy six=((bL six xs).turn+(0+og d) % wy six) % wy six
   rw[Int.add_emod_emod,Int.zero_add]
noncomputable def rec (six:Bool)(xs:List Str)(w:Int):Nat->Int×Int
 | 0=>(0,0)
 | j+1=>if (rec six xs w j).1 < jS six w (Bs six xs j) then (jS six w (Bs six xs j),j) else rec six xs w j
theorem Bt (six:Bool)(xs:List Str)(d:Str)(w:Int):∀ j,j<=xs.length+1->rec six (xs ++ [d]) w j=rec six xs w j
 | 0,_=>rfl
 | j+1,h=>by
   rw[rec,rec,Bt six xs d w j (by omega)]
   have e:Bs six (xs ++ [d]) j=Bs six xs j:=by
     unfold Bs
     rw[List.take_append_of_le_length (by omega)]
   rw[e]
theorem Bu (six:Bool)(w:Int):jS six w (0,0)=0:=by
 unfold jS
 cases six <;> simp
theorem Ef (six:Bool){w:Nat}(hw:w < wn six):∀ (n:Nat) (xs:List Str),xs.length=n->rec six xs w (n+1)=((bL six xs).reach.getD w 0,(bL six xs).cj.getD w 0)/\jS six w (bL six xs).shift<=(bL six xs).reach.getD w 0:=by
 intro n
 induction n with
 | zero=>
   intro xs h
   have e:xs=[]:=aaU h
   subst e
   have e1:(bL six []).reach.getD w 0=0:=by
     show(aah (wn six) (0:Int)).getD w 0=0
     rw[WY,aaR];split <;> rfl
   have e2:(bL six []).cj.getD w 0=0:=e1
   have e3:jS six w (Bs six [] 0)=0:=Bu six w
   have e4:jS six w (bL six []).shift=0:=Bu six w
   rw[e1,e2,e4,rec,rec,e3]
   simp
 | succ n ih=>
   intro xs h
   have BI:xs≠[]:=fun e=>by rw[e] at h;cases h
   have e:=aba BI
   have hl:xs.dropLast.length=n:=by rw[abl];omega
   generalize xs.getLast BI=d at e
   generalize xs.dropLast=ys at e hl
   subst e
   obtain⟨h1,h2⟩:=ih ys hl
   rw[rec,Bt six ys d w (n+1) (by omega),h1]
   have es:Bs six (ys ++ [d]) (n+1)=(bL six (ys ++ [d])).shift:=by
     unfold Bs
     rw[aa6 (by rw[aas];simp;omega)]
   rw[es,iP,jC six _ _ hw,mz six _ _ hw]
   obtain⟨b1,b2⟩:=zJ six w (bL six ys).turn
   have r1:(one six d).reach.getD (((w:Int) - (bL six ys).turn) % wy six).toNat 0=m8 six d (((w:Int) - (bL six ys).turn) % wy six).toNat:=m9 b1
   have t1:(one six d).cj.getD (((w:Int) - (bL six ys).turn) % wy six).toNat 0=if m8 six d (((w:Int) - (bL six ys).turn) % wy six).toNat < 1 then m8 six d (((w:Int) - (bL six ys).turn) % wy six).toNat else 1:=m9 (f:=fun k=>if m8 six d k < 1 then m8 six d k else 1) b1
   rw[r1,t1]
   unfold m8
   rw[b2,Br six hw]
   have ec:jS six w (jn six (bL six ys) (one six d)).shift=jS six w (bL six ys).shift+jS six w (tn six ((bL six ys).turn % wy six).toNat (qc six d (0,0) 0).1):=CS six w _ _
   rw[ec]
   have hm:=(Bf six n ys hl).1
   rw[hm]
   generalize jS six w (tn six ((bL six ys).turn % wy six).toNat (qc six d (0,0) 0).1)=D
   generalize jS six w (bL six ys).shift=B at h2 ⊢
   generalize (bL six ys).reach.getD w 0=A at h2 ⊢
   generalize (bL six ys).cj.getD w 0=U
   unfold Q2
   refine⟨?_,?_⟩
   . by_cases c1:D > 0
     . simp only[if_pos c1]
       by_cases c2:D+B<=A
       . simp only[if_pos c2]
         rw[if_neg (by omega)]
       . simp only[if_neg c2]
         rw[if_pos (by omega),if_neg (by omega)]
         refine Prod.ext ?_ ?_
         . show B+D=D+B;omega
         . show((n+1:Nat):Int)=1+n;omega
     . simp only[if_neg c1]
       rw[if_neg (by omega)]
       have c2:0+B<=A:=by omega
       simp only[if_pos c2]
   . by_cases c1:D > 0
     . simp only[if_pos c1];split <;> omega
     . simp only[if_neg c1];split <;> omega
theorem Q4 (six:Bool)(xs:List Str):jn six (bL six xs) (BH six)=bL six xs:=by
 have w:=CJ six _ xs rfl
 have tt:=JY six xs
 have z:∀ k,(BH six).reach.getD k 0=0:=fun k=>by
   show(aah (wn six) (0:Int)).getD k 0=0
   rw[WY,aaR];split <;> rfl
 have hr:(jn six (bL six xs) (BH six)).reach=(bL six xs).reach:=list_eq (sE _ _ _).1 w.2.2.1 fun v hv=>by
   have:=(Ef six hv _ xs rfl).2
   rw[jC six _ _ hv,z]
   unfold Q2
   rw[if_pos (by omega)]
 have ht:(jn six (bL six xs) (BH six)).cj=(bL six xs).cj:=list_eq (sE _ _ _).2 w.2.2.2 fun v hv=>by
   have:=(Ef six hv _ xs rfl).2
   rw[mz six _ _ hv,z,if_pos (by omega)]
 have e1:(jn six (bL six xs) (BH six)).turn=(bL six xs).turn:=by
   show((bL six xs).turn+0) % wy six=_
   rw[Int.add_zero,Int.emod_eq_of_lt tt.1 tt.2]
 have e2:(jn six (bL six xs) (BH six)).shift=(bL six xs).shift:=by
   show ad (bL six xs).shift (tn six _ (0,0))=_
   rw[qW];unfold ad;simp
 have e3:(jn six (bL six xs) (BH six)).kZ=(bL six xs).kZ:=by
   show(bL six xs).kZ+0+cr (bL six xs).shift (tn six _ (0,0))=_
   rw[qW];unfold cr;simp
 have e4:(jn six (bL six xs) (BH six)).many=(bL six xs).many:=Int.add_zero _
 have e5:(jn six (bL six xs) (BH six)).dD=(bL six xs).dD:=Int.add_zero _
 generalize jn six (bL six xs) (BH six)=a at hr ht e1 e2 e3 e4 e5 ⊢
 generalize bL six xs=b at hr ht e1 e2 e3 e4 e5 ⊢
 cases a;cases b
 simp only at hr ht e1 e2 e3 e4 e5
 subst hr ht e1 e2 e3 e4 e5
 rfl
theorem Eg (six:Bool)(xs:List Str):∀ (n:Nat) (ys:List Str),ys.length=n->jn six (bL six xs) (bL six ys)=bL six (xs ++ ys):=by
 intro n
 induction n with
 | zero=>
   intro ys h
   have e:ys=[]:=aaU h
   subst e
   rw[aaS]
   exact Q4 six xs
 | succ n ih=>
   intro ys h
   have BI:ys≠[]:=fun e=>by rw[e] at h;cases h
   have e:=aba BI
   have hl:ys.dropLast.length=n:=by rw[abl];omega
   rw[<- e,iP,JX,ih _ hl,<- List.append_assoc,iP]
noncomputable def qY (rows:List Row)(w:List Nat):List Str:=w.map (dZ rows)
theorem J0 {rows:List Row}(ok:bg rows):∀ (r:Nat) {c:Nat},c∈rows.map (·.c)->(gP rows r c).length<=8 ^ r
 | 0,_,_=>aac _
 | r+1,c,h=>by
   obtain⟨q,hq,_,_,ew⟩:=iO h
   have hw:∀ y∈wordOf rows c,y∈rows.map (·.c):=fun y hy=>ok.wo q hq y (by rw[ew] at hy;exact hy)
   have hl:(wordOf rows c).length<=8:=by rw[ew];exact(ok.wp q hq).2
   have:∀ (w:List Nat),(∀ y∈w,y∈rows.map (·.c))->(w.flatMap (gP rows r)).length<=w.length * 8 ^ r:=by
     intro w
     induction w with
     | nil=>intro _;simp
     | cons a w ih=>
       intro h
       rw[abj,aas,aaI,Nat.add_mul,Nat.one_mul]
       have h1:=J0 ok r (h a (by simp))
       have h2:=ih fun y hy=>h y (by simp[hy])
       omega
   have h3:=this _ hw
   have h4:(wordOf rows c).length * 8 ^ r<=8 * 8 ^ r:=Nat.mul_le_mul_right _ hl
   show((wordOf rows c).flatMap (gP rows r)).length<=8 ^ (r+1)
   rw[Nat.pow_succ];omega
theorem UQ {rows:List Row}{w:List Nat}(ok:my rows w){age:Nat}(h:age<=200):(k7 rows w age).length < 2 ^ 990:=by
 have:∀ (v:List Nat),(∀ y∈v,y∈rows.map (·.c))->(v.flatMap (gP rows age)).length<=v.length * 8 ^ age:=by
   intro v
   induction v with
   | nil=>intro _;simp
   | cons a v ih=>
     intro h
     rw[abj,aas,aaI,Nat.add_mul,Nat.one_mul]
     have h1:=J0 ok.ok age (h a (by simp))
     have h2:=ih fun y hy=>h y (by simp[hy])
     omega
 have h1:=this w ok.wm
 have h2:w.length * 8 ^ age<=8 * 8 ^ 200:=Nat.mul_le_mul ok.w8 (abO (by decide) h)
 have h3:8 * 8 ^ 200 < 2 ^ 990:=by decide +kernel
 exact aaH (aav h1 h2) h3
theorem Yk {rows:List Row}(ok:bg rows){r c:Nat}(h:c∈rows.map (·.c))(hr:r<=200):(gP rows r c).length < 2 ^ 990:=by
 have h1:=J0 ok r h
 have h2:8 ^ r<=8 ^ 200:=abO (by decide) hr
 exact aaH (aav h1 h2) (by decide +kernel)
noncomputable def ME (six:Bool)(rows:List Row)(i c:Nat):Tr:=bL six (qY rows (gP rows i c))
noncomputable def dJ.qd (t:dJ)(six:Bool)(rows:List Row)(i:Nat):List (Key×FD):=(rows.map (·.c)).map fun c=>(.inr (sg c),.obj t.av (t.X9 six (ME six rows i c)))
theorem RN (t:dJ)(six:Bool)(rows:List Row)(i:Nat):nz (t.qd six rows i)=kd (rows.map (·.c)) fun c=>t.pJ six (ME six rows i c):=by unfold nz dJ.qd kd;rw[aam];rfl
noncomputable abbrev dJ.zK (t:dJ)(six:Bool)(rows:List Row)(w:List Nat)(l':Addr)(ls':iR)(n':Nat):List (Str×Dt):=RK "growth" t.ar (t.Bi six rows w) ["tallies","lengths"] l' ls' n'
noncomputable abbrev dJ.Eh (t:dJ)(six:Bool)(rows:List Row)(w:List Nat)(l':Addr)(ls':iR)(n':Nat)(l:Addr)(ls:iR)(n:Nat):List (Str×Dt):=q9 (t.zK six rows w l' ls' n') ["tracks"] l ls n
noncomputable abbrev dJ.UR (t:dJ)(six:Bool)(rows:List Row)(w:List Nat)(l':Addr)(ls':iR)(n':Nat)(l:Addr)(ls:iR)(n:Nat):List (Str×Dt):=o6 (t.zK six rows w l' ls' n') ["tracks"] l ls n
theorem Q5 {l l':Addr}{ls':iR}{n':Nat}(h:l'≠l)(t:dJ)(six:Bool)(rows:List Row)(w:List Nat):jY l (t.zK six rows w l' ls' n')=true:=by
 have e:rS l (.memo l' ls' 0 n')=true/\rS l (.memo l' ls' 1 n')=true:=by
   unfold rS
   simp[h]
 show((rS l (t.pI six rows) && (rS l (.str (tx w)) && (rS l (.memo l' ls' 0 n') && (rS l (.memo l' ls' 1 n') && true)))) && true)=true
 rw[CK,e.1,e.2];rfl
theorem J1 (six:Bool)(xs:List (List Str)){k:Nat}(h:k < xs.length):jn six (bL six (xs.take k).flatten) (bL six xs[k])=bL six (xs.take (k+1)).flatten:=by
 rw[Eg six _ _ _ rfl,aa0,k3 h,aby]
 simp
theorem Q6 {rows:List Row}{w:List Nat}(ok:my rows w){age b e:Nat}(lK:age<=200)(zR:b<=e)(JN:e<=(k7 rows w age).length):∃ k bt,(e<=(run rows b e (xc w age) k).place/\∀ j,j < k->(run rows b e (xc w age) j).place < e)/\(run rows b e (xc w age) k).bt=bt/\flat rows bt=cut (k7 rows w age) b e/\bt.length<=4000/\∀ p∈bt,p.2∈rows.map (·.c)/\p.1<=age:=by
 obtain⟨k,Yl,VT⟩:=Bp ok.ok _ (CQ ok zR JN) (aac _)
 obtain⟨Ik,Jk⟩:=CP ok.ok (CQ ok zR JN) VT k (aac _)
 have hmu:=JL ok (b:=b) (e:=e) lK
 have hp:(run rows b e (xc w age) k).place=e:=by have:=Ik.pe;omega
 refine⟨k,_,⟨Yl,VT⟩,rfl,by rw[Ik.fb,hp];rfl,?_,Ik.mt⟩
 have:(xc w age).bt.length=0:=rfl
 omega
def FU (t:dJ):Rl:=fun ds r=>∃ six rows w l ls n rest,∃ xs:List (List Str),ds=[.obj t.ay (("growth",FT t six rows w l ls n)::rest),.lst (xs.map fun x=>t.pJ six (bL six x))]/\xs.flatten.length < 2 ^ 990/\r=.ret (t.pJ six (bL six xs.flatten))
def MG (t:dJ):Rl:=fun ds r=>∃ six rows w l ls n,ds=[FT t six rows w l ls n]/\my rows w/\r=.own (.pM t.ay (t.zK six rows w l ls n) [t.qd six rows] ["tracks"] 1)
structure MH (t:dJ)(six:Bool)(rows:List Row)(w:List Nat)(ls' ls:iR):Prop where
 ok:my rows w
 gs:ls'.map (·.2)=sC rows
 ts:ls.map (·.2)=[t.qd six rows]
def MI (t:dJ):Rl:=fun ds r=>∃ six rows w l' ls' n' l ls n age,ds=[.obj t.ay (t.Eh six rows w l' ls' n' l ls n),.int ((age:Nat):Int)]/\MH t six rows w ls' ls/\age<=200/\r=.ret (.wq l ls (age+1))
def xU (t:dJ):Rl:=fun ds r=>∃ six rows w l' ls' n' l ls n age,∃ b e:Nat,ds=[.obj t.ay (t.Eh six rows w l' ls' n' l ls n),.int ((age:Nat):Int),.int (b:Int),.int (e:Int)]/\MH t six rows w ls' ls/\age<=200/\(b<=e/\e<=(k7 rows w age).length)/\r=.ret (t.pJ six (bL six (qY rows (cut (k7 rows w age) b e))))
noncomputable abbrev US:Scope:=CL ((aB fz).getD 2 (.Pass ⟨0,0,0,0⟩))
theorem NT:iT US (af fz) n4 ["letter","rules"] ["letter"] [2]=true:=by decide +kernel
noncomputable abbrev wBd:List Stmt:=UB ((aB bI).getD 1 (.Pass ⟨0,0,0,0⟩))
noncomputable abbrev UT:Scope:=Bl (wBd.getD 2 (.Pass ⟨0,0,0,0⟩))
theorem NU:iT UT (af bI) jR ["younger","last"] ["younger"] [3]=true:=by decide +kernel
noncomputable abbrev UU:Scope:=JC ((aB b9).getD 2 (.Pass ⟨0,0,0,0⟩))
theorem NV:iT UU (af b9) lr ["rounds","letter","self"] ["rounds","letter"] [0]=true:=by decide +kernel
theorem J2 {rows:List Row}(ok:bg rows){x:Nat}(h:x∈rows.map (·.c)):dZ rows x∈mw:=by
 obtain⟨q,hq,_,e,_⟩:=iO h
 rw[e];exact ok.dd q hq
theorem v7 (T:Txt K mg t):MF P w K mg base CX 6 t.ay "join_all" 2 (FU t):=by
 refine⟨T.bC.cl,_,_,_,iQ T.eG.F jQ rfl fun bc A outer s H E G ds r hr hl hR=>?_,T.cG,T.eG.b⟩
 obtain⟨six,rows,wd,l,ls,n,rest,xs,rfl,hx,rfl⟩:=hR
 have zD:=Bd (P:=P) (w:=w) (base:=base) T
 have Bv:=zG (P:=P) (w:=w) (base:=base) T
 have Bw:=zv (P:=P) (w:=w) (base:=base) T
 have vX:=xR (P:=P) (w:=w) (base:=base) T
 have nd:=jQ.nd
 let D:Dt:=.obj t.ay (("growth",FT t six rows wd l ls n)::rest)
 let tr:List Str->Dt:=fun x=>t.pJ six (bL six x)
 let S:Nat->List Slot:=fun k=>[.val D,.val (.lst (xs.map tr)),.val (t.pJ six (bL six (xs.take k).flatten)),.aY]
 have en:S (xs.map tr).length=[.val D,.val (.lst (xs.map tr)),.val (t.pJ six (bL six xs.flatten)),.aY]:=by
   show [_,_,Slot.val (t.pJ six (bL six (xs.take (xs.map tr).length).flatten)),_]=_
   rw[Bn,aa7]
 have hle:∀ k,(xs.take k).flatten.length < 2 ^ 990:=fun k=>by
   have e:=List.take_append_drop k xs
   rw[<- e,aby,aas] at hx
   omega
 refine⟨_,.rt _,ah (aw 2 nd (b8 zD ax hr (ae (ck (fs:=t.ur six rows) (ck (fs:=t.jO six rows wd l ls n) (aG (fs:=("growth",FT t six rows wd l ls n)::rest) (aa 0 rfl) T.bC.cl T.bG rfl) Bv ax hr ⟨six,rows,wd,l,ls,n,rfl,rfl⟩) Bw ax hr ⟨six,rows,rfl,rfl⟩) ai) ⟨six,rfl,rfl⟩))
   (ah (Dl (m:=(xs.map tr).length) 3 S nd rfl PassesOwn.leaving (aa 1 rfl) (Le.of ⟨rfl,rfl,rfl,trivial⟩) (aac _) (fun k z hk hz=>?_) (.all rfl)) ?_)⟩
 . rw[Bn] at hk
   rw[aab,k3 hk] at hz
   cases hz
   have h1:xs[k].length < 2 ^ 990:=by
     have:=hle (k+1)
     rw[aa0,k3 hk,aby,aas] at this
     simp at this
     omega
   refine .nx (ao (aw 2 nd (bE (fs:=t.kK six (bL six (xs.take k).flatten)) (k4 (aa 2 rfl)) vX ax hr (ae (k4 (x:=bL six xs[k]) (aa 3 rfl)) ai) ⟨six,_,bL six xs[k],rfl,⟨zC six (hle k),zC six h1⟩,rfl⟩))) (Le.of ⟨rfl,rfl,?_,trivial⟩)
   show Slot.val (t.pJ six (bL six (xs.take (k+1)).flatten))=_
   rw[J1 six xs hk]
 . rw[en]
   exact ao (aF (aa 2 rfl))
theorem J3 (T:Txt K mg t):O7 P w K mg base CX 8 "Drawing" t.ay 2 (MG t):=by
 refine⟨_,_,_,Vk T.iN.F ny rfl fun bc A outer s H E G z ds r hr hl hR=>?_,T.p8,(T.g T.bC.a),T.iN.b⟩
 obtain⟨six,rows,wd,l,ls,n,rfl,ok,rfl⟩:=hR
 have eU:=jB (P:=P) (w:=w) (base:=base) T
 have Bv:=zG (P:=P) (w:=w) (base:=base) T
 have Bw:=zv (P:=P) (w:=w) (base:=base) T
 have v8:=vM (P:=P) (w:=w) (base:=base) T
 have Ym:=Be (P:=P) (w:=w) (base:=base) T
 have h6:=ok.ok.le
 let L:=rows.map (·.c)
 have hL:L.length<=6:=by show(rows.map (·.c)).length<=6;rw[Bn];exact h6
 have nd:=ny.nd
 have e1:((L.filter fun _=>true).map fun x=>Dt.tup [.str (sg x),t.pJ six (ME six rows 0 x)])=(nz (t.qd six rows 0)).map Kv:=by
   rw[aaC.mpr (fun _ _=>rfl),RN]
   exact Bh L _
 have h7:∀ x∈L,x < 128:=fun x hx=>by
   obtain⟨r,hr,rfl⟩:=aaM.mp hx
   have:=ok.ok.sm r hr
   unfold small at this;omega
 refine⟨_,.WJ (fs:=t.zK six rows wd l ls n) (gs:=[t.qd six rows]) (nm:=["tracks"]) (n:=1) rfl,ah (jE (aa 1 rfl) T.bC.cl T.bG) (ah (aw 2 nd (ck (fs:=t.jO six rows wd l ls n) (aa 1 rfl) Bv ax hr ⟨six,rows,wd,l,ls,n,rfl,rfl⟩))
   (wF (f:=t.qd six rows) rfl T.bC.cl T.bH ?_))⟩
 refine l8 T.n8 rfl (g9 e1 (ig L (fun x=>Dt.str (sg x)) (fun x=>.tup [.str (sg x),t.pJ six (ME six rows 0 x)]) (fun x=>[.val (.str (sg x))]) (fun _=>true) rfl (cI NT) (ij (ck (fs:=t.ur six rows) (aa 2 rfl) eU ax hr ⟨six,rows,rfl,ok.ok,rfl⟩)) (dc (cI NT) rfl) (dm (de (jA h7)) (gX L)) (fun a _=>d9) (.nil fun _ _=>rfl)
     (fun a ha _ C fp s' H' G'=>cB (ae (aa 0 rfl) (ae (b8 Ym ax hr (ae (ck (fs:=t.ur six rows) (aa 1 rfl) Bw ax hr ⟨six,rows,rfl,rfl⟩) (ae (pv (uY (ae (bE (fs:=t.ur six rows) (aa 1 rfl) v8 ax hr (ae (aa 0 rfl) ai) ⟨six,rows,a,rfl,ok.ok,ha,rfl⟩) ai) AA3)) ai)) ⟨six,[dZ rows a],rfl,fun d hd=>by
       have:d=dZ rows a:=by simpa using hd
       rw[this];exact J2 ok.ok ha,by simp,rfl⟩) ai)) AA3) (rb (by omega)))) (by rw[RN,qX];exact kL ok.ok.nd) (by rw[RN];show(List.map _ _).length<=_;rw[Bn,Bn];exact rb (by omega))
theorem J4 (T:Txt K mg t):MF P w K mg base CX 7 t.ay "deepen_to" 2 (MI t):=by
 refine⟨T.bC.cl,_,_,_,iQ T.dC.F jz rfl fun bc A outer s H E G ds r hr hl hR=>?_,T.cw,T.dC.b⟩
 obtain⟨six,rows,wd,l',ls',n',l,ls,n,age,rfl,ok,lK,rfl⟩:=hR
 have pT:=ok.ts
 have MJ:=ok.ok.ok
 have Bv:=zG (P:=P) (w:=w) (base:=base) T
 have eU:=jB (P:=P) (w:=w) (base:=base) T
 have v3:=vL (P:=P) (w:=w) (base:=base) T
 have CV:=v7 (P:=P) (w:=w) (base:=base) T
 have nd:=jz.nd
 have h6:=MJ.le
 let L:=rows.map (·.c)
 have hL:L.length<=6:=by show(rows.map (·.c)).length<=6;rw[Bn];exact h6
 have h7:∀ x∈L,x < 128:=fun x hx=>by
   obtain⟨r,hr,rfl⟩:=aaM.mp hx
   have:=MJ.sm r hr
   unfold small at this;omega
 have hu:(A.deeper (envOfC "Drawing.deepen_to" (af bI) s.heap.objs.size t.aZ bc)).units+1 < cLine:=by have:=hr.units;omega
 have e1:ls.length=1:=by have:=congrArg abf pT;simpa using this
 have e2:ls'.length=2:=by have:=congrArg abf ok.gs;simpa [sC] using this
 let tl:List Slot:=[.val (.int ((age:Nat):Int)),.val (t.pI six rows),.aY,.aY,.aY]
 refine⟨_,oM (C:=t.ay) (fs:=t.zK six rows wd l' ls' n') (nm:=["tracks"]) (tl:=tl) (by rw[e1];exact aac 1),Fs (nm:=["tracks"]) (nm':=["tallies","lengths"]) (C:=t.ay) (C':=t.ar) (l:=l) (l':=l') (ls:=ls) (ls':=ls') (n:=n) (n':=n') (fs':=t.Bi six rows wd) (g:="growth") 0 (by decide) (by decide) (by omega) (fun BI=>?_) rfl⟩
 have hs:=Q5 (ls':=ls') (n':=n') BI t six rows wd
 have ht:qE l tl=true:=by
   have:qE l [.val (t.pI six rows),.aY,.aY,.aY]=true:=by
     unfold qE;rw[CK];rfl
   exact this
 refine ah (dl1:=zN t.ay (t.zK six rows wd l' ls' n') ["tracks"] l ls n tl) (aw 2 nd (ck (fs:=t.jO six rows wd l' ls' n') (aG (fs:=t.Eh six rows wd l' ls' n' l ls n) (aa 0 rfl) T.bC.cl T.bG rfl) Bv ax hr ⟨six,rows,wd,l',ls',n',rfl,rfl⟩))
   (ao (xC (age:=age) PassesOwn.leaving hs ht (by decide) (by omega) (fun N G hx=>?_) (fun N hN hNa G0 hA hB=>?_)))
 . exact dG (pq (DH (N:=N) T.fg hx (aG (fs:=t.UR six rows wd l' ls' n' l ls n) (aa 0 rfl) T.bC.cl T.bH rfl) (by rw[e1];rfl)) (aa 1 rfl)) (decide_eq_decide.mpr (by omega))
 . let Dk:Nat->Dt:=fun c=>t.pJ six (ME six rows N c)
   let O:Dt:=.obj t.ay (t.UR six rows wd l' ls' n' l ls n)
   let S:Nat->List Slot:=fun k=>[.val O,.val (.int ((age:Nat):Int)),.val (t.pI six rows),.val (.d5 (nz (t.qd six rows (N - 1)))),.own (.cV (kd (L.take k) Dk)),.aY]
   have eS:S L.length=[.val O,.val (.int ((age:Nat):Int)),.val (t.pI six rows),.val (.d5 (nz (t.qd six rows (N - 1)))),.own (.cV (nz (t.qd six rows N))),.aY]:=by
     show [_,_,_,_,Slot.own (.cV (kd (L.take L.length) Dk)),_]=_
     rw[aa7,RN t six rows N]
   refine ah (aw 3 nd (AL (f:=t.qd six rows) (N:=N) ak (aG (fs:=t.UR six rows wd l' ls' n' l ls n) (aa 0 rfl) T.bC.cl T.bH rfl) (iW aj) (by rw[pT];rfl) (by rw[e1];rfl) hN)) (ah (jX 4 nd yA)
     (ah (dl1:=S L.length) (mI (o:=.nx (S L.length)) (m:=L.length) L (fun x=>Dt.str (sg x)) (fun x dl=>dl.set 5 (.val (.str (sg x)))) S rfl PassesOwn.leaving (ij (ck (fs:=t.ur six rows) (aa 2 rfl) eU ax hr ⟨six,rows,rfl,MJ,rfl⟩)) (dm (de (jA h7)) (gX L)) (bX nd rfl (.inl rfl)) (fun a _=>t6) (Le.of ⟨rfl,rfl,rfl,rfl,rfl,trivial⟩) (aac _) (fun k a hk ha=>?_) (.all rfl)) ?_))
   . rw[k3 hk] at ha
     cases ha
     have hm:L[k]∈L:=aaJ hk
     obtain⟨q,hq,hc,_,ew⟩:=iO hm
     have Yd:=MJ.wp q hq
     have UE:∀ y∈wordOf rows L[k],y∈L:=fun y hy=>MJ.wo q hq y (by rw[ew] at hy;exact hy)
     have ON:(wordOf rows L[k]).length<=8:=by rw[ew];exact Yd.2
     have Pr:(kd (L.take k) Dk).length < sizeLine:=by
       unfold kd
       rw[Bn,aat];exact aak (show min k L.length < 2000 by omega) (by decide)
     let xs:List (List Str):=(wordOf rows L[k]).map fun y=>qY rows (gP rows (N - 1) y)
     have e3:(((wordOf rows L[k]).filter fun _=>true).map fun y=>t.pJ six (ME six rows (N - 1) y))=xs.map fun x=>t.pJ six (bL six x):=by
       rw[aaC.mpr (fun _ _=>rfl),aam];rfl
     have UW:xs.flatten=qY rows (gP rows N L[k]):=by
       obtain⟨M,rfl⟩:∃ M,N=M+1:=⟨N - 1,by omega⟩
       show((wordOf rows L[k]).map fun y=>qY rows (gP rows M y)).flatten=((wordOf rows L[k]).flatMap (gP rows M)).map (dZ rows)
       rw[List.map_flatMap,List.flatMap_def];rfl
     have ed:Dk L[k]=t.pJ six (bL six xs.flatten):=by rw[UW];rfl
     have hb:xs.flatten.length < 2 ^ 990:=by
       rw[UW];unfold qY;rw[Bn];exact Yk MJ hm (by omega)
     refine .nx (ao (yB (kds:=kd (L.take k) Dk) (d:=Dk L[k]) 4 hu (by rw[ed];exact bE (fs:=t.UR six rows wd l' ls' n' l ls n) (aa 0 rfl) CV ax hr (ae (g9 e3 (ig (wordOf rows L[k]) (fun x=>Dt.str (sg x)) (fun y=>t.pJ six (ME six rows (N - 1) y)) (fun x=>[.val (.str (sg x))]) (fun _=>true) rfl (cI NU) (ij (bE (fs:=t.ur six rows) (aa 2 rfl) v3 ax hr (ae (aa 5 rfl) ai) ⟨six,rows,L[k],rfl,MJ,hm,rfl⟩)) (dc (cI NU) rfl) (dm (de (m7 MJ UE)) (gX _)) (fun a _=>d9) (.nil fun _ _=>rfl)
       (fun y hy _ C fp s' H' G'=>kO hu (aa 1 rfl) (aa 0 rfl) (by rw[RN];exact lF (UE y hy)) (fun _ _=>rfl)) (rb (by omega)))) ai) ⟨six,rows,wd,l',ls',n',_,xs,rfl,hb,rfl⟩) (aa 5 rfl) Pr)) (Le.of ⟨rfl,rfl,rfl,rfl,?_,trivial⟩)
     show Slot.own (.cV (kd (L.take (k+1)) Dk))=Slot.own (.cV (pz (kd (L.take k) Dk) (.inr (sg L[k])) (Dk L[k])))
     rw[Jt MJ.nd hk]
   . rw[eS]
     exact Dj (dl1:=.val (.obj t.ay (t.UR six rows wd l' ls' n' l ls n))::tl.set 3 (.own (.cV (nz (t.qd six rows N))))) (AR (f:=t.qd six rows) (tl:=tl) 3 hs ht rfl pT (by omega) T.bC.cl T.bH hA hB) (Le.of ⟨rfl,rfl,rfl,rfl,trivial⟩)
theorem v9 (T:Txt K mg t):MF P w K mg base CX 9 t.ay "stretch" 4 (xU t):=by
 refine⟨T.bC.cl,_,_,_,iQ T.ff.F p0 rfl fun bc A outer s H E G ds r hr hl hR=>?_,T.cR,T.ff.b⟩
 obtain⟨six,rows,wd,l',ls',n',l,ls,n,age,b,e,rfl,ok,lK,⟨zR,JN⟩,rfl⟩:=hR
 have Yn:=UN (P:=P) (w:=w) (base:=base) T
 have CM:=J4 (P:=P) (w:=w) (base:=base) T
 have CV:=v7 (P:=P) (w:=w) (base:=base) T
 have J5:=FR (P:=P) (w:=w) (base:=base) T
 have hu:(A.deeper (envOfC "Drawing.stretch" (af b9) s.heap.objs.size t.bF bc)).units+1 < cLine:=by have:=hr.units;omega
 obtain⟨k,bt,⟨Yl,VT⟩,hbt,YV,hb4,hmt⟩:=Q6 ok.ok lK zR JN
 let xs:List (List Str):=bt.map fun p=>qY rows (gP rows p.1 p.2)
 have e3:((bt.filter fun _=>true).map fun p=>t.pJ six (ME six rows p.1 p.2))=xs.map fun x=>t.pJ six (bL six x):=by
   rw[aaC.mpr (fun _ _=>rfl),aam];rfl
 have UW:xs.flatten=qY rows (cut (k7 rows wd age) b e):=by
   rw[<- YV]
   show(bt.map fun p=>qY rows (gP rows p.1 p.2)).flatten=(bt.flatMap fun p=>gP rows p.1 p.2).map (dZ rows)
   rw[List.map_flatMap,List.flatMap_def];rfl
 have hb:xs.flatten.length < 2 ^ 990:=by
   rw[UW];unfold qY cut
   rw[Bn,aaW,aat]
   have:=UQ ok.ok lK
   omega
 rw[<- UW]
 refine⟨_,.rt _,ah (Ft (m:=age+1) (tl:=[.val (.int ((age:Nat):Int)),.val (.int (b:Int)),.val (.int (e:Int))]) (bE (fs:=t.jO six rows wd l' ls' n') (aG (fs:=t.Eh six rows wd l' ls' n' l ls n) (aa 0 rfl) T.bC.cl T.bG rfl) Yn ax hr (ae (aa 1 rfl) (ae (aa 2 rfl) (ae (aa 3 rfl) ai))) ⟨six,rows,wd,l',ls',n',age,b,e,rfl,ok.ok,ok.gs,lK,⟨zR,JN⟩,rfl⟩))
   (ah (qF (m:=age+1) (fs:=t.zK six rows wd l' ls' (age+1)) (nm:=["tracks"]) (tl:=[.val (.int ((age:Nat):Int)),.val (.int (b:Int)),.val (.int (e:Int))]) (bE (fs:=t.Eh six rows wd l' ls' (age+1) l ls n) (aa 0 rfl) CM ax hr (ae (aa 1 rfl) ai) ⟨six,rows,wd,l',ls',_,l,ls,n,age,rfl,ok,lK,rfl⟩))
   (ao (aF (bE (fs:=t.Eh six rows wd l' ls' (age+1) l ls (age+1)) (aa 0 rfl) CV ax hr (ae (g9 e3 (ig bt tN (fun p=>t.pJ six (ME six rows p.1 p.2)) (fun p=>[.val (.int ((p.1:Nat):Int)),.val (.str (sg p.2))]) (fun _=>true) rfl (cI NV) (lh (pv (Dr (Av (fs:=t.jO six rows wd l' ls' (age+1)) (aG (fs:=t.Eh six rows wd l' ls' (age+1) l ls (age+1)) (aa 0 rfl) T.bC.cl T.bG rfl) (O9 J5) ax hr (ae (aa 1 rfl) (ae (aa 2 rfl) (ae (aa 3 rfl) ai))) ⟨six,rows,wd,l',ls',age+1,age,b,e,k,rfl,⟨ok.ok,ok.gs,by omega,by omega,lK⟩,⟨zR,JN⟩,⟨Yl,VT⟩,rfl⟩) (by rw[hbt])))) (AD rfl (cI NV) rfl) l6 (fun a _=>Dy) (.nil fun _ _=>rfl)
     (fun p hp _ C fp s' H' G'=>?_) (aav hb4 (by decide)))) ai) ⟨six,rows,wd,l',ls',age+1,_,xs,rfl,hb,rfl⟩))))⟩
 obtain⟨m1,m2⟩:=hmt p hp
 exact kO hu (Cc (n:=age+1) (j:=0) (f:=t.qd six rows) (aG (fs:=t.Eh six rows wd l' ls' (age+1) l ls (age+1)) (aa 2 rfl) T.bC.cl T.bH rfl) (aa 0 rfl) (by rw[ok.ts];rfl) (by omega) (by omega)) (aa 1 rfl) (by rw[RN];exact lF m1) (fun _ _=>rfl)
noncomputable def rowOf (rows:List Row)(x:Nat):Row:=(rows.find? fun r=>decide (r.c=x)).getD ⟨0,"",[]⟩
noncomputable def kE (f:Row->Dt)(rows:List Row):List (Key×Dt):=rows.map fun r=>(.inr (sg r.c),f r)
theorem J6 {rows:List Row}{x:Nat}(h:x∈rows.map (·.c)):rowOf rows x∈rows/\(rowOf rows x).c=x/\dZ rows x=(rowOf rows x).d/\wordOf rows x=(rowOf rows x).w:=by
 obtain⟨q,hq,e⟩:=aaM.mp h
 unfold rowOf dZ wordOf
 cases f:rows.find? (fun r=>decide (r.c=x)) with
 | none=>exact absurd (decide_eq_true e) (by simpa using List.find?_eq_none.mp f q hq)
 | some r=>exact⟨List.mem_of_find?_eq_some f,of_decide_eq_true (List.find?_some (p:=fun r:Row=>decide (r.c=x)) f),rfl,rfl⟩
theorem J7 (f:Row->Dt):∀ {rows:List Row} {x:Nat},x∈rows.map (·.c)->jF (kE f rows) (.inr (sg x))=some (f (rowOf rows x))
 | [],x,h=>by cases h
 | q::rows,x,h=>by
   by_cases e:q.c=x
   . subst e
     show jF ((.inr (sg q.c),f q)::kE f rows) _=_
     rw[nO (p:=(.inr (sg q.c),f q)) rfl]
     unfold rowOf
     rw[aa9,decide_eq_true rfl];rfl
   . have ne:¬ (Sum.inr (sg q.c):Key)=.inr (sg x):=fun z=>e (n9 (Sum.inr.inj z))
     show jF ((.inr (sg q.c),f q)::kE f rows) _=_
     rw[l7 (p:=(.inr (sg q.c),f q)) ne]
     have hx:x∈rows.map (·.c):=by
       rcases aau.mp h with z | z
       . exact absurd z.symm e
       . exact z
     rw[J7 f hx]
     unfold rowOf
     rw[aa9,decide_eq_false e]
theorem UX (f:Row->Dt){rows:List Row}(nd:(rows.map (·.c)).Nodup){j:Nat}(hj:j < rows.length):pz (kE f (rows.take j)) (.inr (sg rows[j].c)) (f rows[j])=kE f (rows.take (j+1)):=by
 have hn:jF (kE f (rows.take j)) (.inr (sg rows[j].c))=none:=by
   refine oC fun kv Tv=>?_
   obtain⟨r,hr,rfl⟩:=aaM.mp Tv
   intro z
   have z:r.c=rows[j].c:=n9 (Sum.inr.inj z)
   obtain⟨i,hi,e⟩:=aa4.mp hr
   rw[aat] at hi
   rw[abm] at e
   have h:=aaV.mp nd i j (by rw[Bn];omega) (by rw[Bn];exact hj) (by omega)
   rw[aaK,aaK] at h
   exact h (by rw[e];exact z)
 unfold pz
 rw[hn,if_neg (by simp)]
 unfold kE
 rw[aa0,k3 hj,aaP];rfl
theorem J8 (f:Row->Dt)(rows:List Row):(kE f rows).length=rows.length:=by unfold kE;rw[Bn]
section
variable {X:Cx}{G:Gr}{dl:List Slot}{a b c e:Expr}{n m:Nat}{pos p p2:Pos}{ns:List Int}
theorem MK (ha:EE X G dl a (.oy ns))(hb:EE X G dl b (.int (n:Int)))(hc:EE X G dl c (.int (m:Int)))(WE:n<=m):EE X G dl (.Subscript a (.Slice (some b) (some c) none p2) pos) (.oy ((ns.drop n).take (m - n))):=
 hV (qk yc ha (tU hb) (tU hc)) fun st H Q zq=>aaa zq fun Hf zq=>have S:=zq.1;have kk:=zq.2;⟨Hf,S,fun v Hf1 H1 g1 r1=>by
   cases r1 with
   | @oy q _ hq=>
     refine⟨Hf1,S.grow g1,fun z bD H2 g2 r2=>?_⟩
     cases r2
     refine⟨(n:Int),rfl,bD,(S.grow g1).grow g2,fun z' ia H3 g3 r3=>?_⟩
     cases r3
     have g:=(g1.trans g2).trans g3
     refine⟨(m:Int),rfl,q,_,rfl,((g1.sub.trans g2.big).trans g3.big).seq hq,fun p hp=>kk _ (upd ia p _) _ (g.trans (.alloc g.sub hp)) (.oy ?_)⟩
     have e:wj (ns.map V.int) (some (n:Int)) (some (m:Int))=((ns.drop n).take (m - n)).map V.int:=by
       unfold wj
       rw[HT.qj,HT.qj,Bn,abX,List.map_drop]
       by_cases h:n<=ns.length
       . rw[Nat.min_eq_left h]
         by_cases h2:m<=ns.length
         . rw[Nat.min_eq_left h2]
         . rw[Nat.min_eq_right (by omega)]
           rw[aa6 (by rw[aaW,Bn];exact aac _),aa6 (by rw[aaW,Bn];omega)]
       . rw[show min n ns.length=ns.length by omega,List.drop_of_length_le (by rw[Bn];exact aac _),List.drop_of_length_le (by rw[Bn];omega)];simp
     rw[<- e]
     exact .of ak⟩
end
theorem J9 {rows:List Row}(ok:bg rows){w:List Nat}(h:∀ x∈w,x∈rows.map (·.c)):(grow rows w).length<=8 * w.length:=(uy ok h).2
theorem UY (c:Int):4+2 * (c % 2)=wy (decide (c % 2=1)):=by
 have h:c % 2=0\/c % 2=1:=by omega
 rcases h with h | h
 . rw[h];rfl
 . rw[h];rfl
noncomputable def Q7:Expr->Scope
 | .Call _ [.ListComp _ _ sc _] _ _=>sc
 | _=>default
noncomputable def fw:Row->Dt:=fun r=>.str (tx r.w)
theorem ML {rows:List Row}{x:Nat}(h:x∈rows.map (·.c)):jF (kE fw rows) (.inr (sg x))=some (.str (tx (wordOf rows x))):=by
 rw[J7 fw h,(J6 h).2.2.2];rfl
def Bx:Rl:=fun ds r=>∃ (rows:List Row) (e:List Nat),ds=[.cV (kE fw rows),.str (tx e)]/\bg rows/\(∀ x∈e,x∈rows.map (·.c))/\e.length<=1000/\r=.ret (.str (tx (grow rows e)))
noncomputable def Ka:Stmt->Scope
 | .Return (some e) _=>Q7 e
 | _=>default
noncomputable abbrev FV:Scope:=Ka ((aB oN).getD 0 (.Pass ⟨0,0,0,0⟩))
theorem xV:iT FV (af oN) DP ["_law_letter","_law_words"] ["_law_letter"] [0]=true:=by decide +kernel
theorem FW (rows:List Row)(e:List Nat):((e.filter fun _=>true).map fun x=>Dt.str (tx (wordOf rows x)))=((e.map (wordOf rows)).map tx).map Dt.str:=by
 rw[aaC.mpr (fun _ _=>rfl),aam,aam];rfl
theorem FX (T:Txt K mg t):GF P w K mg base CX 1 "_law_grown" 2 Bx:=by
 refine⟨_,_,_,iQ T.oY.F Iv rfl fun bc A outer s H E G ds r hr hl hR=>?_,(T.g T.oY.a),T.oY.F.kp,T.oY.b⟩
 obtain⟨rows,e,rfl,ok,hw,hn,rfl⟩:=hR
 have hu:(A.deeper (envOfC "_law_grown" (af oN) s.heap.objs.size t.qN bc)).units+1 < cLine:=by have:=hr.units;omega
 have hg:=J9 ok hw
 exact⟨_,.rt _,ao (aF (xM (Ls:=e.map (wordOf rows)) dF (g9 (FW rows e) (ig e (fun x=>Dt.str (sg x)) (fun x=>.str (tx (wordOf rows x))) (fun x=>[.val (.str (sg x))]) (fun _=>true) rfl (cI xV) (ij (aa 1 rfl)) (dc (cI xV) rfl) (dm (de (m7 ok hw)) (uu e)) (fun a _=>d9) (.nil fun _ _=>rfl)
     (fun a ha _ C fp s' H' G'=>DB hu (aa 1 rfl) (aa 0 rfl) (ML (hw a ha)) (fun _ _=>rfl)) (rb (by omega)))) (by rw[Bn];show(grow rows e).length+_<=_;omega)))⟩
noncomputable def UZ (x:Tr):Dt:=.tup [sp x.shift,.int x.turn]
def Ei (t:dJ):Rl:=fun ds r=>∃ six rows w l' ls' n' l ls n age,∃ e:Nat,ds=[.obj t.ay (t.Eh six rows w l' ls' n' l ls n),.int ((age:Nat):Int),.int (e:Int)]/\MH t six rows w ls' ls/\age<=200/\e<=(k7 rows w age).length/\r=.ret (UZ (bL six (qY rows (cut (k7 rows w age) 0 e))))
theorem Kb (T:Txt K mg t):MF P w K mg base CX 10 t.ay "pen_at" 3 (Ei t):=by
 refine⟨T.bC.cl,_,_,_,iQ T.fV.F lu rfl fun bc A outer s H E G ds r hr hl hR=>?_,T.cW,T.fV.b⟩
 obtain⟨six,rows,wd,l',ls',n',l,ls,n,age,e,rfl,ok,lK,JN,rfl⟩:=hR
 have MN:=v9 (P:=P) (w:=w) (base:=base) T
 have qV:=xQ (P:=P) (w:=w) (base:=base) T
 have vV:=zB (P:=P) (w:=w) (base:=base) T
 have nd:=lu.nd
 obtain⟨x,hx⟩:∃ x,x=bL six (qY rows (cut (k7 rows wd age) 0 e)):=⟨_,rfl⟩
 rw[<- hx]
 have e0:tn six ((0:Int) % wy six).toNat x.shift=x.shift:=by cases six <;> rfl
 refine⟨_,.rt _,ah (aw 3 nd (d:=t.pJ six x) (bE (fs:=t.Eh six rows wd l' ls' n' l ls n) (aa 0 rfl) MN ax hr (ae (aa 1 rfl) (ae aj (ae (aa 2 rfl) ai))) ⟨six,rows,wd,l',ls',n',l,ls,n,age,0,e,rfl,ok,lK,⟨aaQ _,JN⟩,by rw[hx]⟩))
   (ao (aF (bR (cB (ae (Ds (fs:=t.kK six x) (k4 (aa 3 rfl)) qV ax hr ⟨six,x,0,rfl,rfl⟩) (ae (ck (fs:=t.kK six x) (k4 (aa 3 rfl)) vV ax hr ⟨six,x,rfl,rfl⟩) ai)) AA3) (by rw[e0];rfl))))⟩
noncomputable abbrev Pl:=(Int×Int)×Int
noncomputable def mB (q:Pl):Dt:=.tup [sp q.1,.int q.2]
noncomputable def k6 (six:Bool)(rows:List Row)(w:List Nat):Nat->Pl
 | 0=>((0,0),0)
 | k+1=>qc six (dZ rows (w.getD k 0)) (k6 six rows w k).1 (k6 six rows w k).2
def Kc (t:dJ):Rl:=fun ds r=>∃ six rows w,ds=[t.pI six rows,.str (tx w)]/\bg rows/\(∀ x∈w,x∈rows.map (·.c))/\(0 < w.length/\w.length<=400)/\r=.own (.lst (((aag (w.length+1)).map (k6 six rows w)).map mB))
theorem CW {rows:List Row}(ok:bg rows){x:Nat}(h:x∈rows.map (·.c)):dZ rows x∈mw:=by
 obtain⟨q,hq,_,e,_⟩:=iO h
 rw[e];exact ok.dd q hq
theorem By {α:Type}(f:Nat->α)(k:Nat):lZ ((aag (k+1)).map f) (-1)=some (f k):=by
 rw[abS,aaP]
 exact GI _ _
theorem Ej (T:Txt K mg t):GF P w K mg base CX 6 "path" 2 (Kc t):=by
 refine⟨_,_,_,iQ T.si.F DM rfl fun bc A outer s H E G ds r hr hl hR=>?_,(T.g T.si.a),T.si.F.kp,T.si.b⟩
 obtain⟨six,rows,wd,rfl,ok,hw,⟨h0,h4⟩,rfl⟩:=hR
 have nd:=DM.nd
 have sD:=Cv (P:=P) (w:=w) (base:=base) T
 have Bw:=zv (P:=P) (w:=w) (base:=base) T
 have v8:=vM (P:=P) (w:=w) (base:=base) T
 have MO:=Ba (P:=P) (w:=w) (base:=base) T six
 let f:=k6 six rows wd
 let S:Nat->List Slot:=fun k=>[.val (t.pI six rows),.val (.str (tx wd)),.val (.hX (.obj (t.pc six) [])),.own (.lst (((aag (k+1)).map f).map mB)),.aY,.aY]
 refine⟨_,.ro _,ah (qu (yx (fs:=t.ur six rows) (aa 0 rfl) sD ax hr (ae (aa 1 rfl) (ae (jW (w:=.int 400) T.vE ⟨_,rfl⟩ fun _=>.int 400) ai)) ⟨six,rows,wd,400,rfl,ok,hw,⟨h0,h4,by decide⟩,rfl⟩))
   (ah (aw 2 nd (ck (fs:=t.ur six rows) (aa 0 rfl) Bw ax hr ⟨six,rows,rfl,rfl⟩))
   (ah (jX 3 nd (uY (ae (cB (ae (cB (ae aj (ae aj ai)) AA3) (ae aj ai)) AA3) ai) AA3))
   (ah (mI (o:=.nx (S wd.length)) (m:=wd.length) wd (fun x=>Dt.str (sg x)) (fun x dl=>dl.set 4 (.val (.str (sg x)))) S rfl PassesOwn.leaving (ij (aa 1 rfl)) (dm (de (m7 ok hw)) (uu wd)) (bX nd rfl (.inl rfl)) (fun a _=>t6) (Le.of ⟨rfl,rfl,rfl,rfl,trivial⟩) (aac _) (fun k a hk ha=>?_) (.all rfl))
   (ao (yt 3)))))⟩
 rw[k3 hk] at ha
 cases ha
 have hm:=hw _ (aaJ hk)
 have eg:wd.getD k 0=wd[k]:=by rw[WY,k3 hk];rfl
 have e:((aag (k+1+1)).map f).map mB=((aag (k+1)).map f).map mB ++ [mB (f (k+1))]:=by
   rw[abS,aaP,aaP];rfl
 have ef:f (k+1)=qc six (dZ rows wd[k]) (f k).1 (f k).2:=by show qc six (dZ rows (wd.getD k 0)) _ _=_;rw[eg]
 have il:lZ (((aag (k+1)).map f).map mB) (-1)=some (mB (f k)):=by
   rw[aam]
   exact By (mB ∘ f) k
 refine .nx (ah (aw 5 nd (d:=.tup [sp (f k).1,.int (f k).2]) (pO (ds:=((aag (k+1)).map f).map mB) 3 (iW aj) il))
   (ao (rM (ds:=((aag (k+1)).map f).map mB) 3 (d:=mB (qc six (dZ rows wd[k]) (f k).1 (f k).2)) (bE (jN (aa 2 rfl)) MO ax hr (ae (bE (fs:=t.ur six rows) (aa 0 rfl) v8 ax hr (ae (aa 4 rfl) ai) ⟨six,rows,wd[k],rfl,ok,hm,rfl⟩) (ae (aD (aa 5 rfl) aj rfl) (ae (aD (aa 5 rfl) aj rfl) ai))) ⟨_,_,_,rfl,CW ok hm,rfl⟩) (by rw[Bn,Bn,aaA];exact aak (show k+1 < 2000 by omega) (by decide))))) (Le.of ⟨rfl,rfl,rfl,?_,trivial⟩)
 show Slot.own (.lst (((aag (k+1+1)).map f).map mB))=_
 rw[e,ef]
noncomputable abbrev Sk:=(Int×Int)×Int
noncomputable def Ek (s:Sk):Dt:=.tup [sp s.1,.int s.2]
def FY:Rl:=fun ds r=>∃ six p b,ds=[.int (wy six),sp p,.int b]/\r=.ret (sp (tn six (b % wy six).toNat p))
theorem Q8 (L:List Sk):Nf (.lst (L.map Ek)):=by
 have h1:kM (L.map Ek)=true:=by
   induction L with
   | nil=>simp[kM]
   | cons x xs ih=>rw[aao,kM,ih];simp[Sg.plain,kM,Ek,sp]
 have h2:∀ L:List Sk,PyData.canLayAll0 (BY (L.map Ek))=true/\PyData.depthAll (BY (L.map Ek))<=2:=by
   intro L
   induction L with
   | nil=>simp[BY,PyData.canLayAll0,PyData.depthAll]
   | cons y ys ih=>
     rw[aao]
     obtain⟨i1,i2⟩:=ih
     refine⟨by simp[BY,pd,Ek,sp,PyData.canLayAll0,PyData.canLay0,i1],?_⟩
     simp[BY,pd,Ek,sp,PyData.depthAll,PyData.depth]
     omega
 refine⟨by rw[Sg.plain];exact h1,?_⟩
 unfold SeqAt.shaped
 rw[pd]
 obtain⟨i1,i2⟩:=h2 L
 simp[PyData.canLay0,PyData.depth,i1]
 omega
noncomputable def xW (six:Bool)(rows:List Row)(w:List Nat):List Sk:=((aag w.length).filter fun k=>decide (dZ rows (w.getD k 0)=("stroke":Str))).map (k6 six rows w)
def Bz (t:dJ):Rl:=fun ds r=>∃ six rows w,ds=[t.pI six rows,.str (tx w)]/\bg rows/\(∀ x∈w,x∈rows.map (·.c))/\(0 < w.length/\w.length<=400)/\r=.own (.lst ((xW six rows w).map Ek))
noncomputable abbrev FZ:Scope:=RB ((aB nT).getD 0 (.Pass ⟨0,0,0,0⟩))
theorem xX:iT FZ (af nT) AY ["place","letter","rules"] ["place","letter"] [0]=true:=by decide +kernel
theorem Kd {six:Bool}{rows:List Row}{w:List Nat}:(aag w.length).map (fun k=>Dt.tup [Ek (k6 six rows w k),.str (sg (w.getD k 0))])=Fc (((aag (w.length+1)).map (k6 six rows w)).map mB) (Sg.signs (tx w)):=by
 unfold Fc
 have hl:min (((aag (w.length+1)).map (k6 six rows w)).map mB).length (Sg.signs (tx w)).length=w.length:=by
   rw[Bn,Bn,aaA,kG,gh];omega
 rw[hl]
 refine abx fun k hk=>?_
 have hk:=abp.mp hk
 have e1:(((aag (w.length+1)).map (k6 six rows w)).map mB).getD k .cy=mB (k6 six rows w k):=by
   rw[WY,aab,aab,aar (by omega)];rfl
 have e2:(Sg.signs (tx w)).getD k .cy=.str (sg (w.getD k 0)):=by
   rw[<- uu,WY,aab,k3 hk,WY,k3 hk];rfl
 rw[e1,e2];rfl
theorem mem_getD {w:List Nat}{k:Nat}(hk:k < w.length):w.getD k 0∈w:=by
 rw[WY,k3 hk];exact aaJ hk
theorem F0 (T:Txt K mg t):GF P w K mg base CX 7 "figure" 2 (Bz t):=by
 refine⟨_,_,_,iQ T.mn.F FA rfl fun bc A outer s H E G ds r hr hl hR=>?_,(T.g T.mn.a),T.mn.F.kp,T.mn.b⟩
 obtain⟨six,rows,wd,rfl,ok,hw,⟨h0,h4⟩,rfl⟩:=hR
 have CY:=Ej (P:=P) (w:=w) (base:=base) T
 have v8:=vM (P:=P) (w:=w) (base:=base) T
 refine⟨_,.ro _,ao (mH (Dr (ig (aag wd.length) (fun k=>Dt.tup [Ek (k6 six rows wd k),.str (sg (wd.getD k 0))]) (fun k=>Ek (k6 six rows wd k)) (fun k=>[.val (Ek (k6 six rows wd k)),.val (.str (sg (wd.getD k 0)))]) (fun k=>decide (dZ rows (wd.getD k 0)=("stroke":Str))) rfl (cI xX)
   (Py rfl T.IE (ae (pv (sM CY ax hr (ae (aa 0 rfl) (ae (aa 1 rfl) ai)) ⟨six,rows,wd,rfl,ok,hw,⟨h0,h4⟩,rfl⟩)) (ae (aa 1 rfl) ai))) (AD rfl (cI xX) rfl) (dm (HL (.lst _) (.str _ (m7 ok hw))) Kd) (fun a _=>Dy)
   (.one fun a ha C fp s' H' G'=>?_) (fun a ha _ C fp s' H' G'=>aa 0 rfl) (rb (by rw[aaA];omega))) ?_))⟩
 . have ha:=abp.mp ha
   exact nL (bE (fs:=t.ur six rows) (aa 2 rfl) v8 ax hr (ae (aa 1 rfl) ai) ⟨six,rows,wd.getD a 0,rfl,ok,hw _ (mem_getD ha),rfl⟩) dF
 . unfold xW
   rw[aam];rfl
theorem CZ (T:Txt K mg t):GF P w K mg base CX 1 "_law_turned" 3 FY:=by
 refine⟨_,_,_,iQ T.mv.F xI rfl fun bc A outer s H E G ds r hr hl hR=>?_,(T.g T.mv.a),T.mv.F.kp,T.mv.b⟩
 obtain⟨six,p,b,rfl,rfl⟩:=hR
 have nd:=xI.nd
 have T3:=aaE b (abb (eI six))
 have Xe:=aaF b (eI six)
 have hb3:wy six<=6:=by cases six <;> decide
 refine⟨_,.rt _,ah (yz 3 4 nd rfl (aa 1 rfl)) (ah (kF 5 (fun k=>[.val (.int (wy six)),.aY,.val (.int b),.val (.int (tn six k p).1),.val (.int (tn six k p).2),.aY]) nd rfl PassesOwn.leaving T.gW
   (ae (fk (aa 2 rfl) (aa 0 rfl) (eI six)) ai) ⟨by omega,by omega⟩ (Le.of ⟨rfl,rfl,rfl,rfl,trivial⟩) (aac _) (fun k hk=>?_) (.all rfl)) (ao (aF (cB (ae (aa 3 rfl) (ae (aa 4 rfl) ai)) AA3))))⟩
 cases six with
 | false=>exact .nx (ao (cN (rL (aa 0 rfl) aj) (fun h=>ao (Hq 3 4 nd rfl (ae (iW (aa 4 rfl)) (ae (aa 3 rfl) ai)))) (fun h=>absurd h (by decide)))) (Le.of ⟨rfl,rfl,rfl,rfl,trivial⟩)
 | true=>exact .nx (ao (cN (rL (aa 0 rfl) aj) (fun h=>absurd h (by decide)) (fun h=>ao (Hq 3 4 nd rfl (ae (iW (aa 4 rfl)) (ae (aL (aa 3 rfl) (aa 4 rfl)) ai)))))) (Le.of ⟨rfl,rfl,rfl,rfl,trivial⟩)
theorem U0 (W:List Nat)(k:Nat):cut W 0 k=W.take k:=by unfold cut;rw[abW]
theorem BA (rows:List Row)(W:List Nat){k:Nat}(h:k < W.length):qY rows (W.take (k+1))=qY rows (W.take k) ++ [dZ rows (W.getD k 0)]:=by
 unfold qY
 rw[aa0,k3 h,aaP,WY,k3 h];rfl
theorem qZ (six:Bool)(rows:List Row)(W:List Nat):∀ k,k<=W.length->k6 six rows W k=((bL six (qY rows (W.take k))).shift,(bL six (qY rows (W.take k))).turn)
 | 0,_=>rfl
 | k+1,h=>by
   rw[k6,qZ six rows W k (by omega),BA rows W (by omega)]
   exact JZ six _ _
noncomputable def mid (six:Bool)(rows:List Row)(W:List Nat)(b i:Nat):Tr:=bL six (qY rows ((W.drop b).take i))
theorem MP (W:List Nat){b e:Nat}(h:b<=e):cut W b e=(W.drop b).take (e - b):=by
 unfold cut
 rw[List.drop_take]
theorem zL (six:Bool)(rows:List Row)(W:List Nat){b i:Nat}(h:b+i<=W.length):k6 six rows W (b+i)=(ad (k6 six rows W b).1 (tn six ((k6 six rows W b).2 % wy six).toNat (mid six rows W b i).shift),((k6 six rows W b).2+(mid six rows W b i).turn) % wy six):=by
 rw[qZ six rows W (b+i) h,qZ six rows W b (by omega)]
 have e:qY rows (W.take (b+i))=qY rows (W.take b) ++ qY rows ((W.drop b).take i):=by
   unfold qY
   rw[<- aaP,<- List.take_add]
 rw[e,<- Eg six _ _ _ rfl]
 rfl
theorem MQ (p:Int×Int):cr p p=0:=by unfold cr;rw[Int.mul_comm];omega
theorem Ke (six:Bool)(rows:List Row)(W:List Nat){b i:Nat}(h:b+i < W.length):(mid six rows W b (i+1)).kZ=(mid six rows W b i).kZ+cr (mid six rows W b i).shift (mid six rows W b (i+1)).shift:=by
 have e:mid six rows W b (i+1)=jn six (mid six rows W b i) (one six (dZ rows ((W.drop b).getD i 0))):=by
   unfold mid
   rw[BA rows (W.drop b) (by rw[aaW];omega)]
   exact iP six _ _
 rw[e]
 show(mid six rows W b i).kZ+0+cr (mid six rows W b i).shift _=_+cr _ (ad _ _)
 rw[Ee,MQ];omega
noncomputable def sb (p q:Int×Int):Int×Int:=(p.1 - q.1,p.2 - q.2)
noncomputable def Q9 (f:Nat->Pl):Nat->Int
 | 0=>0
 | k+1=>Q9 f k+((f k).1.1 - (f 0).1.1) * ((f (k+1)).1.2 - (f 0).1.2) - ((f k).1.2 - (f 0).1.2) * ((f (k+1)).1.1 - (f 0).1.1)
theorem El (six:Bool)(rows:List Row)(W:List Nat)(b:Nat):∀ i,b+i<=W.length->Q9 (fun i=>k6 six rows W (b+i)) i=(mid six rows W b i).kZ
 | 0,_=>rfl
 | i+1,h=>by
   have ih:=El six rows W b i (by omega)
   rw[Ke six rows W (by omega),<- ih,<- JV six ((k6 six rows W b).2 % wy six).toNat]
   have e1:=zL six rows W (b:=b) (i:=i) (by omega)
   have e2:=zL six rows W (b:=b) (i:=i+1) (by omega)
   rw[Q9]
   show Q9 (fun i=>k6 six rows W (b+i)) i+((k6 six rows W (b+i)).1.1 - (k6 six rows W b).1.1) * ((k6 six rows W (b+(i+1))).1.2 - (k6 six rows W b).1.2) - ((k6 six rows W (b+i)).1.2 - (k6 six rows W b).1.2) * ((k6 six rows W (b+(i+1))).1.1 - (k6 six rows W b).1.1)=_
   rw[e1,e2]
   unfold cr ad
   have sw:∀ p q:Int,p+q - p=q:=fun p q=>by omega
   simp only[sw]
   omega
theorem Ra (six:Bool)(rows:List Row)(W:List Nat){k:Nat}(h:k<=W.length):(k6 six rows W k).1.1.natAbs<=k/\(k6 six rows W k).1.2.natAbs<=k:=by
 rw[qZ six rows W k h]
 have:=CJ six k (qY rows (W.take k)) (by unfold qY;rw[Bn,aat];omega)
 exact⟨this.1,this.2.1⟩
theorem MR (six:Bool)(rows:List Row)(W:List Nat):(xW six rows W).length=(qY rows W).count ("stroke":Str):=by
 unfold xW qY
 rw[Bn,List.count_eq_countP,abT,<- List.countP_eq_length_filter]
 have e:W=(aag W.length).map fun k=>W.getD k 0:=by
   refine abM (by simp) fun k h1 h2=>?_
   rw[aaK,List.getElem_range,WY,k3 h1];rfl
 conv=>rhs;rw[e]
 rw[abT]
 refine List.countP_congr fun k _=>?_
 simp
noncomputable def lb (six:Bool)(rows:List Row)(W:List Nat)(b n:Nat):List Pl:=(aag n).map fun i=>k6 six rows W (b+i)
theorem uz {six:Bool}{rows:List Row}{W:List Nat}{b n i:Nat}(h:i < n):lZ ((lb six rows W b n).map mB) (i:Int)=some (mB (k6 six rows W (b+i))):=by
 refine ll ?_
 unfold lb
 rw[aab,aab,aar h];rfl
theorem BB (six:Bool)(rows:List Row)(W:List Nat)(b n:Nat):((lb six rows W b n).map mB).length=n:=by unfold lb;simp
theorem F1 {six:Bool}{rows:List Row}{W:List Nat}{b n:Nat}:lZ ((lb six rows W b (n+1)).map mB) (-1)=some (mB (k6 six rows W (b+n))):=by
 unfold lb
 rw[aam]
 exact By (mB ∘ fun i=>k6 six rows W (b+i)) n
theorem Kf (six:Bool)(rows:List Row)(W:List Nat){b n m:Nat}(h:b+n<=m):(((lb six rows W 0 m).map mB).take (b+n)).drop b=(lb six rows W b n).map mB:=by
 unfold lb
 refine abH fun k=>?_
 rw[List.getElem?_drop,List.getElem?_take]
 simp only[aab,Nat.zero_add]
 by_cases hk:k < n
 . rw[if_pos (by omega),aar hk,aar (by omega)];rfl
 . rw[if_neg (by omega),aaw (l:=aag n) (by rw[aaA];omega)];rfl
theorem MS {ds:List Dt}{a b:Nat}(hb:b<=ds.length)(X3:a<=b):Sg.cutD ds (some (a:Int)) (some (b:Int))=(ds.take b).drop a:=by
 unfold Sg.cutD
 have h1:HT.wb ds.length 0 (some (a:Int))=a:=by rw[HT.qj];omega
 have h2:HT.wb ds.length ds.length (some (b:Int))=b:=by rw[HT.qj];omega
 rw[h1,h2,List.drop_take]
def NW:Rl:=fun ds r=>∃ rows w n m,ds=[.cV (kE fw rows),.str (tx w),.int ((n:Nat):Int)]/\my rows w/\m<=n/\(k7 rows w m).length<=60/\(m=n\/(m < n/\60 < (k7 rows w (m+1)).length))/\r=.ret (.tup [.str (tx (k7 rows w m)),.int ((m:Nat):Int)])
def MT:Rl:=fun ds r=>∃ six rows W b n,ds=[.lst ((lb six rows W b (n+1)).map mB)]/\b+n<=W.length/\W.length<=100/\r=.ret (.int (Q9 (fun i=>k6 six rows W (b+i)) n))
def MU (t:dJ):Rl:=fun ds r=>∃ six rows W b n,ds=[t.pJ six (mid six rows W b n),.lst ((lb six rows W b (n+1)).map mB),.int (wy six)]/\b+n<=W.length/\W.length<=100/\r=.ret (.bl true)
theorem U1 {rows:List Row}{w:List Nat}(ok:my rows w)(age:Nat):∃ m,m<=age/\(k7 rows w m).length<=60/\(m=age\/(m < age/\60 < (k7 rows w (m+1)).length)):=by
 have h0:(k7 rows w 0).length<=60:=by rw[Ed];have:=ok.w8;omega
 induction age with
 | zero=>exact⟨0,aac _,h0,.inl rfl⟩
 | succ a ih=>
   obtain⟨m,h1,h2,h3⟩:=ih
   rcases h3 with rfl | h3
   . by_cases h:(k7 rows w (m+1)).length<=60
     . exact⟨m+1,aac _,h,.inl rfl⟩
     . exact⟨m,by omega,h2,.inr ⟨by omega,by omega⟩⟩
   . exact⟨m,by omega,h2,.inr ⟨by omega,h3.2⟩⟩
theorem Rb (rows:List Row){w:List Nat}(ok:my rows w)(n:Nat):0 < (k7 rows w n).length:=by
 have h:=JR ok.ok ok.wm (n:=0) (m:=n) (aaQ _)
 rw[Ed] at h
 have:=ok.w0
 omega
theorem Kg {a b:Int}(ha:a.natAbs<=400)(hb:b.natAbs<=400):IntMulOk a b:=IZ (m:=9) (n:=9) (aaH ha (by decide)) (aaH hb (by decide)) (by decide)
theorem Rc (T:Txt K mg t):GF P w K mg base CX 2 "_law_written" 3 NW:=by
 refine⟨_,_,_,iQ T.kJ.F vw rfl fun bc A outer s H E G ds r hr hl hR=>?_,(T.g T.kJ.a),T.kJ.F.kp,T.kJ.b⟩
 obtain⟨rows,wd,n,m,rfl,ok,SQ,hle,Rf,rfl⟩:=hR
 have zM:=FX (P:=P) (w:=w) (base:=base) T
 have nd:=vw.nd
 have E3:=fun k=>ux ok.ok ok.wm k
 have hb:∀ k,k<=m->(k7 rows wd k).length<=60:=fun k hk=>aav (JR ok.ok ok.wm hk) hle
 have h8:∀ k,(grow rows (k7 rows wd k)).length<=8 * (k7 rows wd k).length:=fun k=>(uy ok.ok (E3 k)).2
 let S:Nat->List Slot:=fun k=>[.val (.cV (kE fw rows)),.val (.str (tx wd)),.val (.int ((n:Nat):Int)),.val (.str (tx (k7 rows wd k))),.val (.int ((k:Nat):Int))]
 have gr:∀ k,k<=m->Bx [.cV (kE fw rows),.str (tx (k7 rows wd k))] (.ret (.str (tx (grow rows (k7 rows wd k))))):=fun k hk=>⟨rows,k7 rows wd k,rfl,ok.ok,E3 k,by have:=hb k hk;omega,rfl⟩
 refine⟨_,.rt _,ah (aw 3 nd (aa 1 rfl)) (ah (aw 4 nd aj) (ah (dl1:=S m) (Aw S m PassesOwn.leaving (Le.of ⟨rfl,rfl,rfl,?_,rfl,trivial⟩) (fun k hk=>?_) ?_ (fun k hk=>?_)) (ao (aF (cB (ae (aa 3 rfl) (ae (aa 4 rfl) ai)) AA3)))))⟩
 . show Slot.val (.str (tx (k7 rows wd 0)))=Slot.val (.str (tx wd))
   rw[Ed]
 . have a:=h8 k
   have b:=hb k (by omega)
   have c:=hb (k+1) (by omega)
   rw[<- Bq] at c
   exact dG (sS (nK (qy (aa 4 rfl) (aa 2 rfl)) fun _=>qt (pq (fG T.fg (b8 zM ax hr (ae (aa 0 rfl) (ae (aa 3 rfl) ai)) (gr k (by omega))) (by omega)) aj))) (by rw[decide_eq_true (by omega),decide_eq_true (by omega)];rfl)
 . have a:=h8 m
   rcases Rf with rfl | ⟨h1,h2⟩
   . exact sS (nK (u:=false) (v:=false) (dG (qy (aa 4 rfl) (aa 2 rfl)) (decide_eq_false (by omega))) fun h=>nomatch h)
   . rw[<- Bq] at h2
     exact dG (sS (nK (qy (aa 4 rfl) (aa 2 rfl)) fun _=>qt (pq (fG T.fg (b8 zM ax hr (ae (aa 0 rfl) (ae (aa 3 rfl) ai)) (gr m (by omega))) (by omega)) aj))) (by rw[decide_eq_true (p:=((m:Nat):Int) < ((n:Nat):Int)) (by omega),decide_eq_false (by omega)];rfl)
 . refine .nx (ah (aw 3 nd (b8 zM ax hr (ae (aa 0 rfl) (ae (aa 3 rfl) ai)) (gr k (by omega)))) (ao (aw 4 nd (aL (aa 4 rfl) aj)))) (Le.of ⟨rfl,rfl,rfl,?_,rfl,trivial⟩)
   show Slot.val (.str (tx (k7 rows wd (k+1))))=Slot.val (.str (tx (grow rows (k7 rows wd k))))
   rw[Bq]
theorem Kh (T:Txt K mg t):GF P w K mg base CX 1 "_law_area" 1 MT:=by
 refine⟨_,_,_,iQ T.su.F DQ rfl fun bc A outer s H E G ds r hr hl hR=>?_,(T.g T.su.a),T.su.F.kp,T.su.b⟩
 obtain⟨six,rows,W,b,n,rfl,VU,hW,rfl⟩:=hR
 have nd:=DQ.nd
 let f:Nat->Pl:=fun i=>k6 six rows W (b+i)
 have bd:∀ i,i<=n->(f i).1.1.natAbs<=100/\(f i).1.2.natAbs<=100:=fun i hi=>by
   have:=Ra six rows W (k:=b+i) (by omega)
   show(k6 six rows W (b+i)).1.1.natAbs<=100/\(k6 six rows W (b+i)).1.2.natAbs<=100
   omega
 let S:Nat->List Slot:=fun k=>[.val (.lst ((lb six rows W b (n+1)).map mB)),.val (.int (Q9 f k)),.val (.int (f 0).1.1),.val (.int (f 0).1.2),.aY,.aY,.aY]
 have hlen:=BB six rows W b (n+1)
 have hN:((((((lb six rows W b (n+1)).map mB).length:Nat):Int) - (1:Int)).toNat)=n:=by rw[hlen];omega
 refine⟨_,.rt _,ah (aw 1 nd aj) (ah (yz (d1:=.int (f 0).1.1) (d2:=.int (f 0).1.2) 2 3 nd rfl (aD (ds:=[sp (f 0).1,.int (f 0).2]) (pN (aa 0 rfl) aj (uz (i:=0) (by omega))) aj rfl))
   (ah (dl1:=S n) (mI (o:=.nx (S n)) (m:=n) (aag (((((lb six rows W b (n+1)).map mB).length:Nat):Int) - (1:Int)).toNat) (fun(k:Nat)=>Dt.int ((1:Int)+(k:Nat))) (fun(k:Nat) dl=>dl.set 4 (.val (.int ((1:Int)+(k:Nat))))) S rfl PassesOwn.leaving (Fv rfl T.gW (ae aj (ae (qx T.fg (aa 0 rfl)) ai))) AU (bX nd rfl (.inl rfl)) (fun a _=>t6) (Le.of ⟨rfl,rfl,rfl,rfl,trivial⟩) (by rw[aaA,hN];exact aac _) (fun k a hk ha=>?_) (by rw[aaA,hN];exact .all rfl)) (ao (aF (aa 1 rfl)))))⟩
 have Ry:a=k:=by
   rw[hN,aar hk] at ha
   exact(Option.some.inj ha).symm
 subst Ry
 obtain⟨x1,x2⟩:=bd 0 (aaQ _)
 obtain⟨y1,y2⟩:=bd a (by omega)
 obtain⟨z1,z2⟩:=bd (a+1) (by omega)
 have e1:(1:Int)+((a:Nat):Int) - 1=((a:Nat):Int):=by omega
 have e2:(1:Int)+((a:Nat):Int)=((a+1:Nat):Int):=by omega
 exact .nx (ah (aw 5 nd (d:=sp (f a).1) (aD (ds:=[sp (f a).1,.int (f a).2]) (pN (aa 0 rfl) (bR (ib (aa 4 rfl) aj) (congrArg Dt.int e1)) (uz (i:=a) (by omega))) aj rfl))
   (ah (aw 6 nd (d:=sp (f (a+1)).1) (aD (ds:=[sp (f (a+1)).1,.int (f (a+1)).2]) (pN (aa 0 rfl) (bR (aa 4 rfl) (congrArg Dt.int e2)) (uz (i:=a+1) (by omega))) aj rfl))
   (ah (aw 1 nd (aL (aa 1 rfl) (iV (ib (aD (d:=.int (f a).1.1) (aa 5 rfl) aj rfl) (aa 2 rfl)) (ib (aD (d:=.int (f (a+1)).1.2) (aa 6 rfl) aj rfl) (aa 3 rfl)) (Kg (by omega) (by omega)))))
   (ao (aw 1 nd (ib (aa 1 rfl) (iV (ib (aD (d:=.int (f a).1.2) (aa 5 rfl) aj rfl) (aa 3 rfl)) (ib (aD (d:=.int (f (a+1)).1.1) (aa 6 rfl) aj rfl) (aa 2 rfl)) (Kg (by omega) (by omega)))))))))
   (Le.of ⟨rfl,rfl,rfl,rfl,trivial⟩)
theorem Ki (T:Txt K mg t):GF P w K mg base CX 6 "_law_stretch_shown" 3 (MU t):=by
 refine⟨_,_,_,iQ T.da.F mj rfl fun bc A outer s H E G ds r hr hl hR=>?_,(T.g T.da.a),T.da.F.kp,T.da.b⟩
 obtain⟨six,rows,W,b,n,rfl,VU,hW,rfl⟩:=hR
 have nd:=mj.nd
 have Kj:=CZ (P:=P) (w:=w) (base:=base) T
 have Rg:=Kh (P:=P) (w:=w) (base:=base) T
 have Kk:=xQ (P:=P) (w:=w) (base:=base) T
 have qV:=Bc (P:=P) (w:=w) (base:=base) T
 have vV:=zB (P:=P) (w:=w) (base:=base) T
 have CI:=D7 (P:=P) (w:=w) (base:=base) T
 obtain⟨x,hx⟩:∃ x,x=mid six rows W b n:=⟨_,rfl⟩
 obtain⟨p,hp⟩:∃ p,p=k6 six rows W b:=⟨_,rfl⟩
 obtain⟨q,hq⟩:∃ q,q=k6 six rows W (b+n):=⟨_,rfl⟩
 have VB:q=(ad p.1 (tn six (p.2 % wy six).toNat x.shift),(p.2+x.turn) % wy six):=by rw[hp,hq,hx];exact zL six rows W VU
 have har:Q9 (fun i=>k6 six rows W (b+i)) n=x.kZ:=by rw[hx];exact El six rows W b n VU
 have e0:sp (tn six ((0:Int) % wy six).toNat x.shift)=sp x.shift:=by cases six <;> rfl
 have i0:lZ ((lb six rows W b (n+1)).map mB) 0=some (mB p):=by rw[hp];exact uz (i:=0) (by omega)
 have i1:lZ ((lb six rows W b (n+1)).map mB) (-1)=some (mB q):=by rw[hq];exact F1
 rw[<- hx]
 let h:Int×Int:=tn six (p.2 % wy six).toNat x.shift
 have Z5:∀ p:Int×Int,(!PyData.eqv (pd (sp p)) (pd (sp p)))=false:=fun p=>by rw[eqv_refl _ rfl];rfl
 have q1:q.1=ad p.1 h:=by rw[VB]
 have q2:(p.2+x.turn) % wy six=q.2:=by rw[VB]
 refine⟨_,.rt _,ah (aw 3 nd (d:=mB p) (pN (aa 1 rfl) aj i0)) (ah (aw 4 nd (d:=mB q) (pN (aa 1 rfl) (iW aj) i1))
   (ah (aw 5 nd (d:=sp h) (b8 Kj ax hr (ae (aa 2 rfl) (ae (bR (Ds (fs:=t.kK six x) (k4 (aa 0 rfl)) Kk ax hr ⟨six,x,0,rfl,rfl⟩) e0) (ae (aD (d:=.int p.2) (ds:=[sp p.1,.int p.2]) (aa 3 rfl) aj rfl) ai))) ⟨six,x.shift,p.2,rfl,rfl⟩))
   (ah (aw 6 nd (d:=sp (ad p.1 h)) (cB (ae (aL (aD (d:=.int p.1.1) (ds:=[.int p.1.1,.int p.1.2]) (aD (d:=sp p.1) (ds:=[sp p.1,.int p.2]) (aa 3 rfl) aj rfl) aj rfl) (aD (d:=.int h.1) (ds:=[.int h.1,.int h.2]) (aa 5 rfl) aj rfl)) (ae (aL (aD (d:=.int p.1.2) (ds:=[.int p.1.1,.int p.1.2]) (aD (d:=sp p.1) (ds:=[sp p.1,.int p.2]) (aa 3 rfl) aj rfl) aj rfl) (aD (d:=.int h.2) (ds:=[.int h.1,.int h.2]) (aa 5 rfl) aj rfl)) ai)) AA3))
   (ah (cN (u:=false) (sS (Am (u:=false) (v:=false) (GX (d1:=sp (ad p.1 h)) (d2:=sp (ad p.1 h)) hr.units (aa 6 rfl) (bR (aD (d:=sp q.1) (ds:=[sp q.1,.int q.2]) (aa 4 rfl) aj rfl) (congrArg sp q1)) ⟨rfl,rfl⟩ ⟨rfl,rfl⟩ (Z5 _)) fun _=>uT (GX (d1:=sp h) (d2:=sp h) hr.units (yx (fs:=t.kK six x) (k4 (aa 0 rfl)) qV ax hr (ae (aD (d:=.int p.2) (ds:=[sp p.1,.int p.2]) (aa 3 rfl) aj rfl) ai) ⟨six,x,p.2,rfl,rfl⟩) (aa 5 rfl) ⟨rfl,rfl⟩ ⟨rfl,rfl⟩ (Z5 _)))) (fun h=>nomatch h) (fun h=>dn))
   (ao (aF (yj (u:=true) (v:=true) (bR (BZ (fk (aL (aD (d:=.int p.2) (ds:=[sp p.1,.int p.2]) (aa 3 rfl) aj rfl) (ck (fs:=t.kK six x) (k4 (aa 0 rfl)) vV ax hr ⟨six,x,rfl,rfl⟩)) (aa 2 rfl) (eI six)) (aD (d:=.int q.2) (ds:=[sp q.1,.int q.2]) (aa 4 rfl) aj rfl)) (by rw[q2,decide_eq_true rfl])) fun _=>tW (bR (BZ (ck (fs:=t.kK six x) (k4 (aa 0 rfl)) CI ax hr ⟨six,x,rfl,rfl⟩) (b8 Rg ax hr (ae (aa 1 rfl) ai) ⟨six,rows,W,b,n,rfl,VU,hW,rfl⟩)) (by rw[har,decide_eq_true rfl])))))))))⟩
noncomputable def Yo:Stmt->Scope
 | .Assign _ (.ListComp _ _ sc _) _=>sc
 | _=>default
noncomputable abbrev MV:Scope:=Yo ((aB xG).getD 10 (.Pass ⟨0,0,0,0⟩))
theorem MW:rO MV (af xG) NG ["_law_k","_law_drawing","_law_age"] [11,10] "_law_k"=true:=by decide +kernel
theorem Rh (six:Bool)(rows:List Row)(W:List Nat)(n:Nat):lb six rows W 0 n=(aag n).map (k6 six rows W):=by unfold lb;simp
theorem wa {i:Int}{k:Int}(h:0 < k):∃ n:Nat,i % k=((n:Nat):Int)/\((n:Nat):Int) < k:=by
 have a:=aaE i (abb h)
 have b:=aaF i h
 generalize i % k=y at a b ⊢
 exact⟨y.toNat,by omega,by omega⟩
theorem Ri (T:Txt K mg t):jt P w K mg base CX 12 t.pF t.vx ["_law_script"] (Ja K):=by
 refine iQ T.A3.F Iy rfl fun bc A outer s H E G ds r hr hl hR=>?_
 obtain⟨ns,hlen,rfl,rfl⟩:=hR
 have kY:=vO (P:=P) (w:=w) (base:=base) T
 have F2:=Cz (P:=P) (w:=w) (base:=base) T
 have CA:=DZ (P:=P) (w:=w) (base:=base) T
 have Rj:=Mc (P:=P) (w:=w) (base:=base) T
 have MX:=IT (P:=P) (w:=w) (base:=base) T
 have Rk:=Jz (P:=P) (w:=w) (base:=base) T
 have Yp:=J3 (P:=P) (w:=w) (base:=base) T
 have Yq:=Rc (P:=P) (w:=w) (base:=base) T
 have CY:=Ej (P:=P) (w:=w) (base:=base) T
 have U2:=F0 (P:=P) (w:=w) (base:=base) T
 have MY:=Ki (P:=P) (w:=w) (base:=base) T
 have MN:=v9 (P:=P) (w:=w) (base:=base) T
 have Yr:=Kb (P:=P) (w:=w) (base:=base) T
 have sA:=vS (P:=P) (w:=w) (base:=base) T
 have nd:=Iy.nd
 have hu:(A.deeper (envOfC "law" (af xG) s.heap.objs.size t.pF bc)).units+1 < cLine:=by have:=hr.units;omega
 let c0:=cellAt ns 0
 let c3:=cellAt ns 3
 let six:=decide (c0 % 2=1)
 obtain⟨n',en',N6⟩:=wa (i:=c0 / 2) (k:=6) (by decide)
 obtain⟨n,Y0,en⟩:∃ n:Nat,n=n'+1/\(1:Int)+c0 / 2 % 6=((n:Nat):Int):=⟨n'+1,rfl,by omega⟩
 have hn:0 < n/\n<=6:=by omega
 obtain⟨L,hL⟩:∃ L,L=A7 (cellAt ns 1) n:=⟨_,rfl⟩
 obtain⟨hLl,Z6,Z7⟩:=Jf (cellAt ns 1) hn.1 hn.2
 rw[<- hL] at hLl Z6 Z7
 have QF:0 < L.length:=by omega
 have X6:L.length<=6:=by omega
 obtain⟨m,hm,Rx,VS⟩:∃ m:Int,lZ [Dt.int 8,Dt.int 3] (c0 / 12 % 2)=some (.int m)/\0 < m/\m<=8:=by
   have h:c0 / 12 % 2=0\/c0 / 12 % 2=1:=by omega
   rcases h with h | h <;> rw[h]
   . exact⟨8,rfl,by decide,by decide⟩
   . exact⟨3,rfl,by decide,by decide⟩
 obtain⟨rows,Ys⟩:∃ rows,rows=rowsOf L ((ns.drop 6).take (12 - 6)) m:=⟨_,rfl⟩
 have ok:bg rows:=by rw[Ys];exact Ma _ Rx VS QF X6 Z6 Z7
 have ec:rows.map (·.c)=L:=by rw[Ys];exact Je _ _ _
 have h6:=ok.le
 obtain⟨w',ew',hw'⟩:=wa (i:=c3) (k:=8) (by decide)
 obtain⟨nw,hnw,enw⟩:∃ nw:Nat,nw=w'+1/\(1:Int)+c3 % 8=((nw:Nat):Int):=⟨w'+1,rfl,by omega⟩
 obtain⟨wd,Z8⟩:∃ wd,wd=vP L (cellAt ns 2) nw:=⟨_,rfl⟩
 have Yt:wd.length=nw/\∀ x∈wd,x∈L:=by rw[Z8];exact vQ QF _ _
 have Rm:my rows wd:=⟨ok,by omega,by omega,fun x hx=>by rw[ec];exact Yt.2 x hx⟩
 obtain⟨rn,ern,hrn⟩:=wa (i:=c3 / 8) (k:=9) (by decide)
 obtain⟨age,hag,Z9,Rf⟩:=U1 Rm rn
 have wrR:NW [.cV (kE fw rows),.str (tx wd),.int ((rn:Nat):Int)] (.ret (.tup [.str (tx (k7 rows wd age)),.int ((age:Nat):Int)])):=⟨rows,wd,rn,age,rfl,Rm,hag,Z9,Rf,rfl⟩
 have Pq:age<=200:=by omega
 have Yu:=Rb rows Rm age
 have Yv:=ux ok Rm.wm age
 obtain⟨W,hW⟩:∃ W:List Nat,W=k7 rows wd age:=⟨_,rfl⟩
 rw[<- hW] at wrR Z9 Yu Yv
 obtain⟨b,eb,hb⟩:=wa (i:=cellAt ns 4) (k:=((W.length:Nat):Int)+1) (by omega)
 obtain⟨d',ed,hd⟩:=wa (i:=cellAt ns 5) (k:=((W.length:Nat):Int)+1 - ((b:Nat):Int)) (by omega)
 obtain⟨PL,U3⟩:∃ PL:List Dt,PL=(lb six rows W 0 (W.length+1)).map mB:=⟨_,rfl⟩
 have Yw:PL.length=W.length+1:=by rw[U3];exact BB _ _ _ _ _
 have Yx:Nf (.lst PL):=by rw[U3];exact Q8 (lb six rows W 0 (W.length+1))
 have eqP:PyData.eqv (pd (.lst PL)) (pd (.lst PL))=true:=eqv_refl _ Yx.1
 have paR:Kc t [t.pI six rows,.str (tx W)] (.own (.lst PL)):=⟨six,rows,W,rfl,ok,Yv,⟨Yu,by omega⟩,by rw[U3,Rh]⟩
 have fiR:Bz t [t.pI six rows,.str (tx W)] (.own (.lst ((xW six rows W).map Ek))):=⟨six,rows,W,rfl,ok,Yv,⟨Yu,by omega⟩,rfl⟩
 let nD:Nat->Dt:=fun a=>.int ((a:Nat):Int)
 let S1:Nat->List Slot:=fun k=>[.val (.oy ns),.val (.int (wy six)),.val (.str (tx L)),.val (.lst (rows.map qb)),.own (.cV (kE fw (rows.take k))),.aY,.aY,.aY,.aY,.aY,.aY,.aY,.aY,.aY,.aY,.aY]
 let D:Slot->Slot->Slot->Slot->Slot->Slot->Slot->Slot->Slot->List Slot:=fun a7 a8 a9 a10 a11 a12 a13 a14 a15=>[.val (.oy ns),.val (.int (wy six)),.val (.str (tx L)),.val (.lst (rows.map qb)),.val (.cV (kE fw rows)),.aY,.aY,a7,a8,a9,a10,a11,a12,a13,a14,a15]
 refine⟨_,.rt _,?_⟩
 refine ah (aw 1 nd (bR (aL aj (iV aj (fk (b8 kY ax hr (ae (aa 0 rfl) (ae aj ai)) ⟨ns,0,rfl,by decide,rfl⟩) aj (by decide)) (uG.ok (aaL ⟨by decide,by decide⟩)))) (congrArg Dt.int (UY _)))) ?_
 refine ah (aw 2 nd (d:=.str (tx L)) (b8 F2 ax hr (ae (b8 kY ax hr (ae (aa 0 rfl) (ae aj ai)) ⟨ns,1,rfl,by decide,rfl⟩) (ae (bR (aL aj (fk (jV (b8 kY ax hr (ae (aa 0 rfl) (ae aj ai)) ⟨ns,0,rfl,by decide,rfl⟩) aj ⟨by decide,by decide +kernel⟩) aj (by decide))) (congrArg Dt.int en)) ai)) ⟨_,n,rfl,hn.2,by rw[hL]⟩)) ?_
 refine ah (aw 3 nd (d:=.lst (rows.map qb)) (pv (sM Rj ax hr (ae (aa 2 rfl) (ae (MK (n:=6) (m:=12) (aa 0 rfl) aj aj (by decide)) (ae (pN (pv (uY (ae aj (ae aj ai)) AA3)) (fk (jV (b8 kY ax hr (ae (aa 0 rfl) (ae aj ai)) ⟨ns,0,rfl,by decide,rfl⟩) aj ⟨by decide,by decide +kernel⟩) aj (by decide)) hm) ai))) ⟨L,_,m,rfl,⟨QF,X6⟩,⟨Rx,VS⟩,by rw[Ys]⟩))) ?_
 refine ah (jX 4 nd yA) (ah (dl1:=S1 rows.length) (mI (o:=.nx (S1 rows.length)) (m:=rows.length) rows qb (fun r dl=>((dl.set 5 (.val (.str (sg r.c)))).set 6 (.val (.str r.d))).set 7 (.val (.str (tx r.w)))) S1 rfl PassesOwn.leaving (lh (aa 3 rfl)) l6 (uE rfl (fh (bX nd rfl (.inl rfl)) (fh (bX nd rfl (.inl rfl)) (fh (bX nd rfl (.inl rfl)) qh)))) (fun a _=>Pt) (Le.of ⟨rfl,rfl,rfl,rfl,rfl,trivial⟩) (aac _) (fun k a hk ha=>?c1) (.all rfl)) ?_)
 case c1=>
   rw[k3 hk] at ha
   cases ha
   have Pr:(kE fw (rows.take k)).length < sizeLine:=by
     rw[J8,aat];exact aak (show min k rows.length < 2000 by omega) (by decide)
   refine .nx (ao (yB (kds:=kE fw (rows.take k)) 4 hu (aa 7 rfl) (aa 5 rfl) Pr)) (Le.of ⟨rfl,rfl,rfl,rfl,?_,trivial⟩)
   show Slot.own (.cV (kE fw (rows.take (k+1))))=Slot.own (.cV (pz (kE fw (rows.take k)) (.inr (sg rows[k].c)) (fw rows[k])))
   rw[UX fw ok.nd hk]
 have eS:S1 rows.length=[.val (.oy ns),.val (.int (wy six)),.val (.str (tx L)),.val (.lst (rows.map qb)),.own (.cV (kE fw rows)),.aY,.aY,.aY,.aY,.aY,.aY,.aY,.aY,.aY,.aY,.aY]:=by
   show [_,_,_,_,Slot.own (.cV (kE fw (rows.take rows.length))),_,_,_,_,_,_,_,_,_,_,_]=_
   rw[aa7]
 rw[eS]
 refine yu 4 (w:=.cV (kE fw rows)) ?_
 show l4 _ _ _ (D .aY .aY .aY .aY .aY .aY .aY .aY .aY) _ _
 refine ah (dl1:=D .aY (.val (t.pI six rows)) .aY .aY .aY .aY .aY .aY .aY) (aw 8 nd (Tc (tZ MX ax hr (ae (aa 1 rfl) (ae (aa 3 rfl) ai)) ⟨six,rows,rfl,ok,rfl⟩))) ?_
 refine ah (dl1:=D .aY (.val (t.pI six rows)) (.val (.str (tx wd))) .aY .aY .aY .aY .aY .aY) (aw 9 nd (d:=.str (tx wd)) (b8 CA ax hr (ae (aa 2 rfl) (ae (b8 kY ax hr (ae (aa 0 rfl) (ae aj ai)) ⟨ns,2,rfl,by decide,rfl⟩) (ae (bR (aL aj (fk (b8 kY ax hr (ae (aa 0 rfl) (ae aj ai)) ⟨ns,3,rfl,by decide,rfl⟩) aj (by decide))) (congrArg Dt.int enw)) ai))) ⟨L,cellAt ns 2,nw,rfl,⟨QF,by omega⟩,by omega,by rw[Z8]⟩)) ?_
 refine ah (dl1:=D (.val (.str (tx W))) (.val (t.pI six rows)) (.val (.str (tx wd))) (.val (nD age)) .aY .aY .aY .aY .aY) (yz 7 10 nd rfl (b8 Yq ax hr (ae (aa 4 rfl) (ae (aa 9 rfl) (ae (bR (fk (jV (b8 kY ax hr (ae (aa 0 rfl) (ae aj ai)) ⟨ns,3,rfl,by decide,rfl⟩) aj ⟨by decide,by decide +kernel⟩) aj (by decide)) (congrArg Dt.int ern)) ai))) wrR)) ?_
 refine Fw (fs2:=fun l ls=>t.zK six rows wd l ls 1) (gs2:=[t.qd six rows]) (nm2:=["tracks"]) (j2:=1) 11 nd Yp ax hr (O2 (Hi Rk ax hr (ae (aa 8 rfl) (ae (aa 9 rfl) ai)) ⟨six,rows,wd,rfl,Rm,rfl⟩)) (fun l ls hls=>⟨six,rows,wd,l,ls,1,rfl,Rm,rfl⟩) (fun l' ls' pT=>?_)
 refine Ia 11 fun l ls Z1=>?_
 have dok:MH t six rows wd ls' ls:=⟨Rm,pT,Z1⟩
 let dE:Dt:=.obj t.ay (t.Eh six rows wd l' ls' 1 l ls 1)
 show l4 _ _ _ (D (.val (.str (tx W))) (.val (t.pI six rows)) (.val (.str (tx wd))) (.val (nD age)) (.val dE) .aY .aY .aY .aY) _ _
 have stR:∀ b e:Nat,b<=e->e<=W.length->xU t [dE,nD age,nD b,nD e] (.ret (t.pJ six (mid six rows W b (e - b)))):=fun b e h1 h2=>by
   have e1:mid six rows W b (e - b)=bL six (qY rows (cut (k7 rows wd age) b e)):=by unfold mid;rw[<- MP W h1,hW]
   rw[e1]
   rw[hW] at h2
   exact⟨six,rows,wd,l',ls',1,l,ls,1,age,b,e,rfl,dok,Pq,⟨h1,h2⟩,rfl⟩
 have atR:∀ k:Nat,k<=W.length->Ei t [dE,nD age,nD k] (.ret (mB (k6 six rows W (0+k)))):=fun k h=>by
   have e1:mB (k6 six rows W (0+k))=UZ (bL six (qY rows (cut (k7 rows wd age) 0 k))):=by
     rw[Nat.zero_add,qZ six rows W k h,<- hW,U0];rfl
   rw[e1]
   rw[hW] at h
   exact⟨six,rows,wd,l',ls',1,l,ls,1,age,k,rfl,dok,Pq,h,rfl⟩
 refine ah (dl1:=D (.val (.str (tx W))) (.val (t.pI six rows)) (.val (.str (tx wd))) (.val (nD age)) (.val dE) (.val (.lst PL)) .aY .aY .aY) (aw 12 nd (pv (sM CY ax hr (ae (aa 8 rfl) (ae (aa 7 rfl) ai)) paR))) ?_
 refine ah (dl1:=D (.val (.str (tx W))) (.val (t.pI six rows)) (.val (.str (tx wd))) (.val (nD age)) (.val dE) (.val (.lst PL)) (.own (.lst PL)) .aY .aY) (Hh (ys:=PL) 13 (N:=["_law_k","_law_drawing","_law_age"]) (ix:=[11,10]) rfl nd (yy MW) (oi rfl T.gW (ae (aL (fG T.fg (aa 7 rfl) (by omega)) aj) ai)) (pP (by omega)) (fun k hk C fp s' H' G'=>?e1) ?e2 ?e3) (yu 13 (w:=.lst PL) ?_)
 case e1=>
   have hk:k<=W.length:=by omega
   have e:PL.getD k .cy=mB (k6 six rows W (0+k)):=by
     rw[U3,WY]
     unfold lb
     rw[aab,aab,aar (by omega)];rfl
   rw[e]
   exact bE (fs:=t.Eh six rows wd l' ls' 1 l ls 1) (aa 1 rfl) Yr ax hr (ae (aa 2 rfl) (ae (aa 0 rfl) ai)) (atR k hk)
 case e2=>rw[Yw];omega
 case e3=>exact aa5 (ow (by omega))
 show l4 _ _ _ (D (.val (.str (tx W))) (.val (t.pI six rows)) (.val (.str (tx wd))) (.val (nD age)) (.val dE) (.val (.lst PL)) (.val (.lst PL)) .aY .aY) _ _
 refine ah (cN (u:=false) (sS (Am (u:=false) (v:=false) (dG (G1 (qx T.fg (aa 12 rfl)) (aL (fG T.fg (aa 7 rfl) (by omega)) aj)) (by rw[Yw];simp)) fun _=>uT (GX (d1:=.lst PL) (d2:=.lst PL) hr.units (aa 13 rfl) (aa 12 rfl) Yx Yx (by rw[eqP];rfl)))) (fun h=>nomatch h) (fun h=>dn)) ?_
 have Yy:mid six rows W 0 (W.length - 0)=bL six (qY rows W):=by unfold mid;rw[abW,Nat.sub_zero,aa7]
 have hcn:(mid six rows W 0 (W.length - 0)).dD=(((xW six rows W).map Ek).length:Nat):=by
   rw[Yy,(Bf six _ _ rfl).2,Bn,MR]
 refine ah (cN (u:=false) (dG (G1 (ck (fs:=t.kK six (mid six rows W 0 (W.length - 0))) (k4 (bE (fs:=t.Eh six rows wd l' ls' 1 l ls 1) (aa 11 rfl) MN ax hr (ae (aa 10 rfl) (ae aj (ae (fG T.fg (aa 7 rfl) (by omega)) ai))) (stR 0 W.length (aaQ _) (aac _)))) sA ax hr ⟨six,_,rfl,rfl⟩) (qx T.fg (pv (sM U2 ax hr (ae (aa 8 rfl) (ae (aa 7 rfl) ai)) fiR)))) (by rw[hcn];simp)) (fun h=>nomatch h) (fun h=>dn)) ?_
 refine ah (dl1:=D (.val (.str (tx W))) (.val (t.pI six rows)) (.val (.str (tx wd))) (.val (nD age)) (.val dE) (.val (.lst PL)) (.val (.lst PL)) (.val (nD b)) .aY) (aw 14 nd (bR (fk (b8 kY ax hr (ae (aa 0 rfl) (ae aj ai)) ⟨ns,4,rfl,by decide,rfl⟩) (aL (fG T.fg (aa 7 rfl) (by omega)) aj) (by omega)) (congrArg Dt.int eb))) ?_
 have ebd:((b:Nat):Int)+cellAt ns 5 % (((W.length:Nat):Int)+1 - ((b:Nat):Int))=((b+d':Nat):Int):=by rw[ed];omega
 refine ah (dl1:=D (.val (.str (tx W))) (.val (t.pI six rows)) (.val (.str (tx wd))) (.val (nD age)) (.val dE) (.val (.lst PL)) (.val (.lst PL)) (.val (nD b)) (.val (nD (b+d')))) (aw 15 nd (bR (aL (aa 14 rfl) (fk (b8 kY ax hr (ae (aa 0 rfl) (ae aj ai)) ⟨ns,5,rfl,by decide,rfl⟩) (ib (aL (fG T.fg (aa 7 rfl) (by omega)) aj) (aa 14 rfl)) (by omega))) (congrArg Dt.int ebd))) ?_
 have e1:((b+d':Nat):Int)+1=((b+(d'+1):Nat):Int):=by omega
 have Yz:Sg.cutD PL (some ((b:Nat):Int)) (some ((b+(d'+1):Nat):Int))=(lb six rows W b (d'+1)).map mB:=by
   rw[MS (by rw[Yw];omega) (by omega),U3]
   exact Kf six rows W (by omega)
 have em:b+d' - b=d':=by omega
 have stB:=stR b (b+d') (by omega) (by omega)
 rw[em] at stB
 exact ao (aF (b8 MY ax hr (ae (bE (fs:=t.Eh six rows wd l' ls' 1 l ls 1) (aa 11 rfl) MN ax hr (ae (aa 10 rfl) (ae (aa 14 rfl) (ae (aa 15 rfl) ai))) stB) (ae (g9 Yz (Pn (aa 12 rfl) (t7 (aa 14 rfl)) (t7 (bR (aL (aa 15 rfl) aj) (congrArg Dt.int e1))))) (ae (aa 1 rfl) ai))) ⟨six,rows,W,b,d',rfl,by omega,by omega,rfl⟩))
end Pf
end
local macro_rules | `(tactic| walk_at "b")=>`(tactic| first
 | exact fun _ _ _ _ _ _ us hl=>match us,hl with | [_],_=>rfl
 | exact fun _ _ _ _ _ _ us hl=>match us,hl with | [_,_],_=>rfl
 | exact fun _ _ _ _ _ _ us hl=>match us,hl with | [_,_,_],_=>rfl
 | exact fun _ _ _ _ _ _ us hl=>match us,hl with | [_,_,_,_],_=>rfl
 | exact fun _ _ _ _ _ _ us hl=>match us,hl with | [_,_,_,_,_],_=>rfl
 | exact fun _ _ _ _ _ _ us hl=>match us,hl with | [_,_,_,_,_,_],_=>rfl
 | exact fun _ _ _ _ _ _ us hl=>match us,hl with | [_,_,_,_,_,_,_],_=>rfl
 | exact fun _ _ _ _ _ _ us hl=>match us,hl with | [_,_,_,_,_,_,_,_],_=>rfl
 | exact fun _ _ _ _ _ _ us hl=>match us,hl with | [_,_,_,_,_,_,_,_,_],_=>rfl
 | exact fun _ _ _ _ _ _ us hl=>match us,hl with | [],_=>rfl)
local macro_rules | `(tactic| walk_at "z")=>`(tactic| first
 | (refine' Pf.Qo ?a ?l ?c ?k ?b;(case a=>k_is);(case l=>k_is);(case c=>k_is);(case k=>k_is);(case b=>walk_at "b"))
 | (refine' Pf.Qm ?l ?c ?k ?b;(case l=>k_is);(case c=>k_is);(case k=>k_is);(case b=>walk_at "b"))
 | (refine' Pf.Qn ?l ?c ?k ?b;(case l=>k_is);(case c=>k_is);(case k=>k_is);(case b=>walk_at "b"))
 | (refine' Pf.Qp ?a ?p ?h ?o ?s ?k;(case a=>k_is);(case p=>k_is);(case h=>k_is);(case o=>k_is);(case s=>k_is);(case k=>k_is))
 | (refine' L2.Meth.mk ?a ?i ?k;(case a=>k_is);(case i=>k_is);(case k=>k_is))
 | (refine' L2.Mk.mk ?a ?i ?f ?k;(case a=>k_is);(case i=>k_is);(case f=>k_is);(case k=>k_is))
 | (refine' Sg.OX.mk ?a ?i ?k;(case a=>k_is);(case i=>k_is);(case k=>k_is))
 | k_is | kernel_rfl)
namespace PySem.W.Fast
theorem tw11655808965666755380:True:=⟨⟩
theorem tw6355208940415990380:True:=⟨⟩
theorem tw17895339137843057902:True:=⟨⟩
theorem tw2915560308841821513:True:=⟨⟩
theorem tw3564992976963751044:True:=⟨⟩
theorem tw14828745187502323338:True:=⟨⟩
theorem tw5040868063515290967:True:=⟨⟩
theorem tw2008036121091813474:True:=⟨⟩
theorem tw17103566782961942393:True:=⟨⟩
theorem tw3834758054779946094:True:=⟨⟩
theorem tw6615237530271715700:True:=⟨⟩
theorem tw4895575903894488849:True:=⟨⟩
theorem tw13458334349421444072:True:=⟨⟩
theorem tw6613984234367904897:True:=⟨⟩
theorem tw14252538403237009001:True:=⟨⟩
theorem tw2985606330170172786:True:=⟨⟩
theorem tw15573915627861119923:True:=⟨⟩
theorem tw15705641492765935060:True:=⟨⟩
theorem tw9690618452676932466:True:=⟨⟩
theorem tw5349432152856571503:True:=⟨⟩
theorem tw3229891858075571445:True:=⟨⟩
theorem tw12639318566879728892:True:=⟨⟩
theorem tw9270552617220859530:True:=⟨⟩
theorem tw17381071424572472987:True:=⟨⟩
theorem tw8285312073078564071:True:=⟨⟩
theorem tw16302612376064439698:True:=⟨⟩
theorem tw15582493507868574951:True:=⟨⟩
theorem tw4961856066933364147:True:=⟨⟩
theorem tw1917362801977529570:True:=⟨⟩
theorem tw16501017157431043065:True:=⟨⟩
theorem tw15672063770513251450:True:=⟨⟩
theorem tw18387705898182552690:True:=⟨⟩
theorem tw10711941194418784583:True:=⟨⟩
theorem tw12936116013151297970:True:=⟨⟩
theorem tw1160363657008001716:True:=⟨⟩
theorem tw14720934942741692731:True:=⟨⟩
theorem tw7801001294535409017:True:=⟨⟩
theorem tw2348918680246436707:True:=⟨⟩
theorem tw3049435634860232791:True:=⟨⟩
theorem tw4504072245953879867:True:=⟨⟩
theorem tw1708184873829422084:True:=⟨⟩
theorem tw4547738650936796995:True:=⟨⟩
theorem tw15545981325503088738:True:=⟨⟩
theorem tw13257417501730284391:True:=⟨⟩
theorem tw2360972791612833855:True:=⟨⟩
theorem tw12705007667927989909:True:=⟨⟩
theorem tw13694329342985296585:True:=⟨⟩
theorem tw537726167882436766:True:=⟨⟩
theorem tw174724791568572816:True:=⟨⟩
theorem tw11205486567161837510:True:=⟨⟩
theorem tw12790060035943594297:True:=⟨⟩
theorem tw14574249946840966473:True:=⟨⟩
theorem tw6454539716818675693:True:=⟨⟩
theorem tw12577040001553661721:True:=⟨⟩
theorem tw1322481777518711429:True:=⟨⟩
theorem tw11742088992358800573:True:=⟨⟩
theorem tw6192686473574482589:True:=⟨⟩
theorem tw17303547919172561809:True:=⟨⟩
theorem tw329410708278507183:True:=⟨⟩
theorem tw14576398794692131703:True:=⟨⟩
theorem tw11148161392700347373:True:=⟨⟩
theorem tw14866327381269616106:True:=⟨⟩
theorem tw12711948548653782986:True:=⟨⟩
theorem tw80402248432628237:True:=⟨⟩
theorem tw9768442250215732123:True:=⟨⟩
theorem tw18296632430637161235:True:=⟨⟩
theorem tw224242399321542070:True:=⟨⟩
theorem tw9757769040340354738:True:=⟨⟩
theorem tw7033867450174028100:True:=⟨⟩
theorem tw12041825573442173258:True:=⟨⟩
theorem tw10393955643929541769:True:=⟨⟩
theorem tw8156036168656363330:True:=⟨⟩
theorem tw16978705112197861630:True:=⟨⟩
theorem tw15027770678106164889:True:=⟨⟩
theorem tw15251812858976796398:True:=⟨⟩
theorem tw6918671311952413382:True:=⟨⟩
theorem tw1886844704810794797:True:=⟨⟩
theorem tw18387853665573335809:True:=⟨⟩
theorem tw9723948817959767424:True:=⟨⟩
theorem tw6896661592271131210:True:=⟨⟩
theorem tw1817448430685996630:True:=⟨⟩
theorem tw17309593828107681304:True:=⟨⟩
theorem tw10499019488565114127:True:=⟨⟩
theorem tw12914456440178139629:True:=⟨⟩
theorem tw15225899723492892932:True:=⟨⟩
theorem tw17664701390045949721:True:=⟨⟩
theorem tw9810001421309567981:True:=⟨⟩
theorem tw9976994392069745980:True:=⟨⟩
theorem tw8590413014370752086:True:=⟨⟩
theorem tw5896142504823300839:True:=⟨⟩
theorem tw13162127119634312990:True:=⟨⟩
theorem tw16470303491895578656:True:=⟨⟩
theorem tw8596655803626898635:True:=⟨⟩
theorem tw5133017263192086719:True:=⟨⟩
theorem tw8933877663189394445:True:=⟨⟩
theorem tw17290690522246120198:True:=⟨⟩
theorem tw3763562283533347910:True:=⟨⟩
theorem tw16729174896284392368:True:=⟨⟩
theorem tw6367391796311992406:True:=⟨⟩
theorem tw1150821491793342614:True:=⟨⟩
theorem tw16673954584335555562:True:=⟨⟩
theorem tw17020763107755475101:True:=⟨⟩
theorem tw7879554470481018069:True:=⟨⟩
theorem tw3094177038721947465:True:=⟨⟩
theorem tw7984519572639155619:True:=⟨⟩
theorem tw5315886676538301436:True:=⟨⟩
theorem tw8170645898794751233:True:=⟨⟩
theorem tw2864351311548801269:True:=⟨⟩
theorem tw1047447552198932462:True:=⟨⟩
theorem tw11958704410441654767:True:=⟨⟩
theorem tw17511159174586997516:True:=⟨⟩
theorem tw16716965178700327555:True:=⟨⟩
theorem tw8595531175200879019:True:=⟨⟩
theorem tw309194111736328050:True:=⟨⟩
theorem tw5809475516120522463:True:=⟨⟩
theorem tw14205220935675656845:True:=⟨⟩
theorem tw4784036119029815807:True:=⟨⟩
theorem tw15764991204521686344:True:=⟨⟩
theorem tw4756343285236686888:True:=⟨⟩
theorem tw16361989110116361018:True:=⟨⟩
theorem tw15490941138604627965:True:=⟨⟩
theorem tw5109893046162619811:True:=⟨⟩
theorem tw4545833734529210612:True:=⟨⟩
theorem tw77833902272328316:True:=⟨⟩
theorem tw1316517346498948092:True:=⟨⟩
theorem tw3284372386153067073:True:=⟨⟩
theorem tw394355899462679970:True:=⟨⟩
theorem tw3187694749135763562:True:=⟨⟩
theorem tw11075421749534813825:True:=⟨⟩
theorem tw6075824818656588659:True:=⟨⟩
theorem tw12620465963064928043:True:=⟨⟩
theorem tw2477681237701589788:True:=⟨⟩
theorem tw11196542665658498563:True:=⟨⟩
theorem tw1288497121328288719:True:=⟨⟩
theorem tw7624992754148228778:True:=⟨⟩
theorem tw1496516122577847562:True:=⟨⟩
theorem tw16486059849489174528:True:=⟨⟩
theorem tw16223290690415930481:True:=⟨⟩
theorem tw592325583320375173:True:=⟨⟩
theorem tw6649018178886524748:True:=⟨⟩
theorem tw5275711186444571444:True:=⟨⟩
theorem tw714623976256555398:True:=⟨⟩
theorem tw18035562466858458770:True:=⟨⟩
theorem tw2792710389750644992:True:=⟨⟩
theorem tw14511458825923742755:True:=⟨⟩
theorem tw6139558040550714838:True:=⟨⟩
theorem tw6447768129374634140:True:=⟨⟩
theorem tw1218742334855228250:True:=⟨⟩
theorem tw6535868620987740252:True:=⟨⟩
theorem tw4369248772238361677:True:=⟨⟩
theorem tw12441299660523057481:True:=⟨⟩
theorem tw13619759561198504222:True:=⟨⟩
theorem tw3527139401594755088:True:=⟨⟩
theorem tw16310969279361194410:True:=⟨⟩
theorem tw11184196402370885274:True:=⟨⟩
theorem tw7400714152630965408:True:=⟨⟩
theorem tw3246968421160700641:True:=⟨⟩
theorem tw5902750699590701730:True:=⟨⟩
theorem tw546236592106323725:True:=⟨⟩
theorem tw13604631437693632988:True:=⟨⟩
theorem tw8950553994949157026:True:=⟨⟩
theorem tw7608687593193365061:True:=⟨⟩
theorem tw17753384503359330056:True:=⟨⟩
theorem tw8469508333072660371:True:=⟨⟩
theorem tw3393267054305072690:True:=⟨⟩
theorem tw6451505218860644785:True:=⟨⟩
theorem tw2398905174348114208:True:=⟨⟩
theorem tw6385129102970901197:True:=⟨⟩
theorem tw16375922779800728337:True:=⟨⟩
theorem tw8604822619355751832:True:=⟨⟩
theorem tw17122619132587690822:True:=⟨⟩
theorem tw7039312299856866187:True:=⟨⟩
theorem tw10000791077951012178:True:=⟨⟩
theorem tw14628336727090135038:True:=⟨⟩
theorem tw13132139663187829804:True:=⟨⟩
theorem tw2390245830557464126:True:=⟨⟩
theorem tw9979314133587552527:True:=⟨⟩
theorem tw9506379695556791757:True:=⟨⟩
theorem tw665380626921219640:True:=⟨⟩
theorem tw17595535654978079081:True:=⟨⟩
theorem tw8781705999174479829:True:=⟨⟩
theorem tw14154795356720857366:True:=⟨⟩
theorem tw4538961735598957846:True:=⟨⟩
theorem tw17074867269292191729:True:=⟨⟩
theorem tw14797806071051723774:True:=⟨⟩
theorem tw13309135055038061640:True:=⟨⟩
theorem tw4980075828477196736:True:=⟨⟩
theorem tw11036774686984535843:True:=⟨⟩
theorem tw12402630772978864394:True:=⟨⟩
theorem tw1417860858225177159:True:=⟨⟩
theorem tw17904418581925546277:True:=⟨⟩
theorem tw9844128523384375493:True:=⟨⟩
theorem tw17916304407870366729:True:=⟨⟩
theorem tw7035491031736807331:True:=⟨⟩
theorem tw11718832996622022749:True:=⟨⟩
theorem tw14318533393667265470:True:=⟨⟩
theorem tw6577766922289327485:True:=⟨⟩
theorem tw3657806890993426076:True:=⟨⟩
theorem tw8988721065971512147:True:=⟨⟩
theorem tw11940701795946180221:True:=⟨⟩
theorem tw3374313064181888645:True:=⟨⟩
theorem tw13400500021263174463:True:=⟨⟩
theorem tw14717996366012548400:True:=⟨⟩
theorem tw9323660713096244819:True:=⟨⟩
theorem tw11164928387894189738:True:=⟨⟩
theorem tw7302054735838869551:True:=⟨⟩
theorem tw16477622867126825914:True:=⟨⟩
theorem tw3981733661743941194:True:=⟨⟩
theorem tw7612709683903995002:True:=⟨⟩
theorem tw748138860353524119:True:=⟨⟩
theorem tw8786788561192540519:True:=⟨⟩
theorem tw8094328212165179971:True:=⟨⟩
theorem tw14232329952703269464:True:=⟨⟩
theorem tw12282044180154425166:True:=⟨⟩
theorem tw3570222160492604546:True:=⟨⟩
theorem tw3341762354962728938:True:=⟨⟩
theorem tw10174795996310249323:True:=⟨⟩
theorem tw11676544845302455360:True:=⟨⟩
theorem tw10614298842097103812:True:=⟨⟩
theorem tw5170370902989866013:True:=⟨⟩
theorem tw12222761625394145677:True:=⟨⟩
theorem tw7577102943798136333:True:=⟨⟩
theorem tw10451571210016006968:True:=⟨⟩
theorem tw16186622070753991992:True:=⟨⟩
theorem tw7656088180948943653:True:=⟨⟩
theorem tw15647295495905540409:True:=⟨⟩
theorem tw9536335857958719108:True:=⟨⟩
theorem tw12309048918728971763:True:=⟨⟩
theorem tw10552454697207838116:True:=⟨⟩
theorem tw4354933494893570122:True:=⟨⟩
theorem tw10093816560417374080:True:=⟨⟩
theorem tw1031580332622845845:True:=⟨⟩
theorem tw3782987341910871034:True:=⟨⟩
theorem tw6040146436368608893:True:=⟨⟩
theorem tw8363109361599630773:True:=⟨⟩
theorem tw7277812752594732687:True:=⟨⟩
theorem tw11254102078839275629:True:=⟨⟩
theorem tw16300300444939940976:True:=⟨⟩
theorem tw13395004612838581263:True:=⟨⟩
theorem tw17523897234586509051:True:=⟨⟩
theorem tw3515482381622142863:True:=⟨⟩
theorem tw14137586639991235359:True:=⟨⟩
theorem tw1667465329839531361:True:=⟨⟩
theorem tw16959624932139089512:True:=⟨⟩
theorem tw12933476465859956765:True:=⟨⟩
theorem tw3026171971035169352:True:=⟨⟩
theorem tw8026770828778888126:True:=⟨⟩
theorem tw2831577794097506881:True:=⟨⟩
theorem tw1364291270200737034:True:=⟨⟩
theorem tw17945561023919107782:True:=⟨⟩
theorem tw2784409757267831030:True:=⟨⟩
theorem tw8378638176107551299:True:=⟨⟩
theorem tw10864819181762082456:True:=⟨⟩
theorem tw10725154870020239373:True:=⟨⟩
theorem tw11452185936186250169:True:=⟨⟩
theorem tw4969997692472268024:True:=⟨⟩
theorem tw7312798760442886599:True:=⟨⟩
theorem tw5687276867763821769:True:=⟨⟩
theorem tw5363275904558668694:True:=⟨⟩
theorem tw6644470275094896011:True:=⟨⟩
theorem tw18091725716089866535:True:=⟨⟩
theorem tw18085174335416144215:True:=⟨⟩
theorem tw227876408863516097:True:=⟨⟩
theorem tw2008385509534912488:True:=⟨⟩
theorem tw3700638607226526554:True:=⟨⟩
theorem tw9962327372879215084:True:=⟨⟩
theorem tw15135564828340613381:True:=⟨⟩
theorem tw6376216332541541394:True:=⟨⟩
theorem tw16951923095225377139:True:=⟨⟩
theorem tw13360830543674366744:True:=⟨⟩
theorem tw17948674353032250088:True:=⟨⟩
theorem tw5272801679238398212:True:=⟨⟩
theorem tw16659984805229191952:True:=⟨⟩
theorem tw12364417492153418569:True:=⟨⟩
theorem tw8076911013623645396:True:=⟨⟩
theorem tw4911687777334185674:True:=⟨⟩
theorem tw881529431421219485:True:=⟨⟩
theorem tw17849839665862404554:True:=⟨⟩
theorem tw10053063235452952464:True:=⟨⟩
theorem tw7626949710507981213:True:=⟨⟩
theorem tw10234248294424695874:True:=⟨⟩
theorem tw8911658614719843179:True:=⟨⟩
theorem tw12206515486843065265:True:=⟨⟩
theorem tw16631242309864227245:True:=⟨⟩
theorem tw11150693557135941186:True:=⟨⟩
theorem tw12475360794772555508:True:=⟨⟩
theorem tw931941719019761938:True:=⟨⟩
theorem tw13733599416123268822:True:=⟨⟩
theorem tw13236094405383942410:True:=⟨⟩
theorem tw5560326391443243976:True:=⟨⟩
theorem tw6858722902082467562:True:=⟨⟩
theorem tw12184971233461577825:True:=⟨⟩
theorem tw17514827674662708488:True:=⟨⟩
theorem tw5117066822470885012:True:=⟨⟩
theorem tw12072759368282492326:True:=⟨⟩
theorem tw10943117796941173379:True:=⟨⟩
theorem tw15569154238108956780:True:=⟨⟩
theorem tw8918500263824863816:True:=⟨⟩
theorem tw16722542541883271652:True:=⟨⟩
theorem tw2251133351382285095:True:=⟨⟩
theorem tw1135139721877039854:True:=⟨⟩
theorem tw4216641152769029858:True:=⟨⟩
theorem tw10586254521447824645:True:=⟨⟩
theorem tw14777593367425547230:True:=⟨⟩
theorem tw7428214137395261311:True:=⟨⟩
theorem tw12334845637599558209:True:=⟨⟩
theorem tw11011784591167282501:True:=⟨⟩
theorem tw660830104611155476:True:=⟨⟩
theorem tw7947735370301671890:True:=⟨⟩
theorem tw4179373359153763783:True:=⟨⟩
theorem tw6291405219377141728:True:=⟨⟩
theorem tw9090791036924118968:True:=⟨⟩
theorem tw16546968930111644638:True:=⟨⟩
theorem tw8160864290995095273:True:=⟨⟩
theorem tw2146201881989314540:True:=⟨⟩
theorem tw10046581397596627044:True:=⟨⟩
theorem tw9606626477491159468:True:=⟨⟩
theorem tw1356934609224904444:True:=⟨⟩
theorem tw17360102497533814883:True:=⟨⟩
theorem tw8213966053293650655:True:=⟨⟩
theorem tw130453259280896394:True:=⟨⟩
theorem tw17104601879240654471:True:=⟨⟩
theorem tw8253968545523384707:True:=⟨⟩
theorem tw5798336263527479240:True:=⟨⟩
theorem tw6056367149274935142:True:=⟨⟩
theorem tw15349123566680769104:True:=⟨⟩
theorem tw11508240788777205812:True:=⟨⟩
theorem tw11718329693964042369:True:=⟨⟩
theorem tw9665270512260665120:True:=⟨⟩
theorem tw10797123526798763827:True:=⟨⟩
theorem tw13602723147639846105:True:=⟨⟩
theorem tw12387350777495493957:True:=⟨⟩
theorem tw17956913667678004898:True:=⟨⟩
theorem tw17444335056167429229:True:=⟨⟩
theorem tw5603374943352406604:True:=⟨⟩
theorem tw13644625336340657974:True:=⟨⟩
theorem tw12941922461540936598:True:=⟨⟩
theorem tw13599244653036974661:True:=⟨⟩
theorem tw10919192703380515195:True:=⟨⟩
theorem tw15276293764534249487:True:=⟨⟩
theorem tw15211931312857078972:True:=⟨⟩
theorem tw9077045243506833604:True:=⟨⟩
theorem tw17425047395605116207:True:=⟨⟩
theorem tw14493013021387280600:True:=⟨⟩
theorem tw166058565929691024:True:=⟨⟩
theorem tw13755545750873741715:True:=⟨⟩
theorem tw8946954354115860524:True:=⟨⟩
theorem tw6171457257531898999:True:=⟨⟩
theorem tw12959797374140526860:True:=⟨⟩
theorem tw15163331541771593077:True:=⟨⟩
theorem tw14308560351470268302:True:=⟨⟩
theorem tw2033406186992599018:True:=⟨⟩
theorem tw5985647337540843461:True:=⟨⟩
theorem tw16474241171653539701:True:=⟨⟩
theorem tw15566145025183231537:True:=⟨⟩
theorem tw13395143949695258728:True:=⟨⟩
theorem tw6008091103837721156:True:=⟨⟩
theorem tw14160770176059858285:True:=⟨⟩
theorem tw1900372064317247385:True:=⟨⟩
theorem tw689667945689608853:True:=⟨⟩
theorem tw6510611377335266086:True:=⟨⟩
theorem tw16051653014745117761:True:=⟨⟩
theorem tw8104191406903058587:True:=⟨⟩
theorem tw2401468552905728262:True:=⟨⟩
theorem tw11019324032505335870:True:=⟨⟩
theorem tw14230850386635352892:True:=⟨⟩
theorem tw11966136948250090571:True:=⟨⟩
theorem tw9208049077216366059:True:=⟨⟩
theorem tw5406593668072809004:True:=⟨⟩
theorem tw5629506163635587455:True:=⟨⟩
theorem tw10456358489260389360:True:=⟨⟩
theorem tw15789025126786734034:True:=⟨⟩
theorem tw2797854769484247333:True:=⟨⟩
theorem tw18138260061553463131:True:=⟨⟩
theorem tw3075170991772320097:True:=⟨⟩
theorem tw13911434762388637684:True:=⟨⟩
theorem tw12210396191411166939:True:=⟨⟩
theorem tw1563641790403692142:True:=⟨⟩
theorem tw16449655917019359919:True:=⟨⟩
theorem tw1123688254762376927:True:=⟨⟩
theorem tw2945529063256317552:True:=⟨⟩
theorem tw6191690150938306765:True:=⟨⟩
theorem tw16658489610015103222:True:=⟨⟩
theorem tw5442853689332543928:True:=⟨⟩
theorem tw12503142672136463965:True:=⟨⟩
theorem tw986658493313654192:True:=⟨⟩
theorem tw2099117028431956136:True:=⟨⟩
theorem tw15604889595423983020:True:=⟨⟩
theorem tw13985198894884173369:True:=⟨⟩
theorem tw15366070598328153844:True:=⟨⟩
theorem tw15118616346112262338:True:=⟨⟩
theorem tw10867821674752986721:True:=⟨⟩
theorem tw15996277495054196848:True:=⟨⟩
theorem tw6063704968026931497:True:=⟨⟩
theorem tw6822175355629102011:True:=⟨⟩
theorem tw13251186007030238181:True:=⟨⟩
theorem tw3895048395991348373:True:=⟨⟩
theorem tw5886822172418719318:True:=⟨⟩
theorem tw13487781609597764259:True:=⟨⟩
theorem tw14138170047008089167:True:=⟨⟩
theorem tw13543329033660082488:True:=⟨⟩
theorem tw5231370331566417702:True:=⟨⟩
theorem tw10038509185730898430:True:=⟨⟩
theorem tw13560357856187215089:True:=⟨⟩
theorem tw17567664581661690672:True:=⟨⟩
theorem tw13560363762516999091:True:=⟨⟩
theorem tw4385804506544439567:True:=⟨⟩
theorem tw9885598286506345714:True:=⟨⟩
theorem tw8619762682041112516:True:=⟨⟩
theorem tw454679651829983634:True:=⟨⟩
theorem tw7204247464433738884:True:=⟨⟩
theorem tw4547329234590499066:True:=⟨⟩
theorem tw3470133508069233073:True:=⟨⟩
theorem tw10631476087786398077:True:=⟨⟩
theorem tw4619304002835220374:True:=⟨⟩
theorem tw12303890598183052020:True:=⟨⟩
theorem tw1483546213518835886:True:=⟨⟩
theorem tw561855219908204693:True:=⟨⟩
theorem tw4927396933049331382:True:=⟨⟩
theorem tw17640974172251038696:True:=⟨⟩
theorem tw14364632016915810226:True:=⟨⟩
theorem tw6729897142378949023:True:=⟨⟩
theorem tw18292683959454113758:True:=⟨⟩
theorem tw11167215713305266514:True:=⟨⟩
theorem tw7973885164504767688:True:=⟨⟩
theorem tw15800885905143420038:True:=⟨⟩
theorem tw13825142470750495946:True:=⟨⟩
theorem tw5621550964595322755:True:=⟨⟩
theorem tw10854996613252510367:True:=⟨⟩
theorem tw347010591449942550:True:=⟨⟩
theorem tw12912131375568860109:True:=⟨⟩
theorem tw2076643652946394584:True:=⟨⟩
theorem tw16711469730636054783:True:=⟨⟩
theorem tw3831892031434312711:True:=⟨⟩
theorem tw5858934444268581981:True:=⟨⟩
theorem tw17868402963073743703:True:=⟨⟩
theorem tw7676127849186327828:True:=⟨⟩
theorem tw8679378883022134572:True:=⟨⟩
theorem tw11977767485284775286:True:=⟨⟩
theorem tw12024886254763094858:True:=⟨⟩
theorem tw13684184751758868830:True:=⟨⟩
theorem tw15236402763503203147:True:=⟨⟩
theorem tw5257805754073190645:True:=⟨⟩
theorem tw218987576583202276:True:=⟨⟩
theorem tw7984756710265122524:True:=⟨⟩
theorem tw18202053424676840731:True:=⟨⟩
theorem tw12100111689476952225:True:=⟨⟩
theorem tw10463120856241947708:True:=⟨⟩
theorem tw17509155619457629178:True:=⟨⟩
theorem tw9933298217830854816:True:=⟨⟩
theorem tw8146057527753357159:True:=⟨⟩
theorem tw17779270881743241194:True:=⟨⟩
theorem tw1555158874288522242:True:=⟨⟩
theorem tw74559499318845887:True:=⟨⟩
theorem tw18159844564780309406:True:=⟨⟩
theorem tw1747691662105682346:True:=⟨⟩
theorem tw3324597265265162761:True:=⟨⟩
theorem tw9652442205008728835:True:=⟨⟩
theorem tw1300671769606001256:True:=⟨⟩
theorem tw5858408092308642457:True:=⟨⟩
theorem tw6169510318049045343:True:=⟨⟩
theorem tw795396932772369776:True:=⟨⟩
theorem tw8071809976072115083:True:=⟨⟩
theorem tw14283394118686681046:True:=⟨⟩
theorem tw13024227994770860142:True:=⟨⟩
theorem tw5228993298672461502:True:=⟨⟩
theorem tw3610991192913762489:True:=⟨⟩
theorem tw15083708341333137207:True:=⟨⟩
theorem tw10086011051975109947:True:=⟨⟩
theorem tw1359950886968305329:True:=⟨⟩
theorem tw4677070614351012020:True:=⟨⟩
theorem tw8840157451242524496:True:=⟨⟩
theorem tw838043771825900740:True:=⟨⟩
theorem tw10848655745262786735:True:=⟨⟩
theorem tw10163209547430241749:True:=⟨⟩
theorem tw13319920533947081284:True:=⟨⟩
theorem tw1614927155202844528:True:=⟨⟩
theorem tw7628721122635756167:True:=⟨⟩
theorem tw12829983577530520251:True:=⟨⟩
theorem tw11373193965055812682:True:=⟨⟩
theorem tw677888264624281703:True:=⟨⟩
theorem tw7129941739373599379:True:=⟨⟩
theorem tw15109620013442490303:True:=⟨⟩
theorem tw10596217601962009188:True:=⟨⟩
theorem tw2487263937445067077:True:=⟨⟩
theorem tw12206504222536689346:True:=⟨⟩
theorem tw5311031030559737461:True:=⟨⟩
theorem tw17178814000188740485:True:=⟨⟩
theorem tw7697902816332947451:True:=⟨⟩
theorem tw7551572740839284765:True:=⟨⟩
theorem tw1448159910508010760:True:=⟨⟩
theorem tw8432931831345834645:True:=⟨⟩
theorem tw9144097575204046040:True:=⟨⟩
theorem tw3428340652894409147:True:=⟨⟩
theorem tw4878614662913096435:True:=⟨⟩
theorem tw3262966122824643459:True:=⟨⟩
theorem tw436238545099590442:True:=⟨⟩
theorem tw15318012198651804826:True:=⟨⟩
theorem tw3613100796752308137:True:=⟨⟩
theorem tw15848058661905365764:True:=⟨⟩
theorem tw7115828317765365655:True:=⟨⟩
theorem tw11796447284027091178:True:=⟨⟩
theorem tw2318239372305451780:True:=⟨⟩
theorem tw9306862180391032194:True:=⟨⟩
theorem tw13195765721778666558:True:=⟨⟩
theorem tw8053794262920523514:True:=⟨⟩
theorem tw5112004738557074041:True:=⟨⟩
theorem tw1837931115483717722:True:=⟨⟩
theorem tw16021257924578028486:True:=⟨⟩
theorem tw2112123162899159940:True:=⟨⟩
theorem tw2746222747892880249:True:=⟨⟩
theorem tw2238783966801827862:True:=⟨⟩
theorem tw1640636294125505152:True:=⟨⟩
theorem tw13814828760405305893:True:=⟨⟩
theorem tw1523518834430725216:True:=⟨⟩
theorem tw4652214995172077537:True:=⟨⟩
theorem tw11211418071325841522:True:=⟨⟩
theorem tw1420276150715921877:True:=⟨⟩
theorem tw2839035428452855294:True:=⟨⟩
theorem tw7555124727809179801:True:=⟨⟩
theorem tw7212084159126495148:True:=⟨⟩
theorem tw729962043792898651:True:=⟨⟩
theorem tw15496679566240147263:True:=⟨⟩
theorem tw11914273586496239903:True:=⟨⟩
theorem tw2241746727751114424:True:=⟨⟩
theorem tw14625427575936451786:True:=⟨⟩
theorem tw6866805078671214561:True:=⟨⟩
theorem tw17528014286612768164:True:=⟨⟩
theorem tw17492797385703590423:True:=⟨⟩
theorem tw3107927135928924569:True:=⟨⟩
theorem tw15233098718649546971:True:=⟨⟩
theorem tw3713345374510650244:True:=⟨⟩
theorem tw1518758641082671796:True:=⟨⟩
theorem tw12504591154227669982:True:=⟨⟩
theorem tw11795948206838475318:True:=⟨⟩
theorem tw3292777178346971743:True:=⟨⟩
theorem tw2903779626156738739:True:=⟨⟩
theorem tw1247688174576973299:True:=⟨⟩
theorem tw6513256618315256842:True:=⟨⟩
theorem tw17666506579710256314:True:=⟨⟩
theorem tw9495556841327856911:True:=⟨⟩
theorem tw12473421394468979711:True:=⟨⟩
theorem tw17954554536139387731:True:=⟨⟩
theorem tw6218260824292067270:True:=⟨⟩
theorem tw250811312874038500:True:=⟨⟩
theorem tw16708339012751069215:True:=⟨⟩
theorem tw14313110491016155475:True:=⟨⟩
theorem tw13571673666889323454:True:=⟨⟩
theorem tw7241074784843220953:True:=⟨⟩
theorem tw14239739375177755961:True:=⟨⟩
theorem tw212928189007038255:True:=⟨⟩
theorem tw7970238284314178453:True:=⟨⟩
theorem tw12485145301309568747:True:=⟨⟩
theorem tw14227502453775830224:True:=⟨⟩
theorem tw4159374793164649054:True:=⟨⟩
theorem tw6972281003630306527:True:=⟨⟩
theorem tw8838985965603652393:True:=⟨⟩
theorem tw3006946876188466771:True:=⟨⟩
theorem tw1861470471537048138:True:=⟨⟩
theorem tw8282528729908584259:True:=⟨⟩
theorem tw7254071386954576474:True:=⟨⟩
theorem tw14686140545572420865:True:=⟨⟩
theorem tw16744683255296472618:True:=⟨⟩
theorem tw11686265718813840156:True:=⟨⟩
theorem tw10410905556965295327:True:=⟨⟩
theorem tw6329660546861311180:True:=⟨⟩
theorem tw15956000814967362148:True:=⟨⟩
theorem tw334529189809478655:True:=⟨⟩
theorem tw15637932486996962307:True:=⟨⟩
theorem tw12973186922143467053:True:=⟨⟩
theorem tw10157188094183445331:True:=⟨⟩
theorem tw9731358719430318803:True:=⟨⟩
theorem tw14832168281057802029:True:=⟨⟩
theorem tw17974880041631206539:True:=⟨⟩
theorem tw7010057114102015320:True:=⟨⟩
theorem tw10508324354757117994:True:=⟨⟩
theorem tw7005284432823200830:True:=⟨⟩
theorem tw17059046190215691508:True:=⟨⟩
theorem tw16461759826326710900:True:=⟨⟩
theorem tw8606831793072453547:True:=⟨⟩
theorem tw4552980975012374173:True:=⟨⟩
theorem tw10277351468199661082:True:=⟨⟩
theorem tw10011826242315703215:True:=⟨⟩
theorem tw7915999687255632862:True:=⟨⟩
theorem tw17484792851938643256:True:=⟨⟩
theorem tw4503017684071406488:True:=⟨⟩
theorem tw9309745530212620975:True:=⟨⟩
theorem tw1374299711169167279:True:=⟨⟩
theorem tw14792601729707514203:True:=⟨⟩
theorem tw12422892823909945771:True:=⟨⟩
theorem tw2002675132954472971:True:=⟨⟩
theorem tw7748095098335970681:True:=⟨⟩
theorem tw9069530356440839114:True:=⟨⟩
theorem tw12917235029714995298:True:=⟨⟩
theorem tw9327916936279844517:True:=⟨⟩
theorem tw8321712052734132121:True:=⟨⟩
theorem tw3700148434515827261:True:=⟨⟩
theorem tw12100762754271824976:True:=⟨⟩
theorem tw5663232496141089473:True:=⟨⟩
theorem tw15041588476002453732:True:=⟨⟩
theorem tw1430989095105951571:True:=⟨⟩
theorem tw15829383567162836122:True:=⟨⟩
theorem tw10287074350817963927:True:=⟨⟩
theorem tw1019379407153422943:True:=⟨⟩
theorem tw6183317493231421015:True:=⟨⟩
theorem tw5691412118766956420:True:=⟨⟩
theorem tw11882363672946568262:True:=⟨⟩
theorem tw2258287839459431788:True:=⟨⟩
theorem tw1328127048039359778:True:=⟨⟩
theorem tw1274795341909030596:True:=⟨⟩
theorem tw17545773837183639878:True:=⟨⟩
theorem tw9697202229445607033:True:=⟨⟩
theorem tw3365297556819771764:True:=⟨⟩
theorem tw1407727563060516418:True:=⟨⟩
theorem tw14021198701845764717:True:=⟨⟩
theorem tw669498696488631090:True:=⟨⟩
theorem tw10804867216859392754:True:=⟨⟩
theorem tw3785811959059230589:True:=⟨⟩
theorem tw7673762531758247567:True:=⟨⟩
theorem tw13893458708653819413:True:=⟨⟩
theorem tw7120088024698724536:True:=⟨⟩
theorem tw18298110999271233487:True:=⟨⟩
theorem tw7189115484319611705:True:=⟨⟩
theorem tw15130310412868069090:True:=⟨⟩
theorem tw15461632233978113718:True:=⟨⟩
theorem tw13123794367098926985:True:=⟨⟩
theorem tw15099723125171298980:True:=⟨⟩
theorem tw14941705959092313918:True:=⟨⟩
theorem tw12525550956900533919:True:=⟨⟩
theorem tw68091701367894336:True:=⟨⟩
theorem tw15607426354686964541:True:=⟨⟩
theorem tw14948530547444560035:True:=⟨⟩
theorem tw9796760615632397513:True:=⟨⟩
theorem tw15926771704011462958:True:=⟨⟩
theorem tw16644274864164000580:True:=⟨⟩
theorem tw1170272760325840425:True:=⟨⟩
theorem tw1298861357997198653:True:=⟨⟩
theorem tw18351847426328541571:True:=⟨⟩
theorem tw7308897102119744156:True:=⟨⟩
theorem tw1420028944970528348:True:=⟨⟩
theorem tw5166533710431789268:True:=⟨⟩
theorem tw17713191400142521063:True:=⟨⟩
theorem tw13734280746850264371:True:=⟨⟩
theorem tw11473665396439869901:True:=⟨⟩
theorem tw7191981199795386257:True:=⟨⟩
theorem tw4627635259200302264:True:=⟨⟩
theorem tw14598847165912353479:True:=⟨⟩
theorem tw17997579824560468730:True:=⟨⟩
theorem tw15177194733998044031:True:=⟨⟩
theorem tw1302156417393570993:True:=⟨⟩
theorem tw6513317092233746134:True:=⟨⟩
theorem tw13886334392774399362:True:=⟨⟩
theorem tw4212929415011624850:True:=⟨⟩
theorem tw11520666054789312695:True:=⟨⟩
theorem tw2694945838627786828:True:=⟨⟩
theorem tw13882858100092429618:True:=⟨⟩
theorem tw16004682086544882349:True:=⟨⟩
theorem tw15497857438677914267:True:=⟨⟩
theorem tw1548350355288270171:True:=⟨⟩
theorem tw8417939225533570215:True:=⟨⟩
theorem tw16764409880517970026:True:=⟨⟩
theorem tw15307143138180318078:True:=⟨⟩
theorem tw13055091852737319296:True:=⟨⟩
theorem tw6650549565422268737:True:=⟨⟩
theorem tw5317643359227605599:True:=⟨⟩
theorem tw15680119527489381676:True:=⟨⟩
theorem tw15752972734154641721:True:=⟨⟩
theorem tw16759745215333142554:True:=⟨⟩
theorem tw6823955431854914490:True:=⟨⟩
theorem tw6155069207962558402:True:=⟨⟩
theorem tw4218172038029047592:True:=⟨⟩
theorem tw14309526789020075529:True:=⟨⟩
theorem tw7495306278763104364:True:=⟨⟩
theorem tw2938749849543125192:True:=⟨⟩
theorem tw14510315217913806265:True:=⟨⟩
theorem tw16778074094216837844:True:=⟨⟩
theorem tw11937113999792213738:True:=⟨⟩
theorem tw11050512937966940150:True:=⟨⟩
theorem tw2911249999087439962:True:=⟨⟩
theorem tw14746320622111895962:True:=⟨⟩
theorem tw3253212374510723552:True:=⟨⟩
theorem tw4664688440289565874:True:=⟨⟩
theorem tw5202024068884603139:True:=⟨⟩
theorem tw2850029822531868595:True:=⟨⟩
theorem tw18145573271778751493:True:=⟨⟩
theorem tw1152759437000543380:True:=⟨⟩
theorem tw12630069284783786653:True:=⟨⟩
theorem tw10907525620866904862:True:=⟨⟩
theorem tw6569827406007763168:True:=⟨⟩
theorem tw15179421229416488709:True:=⟨⟩
theorem tw17071499924111294050:True:=⟨⟩
theorem tw12115536242491616861:True:=⟨⟩
theorem tw7732133623256413530:True:=⟨⟩
theorem tw8991954065562673204:True:=⟨⟩
theorem tw10888531010072083427:True:=⟨⟩
theorem tw2238069872166501403:True:=⟨⟩
theorem tw8760803595344143808:True:=⟨⟩
theorem tw12277286606786577449:True:=⟨⟩
theorem tw15764404444617518510:True:=⟨⟩
theorem tw5622756453059094245:True:=⟨⟩
theorem tw7908590390323532044:True:=⟨⟩
theorem tw3052213981086836913:True:=⟨⟩
theorem tw16123494208025628223:True:=⟨⟩
theorem tw16848460846266665531:True:=⟨⟩
theorem tw5426540275584241912:True:=⟨⟩
theorem tw14446218445607108821:True:=⟨⟩
theorem tw4459650669244525190:True:=⟨⟩
theorem tw9598028368399542215:True:=⟨⟩
theorem tw13894265988979696671:True:=⟨⟩
theorem tw10625496693456856679:True:=⟨⟩
theorem tw11238133554089787327:True:=⟨⟩
theorem tw16234696261144623552:True:=⟨⟩
theorem tw16048776155218093138:True:=⟨⟩
theorem tw15290812886316724059:True:=⟨⟩
theorem tw1241368011287949071:True:=⟨⟩
theorem tw11389514268855499955:True:=⟨⟩
theorem tw7817413237797058743:True:=⟨⟩
theorem tw10098802452802787715:True:=⟨⟩
theorem tw15683339581934401683:True:=⟨⟩
theorem tw10459439292232735092:True:=⟨⟩
theorem tw10987299012216220047:True:=⟨⟩
theorem tw5352612841382728343:True:=⟨⟩
theorem tw726444686070364417:True:=⟨⟩
theorem tw9018582669657466778:True:=⟨⟩
theorem tw11209292588625758205:True:=⟨⟩
theorem tw11190445425821552564:True:=⟨⟩
theorem tw13179223685871547678:True:=⟨⟩
theorem tw3025975280647838910:True:=⟨⟩
theorem tw18192479960132226277:True:=⟨⟩
theorem tw14661767973110352385:True:=⟨⟩
theorem tw16258760185122532036:True:=⟨⟩
theorem tw8242335897608258123:True:=⟨⟩
theorem tw6013276023157639488:True:=⟨⟩
theorem tw6960595372416120711:True:=⟨⟩
theorem tw13790911974625689206:True:=⟨⟩
theorem tw5528784489930255821:True:=⟨⟩
theorem tw13610996760289823376:True:=⟨⟩
theorem tw10209573184991479297:True:=⟨⟩
theorem tw10742333006252515411:True:=⟨⟩
theorem tw2839778295293870067:True:=⟨⟩
theorem tw16476252791730033358:True:=⟨⟩
theorem tw4952722138944699043:True:=⟨⟩
theorem tw8408804845143999905:True:=⟨⟩
theorem tw8385182278141541148:True:=⟨⟩
theorem tw15586628096322715999:True:=⟨⟩
theorem tw17598377470057960770:True:=⟨⟩
theorem tw10706405291008032357:True:=⟨⟩
theorem tw8724499340430479360:True:=⟨⟩
theorem tw10004068892490618802:True:=⟨⟩
theorem tw11590434378874051384:True:=⟨⟩
theorem tw7648637756517960019:True:=⟨⟩
theorem tw9830362504410406418:True:=⟨⟩
theorem tw16912624003241987113:True:=⟨⟩
theorem tw5467568903798518273:True:=⟨⟩
theorem tw9157164911208362453:True:=⟨⟩
theorem tw13337064172825322316:True:=⟨⟩
theorem tw4880210367552339224:True:=⟨⟩
theorem tw13085009766386493899:True:=⟨⟩
theorem tw8293444884359332207:True:=⟨⟩
theorem tw16120478518763594635:True:=⟨⟩
theorem tw6617271298481145978:True:=⟨⟩
theorem tw7374070406476690194:True:=⟨⟩
theorem tw361719686149685089:True:=⟨⟩
theorem tw7174240229400494919:True:=⟨⟩
theorem tw15980346640659553353:True:=⟨⟩
theorem tw7947000873184952903:True:=⟨⟩
theorem tw16314277385523336796:True:=⟨⟩
theorem tw13626720281966717561:True:=⟨⟩
theorem tw11073767272807226088:True:=⟨⟩
theorem tw14138352112623563939:True:=⟨⟩
theorem tw16557327543417131383:True:=⟨⟩
theorem tw7251520447397633265:True:=⟨⟩
theorem tw2160012628667302232:True:=⟨⟩
theorem tw16216268822946595921:True:=⟨⟩
theorem tw7433529366441330371:True:=⟨⟩
theorem tw4763423014251723653:True:=⟨⟩
theorem tw5088995478015737993:True:=⟨⟩
theorem tw1824380824169077779:True:=⟨⟩
theorem tw4915312417891496887:True:=⟨⟩
theorem tw5356146628276246728:True:=⟨⟩
theorem tw1100928704197176621:True:=⟨⟩
theorem tw11173397348770271080:True:=⟨⟩
theorem tw18190851241079257321:True:=⟨⟩
theorem tw7677390480797951596:True:=⟨⟩
theorem tw1175911239488565829:True:=⟨⟩
theorem tw9759181510107077494:True:=⟨⟩
theorem tw6866800920984051156:True:=⟨⟩
theorem tw12581807664512795237:True:=⟨⟩
theorem tw17003368241935787714:True:=⟨⟩
theorem tw18105282092248093547:True:=⟨⟩
theorem tw17413681321621720414:True:=⟨⟩
theorem tw8168760883110100573:True:=⟨⟩
theorem tw17180279216713832423:True:=⟨⟩
theorem tw16221984183631439649:True:=⟨⟩
theorem tw4081118602631930348:True:=⟨⟩
theorem tw17211189806525805993:True:=⟨⟩
theorem tw14505517538746920161:True:=⟨⟩
theorem tw4714879721554293704:True:=⟨⟩
theorem tw603946324413113229:True:=⟨⟩
theorem tw9363960331189993824:True:=⟨⟩
theorem tw9364048821490298860:True:=⟨⟩
theorem tw16831035917979101133:True:=⟨⟩
theorem tw16976680066481810443:True:=⟨⟩
theorem tw15623278327261563372:True:=⟨⟩
theorem tw7516432587464880504:True:=⟨⟩
theorem tw6487199276636654006:True:=⟨⟩
theorem tw3115824310570130799:True:=⟨⟩
theorem tw12940440383400417438:True:=⟨⟩
theorem tw2047777986015434954:True:=⟨⟩
theorem tw11982934371962766617:True:=⟨⟩
theorem tw12250691988664772224:True:=⟨⟩
theorem tw14598248872578356581:True:=⟨⟩
theorem tw7442854768923424611:True:=⟨⟩
theorem tw1908729062423394317:True:=⟨⟩
theorem tw8491760998176959205:True:=⟨⟩
theorem tw2193778795654157029:True:=⟨⟩
theorem tw7586477723889151180:True:=⟨⟩
theorem tw5837960450680904878:True:=⟨⟩
theorem tw3923035509618857733:True:=⟨⟩
theorem tw5990364509743225265:True:=⟨⟩
theorem tw2931174411623333214:True:=⟨⟩
theorem tw4422660507637150092:True:=⟨⟩
theorem tw11784351032257655841:True:=⟨⟩
theorem tw13719405034800019979:True:=⟨⟩
theorem tw11852666715472752785:True:=⟨⟩
theorem tw9110455854985548169:True:=⟨⟩
theorem tw7383237591805386214:True:=⟨⟩
theorem tw2120845509803344604:True:=⟨⟩
theorem tw13245407540058712768:True:=⟨⟩
theorem tw6218719017711100198:True:=⟨⟩
theorem tw14303749746323195133:True:=⟨⟩
theorem tw8750605188063963331:True:=⟨⟩
theorem tw1923890500999629357:True:=⟨⟩
theorem tw15436780677827653447:True:=⟨⟩
theorem tw15463983629274071572:True:=⟨⟩
theorem tw15178774384288763700:True:=⟨⟩
theorem tw13100853895714543900:True:=⟨⟩
theorem tw4649611019472130385:True:=⟨⟩
theorem tw7745768784141862762:True:=⟨⟩
theorem tw8572394133768675331:True:=⟨⟩
theorem tw865913159760359545:True:=⟨⟩
theorem tw12438166562916735916:True:=⟨⟩
theorem tw15037107015130768127:True:=⟨⟩
theorem tw8749069329032148356:True:=⟨⟩
theorem tw10652495301441252231:True:=⟨⟩
theorem tw261549220159308146:True:=⟨⟩
theorem tw17676582100490978232:True:=⟨⟩
theorem tw3210132659575058764:True:=⟨⟩
theorem tw16376999703045463789:True:=⟨⟩
theorem tw4494449338663251279:True:=⟨⟩
theorem tw14369609934286476183:True:=⟨⟩
end PySem.W.Fast
open PySem PySem.W PyProof.Rows
set_option maxRecDepth 100000 in
set_option maxHeartbeats 0 in
theorem PySem.Challenge.cw_strokegrow_k87_whole_path_shows_what_tab_holds : PySem.Challenge.rw_strokegrow_k87_whole_path_shows_what_tab.Holds := by
 w_on;o_law;k_head;(case hw=>w_witness2)
 k_fill
 refine L2.GR (l:=PySem.Challenge.rw_strokegrow_k87_whole_path_shows_what_tab) (n:=63) (k:=12) (x:="_law_script") (CX:=Pf.CX) (sp:=fun K=>Pf.Ja K) rfl (by decide) rfl ⟨rfl,by decide,by decide⟩ (fun w h Y=>PySem.W.kIn_of Y) ?F ?S ?C
 case F=>
   intro w mg fa h KX G SH
   have T:∃ t,Pf.Txt (L2.YJ KX) mg t∧t.pF=fa:=by
     dsimp only [L2.YJ]
     obtain⟨t,T,e⟩:∃ t,Pf.Txt _ mg t∧t.pF=_:=by
       refine' Pf.Qu KX G ?_ ?_ ?_ ?_ ?_ ?_ ?_ ?_ ?_ ?_ ?_ ?_ ?_ ?_ ?_ ?_ ?_ ?_ ?_ ?_ ?_ ?_ ?_ ?_ ?_ ?_ ?_ ?_ ?_ ?_ ?_ ?_ ?_ ?_ ?_ ?_ ?_ ?_ ?_ ?_ ?_ ?_ ?_ ?_ ?_ ?_ ?_ ?_ ?_ ?_ ?_ ?_ ?_ ?_ ?_ ?_ ?_ ?_ ?_ ?_ ?_ ?_ ?_ ?_ ?_ ?_ ?_ ?_ ?_ ?_ ?_ ?_ ?_ ?_ ?_ ?_ ?_ ?_ ?_ ?_ ?_ ?_ ?_ ?_ ?_ ?_ ?_ ?_ ?_ ?_ ?_ ?_ ?_ ?_ ?_ ?_ ?_ ?_ ?_ ?_ ?_ ?_ ?_ ?_ ?_ ?_ ?_ ?_ ?_ ?_ ?_ ?_ ?_ ?_ ?_ ?_ ?_ ?_ ?_ ?_ ?_ ?_ ?_ ?_ ?_ ?_ ?_ ?_ ?_ ?_ ?_ ?_ ?_ ?_ ?_ ?_ ?_ ?_ ?_ ?_ ?_ ?_ ?_ ?_ ?_ ?_ ?_ ?_ ?_ ?_ ?_ ?_ ?_ ?_ ?_ ?_ ?_ ?_ ?_ ?_ ?_ ?_ ?_ ?_ ?_ ?_
       any_goals walk_at "z"
     refine⟨t,T,?_⟩
     have e0:=SH.symm.trans (T.g T.A3.a)
     cases e0
     rfl
   obtain⟨t,T,e⟩:=T
   subst e
   refine' ⟨t.vx,?b,fun base kb nb=>Pf.Ri T⟩
   exact Pf.Qv T
 case S=>exact fun K H a ns hl hO hS=>Pf.QE hl hS
 case C=>exact fun H s e s' h=>h
