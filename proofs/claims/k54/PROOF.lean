import PyProof.Rows.All
import Wide.All
import OpenK.AllK
import Wide.FinOn
import Lean
import PyProof.EqAt
import PyProof.EqKinds
import PyProof.TupleCall
import PyProof.WalksEnum
import PyProof.EnumMake
import PyProof.ZipIter
import PyProof.ReprStr
import PyProof.StrBlockG
import PyProof.StrWalks
import PyProof.FString5
import PyProof.ConsumeWalk
import PyProof.SumAny
import PyProof.StrCalls2
import KE.KDictList
import PyProof.Draws
import PyProof.StrBlock2
import PyProof.DictIter
import PyProof.ExcInit
import PyProof.ExcClass3
import PyProof.FString
import PyProof.FitsInt
import PyProof.StrLawsRepr
import PyProof.Rows.Range3
import PyProof.StrCalls
import PyProof.ListRange
import PyProof.AttrMissHeap
import KE.KDictOf
import PyProof.StrCalls3
import PyProof.FactsAll.dict_2
import PyProof.MeetsIn
import PyProof.Cells
import KE.KDictSum
import PyProof.DictWalks
import KE.KRevIter
import PyProof.FactsAll.subtypes_3
import PyProof.Rows.SortWalk
import KE.KSortedM
import PyProof.Rows.SortStr
import PyProof.MinMaxWalk
import PyProof.WalkInts
import PyProof.SeqI3
import PyProof.Rows.CallKwBuiltin
import KE.KUnpack
import PyProof.Rows.SeqMore2
import PyProof.LongRange
import PySem.Challenge.RW_strokegrow_k54_pen_at
theorem AA3 {a b:Nat}(h:Nat.ble a b=true:=by rfl):a<=b:=Nat.le_of_ble_eq_true h
set_option Elab.async false
set_option linter.all false
set_option maxRecDepth 100000
section
set_option genSizeOf false
set_option genInjectivity false
open List renaming getElem?_eq_getElem→k3, length_map→k5, getD_eq_getElem?_getD→YO, getElem?_map→aab, getElem?_eq_some_iff→aaj, getElem?_set_self→aak, getElem?_set_ne→aal, range→aam, replicate→aan, map_map→aao, size_toArray→aar, map_cons→aau, filter_eq_self→aav, length_append→aax, length_take→aay, mem_append_right→aaz, getElem?_append_left→aaC, getElem?_append_right→aaE, getElem?_eq_none→aaF, mem_cons→aaH, length_range→aaI, mem_cons_of_mem→aaJ, getElem?_range→aaL, length_cons→aaN, getElem_mem→aaP, getElem_map→aaQ, mem_map→aaR, lookup_cons→aaT, getElem?_replicate→aaV, mem_iff_getElem→aaX, take_add_one→aaY, eq_nil_of_length_eq_zero→aaZ, pairwise_iff_getElem→aa0, mem_cons_self→aa1, append_nil→aa3, flatten_cons→aa4, getElem?_cons_succ→aa5, map_append→aa6, dropLast_concat_getLast→aa9, length_drop→aba, take_length→abb, replicate_succ→abd, mem_append→abe, length→abg, mem_of_getElem?→abj, flatMap_cons→abk, find?_cons→abl, take_of_length_le→abm, length_dropLast→abo, sum_cons→abp, mem_range→abr, nodup_cons→abu, getElem_take→abv, length_reverse→abz, flatten_append→abA, any_cons→abC, lookup→abD, filter_cons_of_neg→abE, filter_cons_of_pos→abF, drop_zero→abJ, drop_eq_nil_of_le→abK, all_eq_true→abO, all_cons→abP, range'→abR, length_set→abT, filterMap_cons→abU, map_congr_left→abV
open Exists renaming elim→Bn
open Nat renaming le_refl→aaa, lt_of_lt_of_le→aaq, ne_of_lt→aaw, le_trans→aaA, le_of_ble_eq_true→aaM, lt_of_le_of_lt→aaO, zero_le→aaW, le_of_lt→aa7, lt_irrefl→aa8, le_succ→abf, lt_succ_self→abh, succ_ne_self→abx, le_add_right→aby, ne_of_gt→abG, lt_succ_of_lt→abI, le_of_not_lt→abN, pow_le_pow_right→abQ
open PySem.Heap renaming get?_push_of_some→aag, lt_size→aap, get?_push_size→aat, size_push→abc, SameBut→abt, get?_update_other→abH, get?_update_self→abL
open Bool renaming false_ne_true→aas, and_eq_true→aaS, false_eq_true→aa2, eq_iff_iff→abS
open Int renaming emod_nonneg→aaB, emod_lt_of_pos→aaG, toNat_natCast→aaU, ne_of_gt→abi, add_zero→abn, emod_eq_of_lt→abw
open Or renaming inr→aaD, inl→aaK
open Array renaming length_toList→abq, getElem?_toList→abM
open Option renaming isSome_iff_exists→abB
namespace L2
open PySem PySem.Spec PyProof.Rows
noncomputable abbrev Key:=Sum Int Str
noncomputable def yd:Key->Value->Bool
 | .inl k,v=>Value.isInt k v
 | .inr x,v=>Value.isStrOf x v
noncomputable def XD (w:World):Key->Int
 | .inl k=>hashInt k
 | .inr x=>hashStr w x
theorem c7:∀ {k:Key} {v:Value},yd k v=true->(∃ i t,k=Sum.inl i/\v=Value.int i t)\/(∃ x t,k=Sum.inr x/\v=Value.str x t)
 | .inl i,v,h=>by
   obtain⟨t,e⟩:=Value.isInt_shape (k:=i) (v:=v) h
   exact .inl ⟨i,t,rfl,e⟩
 | .inr x,v,h=>by
   obtain⟨t,e⟩:=Value.isStrOf_shape (x:=x) (v:=v) h
   exact .inr ⟨x,t,rfl,e⟩
theorem FU (i:Int)(t:Tok):yd (.inl i) (.int i t)=true:=by simp[yd,Value.isInt]
theorem FV (x:Str)(t:Tok):yd (.inr x) (.str x t)=true:=by simp[yd,Value.isStrOf]
theorem PH (a b:Int):decide ((Sum.inl a:Key)=Sum.inl b)=(a == b):=by
 by_cases e:a=b
 . subst e;simp
 . have h:¬ (Sum.inl a:Key)=Sum.inl b:=fun q=>e (Sum.inl.inj q)
   rw[decide_eq_false h]
   exact(beq_eq_false_iff_ne.mpr e).symm
theorem PJ (a b:Str):decide ((Sum.inr a:Key)=Sum.inr b)=decide (a=b):=by
 by_cases e:a=b
 . subst e;simp
 . have h:¬ (Sum.inr a:Key)=Sum.inr b:=fun q=>e (Sum.inr.inj q)
   rw[decide_eq_false h,decide_eq_false e]
theorem PK (a:Int)(b:Str):decide ((Sum.inl a:Key)=Sum.inr b)=false:=decide_eq_false (fun q=>nomatch q)
theorem PL (a:Str)(b:Int):decide ((Sum.inr a:Key)=Sum.inl b)=false:=decide_eq_false (fun q=>nomatch q)
noncomputable def cR (prog:Program)(w:World):PySem.KeyKind prog w Key where
 is:=yd
 hash:=XD w
 inj:=fun v a b ha hb=>by
   rcases c7 ha with⟨i,t,rfl,rfl⟩ | ⟨x,t,rfl,rfl⟩
   . rcases c7 hb with⟨j,u,rfl,e⟩ | ⟨y,u,rfl,e⟩
     . injection e with e1 _;rw[e1]
     . exact nomatch e
   . rcases c7 hb with⟨j,u,rfl,e⟩ | ⟨y,u,rfl,e⟩
     . exact nomatch e
     . injection e with e1 _;rw[e1]
 byValue:=fun k v h=>by
   rcases c7 h with⟨i,t,rfl,rfl⟩ | ⟨x,t,rfl,rfl⟩ <;> rfl
 pyHash:=fun hv h=>by
   rcases c7 hv with⟨i,t,rfl,rfl⟩ | ⟨x,t,rfl,rfl⟩
   . exact wpAny_pyHash_int h
   . exact wpAny_pyHash_str h
 eqBool:=fun hu hv h=>by
   rcases c7 hu with⟨i,t,rfl,rfl⟩ | ⟨x,t,rfl,rfl⟩
   . rcases c7 hv with⟨j,u,rfl,rfl⟩ | ⟨y,u,rfl,rfl⟩
     . rw[PH] at h;exact wpAny_eqBool_int h
     . rw[PK] at h;exact SeqAt.EqAt.int_str i t y u _ _ _ _ h
   . rcases c7 hv with⟨j,u,rfl,rfl⟩ | ⟨y,u,rfl,rfl⟩
     . rw[PL] at h;exact SeqAt.EqAt.str_int x t j u _ _ _ _ h
     . rw[PJ] at h;exact wpAny_eqBool_str h
 «strs»:=fun k x t v h=>by
   rcases c7 h with⟨i,u,rfl,e⟩ | ⟨y,u,rfl,e⟩
   . exact nomatch e
   . injection e with e1 _
     subst e1
     cases v <;> rfl
theorem AL (prog:Program)(w:World)(i:Int)(t:Tok):(cR prog w).is (.inl i) (.int i t)=true:=FU i t
theorem AM (prog:Program)(w:World)(x:Str)(t:Tok):(cR prog w).is (.inr x) (.str x t)=true:=FV x t
set_option genInjectivity true in
inductive V where
 | cS | bl (b:Bool) | int (i:Int) | str (x:Str) | Hk (b:Array UInt8) | PM (b:UInt64) | ref (a:Addr) | ty (n:String)
 deriving DecidableEq
def RelV:V->Value->Prop
 | .cS,u=>u=Value.none
 | .bl b,u=>u=Value.bool b
 | .int i,u=>∃ t,u=Value.int i t
 | .str x,u=>∃ t,u=Value.str x t
 | .Hk b,u=>∃ t,u=Value.bytes b t
 | .PM b,u=>∃ t,u=Value.float b t
 | .ref a,u=>u=Value.ref a
 | .ty n,u=>u=Value.type n
abbrev Vals:List V->List Value->Prop:=Paired RelV
theorem Vals.length {xs:List V}{us:List Value}(r:Vals xs us):xs.length=us.length:=Paired.length r
theorem Vals.get:∀ {xs:List V} {us:List Value} {i:Nat} {x:V},Vals xs us->xs[i]?=some x->∃ u,us[i]?=some u/\RelV x u
 | _,_,_,_,.nil,e=>by simp at e
 | _,_,0,_,.cons r _,e=>by simp at e;subst e;exact⟨_,rfl,r⟩
 | _,_,i+1,x,.cons _ t,e=>by
   obtain⟨u,h1,h2⟩:=Vals.get (i:=i) (x:=x) t (by simpa using e)
   exact⟨u,by simpa using h1,h2⟩
theorem Vals.set {x:V}{u:Value}(r:RelV x u):∀ {xs:List V} {us:List Value} (i:Nat),Vals xs us->Vals (xs.set i x) (us.set i u)
 | _,_,_,.nil=>.nil
 | _,_,0,.cons _ t=>.cons r t
 | _,_,i+1,.cons q t=>.cons q (Vals.set r i t)
theorem Vals.append:∀ {xs ys:List V} {us ws:List Value},Vals xs us->Vals ys ws->Vals (xs ++ ys) (us ++ ws)
 | _,_,_,_,.nil,s=>s
 | _,_,_,_,.cons r t,s=>.cons r (Vals.append t s)
theorem Vals.take:∀ {xs:List V} {us:List Value} (n:Nat),Vals xs us->Vals (xs.take n) (us.take n)
 | _,_,0,_=>.nil
 | _,_,_+1,.nil=>.nil
 | _,_,n+1,.cons r t=>.cons r (Vals.take n t)
theorem Vals.drop:∀ {xs:List V} {us:List Value} (n:Nat),Vals xs us->Vals (xs.drop n) (us.drop n)
 | _,_,0,r=>r
 | _,_,_+1,.nil=>.nil
 | _,_,n+1,.cons _ t=>Vals.drop n t
def pV:Option V->Option Value->Prop
 | some v,some u=>RelV v u
 | none,none=>True
 | _,_=>False
def KV {κ:Type}:List (κ×V)->List (κ×Value)->Prop:=Paired fun(p:κ×V) (q:κ×Value)=>p.1=q.1/\RelV p.2 q.2
noncomputable def kV:Key->V
 | .inl i=>.int i
 | .inr x=>.str x
inductive FD where
 | int (i:Int)
 | eX (kds:List (Key×Int))
 | lst (ns:List Int)
 | tup (K:W.Frag) (ns:List Int)
 | obj (C:Addr) (fs:List (Str×FD))
noncomputable abbrev km:=List (Addr×(Nat->List (Key×FD)))
set_option genInjectivity true in
inductive HO where
   | lst (xs:List V)
   | tup (xs:List V)
   | dK (kvs:List (Key×V)) | dT (kvs:List (List Key×V))
   | set (S:Int->Bool) (n:Nat)
   | ins (C dx:Addr) (fs:List (Str×V))
   | own (x:Addr)
   | xd (fs:List (Str×V))
   | met (f x:Addr)
   | XE (lo hi:Int)
   | bG (o:Obj) (u:HO)
   | PN (ps:Array Value)
   | ext (φ:Heap->Prop)
   | memo (ls:km)
 | bJ (ls:km) (ns:List Nat)
   | part (p:Addr)
   | kd (tg:Option (Addr×Nat)) (o:Obj) (kvs:List (Key×V))
   | kx (o:Obj) (u:HO)
noncomputable abbrev Hp:=Addr->Option HO
noncomputable def upd (H:Hp)(a:Addr)(o:HO):Hp:=fun b=>if b=a then some o else H b
theorem ak {H:Hp}{a:Addr}{o:HO}:upd H a o a=some o:=by unfold upd;rw[if_pos rfl]
theorem aj {H:Hp}{a b:Addr}{o:HO}(h:b≠a):upd H a o b=H b:=by unfold upd;rw[if_neg h]
theorem uC {H:Hp}{a:Addr}{o u:HO}:upd (upd H a o) a u=upd H a u:=by
 funext b;unfold upd;split <;> rfl
theorem TZ {H:Hp}{a b:Addr}{o u:HO}(h:H a=some o)(h':H b=some u)(d:o≠u):a≠b:=by
 intro e;subst e;rw[h] at h';exact d (Option.some.inj h')
theorem av {H:Hp}{a b:Addr}{o:HO}(h:H a=some o)(h':H b=none):a≠b:=by
 intro e;subst e;rw[h] at h';cases h'
def me:Option HO->Prop
 | some (.memo _)=>True
 | some (.bJ _ _)=>True
 | some (.part _)=>True
 | _=>False
def Kept:HO->Prop
 | .kd _ _ _=>True
 | .kx _ _=>True
 | .tup _=>True
 | _=>False
def TupAt (K:W.Frag)(H:Hp)(a:Addr)(xs:List V):Prop:=
 H a=some (.tup xs) \/
   ∃ (o:Obj) (aG:Array Value) (n:Nat),K.lookup a=some o/\o.cls=.type "tuple"/\o.data=.seq aG n/\aG.size<=sizeLine/\Vals xs aG.toList
mutual
inductive Fz (H:Hp):V->FD->Prop
 | int (i:Int):Fz H (.int i) (.int i)
 | eX {a:Addr} {tg:Option (Addr×Nat)} {o:Obj} {kds:List (Key×Int)}:H a=some (.kd tg o (kds.map fun kd=>(kd.1,V.int kd.2)))->Fz H (.ref a) (.eX kds)
 | lst {a:Addr} {o:Obj} {ns:List Int}:H a=some (.kx o (.lst (ns.map V.int)))->Fz H (.ref a) (.lst ns)
 | tup {a:Addr} {K:W.Frag} {ns:List Int}:TupAt K H a (ns.map V.int)->Fz H (.ref a) (.tup K ns)
 | obj {a C dx:Addr} {o:Obj} {fv:List (Str×V)} {fs:List (Str×FD)}:H a=some (.kx o (.ins C dx fv))->Hx H fv fs->Fz H (.ref a) (.obj C fs)
inductive Hx (H:Hp):List (Str×V)->List (Str×FD)->Prop
 | nil:Hx H [] []
 | cons {k:Str} {v:V} {d:FD} {vs:List (Str×V)} {ds:List (Str×FD)}:Fz H v d->Hx H vs ds->Hx H ((k,v)::vs) ((k,d)::ds)
end
inductive rX (H:Hp):List (Key×V)->List (Key×FD)->Prop
 | nil:rX H [] []
 | cons {k:Key} {v:V} {d:FD} {kvs:List (Key×V)} {kds:List (Key×FD)}:Fz H v d->rX H kvs kds->rX H ((k,v)::kvs) ((k,d)::kds)
def PQ (H:Hp)(p:Addr)(i:Nat)(aG:List Value)(fd:List (Key×FD)):Prop:=∃ q o kvs,aG[i]?=some (.ref q)/\H q=some (.kd (some (p,i)) o kvs)/\rX H kvs fd
def DX (H:Hp)(h:Heap)(p:Addr)(f:Nat->List (Key×FD))(n:Nat):Prop:=∃ aG c,h.get? p=some { cls:=.type "list",data:=.seq (aG:List Value).toArray c}/\aG.length=n/\∀ i,i < n->PQ H p i aG (f i)
def vn (H:Hp)(h:Heap)(a:Addr)(ls:km)(ns:List Nat):Prop:=(∃ f,ls[0]?=some (a,f))/\ls.length=ns.length/\(∀ (j:Nat) (p:Addr) (f:Nat->List (Key×FD)),ls[j]?=some (p,f)->(p=a\/H p=some (.part a)))/\(ls.map (·.1)).Nodup/\(∀ n∈ns,n<=10000)/\∀ (j:Nat) (p:Addr) (f:Nat->List (Key×FD)) (n:Nat),ls[j]?=some (p,f)->ns[j]?=some n->DX H h p f n
section
variable (P:Program)(w:World)
def aP (H:Hp)(h:Heap)(a:Addr):HO->Prop
 | .lst xs=>xs.length<=sizeLine/\∃ (aG:List Value) (n:Nat),Vals xs aG/\h.get? a=some { cls:=.type "list",data:=.seq aG.toArray n}
 | .tup xs=>xs.length<=sizeLine/\∃ aG:List Value,Vals xs aG/\IsTup h a aG.toArray
 | .dK kvs=>kvs.length<=sizeLine/\(a == sysModules)=false/\∃ vs,KV kvs vs/\h.DictOf (cR P w) a vs
 | .dT kvs=>kvs.length<=sizeLine/\(a == sysModules)=false/\∃ xs:List (List Key×Addr×Value),
     Paired (fun(p:List Key×V) (q:List Key×Addr×Value)=>p.1=q.1/\H q.2.1=some (.tup (p.1.map kV))/\RelV p.2 q.2.2) kvs xs /\
     ∃ o es ep,h.get? a=some o/\o.ExactDict/\o.data=.dict es ep/\es.toList=xs.map (entryOfKey (tupleKind (cR P w)))/\(xs.map (·.1)).Nodup
 | .set S n=>h.SetOf (intKind P w) a S n
 | .ins C dx fs=>H dx=some (.own a)/\fs.length<=1000/\dx≠a/\h.get? a=some (W.instObj C dx) /\
     ∃ mA,h.Ns1 dx mA/\(∀ f,pV (fs.lookup f) (mA f))/\PySem.Within mA (fs.map (·.1))
 | .own _=>∃ o,h.get? a=some o
 | .xd fs=>∃ mA,h.Ns1 a mA/\∀ f,pV (fs.lookup f) (mA f)
 | .XE lo hi=>∃ t u v,h.get? a=some { cls:=.type "range",data:=.fields #[.int lo t,.int hi u,.int 1 v]}
 | .bG o u=>h.get? a=some o/\aP H h a u
 | .PN ps=>h.get? a=some { cls:=.none,data:=.fields ps}
 | .met f x=>h.get? a=some (W.methodObj (.ref f) (.ref x))
 | .ext φ=>φ h/\(∃ o,h.get? a=some o)/\∀ h1 h2:Heap,φ h1->(∀ o,h1.get? a=some o->h2.get? a=some o)->φ h2
 | .memo ls=>(∃ o,h.get? a=some o)/\∃ n,0 < n/\vn H h a ls (aan ls.length n)
 | .bJ ls ns=>(∃ o,h.get? a=some o)/\vn H h a ls ns
 | .part _=>∃ o,h.get? a=some o
 | .kd tg o kvs=>h.get? a=some o/\(kvs.length<=sizeLine/\(a == sysModules)=false/\∃ vs,KV kvs vs/\h.DictOf (cR P w) a vs) /\
     ∀ p i,tg=some (p,i)->me (H p)/\∃ aG c,h.get? p=some { cls:=.type "list",data:=.seq (aG:List Value).toArray c}/\aG[i]?=some (.ref a)
 | .kx o u=>h.get? a=some o/\aP H h a u
def qN (H:Hp)(h:Heap):Prop:=∀ a o,H a=some o->aP P w H h a o
end
section
variable {P:Program}{w:World}{H H':Hp}{h h':Heap}{a:Addr}{o:HO}
theorem aP.lt (x:aP P w H h a o):a < h.objs.size:=by
 cases o with
 | lst xs=>obtain⟨_,_,_,_,e⟩:=x;exact aap e
 | tup xs=>obtain⟨_,_,_,p⟩:=x;exact p.lt
 | dK kvs=>obtain⟨_,_,_,_,o,_,_,e,_⟩:=x;exact aap e
 | dT kvs=>obtain⟨_,_,_,_,o,_,_,e,_⟩:=x;exact aap e
 | set S n=>obtain⟨o,_,_,_,e,_⟩:=x;exact aap e
 | ins C dx fs=>obtain⟨_,_,_,e,_⟩:=x;exact aap e
 | own y=>obtain⟨_,e⟩:=x;exact aap e
 | xd fs=>obtain⟨_,⟨_,_,_,e,_⟩,_⟩:=x;exact aap e
 | XE lo hi=>obtain⟨_,_,_,e⟩:=x;exact aap e
 | bG ob u=>obtain⟨e,_⟩:=x;exact aap e
 | PN ps=>exact aap (show h.get? a=some _ from x)
 | met f y=>exact aap (show h.get? a=some _ from x)
 | ext φ=>obtain⟨_,⟨_,e⟩,_⟩:=x;exact aap e
 | memo ls=>obtain⟨⟨_,e⟩,_⟩:=x;exact aap e
 | bJ ls ns=>obtain⟨⟨_,e⟩,_⟩:=x;exact aap e
 | part y=>obtain⟨_,e⟩:=x;exact aap e
 | kd tg ob kvs=>exact aap x.1
 | kx ob u=>exact aap x.1
theorem Paired.PR {α β:Type}{F G:α->β->Prop}:∀ {l₁:List α} {l₂:List β},Paired F l₁ l₂->(∀ a b,F a b->G a b)->Paired G l₁ l₂
 | _,_,.nil,_=>.nil
 | _,_,.cons r t,f=>.cons (f _ _ r) (Paired.PR t f)
structure Kp (H H':Hp):Prop where
 st:∀ b u,H b=some u->Kept u->H' b=some u
 mem:∀ b,me (H b)->me (H' b)
 part:∀ b x,H b=some (.part x)->H' b=some (.part x)
theorem Kp.kd (kp:Kp H H')(b:Addr)(tg:Option (Addr×Nat))(o:Obj)(kvs:List (Key×V))(e:H b=some (.kd tg o kvs)):H' b=some (.kd tg o kvs):=kp.st b _ e trivial
theorem Kp.refl:Kp H H:=⟨fun _ _ e _=>e,fun _ e=>e,fun _ _ e=>e⟩
theorem Kp.of (s:∀ b u,H b=some u->H' b=some u):Kp H H':=⟨fun _ _ e _=>s _ _ e,fun b e=>by
 cases q:H b with
 | none=>rw[q] at e;exact e.elim
 | some u=>rw[s b u q,<- q];exact e,fun _ _ e=>s _ _ e⟩
theorem TupAt.kp {K:W.Frag}{xs:List V}(k:∀ b u,H b=some u->Kept u->H' b=some u)(h:TupAt K H a xs):TupAt K H' a xs:=h.imp (fun e=>k _ _ e trivial) id
mutual
theorem Fz.st (k:∀ b u,H b=some u->Kept u->H' b=some u):∀ {v:V} {d:FD},Fz H v d->Fz H' v d
 | _,_,.int i=>.int i
 | _,_,.eX e=>.eX (k _ _ e trivial)
 | _,_,.lst e=>.lst (k _ _ e trivial)
 | _,_,.tup e=>.tup (e.kp k)
 | _,_,.obj e f=>.obj (k _ _ e trivial) (Hx.st k f)
theorem Hx.st (k:∀ b u,H b=some u->Kept u->H' b=some u):∀ {v:List (Str×V)} {d:List (Str×FD)},Hx H v d->Hx H' v d
 | _,_,.nil=>.nil
 | _,_,.cons h t=>.cons (Fz.st k h) (Hx.st k t)
end
theorem Fz.kp (kp:Kp H H'){v:V}{d:FD}(h:Fz H v d):Fz H' v d:=h.st kp.st
theorem rX.kp (kp:Kp H H'):∀ {kvs:List (Key×V)} {kds:List (Key×FD)},rX H kvs kds->rX H' kvs kds
 | _,_,.nil=>.nil
 | _,_,.cons h t=>.cons (h.kp kp) (rX.kp kp t)
theorem DX.kp {p:Addr}{f:Nat->List (Key×FD)}{n:Nat}(kp:Kp H H')(x:DX H h p f n)(k:∀ u,h.get? p=some u->h'.get? p=some u):DX H' h' p f n:=by
 obtain⟨aG,c,e,hl,hi⟩:=x
 exact⟨aG,c,k _ e,hl,fun i hn=>let ⟨q,o,kvs,h1,h2,h3⟩:=hi i hn;⟨q,o,kvs,h1,kp.kd _ _ _ _ h2,h3.kp kp⟩⟩
theorem vn.kp {ls:km}{ns:List Nat}(kp:Kp H H')(x:vn H h a ls ns)(k:∀ b u,b=a\/H b=some (.part a)->h.get? b=some u->h'.get? b=some u):vn H' h' a ls ns:=by
 obtain⟨h1,h2,h3,h4,h5,h6⟩:=x
 exact⟨h1,h2,fun j p f e=>(h3 j p f e).imp id fun z=>kp.part _ _ z,h4,h5,fun j p f n e1 e2=>(h6 j p f n e1 e2).kp kp fun u e=>k p u (h3 j p f e1) e⟩
def T1 (h:Heap)(p:Addr)(i:Nat)(c:Addr):Prop:=∃ aG n,h.get? p=some { cls:=.type "list",data:=.seq (aG:List Value).toArray n}/\aG[i]?=some (.ref c)
theorem aP.Ou (x:aP P w H h a o)(k:∀ b u,(b=a\/H b=some (.own a)\/H b=some (.part a))->h.get? b=some u->h'.get? b=some u)(ho:∀ b,H b=some (.own a)->H' b=some (.own a))(ht:∀ b xs,H b=some (.tup xs)->H' b=some (.tup xs))(kp:Kp H H')(hl:∀ p i c,me (H p)->T1 h p i c->T1 h' p i c):aP P w H' h' a o:=by
 induction o with
 | lst xs=>obtain⟨z,aG,n,r,e⟩:=x;exact⟨z,aG,n,r,k _ _ (.inl rfl) e⟩
 | tup xs=>obtain⟨z,aG,r,ob,e,c⟩:=x;exact⟨z,aG,r,ob,k _ _ (.inl rfl) e,c⟩
 | dK kvs=>obtain⟨z,y,vs,r,ob,es,ep,e,c⟩:=x;exact⟨z,y,vs,r,ob,es,ep,k _ _ (.inl rfl) e,c⟩
 | dT kvs=>
   obtain⟨z,y,xs,r,ob,es,ep,e,c⟩:=x
   exact⟨z,y,xs,Paired.PR r fun p q z=>⟨z.1,ht _ _ z.2.1,z.2.2⟩,ob,es,ep,k _ _ (.inl rfl) e,c⟩
 | set S n=>obtain⟨ob,es,ep,t,e,c⟩:=x;exact⟨ob,es,ep,t,k _ _ (.inl rfl) e,c⟩
 | ins C dx fs=>
   obtain⟨d,z,ne,e,mA,⟨od,es,ep,e2,c⟩,r⟩:=x
   exact⟨ho _ d,z,ne,k _ _ (.inl rfl) e,mA,⟨od,es,ep,k _ _ (.inr (.inl d)) e2,c⟩,r⟩
 | own y=>obtain⟨ob,e⟩:=x;exact⟨ob,k _ _ (.inl rfl) e⟩
 | xd fs=>obtain⟨mA,⟨od,es,ep,e,c⟩,r⟩:=x;exact⟨mA,⟨od,es,ep,k _ _ (.inl rfl) e,c⟩,r⟩
 | XE lo hi=>obtain⟨t,u,v,e⟩:=x;exact⟨t,u,v,k _ _ (.inl rfl) e⟩
 | bG ob u ih=>obtain⟨e,q⟩:=x;exact⟨k _ _ (.inl rfl) e,ih q⟩
 | PN ps=>
   have e:h.get? a=some { cls:=.none,data:=.fields ps}:=x
   show h'.get? a=some { cls:=.none,data:=.fields ps}
   exact k a _ (.inl rfl) e
 | met f y=>
   have e:h.get? a=some (W.methodObj (.ref f) (.ref y)):=x
   show h'.get? a=some (W.methodObj (.ref f) (.ref y))
   exact k a _ (.inl rfl) e
 | ext φ=>obtain⟨p,⟨o,e⟩,st⟩:=x;exact⟨st _ _ p fun o q=>k _ _ (.inl rfl) q,⟨o,k _ _ (.inl rfl) e⟩,st⟩
 | memo ls=>
   obtain⟨⟨o,e⟩,n,hn,q⟩:=x
   refine⟨⟨o,k _ _ (.inl rfl) e⟩,n,hn,q.kp kp fun b u hb=>k b u ?_⟩
   rcases hb with z | z
   . exact .inl z
   . exact .inr (.inr z)
 | bJ ls ns=>
   obtain⟨⟨o,e⟩,q⟩:=x
   refine⟨⟨o,k _ _ (.inl rfl) e⟩,q.kp kp fun b u hb=>k b u ?_⟩
   rcases hb with z | z
   . exact .inl z
   . exact .inr (.inr z)
 | part y=>obtain⟨o,e⟩:=x;exact⟨o,k _ _ (.inl rfl) e⟩
 | kd tg ob kvs=>
   obtain⟨e,⟨z,y,vs,r,ob',es,ep,e',c⟩,q⟩:=x
   refine⟨k _ _ (.inl rfl) e,⟨z,y,vs,r,ob',es,ep,k _ _ (.inl rfl) e',c⟩,fun p i ht=>?_⟩
   obtain⟨q1,q2⟩:=q p i ht
   exact⟨kp.mem _ q1,hl p i _ q1 q2⟩
 | kx ob u ih=>obtain⟨e,q⟩:=x;exact⟨k _ _ (.inl rfl) e,ih q⟩
theorem aP.yR (x:aP P w H h a o)(k:∀ b u,(b=a\/H b=some (.own a)\/me (H b))->h.get? b=some u->h'.get? b=some u)(ho:∀ b,H b=some (.own a)->H' b=some (.own a))(ht:∀ b xs,H b=some (.tup xs)->H' b=some (.tup xs))(kp:Kp H H'):aP P w H' h' a o:=
 x.Ou (fun b u hb=>k b u (by
   rcases hb with z | z | z
   . exact .inl z
   . exact .inr (.inl z)
   . exact .inr (.inr (by rw[z];trivial)))) ho ht kp fun p i c hm ⟨aG,n,e,q⟩=>⟨aG,n,k p _ (.inr (.inr hm)) e,q⟩
theorem qN.lt (x:qN P w H h)(e:H a=some o):a < h.objs.size:=(x a o e).lt
theorem qN.fresh (x:qN P w H h)(e:h.objs.size<=a):H a=none:=by
 cases q:H a with
 | none=>rfl
 | some u=>exact absurd (aaq (x.lt q) e) (aa8 _)
theorem qN.kept (x:qN P w H h)(k:∀ b u,h.get? b=some u->h'.get? b=some u):qN P w H h':=fun a o e=>
 (x a o e).yR (fun b u _ q=>k b u q) (fun _ q=>q) (fun _ _ q=>q) .refl
theorem qN.laid (x:qN P w H h)(k:∀ b u,h.get? b=some u->h'.get? b=some u)(hp:h.objs.size<=a)(new:aP P w (upd H a o) h' a o):qN P w (upd H a o) h':=fun b u e=>by
 have hn:=x.fresh hp
 by_cases hb:b=a
 . subst hb;rw[ak] at e;cases e;exact new
 . rw[aj hb] at e
   exact(x b u e).yR (fun c v _ q=>k c v q) (fun c q=>by rw[aj (av q hn)];exact q) (fun c xs q=>by rw[aj (av q hn)];exact q) (.of fun c u q=>by rw[aj (av q hn)];exact q)
end
def Rd (H:Hp)(a:Addr)(u:HO):Prop:=H a=some u\/(∃ o,H a=some (.bG o u))\/(∃ tg o kvs,H a=some (.kd tg o kvs)/\u=.dK kvs)\/∃ o,H a=some (.kx o u)
theorem Rd.of {H:Hp}{a:Addr}{u:HO}(h:H a=some u):Rd H a u:=.inl h
theorem Rd.ok {P:Program}{w:World}{H:Hp}{h:Heap}{a:Addr}{u:HO}(r:Rd H a u)(x:qN P w H h):aP P w H h a u:=by
 rcases r with r | ⟨o,r⟩ | ⟨tg,o,kvs,r,rfl⟩ | ⟨o,r⟩
 . exact x a u r
 . obtain⟨_,q⟩:=x a _ r
   exact q
 . obtain⟨_,q,_⟩:=x a _ r
   exact q
 . obtain⟨_,q⟩:=x a _ r
   exact q
def Tt:Option HO->Prop
 | some (.lst _)=>True
 | some (.dK _)=>True
 | some (.dT _)=>True
 | some (.set _ _)=>True
 | some (.ins _ _ _)=>True
 | some (.ext _)=>True
 | _=>False
section
variable {P:Program}{w:World}{H:Hp}{h h':Heap}{x e:Addr}{o':HO}
theorem qN.write (ok:qN P w H h)(mu:Tt (H x))(he:e=x\/H e=some (.own x))(k:∀ b u,b≠e->h.get? b=some u->h'.get? b=some u)(Tu:∃ u,h'.get? e=some u)(new:aP P w (upd H x o') h' x o'):qN P w (upd H x o') h':=fun b u q=>by
 have yS:∀ c y,H c=some (.own y)->c≠x:=fun c y r z=>by subst z;rw[r] at mu;exact mu
 have XG:∀ c xs,H c=some (.tup xs)->c≠x:=fun c xs r z=>by subst z;rw[r] at mu;exact mu
 by_cases hb:b=x
 . subst hb;rw[ak] at q;cases q;exact new
 . rw[aj hb] at q
   by_cases t5:b=e
   . have q':H b=some (.own x):=by
       rcases he with z | z
       . exact absurd (t5.trans z) hb
       . rw[t5];exact z
     rw[q] at q';cases q'
     obtain⟨v,hv⟩:=Tu
     exact⟨v,by rw[t5];exact hv⟩
   . have nkd:∀ c u,H c=some u->¬ Tt (some u)->c≠x:=fun c u r nm z=>by subst z;rw[r] at mu;exact nm mu
     have nmm:∀ c,me (H c)->c≠x:=fun c r z=>by
       subst z
       cases qq:H c with
       | none=>rw[qq] at r;exact r
       | some u=>rw[qq] at r mu;cases u <;> first | exact mu | exact r
     refine(ok b u q).yR (fun c v hc r=>k c v ?_ r) (fun c r=>by rw[aj (yS c b r)];exact r) (fun c xs r=>by rw[aj (XG c xs r)];exact r) ⟨fun c u r kq=>by rw[aj (nkd c _ r (by cases u <;> first | exact(show False from kq).elim | exact fun z=>z))];exact r,fun c r=>by rw[aj (nmm c r)];exact r,fun c y r=>by rw[aj (nkd c _ r fun z=>z)];exact r⟩
     rcases hc with rfl | hc | hc
     . exact t5
     . rintro rfl
       rcases he with z | z
       . exact yS c b hc z
       . rw[hc] at z;cases z;exact hb rfl
     . rintro rfl
       rcases he with z | z
       . exact nmm c hc z
       . rw[z] at hc;exact hc
end
structure Un (fs ex:List Addr)(H H':Hp)(h h':Heap):Prop where
 keep:∀ b o,h.get? b=some o->H b=none->b ∉ fs->b ∉ ex->h'.get? b=some o
 slot:∀ b o,h.get? b=some o->H b=none->b∈fs->b ∉ ex->∃ sl,h'.get? b=some { o with slots:=sl}
 free:∀ b o,h.get? b=some o->H b=none->b ∉ ex->H' b=none
 there:∀ b o,h.get? b=some o->b ∉ ex->∃ o',h'.get? b=some o'
 AN:∀ b xs,H b=some (.tup xs)->H' b=some (.tup xs)
 yT:∀ b o u,H b=some (.bG o u)->H' b=some (.bG o u)
 AO:∀ b ps,H b=some (.PN ps)->∃ more,H' b=some (.PN (ps ++ more))
section
variable {fs ex:List Addr}{H H1:Hp}{h h1 h':Heap}{a x e:Addr}{o:HO}
theorem Un.any (u:Un fs ex H H1 h h1){b:Addr}{ob:Obj}(q:h.get? b=some ob)(n:H b=none)(hx:b ∉ ex):∃ sl,h1.get? b=some { ob with slots:=sl}:=by
 by_cases hb:b∈fs
 . exact u.slot b ob q n hb hx
 . exact⟨ob.slots,u.keep b ob q n hb hx⟩
theorem Un.kept (k:∀ b u,h.get? b=some u->h'.get? b=some u):Un fs ex H H h h':=
 ⟨fun b ob q _ _ _=>k b ob q,fun b ob q _ _ _=>⟨ob.slots,k b ob q⟩,fun _ _ _ n _=>n,fun b ob q _=>⟨ob,k b ob q⟩,fun _ _ q=>q,fun _ _ _ q=>q,fun _ ps q=>⟨#[],by rw[q];simp⟩⟩
theorem Un.refl:Un fs ex H H h h:=Un.kept fun _ _ q=>q
theorem Un.laid (k:∀ b u,h.get? b=some u->h'.get? b=some u)(hp:h.objs.size<=a)(hn:H a=none):Un fs ex H (upd H a o) h h' where
 keep:=fun b u q _ _ _=>k b u q
 slot:=fun b u q _ _ _=>⟨u.slots,k b u q⟩
 free:=fun b u q n _=>by rw[aj (aaw (aaq (aap q) hp))];exact n
 there:=fun b u q _=>⟨u,k b u q⟩
 AN:=fun b xs q=>by rw[aj (av q hn)];exact q
 yT:=fun b u xs q=>by rw[aj (av q hn)];exact q
 AO:=fun b ps q=>⟨#[],by rw[aj (av q hn),q];simp⟩
theorem Un.write (mu:Tt (H x))(he:e=x\/H e=some (.own x))(k:∀ b u,b≠e->h.get? b=some u->h'.get? b=some u)(Tu:∃ u,h'.get? e=some u):Un fs ex H (upd H x o) h h':=by
 have hx:∀ b,H b=none->b≠x:=fun b n z=>by subst z;rw[n] at mu;exact mu
 have hb:∀ b,H b=none->b≠e:=fun b n z=>by
   subst z
   rcases he with r | r
   . exact hx b n r
   . rw[n] at r;cases r
 have hm:∀ b u,H b=some u->¬ Tt (some u)->b≠x:=fun b u q nm z=>by subst z;rw[q] at mu;exact nm mu
 refine⟨fun b u q n _ _=>k b u (hb b n) q,fun b u q n _ _=>⟨u.slots,k b u (hb b n) q⟩,fun b u q n _=>by rw[aj (hx b n)];exact n,fun b u q _=>?_,
   fun b xs q=>by rw[aj (hm b _ q fun z=>z)];exact q,fun b u xs q=>by rw[aj (hm b _ q fun z=>z)];exact q,fun b ps q=>⟨#[],by rw[aj (hm b _ q fun z=>z),q];simp⟩⟩
 by_cases t5:b=e
 . subst t5;exact Tu
 . exact⟨u,k b u t5 q⟩
end
noncomputable def b6 (h:Heap)(H:Hp):List Addr:=(aam h.objs.size).filter fun a=>(H a).isSome
noncomputable def yU (h:Heap)(H:Hp):Heap:=PySem.W.hideAll h (b6 h H)
theorem FW (h:Heap)(H:Hp):(yU h H).objs.size=h.objs.size:=W.hideAll_size _ _
theorem Hy {h:Heap}{H:Hp}{b:Addr}{o:Obj}(e:h.get? b=some o)(n:H b=none):(yU h H).get? b=some o:=
 W.hideAll_get _ e fun hm=>by
   have q:(H b).isSome=true:=(List.mem_filter.mp hm).2
   rw[n] at q;simp at q
theorem LP {h:Heap}{H:Hp}{b:Addr}{o:Obj}(e:(yU h H).get? b=some o):h.get? b=some o/\H b=none:=by
 have e':h.get? b=some o:=W.of_hideAll (b6 h H) e
 refine⟨e',?_⟩
 cases q:H b with
 | none=>rfl
 | some x=>
   have hm:b∈b6 h H:=List.mem_filter.mpr ⟨abr.mpr (aap e'),by simp[q]⟩
   have z:(yU h H).get? b=none:=W.hideAll_none (b6 h H) hm
   rw[z] at e;cases e
noncomputable def LQ (g h:Heap)(L:Addr):List (Addr×Obj):=(aam h.objs.size).filterMap fun a=>if a=L\/(g.get? a).isSome=true then none else (h.get? a).map fun o=>(a,o)
noncomputable def rest (g h:Heap)(L d:Addr):List (Addr×Obj):=(LQ g h L).filter fun p=>decide (p.1≠d)
structure Mod (K:W.Frag)(mg:Str->Option Value)(base:Heap):Prop where
 T2:K.In base
 glob:base.Ns mainGlobals mg
 blt:∃ mb,base.Ns builtinsNs mb/\∀ x:Str,x≠"__name__"->mb x=bootBuiltins x
 nolimit:base.NoLimit
structure Cx where
 prog:Program
 w:World
 K:W.Frag
 mg:Str->Option Value
 base:Heap
 A:Around
 N:List Str
 s₀:Shared
 H₀:Hp
 env:Env
 outer:List Env
 stack:List Env
 ex:List Addr
 fn:Str->Bool
 calm:Bool
 pn:List (Addr×Obj)
 xe:Value->Shared->Prop
noncomputable def Hz (l:List Env):List Addr:=l.filterMap (·.frame)
noncomputable abbrev Cx.fs (X:Cx):List Addr:=Hz X.outer
def vo (sc:Scope)(x:Str):Prop:=sc.names.lookup x=some .local\/sc.names.lookup x=some .cell\/sc.names.lookup x=some .free
def Loc (sc:Scope)(x:Str):Prop:=sc.names.lookup x=some .local\/sc.names.lookup x=some .cell
def Look (env:Env)(h:Heap)(m:Str->Option Value)(x:Str)(u:Value):Prop:=
 (env.kindOf x=some .local/\m x=some u)\/((env.kindOf x=some .cell\/env.kindOf x=some .free)/\∃ c,env.cells.lookup x=some c/\h.IsCell c (some u))
structure Cx.Ok (X:Cx):Prop where
 mod:Mod X.K X.mg X.base
 kind:X.env.scope.kind=.function
 glob:X.env.globals=mainGlobals
 blt:X.env.builtins=builtinsNs
 above:X.s₀.heap.objs.size<=X.env.locals
 inj:∀ x y c,X.env.cells.lookup x=some c->X.env.cells.lookup y=some c->x=y
 has:∀ x,(X.env.kindOf x=some .cell\/X.env.kindOf x=some .free)->∃ c,X.env.cells.lookup x=some c
 Tv:∀ x c,X.fn x=true->X.env.cells.lookup x=some c->X.s₀.heap.objs.size<=c
 hd:X.calm=true->X.A.handled=none
 frames:X.A.frames=some X.stack
 T3:X.stack=X.outer\/(X.stack=X.env::X.outer/\X.env.frame=some X.env.locals)
 LR:∀ b∈X.ex,b≠X.env.locals/\∀ x c,X.env.cells.lookup x=some c->c≠b
 bs:∀ b o,X.base.get? b=some o->X.s₀.heap.get? b=some o/\X.H₀ b=none
 DY:X.base.objs.size<=X.s₀.heap.objs.size
 AQ:∀ b o,X.base.get? b=some o->b ∉ X.ex
 AR:∀ b∈X.ex,b ∉ X.fs
 rY:X.s₀.heap.FunFrames X.base X.outer
 Ov:∀ b∈X.fs,X.H₀ b=none
structure Inv (X:Cx)(pins:List (Addr×Obj))(σ:List (Option V))(H:Hp)(s:Shared):Prop where
 ok:X.Ok
 os:s.os=X.s₀.os
 bare:AllBare s.gens
 base:Un X.fs X.ex X.H₀ H X.s₀.heap s.heap
 loc:∃ m,s.heap.Ns X.env.locals m/\∀ (i:Nat) (x:Str) (v:V),X.N[i]?=some x->σ[i]?=some (some v)->vo X.env.scope x->∃ u,RelV v u/\Look X.env s.heap m x u
 cell:∀ x c,X.env.cells.lookup x=some c->∃ v,s.heap.IsCell c v
 free:H X.env.locals=none
 p8:∀ x c,X.env.cells.lookup x=some c->H c=none
 pin:∀ p∈X.pn ++ pins,s.heap.get? p.1=some p.2/\H p.1=none/\p.1≠X.env.locals/\p.1 ∉ X.fs/\∀ v,p.2.data≠.cell v
 bu:qN X.prog X.w H s.heap
 len:σ.length=X.N.length
section
variable {X:Cx}{pins:List (Addr×Obj)}{σ:List (Option V)}{H H':Hp}{s:Shared}{h':Heap}
theorem Cx.Ok.PU (ok:X.Ok){b:Addr}{o:Obj}(e:X.base.get? b=some o):b ∉ X.fs:=fun hb=>by
 have:=(ok.rY.mem hb).1
 rw[e] at this;cases this
theorem Inv.bs (I:Inv X pins σ H s):∀ b o,X.base.get? b=some o->s.heap.get? b=some o/\H b=none:=fun b o e=>
 ⟨I.base.keep b o (I.ok.bs b o e).1 (I.ok.bs b o e).2 (I.ok.PU e) (I.ok.AQ b o e),I.base.free b o (I.ok.bs b o e).1 (I.ok.bs b o e).2 (I.ok.AQ b o e)⟩
theorem Inv.bk (I:Inv X pins σ H s):∀ b o,X.base.get? b=some o->s.heap.get? b=some o:=fun b o e=>(I.bs b o e).1
theorem Inv.mod (I:Inv X pins σ H s):Mod X.K X.mg X.base:=I.ok.mod
theorem Inv.mX (I:Inv X pins σ H s):X.K.In s.heap:=I.ok.mod.T2.keeps I.bk
theorem Inv.lt (I:Inv X pins σ H s):X.env.locals < s.heap.objs.size:=let ⟨_,hn,_⟩:=I.loc;hn.lt
theorem Inv.sz (I:Inv X pins σ H s):X.s₀.heap.objs.size<=s.heap.objs.size:=aaA I.ok.above (aa7 I.lt)
theorem Inv.XH (I:Inv X pins σ H s){a:Addr}(h:s.heap.objs.size<=a):a ∉ X.fs:=fun hb=>by
 obtain⟨_,o,ho,_⟩:=I.ok.rY.mem hb
 exact absurd (aaq (aap ho) (aaA I.sz h)) (aa8 _)
theorem Inv.Cv (I:Inv X pins σ H s):∀ x c,X.env.cells.lookup x=some c->c≠X.env.locals:=fun x c e z=>by
 obtain⟨v,o,ho,hd⟩:=I.cell x c e
 obtain⟨m,⟨o',es,ep,CD,Tw,_⟩,_⟩:=I.loc
 rw[z,CD] at ho;cases ho;rw[Tw] at hd;cases hd
theorem Inv.rY (I:Inv X pins σ H s):s.heap.FunFrames X.base X.outer:=by
 have all:∀ (l:List Env),(∀ b∈Hz l,b∈X.fs)->X.s₀.heap.FunFrames X.base l->s.heap.FunFrames X.base l:=by
   intro l
   induction l with
   | nil=>intro _ _;trivial
   | cons env r ih=>
     intro hs hl
     obtain⟨hk,⟨L,o,hf,hn,ho,hd⟩,hr⟩:=hl
     have hL:L∈X.fs:=hs L (by unfold Hz;rw[abU,hf];exact aa1)
     obtain⟨sl,e⟩:=I.base.slot L o ho (I.ok.Ov L hL) hL fun z=>I.ok.AR L z hL
     exact⟨hk,⟨L,_,hf,hn,e,hd⟩,ih (fun b hb=>hs b (by unfold Hz;rw[abU,hf];exact aaJ _ hb)) hr⟩
 exact all X.outer (fun _ hb=>hb) I.ok.rY
theorem Inv.stack (I:Inv X pins σ H s):s.heap.FunFrames X.base X.stack:=by
 rcases I.ok.T3 with e | ⟨e,hf⟩
 . rw[e];exact I.rY
 . rw[e]
   obtain⟨m,hn,_⟩:=I.loc
   refine .cons (by rw[I.ok.kind];decide) hf hn ?_ I.rY
   exact Heap.get?_none_of_le (aaA I.ok.DY I.ok.above)
theorem Inv.vp (I:Inv X pins σ H s):∀ b∈Hz X.stack,b∈X.env.locals::X.fs:=fun b hb=>by
 rcases I.ok.T3 with e | ⟨e,hf⟩
 . rw[e] at hb;exact aaJ _ hb
 . rw[e] at hb
   unfold Hz at hb
   rw[abU,hf] at hb
   exact hb
theorem Inv.uD (I:Inv X pins σ H s):∀ b∈Hz X.stack,H b=none:=fun b hb=>by
 rcases aaH.mp (I.vp b hb) with e | hb
 . rw[e];exact I.free
 . obtain⟨_,o,ho,_⟩:=I.ok.rY.mem hb
   exact I.base.free b o ho (I.ok.Ov b hb) fun z=>I.ok.AR b z hb
theorem Inv.step {g':Array GenState}{t':Nat}{d':Drawn}{ch:List Addr}(I:Inv X pins σ H s)(AH:∀ b∈ch,(b∈X.ex\/X.s₀.heap.objs.size<=b)/\b≠X.env.locals/\(∀ x c,X.env.cells.lookup x=some c->c≠b)/\∀ p∈X.pn ++ pins,p.1≠b)(keep:∀ b o,b≠X.env.locals->b ∉ X.fs->b ∉ ch->s.heap.get? b=some o->H b=none->h'.get? b=some o)(slot:∀ b o,b≠X.env.locals->b∈X.fs->b ∉ ch->s.heap.get? b=some o->H b=none->∃ sl,h'.get? b=some { o with slots:=sl})(free:∀ b o,b ∉ ch->s.heap.get? b=some o->H b=none->H' b=none)(there:∀ b o,b ∉ ch->s.heap.get? b=some o->∃ o',h'.get? b=some o')(AN:∀ b xs,H b=some (.tup xs)->H' b=some (.tup xs))(yT:∀ b o u,H b=some (.bG o u)->H' b=some (.bG o u))(AO:∀ b ps,H b=some (.PN ps)->∃ more,H' b=some (.PN (ps ++ more)))(ns:∀ m,s.heap.Ns X.env.locals m->h'.Ns X.env.locals m)(bu:qN X.prog X.w H' h')(hg:AllBare g'):Inv X pins σ H' { s with heap:=h',gens:=g',drawn:=d',toks:=t'}:=by
 have neL:∀ b o,X.s₀.heap.get? b=some o->b≠X.env.locals:=fun b o e=>aaw (aaq (aap e) I.ok.above)
 have WW:∀ b o,X.s₀.heap.get? b=some o->b ∉ X.ex->b ∉ ch:=fun b o e hx hb=>by
   rcases (AH b hb).1 with z | z
   . exact hx z
   . exact absurd (aaq (aap e) z) (aa8 _)
 have cellK:∀ x c,X.env.cells.lookup x=some c->∀ v,s.heap.IsCell c v->h'.IsCell c v:=fun x c e v ⟨o,ho,hd⟩=>by
   have T4:c ∉ ch:=fun z=>(AH c z).2.2.1 x c e rfl
   by_cases hc:c∈X.fs
   . obtain⟨sl,q⟩:=slot c o (I.Cv x c e) hc T4 ho (I.p8 x c e)
     exact⟨_,q,hd⟩
   . exact⟨o,keep c o (I.Cv x c e) hc T4 ho (I.p8 x c e),hd⟩
 refine⟨I.ok,I.os,hg,⟨fun b o e n hb hx=>?_,fun b o e n hb hx=>?_,fun b o e n hx=>?_,fun b o e hx=>?_,fun b xs e=>AN b xs (I.base.AN b xs e),fun b o xs e=>yT b o xs (I.base.yT b o xs e),fun b ps e=>?_⟩,?_,fun x c e=>?_,?_,fun x c e=>?_,fun p hp=>?_,bu,I.len⟩
 . exact keep b o (neL b o e) hb (WW b o e hx) (I.base.keep b o e n hb hx) (I.base.free b o e n hx)
 . obtain⟨sl,e1⟩:=I.base.slot b o e n hb hx
   obtain⟨sl',e2⟩:=slot b _ (neL b o e) hb (WW b o e hx) e1 (I.base.free b o e n hx)
   exact⟨sl',e2⟩
 . obtain⟨o',e1⟩:=I.base.there b o e hx
   exact free b o' (WW b o e hx) e1 (I.base.free b o e n hx)
 . obtain⟨o',e1⟩:=I.base.there b o e hx
   exact there b o' (WW b o e hx) e1
 . obtain⟨m1,e1⟩:=I.base.AO b ps e
   obtain⟨m2,e2⟩:=AO b _ e1
   exact⟨m1 ++ m2,by rw[e2,Array.append_assoc]⟩
 . obtain⟨m,hn,hl⟩:=I.loc
   refine⟨m,ns m hn,fun i x v e1 e2 e3=>?_⟩
   obtain⟨u,r,l⟩:=hl i x v e1 e2 e3
   refine⟨u,r,?_⟩
   rcases l with l | ⟨k,c,e,z⟩
   . exact .inl l
   . exact .inr ⟨k,c,e,cellK x c e _ z⟩
 . obtain⟨v,z⟩:=I.cell x c e
   exact⟨v,cellK x c e v z⟩
 . obtain⟨m,⟨o,_,_,ho,_⟩,_⟩:=I.loc
   exact free _ o (fun z=>(AH _ z).2.1 rfl) ho I.free
 . obtain⟨v,o,ho,hd⟩:=I.cell x c e
   exact free c o (fun z=>(AH c z).2.2.1 x c e rfl) ho (I.p8 x c e)
 . obtain⟨e,n,ne,nf,d⟩:=I.pin p hp
   have T4:p.1 ∉ ch:=fun z=>(AH p.1 z).2.2.2 p hp rfl
   exact⟨keep p.1 p.2 ne nf T4 e n,free p.1 p.2 T4 e n,ne,nf,d⟩
theorem Inv.un {t':Nat}(I:Inv X pins σ H s)(u:Un X.fs [] H H' s.heap h')(bu:qN X.prog X.w H' h'):Inv X pins σ H' { s with heap:=h',toks:=t'}:=by
 obtain⟨m,⟨o,es,ep,ho,r⟩,_⟩:=id I.loc
 obtain⟨sl,hL⟩:=u.any ho I.free (by simp)
 exact I.step (g':=s.gens) (d':=s.drawn) (ch:=[]) (fun _ z=>nomatch z) (fun b o _ hb _ e n=>u.keep b o e n hb (by simp)) (fun b o _ hb _ e n=>u.slot b o e n hb (by simp)) (fun b o _ e n=>u.free b o e n (by simp)) (fun b o _ e=>u.there b o e (by simp)) u.AN u.yT u.AO (fun m' hm=>by
   obtain⟨o',LU,XI,CD,r'⟩:=hm
   rw[ho] at CD;cases CD
   exact⟨_,LU,XI,hL,r'⟩) bu I.bare
theorem Inv.call {g':Array GenState}{t':Nat}{d':Drawn}{ch:List Addr}(I:Inv X pins σ H s)(u:Un (Hz X.stack) ch H H' s.heap h')(bu:qN X.prog X.w H' h')(hg:AllBare g')(AH:∀ b∈ch,(b∈X.ex\/X.s₀.heap.objs.size<=b)/\b≠X.env.locals/\(∀ x c,X.env.cells.lookup x=some c->c≠b)/\∀ p∈X.pn ++ pins,p.1≠b):Inv X pins σ H' { s with heap:=h',gens:=g',drawn:=d',toks:=t'}:=by
 obtain⟨m,⟨o,es,ep,ho,r⟩,_⟩:=id I.loc
 obtain⟨sl,hL⟩:=u.any ho I.free fun z=>(AH _ z).2.1 rfl
 exact I.step (ch:=ch) AH (fun b o hL hb hc e n=>u.keep b o e n (fun z=>(aaH.mp (I.vp b z)).elim hL hb) hc) (fun b o _ _ hc e n=>u.any e n hc) (fun b o hc e n=>u.free b o e n hc) (fun b o hc e=>u.there b o e hc) u.AN u.yT u.AO (fun m' hm=>by
   obtain⟨o',LU,XI,CD,r'⟩:=hm
   rw[ho] at CD;cases CD
   exact⟨_,LU,XI,hL,r'⟩) bu hg
theorem Inv.turned {t':Nat}{it:Addr}(I:Inv X pins σ H s)(k:∀ b o,b≠it->s.heap.get? b=some o->h'.get? b=some o)(hn:H it=none)(hL:it≠X.env.locals)(h1:it∈X.ex\/X.s₀.heap.objs.size<=it)(h2:∀ x c,X.env.cells.lookup x=some c->c≠it)(h3:∀ p∈X.pn ++ pins,p.1≠it):Inv X pins σ H { s with heap:=h',toks:=t'}:=by
 have T5:∀ b u,H b=some u->b≠it:=fun b u e z=>by rw[z,hn] at e;cases e
 refine I.step (g':=s.gens) (d':=s.drawn) (ch:=[it]) (fun b hb=>?_) (fun b o _ _ hc e _=>k b o (fun z=>hc (by simp[z])) e) (fun b o _ _ hc e _=>⟨o.slots,k b o (fun z=>hc (by simp[z])) e⟩) (fun _ _ _ _ n=>n)
   (fun b o hc e=>⟨o,k b o (fun z=>hc (by simp[z])) e⟩) (fun _ _ e=>e) (fun _ _ _ e=>e) (fun b ps e=>⟨#[],by rw[e];simp⟩) (fun m hm=>?_) (fun b u e=>?_) I.bare
 . have e:b=it:=by simpa using hb
   subst e
   exact⟨h1,hL,h2,h3⟩
 . obtain⟨o,es,ep,ho,r⟩:=hm
   exact⟨o,es,ep,k _ o (Ne.symm hL) ho,r⟩
 . refine(I.bu b u e).yR (fun c v hc q=>k c v ?_ q) (fun _ q=>q) (fun _ _ q=>q) .refl
   rcases hc with z | z | z
   . rw[z];exact T5 b u e
   . exact T5 c _ z
   . exact fun z'=>by rw[z',hn] at z;exact z
theorem Inv.tok (I:Inv X pins σ H s)(t:Nat):Inv X pins σ H { s with toks:=t}:=I.un (h':=s.heap) (t':=t) Un.refl I.bu
theorem Inv.kept {t':Nat}(I:Inv X pins σ H s)(k:∀ b u,s.heap.get? b=some u->h'.get? b=some u):Inv X pins σ H { s with heap:=h',toks:=t'}:=I.un (Un.kept k) (I.bu.kept k)
theorem Inv.laid {a:Addr}{o:HO}{t':Nat}(I:Inv X pins σ H s)(k:∀ b u,s.heap.get? b=some u->h'.get? b=some u)(hp:s.heap.objs.size<=a)(new:aP X.prog X.w (upd H a o) h' a o):Inv X pins σ (upd H a o) { s with heap:=h',toks:=t'}:=I.un (Un.laid k hp (I.bu.fresh hp)) (I.bu.laid k hp new)
theorem Inv.write {x e:Addr}{o:HO}{t':Nat}(I:Inv X pins σ H s)(mu:Tt (H x))(he:e=x\/H e=some (.own x))(k:∀ b u,b≠e->s.heap.get? b=some u->h'.get? b=some u)(Tu:∃ u,h'.get? e=some u)(new:aP X.prog X.w (upd H x o) h' x o):Inv X pins σ (upd H x o) { s with heap:=h',toks:=t'}:=I.un (Un.write mu he k Tu) (I.bu.write mu he k Tu new)
theorem Inv.DZ {HA:List (Addr×Obj)}(I:Inv X pins σ H s)(h:∀ p∈HA,s.heap.get? p.1=some p.2/\H p.1=none/\p.1≠X.env.locals/\p.1 ∉ X.fs/\∀ v,p.2.data≠.cell v):Inv X HA σ H s:=
 ⟨I.ok,I.os,I.bare,I.base,I.loc,I.cell,I.free,I.p8,fun p hp=>(abe.mp hp).elim (fun z=>I.pin p (List.mem_append_left _ z)) (h p),I.bu,I.len⟩
theorem AS {N:List Str}(hN:N.Nodup){i j:Nat}{x:Str}(a:N[i]?=some x)(b:N[j]?=some x):i=j:=by
 obtain⟨h1,e1⟩:=aaj.mp a
 obtain⟨h2,e2⟩:=aaj.mp b
 exact(List.getElem_inj hN).mp (e1.trans e2.symm)
theorem o3 {M:Model}{A:Around}{E:Value->Shared->Prop}{i:Nat}{x:Str}{v:V}{u:Value}{Q:Unit->Shared->Prop}(I:Inv X pins σ H s)(hN:X.N.Nodup)(hi:X.N[i]?=some x)(hx:Loc X.env.scope x)(r:RelV v u)(h:∀ s',Inv X pins (σ.set i (some v)) H s'->(∃ a,abt a s.heap s'.heap/\(a=X.env.locals\/X.env.cells.lookup x=some a))->Q () s')(hf:X.fn x=true\/X.env.scope.names.lookup x=some .local:=by first | exact .inl rfl | exact .inr rfl | assumption):wpAny M A (storeName X.env x u) Q E s:=by
 obtain⟨m,hn,hl⟩:=id I.loc
 have XJ:(X.env.scope.kind == .class || (X.env.scope.kind == .module && X.env.locals != X.env.globals))=false:=by rw[I.ok.kind];rfl
 have hiσ:i < σ.length:=by rw[I.len];exact(aaj.mp hi).1
 have Cv:=I.Cv
 have tracked:∀ {a:Addr} {h':Heap},(∃ o,s.heap.get? a=some o/\H a=none)->abt a s.heap h'->qN X.prog X.w H h':=fun {a h'} ha hs b ob e=>by
   obtain⟨_,_,HB⟩:=ha
   refine(I.bu b ob e).yR (fun c w' hc q=>(hs.2 c ?_).trans q) (fun _ q=>q) (fun _ _ q=>q) .refl
   rintro rfl
   rcases hc with rfl | hc | hc
   . rw[HB] at e;cases e
   . rw[HB] at hc;cases hc
   . rw[HB] at hc;exact hc
 rcases hx with hk | hk
 . refine wpAny_storeName_local hk hn (fun h' Ow hs=>?_) XJ
   obtain⟨oL,_,_,hoL,_⟩:=id hn
   refine h _ ⟨I.ok,I.os,I.bare,⟨fun b o e n hb hx=>?_,fun b o e n hb hx=>?_,I.base.free,fun b o e hx=>?_,I.base.AN,I.base.yT,I.base.AO⟩,⟨_,Ow,fun j y v' e1 e2 e3=>?_⟩,fun y c e=>?_,I.free,I.p8,fun p hp=>?_,tracked ⟨oL,hoL,I.free⟩ hs,by simpa using I.len⟩ ⟨_,hs,.inl rfl⟩
   . exact(hs.2 b (aaw (aaq (aap e) I.ok.above))).trans (I.base.keep b o e n hb hx)
   . obtain⟨sl,e1⟩:=I.base.slot b o e n hb hx
     exact⟨sl,(hs.2 b (aaw (aaq (aap e) I.ok.above))).trans e1⟩
   . obtain⟨o',e1⟩:=I.base.there b o e hx
     exact⟨o',(hs.2 b (aaw (aaq (aap e) I.ok.above))).trans e1⟩
   . by_cases hj:j=i
     . subst hj
       rw[hi] at e1;cases e1
       rw[aak hiσ] at e2
       cases e2
       exact⟨u,r,.inl ⟨hk,by simp⟩⟩
     . rw[aal (Ne.symm hj)] at e2
       obtain⟨u',r',q⟩:=hl j y v' e1 e2 e3
       refine⟨u',r',?_⟩
       rcases q with⟨k,e⟩ | ⟨k,c,e,z⟩
       . refine .inl ⟨k,?_⟩
         have:y≠x:=fun e=>hj (AS hN e1 (e ▸ hi))
         simp[this,e]
       . exact .inr ⟨k,c,e,z.sameBut hs (Cv y c e)⟩
   . obtain⟨w',z⟩:=I.cell y c e
     exact⟨w',z.sameBut hs (Cv y c e)⟩
   . obtain⟨e,n,ne,nf,d⟩:=I.pin p hp
     exact⟨(hs.2 p.1 ne).trans e,n,ne,nf,d⟩
 . have XM:X.fn x=true:=by
     rcases hf with z | z
     . exact z
     . rw[z] at hk;cases hk
   obtain⟨c,hc⟩:=I.ok.has x (.inl hk)
   obtain⟨w',z⟩:=I.cell x c hc
   refine wpAny_storeName_cell I.ok.kind hk hc z (fun h' Cw hs=>?_)
   obtain⟨oc,D1,XO⟩:=id z
   refine h { s with heap:=h'} ⟨I.ok,I.os,I.bare,⟨fun b o e n hb hx=>?_,fun b o e n hb hx=>?_,I.base.free,fun b o e hx=>?_,I.base.AN,I.base.yT,I.base.AO⟩,⟨m,hn.sameBut hs (Ne.symm (Cv x c hc)),fun j y v' e1 e2 e3=>?_⟩,fun y c' e=>?_,I.free,I.p8,fun p hp=>?_,tracked ⟨oc,D1,I.p8 x c hc⟩ hs,by simpa using I.len⟩ ⟨c,hs,.inr hc⟩
   . exact(hs.2 b (aaw (aaq (aap e) (I.ok.Tv x c XM hc)))).trans (I.base.keep b o e n hb hx)
   . obtain⟨sl,e1⟩:=I.base.slot b o e n hb hx
     exact⟨sl,(hs.2 b (aaw (aaq (aap e) (I.ok.Tv x c XM hc)))).trans e1⟩
   . obtain⟨o',e1⟩:=I.base.there b o e hx
     exact⟨o',(hs.2 b (aaw (aaq (aap e) (I.ok.Tv x c XM hc)))).trans e1⟩
   . by_cases hj:j=i
     . subst hj
       rw[hi] at e1;cases e1
       rw[aak hiσ] at e2
       cases e2
       exact⟨u,r,.inr ⟨.inl hk,c,hc,Cw⟩⟩
     . rw[aal (Ne.symm hj)] at e2
       obtain⟨u',r',q⟩:=hl j y v' e1 e2 e3
       refine⟨u',r',?_⟩
       rcases q with q | ⟨k,c',e,z'⟩
       . exact .inl q
       . refine .inr ⟨k,c',e,z'.sameBut hs ?_⟩
         rintro rfl
         exact hj (AS hN e1 (I.ok.inj _ _ _ e hc ▸ hi))
   . by_cases T6:c'=c
     . subst T6;exact⟨_,Cw⟩
     . obtain⟨w2,z2⟩:=I.cell y c' e
       exact⟨w2,z2.sameBut hs T6⟩
   . obtain⟨e,n,ne,nf,d⟩:=I.pin p hp
     refine⟨(hs.2 p.1 ?_).trans e,n,ne,nf,d⟩
     intro q
     rw[q,D1] at e
     have q':oc=p.2:=Option.some.inj e
     exact d w' (by rw[<- q'];exact XO)
theorem qQ {M:Model}{A:Around}{E:Value->Shared->Prop}{i:Nat}{x:Str}{v:V}{u:Value}{Q:Unit->Shared->Prop}(I:Inv X pins σ H s)(hN:X.N.Nodup)(hi:X.N[i]?=some x)(hx:Loc X.env.scope x)(r:RelV v u)(h:∀ s',Inv X pins (σ.set i (some v)) H s'->Q () s')(hf:X.fn x=true\/X.env.scope.names.lookup x=some .local:=by first | exact .inl rfl | exact .inr rfl | assumption):wpAny M A (storeName X.env x u) Q E s:=
 o3 I hN hi hx r (fun s' I' _=>h s' I') hf
theorem Inv.HC {s':Shared}{ch:List Addr}(I:Inv X pins σ H s)(ho:s'.os=s.os)(u:Un (Hz X.stack) ch H H' s.heap s'.heap)(bu:qN X.prog X.w H' s'.heap)(hg:AllBare s'.gens)(AH:∀ b∈ch,(b∈X.ex\/X.s₀.heap.objs.size<=b)/\b≠X.env.locals/\(∀ x c,X.env.cells.lookup x=some c->c≠b)/\∀ p∈X.pn ++ pins,p.1≠b):Inv X pins σ H' s':=by
 obtain⟨h',g',d',t',o'⟩:=s'
 have e:o'=s.os:=ho
 subst e
 exact I.call (g':=g') (t':=t') (d':=d') u bu hg AH
end
abbrev XK:=Value->Option Addr->Hp->Prop
noncomputable abbrev St:=List (Option V)
abbrev VK:=V->Hp->Prop
abbrev TE:=St->Hp->VK->Prop
abbrev TT:=St->Hp->(Bool->Hp->Prop)->Prop
abbrev TA:=St->Hp->(List V->Hp->Prop)->Prop
structure Ends where
 nx:St->Hp->Prop
 rt:VK
 bk:St->Hp->Prop:=fun _ _=>False
 ct:St->Hp->Prop:=fun _ _=>False
abbrev TS:=Ends->St->Hp->Prop
def EP (X:Cx)(pins:List (Addr×Obj))(σ:St)(Q:VK)(u:Value)(s':Shared):Prop:=∃ v H',Inv X pins σ H' s'/\RelV v u/\Q v H'
def TP (X:Cx)(pins:List (Addr×Obj))(σ:St)(Q:Bool->Hp->Prop)(b:Bool)(s':Shared):Prop:=∃ H',Inv X pins σ H' s'/\Q b H'
def AP (X:Cx)(pins:List (Addr×Obj))(σ:St)(Q:List V->Hp->Prop)(us:List Value)(s':Shared):Prop:=∃ vs H',Inv X pins σ H' s'/\Vals vs us/\Q vs H'
def SP (X:Cx)(pins:List (Addr×Obj))(D:Ends)(f:Flow)(s':Shared):Prop:=
 match f with
 | .next=>∃ σ' H',Inv X pins σ' H' s'/\D.nx σ' H'
 | .brk=>∃ σ' H',Inv X pins σ' H' s'/\D.bk σ' H'
 | .cont=>∃ σ' H',Inv X pins σ' H' s'/\D.ct σ' H'
 | .ret u=>∃ v σ' H',Inv X pins σ' H' s'/\RelV v u/\D.rt v H'
def PE (X:Cx)(e:Expr)(t:TE):Prop:=
 ∀ (pins:List (Addr×Obj)) (s:Shared) (σ:St) (H:Hp) (Q:VK),Inv X pins σ H s->t σ H Q->wpAny (model X.prog X.w) X.A (eval e X.env) (EP X pins σ Q) X.xe s
def PT (X:Cx)(e:Expr)(t:TT):Prop:=
 ∀ (pins:List (Addr×Obj)) (s:Shared) (σ:St) (H:Hp) (Q:Bool->Hp->Prop),Inv X pins σ H s->t σ H Q->wpAny (model X.prog X.w) X.A (isTrue e X.env (eval e X.env)) (TP X pins σ Q) X.xe s
def PW (X:Cx)(e:Expr)(t:TT):Prop:=
 ∀ (whole:Sem Value) (pins:List (Addr×Obj)) (s:Shared) (σ:St) (H:Hp) (Q:Bool->Hp->Prop),Inv X pins σ H s->t σ H Q->wpAny (model X.prog X.w) X.A (isTrue e X.env whole) (TP X pins σ Q) X.xe s
theorem PW.pt {X:Cx}{e:Expr}{t:TT}(h:PW X e t):PT X e t:=h _
def PA (X:Cx)(es:List Expr)(t:TA):Prop:=
 ∀ (pos:Pos) (pins:List (Addr×Obj)) (s:Shared) (σ:St) (H:Hp) (Q:List V->Hp->Prop),Inv X pins σ H s->t σ H Q->wpAny (model X.prog X.w) X.A (spliced (backTo pos (starEach es X.env))) (AP X pins σ Q) X.xe s
def PS (X:Cx)(st:Stmt)(t:TS):Prop:=
 ∀ (pins:List (Addr×Obj)) (s:Shared) (σ:St) (H:Hp) (D:Ends),Inv X pins σ H s->t D σ H->wpAny (model X.prog X.w) X.A (exec st X.env) (SP X pins D) X.xe s
def CF (X:Cx)(st:List Stmt)(t:TS):Prop:=
 ∀ (pins:List (Addr×Obj)) (s:Shared) (σ:St) (H:Hp) (D:Ends),Inv X pins σ H s->t D σ H->wpAny (model X.prog X.w) X.A (execs st X.env) (SP X pins D) X.xe s
theorem bW {α:Type}{t:Sem α}{Q Q':α->Shared->Prop}{M:Model}{A:Around}{E:Value->Shared->Prop}{s:Shared}(h:wpAny M A t Q E s)(hQ:∀ a s,Q a s->Q' a s):wpAny M A t Q' E s:=wpAny_mono h hQ fun _ _ x=>x
section
variable {X:Cx}
def XQ (i:Nat):TE:=fun σ H Q=>∃ v,σ[i]?=some (some v)/\Q v H
def tC (v:V):TE:=fun _ H Q=>Q v H
theorem jC {i:Nat}{x:Str}{pos:Pos}(hN:X.N[i]?=some x)(hv:vo X.env.scope x)(hd:(x == ("__debug__":Str))=false:=by decide)(mz:(x == ("__classdict__":Str))=false:=by decide):PE X (.Name x pos) (XQ i):=by
 intro pins s σ H Q I h
 obtain⟨v,e,h⟩:=h
 obtain⟨m,hn,hl⟩:=I.loc
 obtain⟨u,r,l⟩:=hl i x v hN e hv
 have fin:EP X pins σ Q u s:=⟨v,H,I,r,h⟩
 rcases l with⟨hk,hm⟩ | ⟨hk,c,hc,Ox⟩
 . exact wpAny_Name (wpAny_loadName_local I.ok.kind hk hn hm fin) hd
 . rcases hk with hk | hk
   . exact wpAny_Name (wpAny_loadName_cell I.ok.kind hk hc Ox fin) hd
   . exact wpAny_Name (wpAny_loadName_free I.ok.kind hk hc Ox fin mz) hd
theorem PV {i j pos}:PE X (.Constant (.int i) j pos) (tC (.int i)):=fun _ _ _ H _ I h=>wpAny_Constant_int ⟨.int i,H,I.tok _,⟨_,rfl⟩,h⟩
theorem T7 {b j pos}:PE X (.Constant (.bool b) j pos) (tC (.bl b)):=fun _ _ _ H _ I h=>Constant_bool ⟨.bl b,H,I,rfl,h⟩
theorem PX {x j pos}:PE X (.Constant (.str x) j pos) (tC (.str x)):=fun _ _ _ H _ I h=>Calls.Constant_str ⟨.str x,H,I.tok _,⟨_,rfl⟩,h⟩
def Gl (X:Cx)(x:Str):Prop:=X.env.kindOf x=some .globalImplicit
theorem uE {E:Value->Shared->Prop}{pins:List (Addr×Obj)}{s:Shared}{σ:St}{H:Hp}{x:Str}{u:Value}{pos:Pos}{Q:Value->Shared->Prop}(I:Inv X pins σ H s)(hg:Gl X x)(hm:X.mg x=some u)(h:Q u s)(hd:(x == ("__debug__":Str))=false:=by decide):wpAny (model X.prog X.w) X.A (eval (.Name x pos) X.env) Q E s:=
 Calls.Name_function_global I.ok.kind hg (Calls.loadGlobal_global (by rw[I.ok.glob];exact I.mod.glob.keeps I.bk) hm h) hd
theorem oj {E:Value->Shared->Prop}{pins:List (Addr×Obj)}{s:Shared}{σ:St}{H:Hp}{x:Str}{u:Value}{pos:Pos}{Q:Value->Shared->Prop}(I:Inv X pins σ H s)(hg:Gl X x)(hm:X.mg x=none)(hv:bootBuiltins x=some u)(h:Q u s)(hn:x≠"__name__":=by decide)(hd:(x == ("__debug__":Str))=false:=by decide):wpAny (model X.prog X.w) X.A (eval (.Name x pos) X.env) Q E s:=by
 obtain⟨mb,h1,h2⟩:=I.mod.blt
 exact Calls.Name_function_global I.ok.kind hg (Calls.loadGlobal_builtin (by rw[I.ok.glob];exact I.mod.glob.keeps I.bk) hm (by rw[I.ok.blt];exact h1.keeps I.bk) ((h2 x hn).trans hv) h) hd
theorem LV {x:Str}{v:V}{u:Value}{pos:Pos}(hg:Gl X x)(hm:X.mg x=some u)(r:RelV v u)(hd:(x == ("__debug__":Str))=false:=by decide):PE X (.Name x pos) (tC v):=
 fun _ _ _ H _ I h=>uE I hg hm ⟨v,H,I,r,h⟩ hd
theorem LW {x:Str}{v:V}{u:Value}{pos:Pos}(hg:Gl X x)(hm:X.mg x=none)(hv:bootBuiltins x=some u)(r:RelV v u)(hn:x≠"__name__":=by decide)(hd:(x == ("__debug__":Str))=false:=by decide):PE X (.Name x pos) (tC v):=
 fun _ _ _ H _ I h=>oj I hg hm hv ⟨v,H,I,r,h⟩ hn hd
variable {a b:Expr}{ta tb:TE}{pos:Pos}
def PC (X:Cx)(op:CmpOp)(a b:Expr)(t:TE):Prop:=
 ∀ (pins:List (Addr×Obj)) (s:Shared) (σ:St) (H:Hp) (Q:VK),Inv X pins σ H s->t σ H Q ->
   wpAny (model X.prog X.w) X.A (eval a X.env) (fun v s₁=>wpAny (model X.prog X.w) X.A (eval b X.env) (fun u s₂=>wpAny (model X.prog X.w) X.A (compareOp op v u) (EP X pins σ Q) X.xe s₂) X.xe s₁) X.xe s
def tB (t:TE):TT:=fun σ H Q=>t σ H fun x H1=>∃ c,x=.bl c/\Q c H1
theorem PY {op:CmpOp}{t:TE}(h:PC X op a b t)(h1:behindInMarks op b=false:=by first | exact T8 _ (by decide) (by decide) | rfl):PT X (.Compare a [op] [b] pos) (tB t):=by
 intro pins s σ H Q I hw
 refine wpAny_isTrue_Compare1 (bW (h pins s σ H _ I hw) fun v s1 h1=>bW h1 fun u s2 h2=>bW h2 fun c s3 ⟨x,H1,I1,r1,q1⟩=>?_) h1
 obtain⟨d,rfl,q⟩:=q1
 cases r1
 exact wpAny_truthy_bool ⟨H1,I1,q⟩
theorem PZ {e:Expr}{t:TE}(h:PE X e t)(he:∀ whole,isTrue e X.env whole=(do let v <- whole;standAt e.pos;holding [v] (truthy v)):=by intro _;rfl):PT X e (tB t):=by
 intro pins s σ H Q I hw
 refine isTrue_plain (bW (h pins s σ H _ I hw) fun v s1 ⟨x,H1,I1,r1,q1⟩=>?_) (he _)
 obtain⟨d,rfl,q⟩:=q1
 cases r1
 exact wpAny_truthy_bool ⟨H1,I1,q⟩
variable {tA WX:TT}{rest:List Expr}
def XR (t u:TT):TT:=fun σ H Q=>t σ H fun c H1=>if c=true then u σ H1 Q else Q false H1
def tOr (t u:TT):TT:=fun σ H Q=>t σ H fun c H1=>if c=true then Q true H1 else u σ H1 Q
def XS (t:TT):TT:=fun σ H Q=>t σ H fun c H1=>Q (!c) H1
theorem pw_and1 (ha:PT X a tA):PW X (.BoolOp .And [a] pos) tA:=by
 intro wh pins s σ H Q I h
 refine isTrue_and (bW (ha pins s σ H Q I h) fun c s1 e=>?_)
 cases c with
 | true=>exact isTrue_and_nil e
 | false=>exact e
theorem pw_or1 (ha:PT X a tA):PW X (.BoolOp .Or [a] pos) tA:=by
 intro wh pins s σ H Q I h
 refine isTrue_or (bW (ha pins s σ H Q I h) fun c s1 e=>?_)
 cases c with
 | false=>exact isTrue_or_nil e
 | true=>exact e
theorem pw_and (ha:PT X a tA)(hb:PW X (.BoolOp .And (b::rest) pos) WX):PW X (.BoolOp .And (a::b::rest) pos) (XR tA WX):=by
 intro wh pins s σ H Q I h
 refine isTrue_and (bW (ha pins s σ H _ I h) fun c s1 ⟨H1,I1,q1⟩=>?_)
 cases c with
 | true=>exact hb wh pins s1 σ H1 Q I1 q1
 | false=>exact⟨H1,I1,q1⟩
theorem pw_or (ha:PT X a tA)(hb:PW X (.BoolOp .Or (b::rest) pos) WX):PW X (.BoolOp .Or (a::b::rest) pos) (tOr tA WX):=by
 intro wh pins s σ H Q I h
 refine isTrue_or (bW (ha pins s σ H _ I h) fun c s1 ⟨H1,I1,q1⟩=>?_)
 cases c with
 | true=>exact⟨H1,I1,q1⟩
 | false=>exact hb wh pins s1 σ H1 Q I1 q1
theorem P0 (ha:PT X a tA):PT X (.UnaryOp .Not a pos) (XS tA):=by
 intro pins s σ H Q I h
 exact isTrue_not (ha pins s σ H (fun c H1=>Q (!c) H1) I h)
def T9 (ta tb:TE):TE:=fun σ H Q=>ta σ H fun x H1=>∃ c,x=.bl c/\if c=true then tb σ H1 Q else Q (.bl false) H1
def Ua (ta:TE):TE:=fun σ H Q=>ta σ H fun x H1=>∃ c,x=.bl c/\Q (.bl (!c)) H1
theorem P1 {op}{t:TE}(h:PE X a t):PE X (.BoolOp op [a] pos) t:=fun pins s σ H Q I hw=>BoolOp_one (h pins s σ H Q I hw)
theorem HD (ha:PE X a ta)(hb:PE X (.BoolOp .And (b::rest) pos) tb):PE X (.BoolOp .And (a::b::rest) pos) (T9 ta tb):=by
 intro pins s σ H Q I h
 refine BoolOp_and (bW (ha pins s σ H _ I h) fun v s1 ⟨x,H1,I1,r1,q1⟩=>?_)
 obtain⟨c,rfl,q1⟩:=q1
 cases r1
 refine wpAny_truthy_bool ?_
 cases c with
 | true=>exact hb pins s1 σ H1 Q I1 q1
 | false=>exact⟨.bl false,H1,I1,rfl,q1⟩
theorem P2 (ha:PE X a ta):PE X (.UnaryOp .Not a pos) (Ua ta):=by
 intro pins s σ H Q I h
 refine UnaryOp_ (bW (ha pins s σ H _ I h) fun v s1 ⟨x,H1,I1,r1,q1⟩=>?_)
 obtain⟨c,rfl,q1⟩:=q1
 cases r1
 exact not_of (wpAny_truthy_bool ⟨.bl (!c),H1,I1,rfl,q1⟩)
def tIf (t:TT)(ta tb:TE):TE:=fun σ H Q=>t σ H fun c H1=>if c=true then ta σ H1 Q else tb σ H1 Q
theorem AU {c:Expr}(hc:PT X c tA)(ha:PE X a ta)(hb:PE X b tb):PE X (.IfExp c a b pos) (tIf tA ta tb):=by
 intro pins s σ H Q I h
 refine wpAny_IfExp (bW (hc pins s σ H _ I h) fun d s1 ⟨H1,I1,q1⟩=>?_)
 cases d with
 | true=>exact ha pins s1 σ H1 Q I1 q1
 | false=>exact hb pins s1 σ H1 Q I1 q1
end
def mY (K:PySem.W.Frag)(H:Hp)(a:Addr)(xs:List V):Prop:=
 Rd H a (.lst xs) \/
   ∃ (o:Obj) (aG:Array Value) (n:Nat),K.lookup a=some o/\o.cls=.type "list"/\o.dict=none/\o.data=.seq aG n/\aG.size<=sizeLine/\Vals xs aG.toList
abbrev Cy (K:PySem.W.Frag)(H:Hp)(a:Addr)(xs:List V):Prop:=TupAt K H a xs
noncomputable def XT:Value->Option V
 | .none=>some .cS
 | .bool b=>some (.bl b)
 | .int i _=>some (.int i)
 | .str x _=>some (.str x)
 | .bytes b _=>some (.Hk b)
 | .float b _=>some (.PM b)
 | .ref a=>some (.ref a)
 | .type n=>some (.ty n)
 | _=>none
theorem RelV.abs {x:V}{u:Value}(r:RelV x u):XT u=some x:=by
 cases x with
 | cS=>cases r;rfl
 | bl _=>cases r;rfl
 | int _=>obtain⟨t,rfl⟩:=r;rfl
 | str _=>obtain⟨t,rfl⟩:=r;rfl
 | Hk _=>obtain⟨t,rfl⟩:=r;rfl
 | PM _=>obtain⟨t,rfl⟩:=r;rfl
 | ref _=>cases r;rfl
 | ty _=>cases r;rfl
theorem RelV.inj {x y:V}{u:Value}(r:RelV x u)(q:RelV y u):x=y:=Option.some.inj (r.abs.symm.trans q.abs)
theorem Vals.inj:∀ {xs ys:List V} {us:List Value},Vals xs us->Vals ys us->xs=ys
 | _,_,_,.nil,.nil=>rfl
 | _,_,_,.cons r t,.cons r' t'=>by rw[r.inj r',Vals.inj t t']
section
variable {X:Cx}{pins:List (Addr×Obj)}{σ:St}{H:Hp}{s:Shared}{a:Addr}{xs ys:List V}
theorem mY.of {K:W.Frag}(h:H a=some (.lst xs)):mY K H a xs:=.inl (.inl h)
theorem Cy.of {K:W.Frag}(h:H a=some (.tup xs)):Cy K H a xs:=.inl h
theorem Inv.list (I:Inv X pins σ H s)(h:mY X.K H a xs):∃ aG:List Value,Vals xs aG/\PlainL s.heap a aG.toArray/\xs.length<=sizeLine:=by
 rcases h with h | ⟨o,aG,n,hk,hc,hd,hs,hz,r⟩
 . obtain⟨z,aG,n,r,e⟩:=h.ok I.bu
   exact⟨aG,r,⟨_,n,e,rfl,rfl,rfl⟩,z⟩
 . refine⟨aG.toList,r,⟨o,n,I.mX a o hk,hc,hd,by simpa using hs⟩,?_⟩
   have e:=r.length
   simp only[abq] at e
   omega
theorem Inv.tuple (I:Inv X pins σ H s)(h:Cy X.K H a xs):∃ aG:List Value,Vals xs aG/\IsTup s.heap a aG.toArray/\xs.length<=sizeLine:=by
 rcases h with h | ⟨o,aG,n,hk,hc,hs,hz,r⟩
 . obtain⟨z,aG,r,p⟩:=(show aP X.prog X.w H s.heap a (.tup xs) from I.bu a _ h)
   exact⟨aG,r,p,z⟩
 . refine⟨aG.toList,r,⟨o,I.mX a o hk,hc,n,by simpa using hs⟩,?_⟩
   have e:=r.length
   simp only[abq] at e
   omega
theorem Inv.AV (I:Inv X pins σ H s)(h:mY X.K H a xs)(h':mY X.K H a ys):xs=ys:=by
 obtain⟨aG,r,⟨o,n,e,_,_,d⟩,_⟩:=I.list h
 obtain⟨its',r',⟨o',n',e',_,_,d'⟩,_⟩:=I.list h'
 rw[e] at e';cases e'
 rw[d] at d'
 injection d' with d1 _
 have:aG=its':=by simpa using congrArg Array.toList d1
 subst this
 exact r.inj r'
end
section
variable {X:Cx}{st:Stmt}{rest:List Stmt}{t u:TS}{e:Expr}{te:TE}{pos:Pos}
def Ub:TS:=fun D σ H=>D.nx σ H
def XU (t u:TS):TS:=fun D σ H=>t { D with nx:=u D} σ H
theorem LX:CF X [] Ub:=fun _ _ σ H _ I h=>wpAny_execs_nil ⟨σ,H,I,h⟩
theorem om (h1:PS X st t)(h2:CF X rest u):CF X (st::rest) (XU t u):=by
 intro pins s σ H D I h
 refine wpAny_execs_cons (bW (h1 pins s σ H { D with nx:=u D} I h) fun f s1 q=>?_)
 cases f with
 | next=>
   obtain⟨σ',H',I',q⟩:=q
   exact h2 pins s1 σ' H' D I' q
 | ret v=>exact q
 | brk=>exact q
 | cont=>exact q
theorem mZ (h1:PS X st t):CF X [st] t:=by
 intro pins s σ H D I h
 refine wpAny_execs_cons (bW (h1 pins s σ H D I h) fun f s1 q=>?_)
 cases f with
 | next=>exact wpAny_execs_nil q
 | ret v=>exact q
 | brk=>exact q
 | cont=>exact q
theorem Inv.quiet {pins:List (Addr×Obj)}{σ:St}{H:Hp}{s:Shared}(I:Inv X pins σ H s):interactive X.env=false:=by simp[interactive,I.ok.kind]
def Uc (te:TE):TS:=fun D σ H=>te σ H fun _ H1=>D.nx σ H1
theorem lS (he:PE X e te)(hs:swapsWith e none pos.line X.env=pure false:=by rfl):PS X (.Expr e pos) (Uc te):=by
 intro pins s σ H D I h
 exact wpAny_Expr_any (bW (he pins s σ H _ I h) fun v s1 ⟨x,H1,I1,r1,q1⟩=>⟨σ,H1,I1,q1⟩) I.quiet hs
def XW (te:TE):TS:=fun D σ H=>te σ H D.rt
theorem CG (he:PE X e te):PS X (.Return (some e) pos) (XW te):=by
 intro pins s σ H D I h
 exact wpAny_Return_some (bW (he pins s σ H _ I h) fun v s1 ⟨x,H1,I1,r1,q1⟩=>⟨x,σ,H1,I1,r1,q1⟩)
def XY (c:TT)(t u:TS):TS:=fun D σ H=>c σ H fun b H1=>if b=true then t D σ H1 else u D σ H1
theorem Oy {c:Expr}{a b:List Stmt}{tc:TT}(hc:PT X c tc)(ha:CF X a t)(hb:CF X b u):PS X (.If c a b pos) (XY tc t u):=by
 intro pins s σ H D I h
 refine wpAny_If (bW (hc pins s σ H _ I h) fun d s1 ⟨H1,I1,q1⟩=>?_)
 cases d with
 | true=>exact ha pins s1 σ H1 D I1 q1
 | false=>exact hb pins s1 σ H1 D I1 q1
def P4:TS:=fun _ _ _=>False
theorem rZ {sts:List Stmt}:CF X sts P4:=fun _ _ _ _ _ _ h=>h.elim
end
abbrev TG:=V->St->Hp->(St->Hp->Prop)->Prop
abbrev P5:=List V->St->Hp->(St->Hp->Prop)->Prop
def PG (X:Cx)(target:Expr)(t:TG):Prop:=
 ∀ (pins:List (Addr×Obj)) (s:Shared) (σ:St) (H:Hp) (v:V) (u:Value) (Q:St->Hp->Prop),Inv X pins σ H s->RelV v u->t v σ H Q ->
   wpAny (model X.prog X.w) X.A (assign target X.env u) (fun _ s'=>∃ σ' H',Inv X pins σ' H' s'/\Q σ' H') X.xe s
def WY (X:Cx)(ts:List Expr)(t:P5):Prop:=
 ∀ (pins:List (Addr×Obj)) (s:Shared) (σ:St) (H:Hp) (vs:List V) (us:List Value) (Q:St->Hp->Prop),Inv X pins σ H s->Vals vs us->t vs σ H Q ->
   wpAny (model X.prog X.w) X.A (assignInOrder ((assignEach ts X.env).map (·.2)) us) (fun _ s'=>∃ σ' H',Inv X pins σ' H' s'/\Q σ' H') X.xe s
abbrev P6:=V->V->V->Hp->(Hp->Prop)->Prop
def Ud (X:Cx)(t:P6):Prop:=
 ∀ (pins:List (Addr×Obj)) (s:Shared) (σ:St) (H:Hp) (o i v:V) (ov iv u:Value) (Q:Hp->Prop),Inv X pins σ H s->RelV o ov->RelV i iv->RelV v u->t o i v H Q ->
   wpAny (model X.prog X.w) X.A (setItem ov iv u) (fun _ s'=>∃ H',Inv X pins σ H' s'/\Q H') X.xe s
section
variable {X:Cx}{pos:Pos}
def p9 (i:Nat):TG:=fun v σ H Q=>Q (σ.set i (some v)) H
theorem bC {i:Nat}{x:Str}(hN:X.N.Nodup)(hi:X.N[i]?=some x)(hx:Loc X.env.scope x)(hf:X.fn x=true\/X.env.scope.names.lookup x=some .local:=by first | exact .inl rfl | exact .inr rfl | assumption):PG X (.Name x pos) (p9 i):=by
 intro pins s σ H v u Q I r h
 exact wpAny_assign_Name (qQ I hN hi hx r (fun s' I'=>⟨_,H,I',h⟩) hf)
def P7:P5:=fun vs σ H Q=>vs=[]/\Q σ H
def AW (t:TG)(u:P5):P5:=fun vs σ H Q=>∃ v r,vs=v::r/\t v σ H fun σ' H'=>u r σ' H' Q
theorem m5:WY X [] P7:=by
 intro pins s σ H vs us Q I r h
 obtain⟨e,h⟩:=h
 subst e
 cases r
 exact assignInOrder_nil ⟨σ,H,I,h⟩
theorem cQ {e:Expr}{es:List Expr}{t:TG}{u:P5}(h1:PG X e t)(h2:WY X es u)(hs:(assignEach (e::es) X.env).map (·.2)=assign e X.env::(assignEach es X.env).map (·.2):=by rfl):WY X (e::es) (AW t u):=by
 intro pins s σ H vs us Q I r h
 obtain⟨v,vr,e1,h⟩:=h
 subst e1
 cases r with
 | cons r rr=>
   rw[hs]
   refine assignInOrder_cons (bW (h1 pins s σ H _ _ _ I r h) fun _ s1 ⟨σ1,H1,I1,q1⟩=>?_)
   exact h2 pins s1 σ1 H1 _ _ Q I1 rr q1
def P8 (K:W.Frag)(n:Nat)(t:P5):TG:=fun v σ H Q=>∃ a xs,v=.ref a/\Cy K H a xs/\xs.length=n/\t xs σ H Q
theorem ql {es:List Expr}{k:Nat}{t:P5}{n:Nat}(hc:X.calm=true)(h:WY X es t)(hn:(assignEach es X.env).length=n:=by rfl)(mV:(assignEach es X.env).findIdx? (·.1)=none:=by rfl):PG X (.Tuple es k pos) (P8 X.K n t):=by
 intro pins s σ H v u Q I r hw
 obtain⟨a,xs,e1,hq,hl,hw⟩:=hw
 subst e1
 cases r
 obtain⟨aG,rv,ht,hz⟩:=I.tuple hq
 refine assign_Tuple_tuple (I.ok.hd hc) ht (by simp[hn,<- hl,rv.length]) mV fun h' hx=>?_
 have I1:Inv X pins σ H { s with heap:=h'}:=I.kept (t':=s.toks) fun b o e=>hx b o (aaw (aap e)) e
 exact h pins _ σ H xs _ Q I1 (by simpa using rv) hw
def XZ (to ti:TE)(t:P6):TG:=fun v σ H Q=>to σ H fun o H1=>ti σ H1 fun i H2=>t o i v H2 fun H3=>Q σ H3
theorem P9 {o i:Expr}{to ti:TE}{t:P6}(ho:PE X o to)(hi:PE X i ti)(hs:Ud X t)
   (ha:∀ v,assign (.Subscript o i pos) X.env v=(do
     let ov <- holding [v] (eval o X.env)
     let iv <- holding [v,ov] (eval i X.env)
     standAt pos
     holding [v,ov,iv] (setItem ov iv v)
     release [v,ov,iv] []):=by intro _;rfl):PG X (.Subscript o i pos) (XZ to ti t):=by
 intro pins s σ H v u Q I r h
 rw[ha]
 refine wpAny_bind (wpAny_holding (bW (ho pins s σ H _ I h) fun ov s1 ⟨x,H1,I1,r1,q1⟩=>?_))
 refine wpAny_bind (wpAny_holding (bW (hi pins s1 σ H1 _ I1 q1) fun iv s2 ⟨y,H2,I2,r2,q2⟩=>?_))
 refine wpAny_bind (wpAny_standAt (wpAny_bind (wpAny_holding (bW (hs pins s2 σ H2 x y v ov iv u _ I2 r1 r2 r q2) fun _ s3 ⟨H3,I3,q3⟩=>?_))))
 exact wpAny_release ⟨σ,H3,I3,q3⟩
def Ue (te:TE)(g:TG):TS:=fun D σ H=>te σ H fun x H1=>g x σ H1 D.nx
theorem yV {tg e:Expr}{te:TE}{g:TG}(he:PE X e te)(hg:PG X tg g)(hs:swapsWithSole [tg] e pos.line X.env=pure false:=by rfl)(hw:swappedStores [tg] e X.env=pure none:=by rfl)(h1:(assignEach [tg] X.env).map (·.2)=[assign tg X.env]:=by rfl):PS X (.Assign [tg] e pos) (Ue te g):=by
 intro pins s σ H D I h
 refine wpAny_Assign_stores (bW (he pins s σ H _ I h) fun v s1 ⟨x,H1,I1,r1,q1⟩=>?_) hs hw
 rw[h1]
 exact bW (hg pins s1 σ H1 x v _ I1 r1 q1) fun _ s2 q=>q
theorem CH {i:Nat}{x:Str}{e:Expr}{te:TE}{pos':Pos}(hN:X.N.Nodup)(hi:X.N[i]?=some x)(hx:Loc X.env.scope x)(he:PE X e te)(hs:swapsWith e (some (.Name x pos')) pos.line X.env=pure false:=by rfl)(hf:X.fn x=true\/X.env.scope.names.lookup x=some .local:=by first | exact .inl rfl | exact .inr rfl | assumption):PS X (.Assign [.Name x pos'] e pos) (Ue te (p9 i)):=by
 intro pins s σ H D I h
 refine wpAny_Assign_Name (bW (he pins s σ H _ I h) fun v s1 ⟨y,H1,I1,r1,q1⟩=>?_) hs
 exact qQ I1 hN hi hx r1 (fun s2 I2=>⟨_,H1,I2,q1⟩) hf
def X0 (i j:Nat)(ta:TA):TS:=fun D σ H=>ta σ H fun vs H1=>∃ v w,vs=[v,w]/\D.nx ((σ.set i (some v)).set j (some w)) H1
theorem Qa {i j:Nat}{x y:Str}{a b:Expr}{ta:TA}{px py pt:Pos}{kt k2 Qb}(hc:X.calm=true)(hN:X.N.Nodup)(hi:X.N[i]?=some x)(hj:X.N[j]?=some y)(Ug:i≠j)(hx:X.env.scope.names.lookup x=some .local)(hy:X.env.scope.names.lookup y=some .local)(ha:PA X [a,b] ta)(hw:swappedStores [.Tuple [.Name x px,.Name y py] kt pt] (.Tuple [a,b] k2 Qb) X.env=pure (some [x,y]))(hs:swapsWithSole [.Tuple [.Name x px,.Name y py] kt pt] (.Tuple [a,b] k2 Qb) pos.line X.env=pure false:=by rfl):PS X (.Assign [.Tuple [.Name x px,.Name y py] kt pt] (.Tuple [a,b] k2 Qb) pos) (X0 i j ta):=by
 intro pins s σ H D I h
 rw[exec_Assign_arm]
 refine wpAny_bind (wpAny_standAt ?_)
 rw[hs]
 refine wpAny_bind (wpAny_pure ?_)
 rw[if_neg (by decide)]
 refine wpAny_bind (Tuple_ (bW (ha _ pins s σ H _ I h) fun us s1 ⟨vs,H1,I1,r1,q1⟩=>?_))
 obtain⟨v,w,e1,q1⟩:=q1
 subst e1
 obtain⟨u1,u2,rfl,rv,HE⟩:∃ u1 u2,us=[u1,u2]/\RelV v u1/\RelV w u2:=by
   cases r1 with
   | cons p q=>
     cases q with
     | cons p' q'=>
       cases q'
       exact⟨_,_,rfl,p,p'⟩
 refine wpAny_newObj_type ?_ (by show 2<=sizeLine;decide)
 have I2:Inv X pins σ H1 { s1 with heap:=s1.heap.push { cls:=.type "tuple",data:=.seq [u1,u2].toArray}}:=I1.kept (t':=s1.toks) fun b o e=>aag _ e
 rw[hw]
 refine wpAny_bind (wpAny_pure ?_)
 show wpAny (model X.prog X.w) X.A (do rule "assign.swapped-stores";let items <- unpackItems (.ref s1.heap.objs.size) 2 none;assignInOrder [fun v=>bindName X.env y v,fun v=>bindName X.env x v] items.reverse;pure Flow.next) _ _ _
 refine wpAny_bind (wpAny_rule (wpAny_bind (unpackItems_tuple (items:=#[u1,u2]) (I.ok.hd hc) (IsTup.new s1.heap _) fun h' D2=>?_)))
 have I3:=I2.kept (h':=h') (t':=s1.toks) fun b o e=>D2 b o (aaw (aap e)) e
 show wpAny _ _ (assignInOrder [fun v=>bindName X.env y v,fun v=>bindName X.env x v] [u2,u1] >>= fun _=>pure Flow.next) _ _ _
 refine wpAny_bind (assignInOrder_cons (wpAny_bindName (qQ I3 hN hj (.inl hy) HE (fun s2 I4=>?_) (.inr hy))))
 refine assignInOrder_cons (wpAny_bindName (qQ I4 hN hi (.inl hx) rv (fun s3 I5=>assignInOrder_nil (wpAny_pure ?_)) (.inr hx)))
 rw[List.set_comm _ _ (Ne.symm Ug)] at I5
 exact⟨_,H1,I5,q1⟩
end
section
variable {X:Cx}{pos:Pos}
def Qc (c:TT)(tb:TS):TS:=fun D σ H=>∃ W:Nat->St->Hp->Prop,(∃ m,W m σ H)/\∀ m σ H,W m σ H ->
 c σ H fun b H1=>if b=true then ∃ N:St->Hp->Prop,(∀ σ' H',N σ' H'->∃ m',m' < m/\W m' σ' H')/\tb { D with nx:=N,ct:=N,bk:=D.nx} σ H1 else D.nx σ H1
theorem AX {c:Expr}{body:List Stmt}{tc:TT}{tb:TS}(hp:PassesOwn (model X.prog X.w) X.A X.env X.xe)(hc:PT X c tc)(hb:CF X body tb):PS X (.While c body [] pos) (Qc tc tb):=by
 intro pins s σ H D I h
 obtain⟨W,⟨m0,w0⟩,turn⟩:=h
 refine wpAny_While (codeAny_whileLoop (fun n s'=>∃ σ' H',Inv X pins σ' H' s'/\W n σ' H') ?_ m0 ⟨σ,H,I,w0⟩)
 rintro n s1 ⟨σ1,H1,I1,w1⟩
 refine wpAny_passesOwn hp (bW (hc pins s1 σ1 H1 _ I1 (turn n σ1 H1 w1)) fun b s2 ⟨H2,I2,q2⟩=>?_)
 cases b with
 | true=>
   obtain⟨N,hN,q2⟩:=q2
   rw[if_pos rfl]
   refine wpAny_passesOwn hp (bW (hb pins s2 σ1 H2 _ I2 q2) fun f s3 q3=>?_)
   cases f with
   | next=>
     obtain⟨σ3,H3,I3,n3⟩:=q3
     obtain⟨m',hm,w3⟩:=hN σ3 H3 n3
     exact⟨m',hm,σ3,H3,I3,w3⟩
   | cont=>
     obtain⟨σ3,H3,I3,n3⟩:=q3
     obtain⟨m',hm,w3⟩:=hN σ3 H3 n3
     exact⟨m',hm,σ3,H3,I3,w3⟩
   | brk=>exact q3
   | ret v=>exact q3
 | false=>
   rw[if_neg aas]
   exact wpAny_execs_nil ⟨σ1,H2,I2,q2⟩
end
structure It where
 go:Nat->Hp->Prop
 HF:Nat->Hp->V->Hp->Prop
 stop:Nat->Hp->Prop
def lE (X:Cx)(pins:List (Addr×Obj))(H:Hp)(b:Addr):Prop:=
 H b=none/\b≠X.env.locals/\b ∉ X.fs/\(b∈X.ex\/X.s₀.heap.objs.size<=b)/\(∀ x c,X.env.cells.lookup x=some c->c≠b)/\∀ p∈X.pn ++ pins,p.1≠b
theorem Inv.t6 {X:Cx}{pins:List (Addr×Obj)}{σ:St}{H H':Hp}{s:Shared}{b:Addr}(I:Inv X pins σ H s)(hb:s.heap.objs.size<=b)(hn:H' b=none):lE X pins H' b:=by
 refine⟨hn,abG (aaq I.lt hb),I.XH hb,.inr (aaA I.sz hb),fun x c e z=>?_,fun p hp z=>?_⟩
 . obtain⟨v,q⟩:=I.cell x c e
   exact absurd (aaq q.lt (by rw[z];exact hb)) (aa8 _)
 . exact absurd (aaq (aap (I.pin p hp).1) (by rw[z];exact hb)) (aa8 _)
structure Turn (P:Program)(w:World)(K:W.Frag)(tg:Expr)(J:It)(fp:List Addr)(it:Addr)(tn:Nat->Heap->Prop):Prop where
 mem:it∈fp
 obj:∀ i h,tn i h->∀ b∈fp,∃ o,h.get? b=some o/\∀ v,o.data≠.cell v
 keep:∀ i h h',tn i h->(∀ b∈fp,∀ o,h.get? b=some o->h'.get? b=some o)->tn i h'
 item:∀ (X:Cx),X.prog=P->X.w=w->X.K=K->X.calm=true->∀ (i:Nat) (pins:List (Addr×Obj)) (s:Shared) (σ:St) (H:Hp) (E:Value->Shared->Prop),Inv X pins σ H s->(∀ b∈fp,lE X pins H b)->tn i s.heap->J.go i H ->
   wpAny (model P w) X.A (pyNext (.ref it)) (fun r s1=>∃ u,r=some u /\
     wpAny (model P w) X.A (letOwnedTupleGo tg (.ref it) u) (fun _ s2=>∃ x H',Inv X pins σ H' s2/\RelV x u/\J.HF i H x H'/\tn (i+1) s2.heap/\∀ b∈fp,H' b=none) E s1) E s
 done:∀ (X:Cx),X.prog=P->X.w=w->X.K=K->X.calm=true->∀ (i:Nat) (pins:List (Addr×Obj)) (s:Shared) (σ:St) (H:Hp) (E:Value->Shared->Prop),Inv X pins σ H s->(∀ b∈fp,lE X pins H b)->tn i s.heap->J.stop i H ->
   wpAny (model P w) X.A (pyNext (.ref it)) (fun r s1=>r=none/\Inv X pins σ H s1) E s
 self:∀ (A:Around) (i:Nat) (s:Shared) (Q:Value->Shared->Prop) (E:Value->Shared->Prop),tn i s.heap->Q (.ref it) s->wpAny (model P w) A (pyIter (.ref it)) Q E s
abbrev TI:=St->Hp->(It->Hp->Prop)->Prop
def X1 (X:Cx)(pins:List (Addr×Obj))(σ:St)(tg:Expr)(R:It->Hp->Prop)(Oz:Value)(s2:Shared):Prop:=
 ∃ (it:Addr) (fp:List Addr) (tn:Nat->Heap->Prop) (J:It) (H':Hp),Oz=.ref it/\Inv X pins σ H' s2/\Turn X.prog X.w X.K tg J fp it tn/\tn 0 s2.heap/\(∀ b∈fp,lE X pins H' b)/\R J H'
def PI (X:Cx)(tg iter:Expr)(wi:TI):Prop:=
 ∀ (pins:List (Addr×Obj)) (s:Shared) (σ:St) (H:Hp) (R:It->Hp->Prop),Inv X pins σ H s->wi σ H R ->
   wpAny (model X.prog X.w) X.A (eval iter X.env) (fun v s1=>wpAny (model X.prog X.w) X.A (pyIter v) (X1 X pins σ tg R) X.xe s1) X.xe s
theorem AY {M:Model}{A:Around}{E:Value->Shared->Prop}{s:Shared}{tg:Expr}{it:Addr}{u:Value}{o:Obj}{n:String}{vs:Array Value}{Q:Unit->Shared->Prop}(ho:s.heap.get? it=some o)(hc:o.cls=.type n)(hd:o.data=.fields vs)(hn:["enumerate","zip","dict_itemiterator","dict_reverseitemiterator","odict_iterator","itertools.zip_longest","itertools.pairwise"].contains n=false)(hQ:Q () s):wpAny M A (letOwnedTupleGo tg (.ref it) u) Q E s:=by
 unfold letOwnedTupleGo
 cases tg <;> first
   | exact wpAny_pure hQ
   | (cases u <;> first
       | exact wpAny_pure hQ
       | (refine wpAny_bind (wpAny_load ho ?_)
          rw[hc,hd]
          show wpAny M A (if (["enumerate","zip","dict_itemiterator","dict_reverseitemiterator","odict_iterator","itertools.zip_longest","itertools.pairwise"].contains n && vs[0]? == some (rawInt _))=true then _ else _) Q E s
          rw[if_neg (by intro h;rw[hn,Bool.false_and] at h;cases h)]
          exact wpAny_pure hQ))
noncomputable def Uh (K:W.Frag)(a:Addr):It:=
 ⟨fun i H=>∃ xs x,mY K H a xs/\xs[i]?=some x,fun i H x H'=>H'=H/\∀ xs,mY K H a xs->xs[i]?=some x,fun i H=>∃ xs,mY K H a xs/\xs.length<=i⟩
noncomputable def FX (lo:Int)(n:Nat):It:=⟨fun i _=>i < n,fun i H x H'=>H'=H/\x=.int (lo+i),fun i _=>n<=i⟩
theorem FY {P:Program}{w:World}{K:W.Frag}{tg:Expr}(a it:Addr):Turn P w K tg (Uh K a) [it] it (fun i h=>h.IsListIter it a i) where
 mem:=by simp
 obj:=fun i h st b hb=>by
   have e:b=it:=by simpa using hb
   subst e
   obtain⟨o,e,c,d⟩:=st
   exact⟨o,e,fun v z=>by rw[d] at z;cases z⟩
 keep:=fun i h h' st k=>st.at fun o e=>k it (by simp) o e
 item:=by
   intro X hP hw hK hc i pins s σ H E I hf st hg
   subst hP hw hK
   obtain⟨xs,x,hq,hx⟩:=hg
   obtain⟨aG,rv,p,hz⟩:=I.list hq
   obtain⟨u,hu,ru⟩:=rv.get hx
   obtain⟨f0,f1,f2,f3,f4,f5⟩:=hf it (by simp)
   refine wpAny_pyNext_list_item st p.isList (x:=u) (by simpa using hu) fun h' jD sb=>?_
   have I1:Inv X pins σ H { s with heap:=h'}:=I.turned (t':=s.toks) (fun b o hb e=>(sb.2 b hb).trans e) f0 f1 f3 f4 f5
   obtain⟨o,e,c,d⟩:=id jD
   exact⟨u,rfl,AY (s:={ s with heap:=h'}) e c d (by decide) ⟨x,H,I1,ru,⟨rfl,fun ys hy=>by rw[I.AV hy hq];exact hx⟩,jD,fun b hb=>(hf b hb).1⟩⟩
 done:=by
   intro X hP hw hK hc i pins s σ H E I hf st hg
   subst hP hw hK
   obtain⟨xs,hq,hx⟩:=hg
   obtain⟨aG,rv,p,hz⟩:=I.list hq
   obtain⟨f0,f1,f2,f3,f4,f5⟩:=hf it (by simp)
   have hl:=rv.length
   exact wpAny_pyNext_list_end (I.ok.hd hc) st p.isList (by simp;omega) fun h' eb=>⟨rfl,I.turned (t':=s.toks) (fun b o hb e=>eb b o hb e) f0 f1 f3 f4 f5⟩
 self:=fun _ _ _ _ _ st h=>wpAny_pyIter_listiter st h
theorem vq {P:Program}{w:World}{K:PySem.W.Frag}{tg:Expr}(it:Addr)(lo:Int)(n:Nat):Turn P w K tg (FX lo n) [it] it (fun i h=>IsRangeIter h it (lo+(i:Nat) * 1) ((n:Int) - (i:Nat)) 1) where
 mem:=by simp
 obj:=fun i h st b hb=>by
   have e:b=it:=by simpa using hb
   subst e
   exact⟨_,st,fun v z=>by
     have z':Data.fields _=Data.cell v:=z
     cases z'⟩
 keep:=fun i h h' st k=>k it (by simp) _ st
 item:=by
   intro X hP hw hK hc i pins s σ H E I hf st hg
   subst hP hw hK
   obtain⟨f0,f1,f2,f3,f4,f5⟩:=hf it (by simp)
   have W:=Walks.range (prog:=X.prog) (w:=X.w) (I.ok.hd hc) it lo 1 n
   refine W.item i s _ _ hg st fun v h' tk hv jD kk=>?_
   obtain⟨t,rfl⟩:=hv
   have I1:Inv X pins σ H { s with heap:=h',toks:=tk}:=I.turned (fun b o hb e=>kk b o (by simpa using hb) e) f0 f1 f3 f4 f5
   refine⟨_,rfl,AY (s:={ s with heap:=h',toks:=tk}) (n:="range_iterator") jD rfl rfl (by decide) ⟨.int (lo+i),H,I1,⟨t,?_⟩,⟨rfl,rfl⟩,jD,fun b hb=>(hf b hb).1⟩⟩
   rw[Int.mul_one]
 done:=by
   intro X hP hw hK hc i pins s σ H E I hf st hg
   subst hP hw hK
   obtain⟨f0,f1,f2,f3,f4,f5⟩:=hf it (by simp)
   exact wpAny_pyNext_range_end (I.ok.hd hc) st (by have:n<=i:=hg;omega) fun h' eb=>⟨rfl,I.turned (t':=s.toks) (fun b o hb e=>eb b o hb e) f0 f1 f3 f4 f5⟩
 self:=fun _ _ _ _ _ st h=>wpAny_pyIter_rangeiter st h
section
variable {X:Cx}{tg:Expr}
def HG (K:W.Frag)(tl:TE):TI:=fun σ H R=>tl σ H fun x H1=>∃ a,x=.ref a/\(∃ xs,mY K H1 a xs)/\R (Uh K a) H1
theorem ik {l:Expr}{tl:TE}(hl:PE X l tl):PI X tg l (HG X.K tl):=by
 intro pins s σ H R I h
 refine bW (hl pins s σ H _ I h) fun v s1 ⟨x,H1,I1,r1,q1⟩=>?_
 obtain⟨a,e,⟨xs,hq⟩,q⟩:=q1
 subst e
 cases r1
 obtain⟨aG,rv,p,hz⟩:=I1.list hq
 refine wpAny_pyIter_list p.isList ?_
 refine⟨s1.heap.objs.size,[s1.heap.objs.size],_,_,H1,rfl,I1.kept (t':=s1.toks) fun b o e=>aag _ e,FY a _,⟨_,aat _ rfl,rfl,rfl⟩,fun b hb=>?_,q⟩
 have e:b=s1.heap.objs.size:=by simpa using hb
 subst e
 exact I1.t6 (aaa _) (I1.bu.fresh (aaa _))
theorem HH {pins:List (Addr×Obj)}{σ:St}{H:Hp}{s:Shared}{R:It->Hp->Prop}{E:Value->Shared->Prop}{lo hi:Int}{t u v:Tok}{tk:Nat}(I:Inv X pins σ H s)(h1:-(2 ^ 62)<=lo)(h2:lo < 2 ^ 62)(h3:-(2 ^ 62)<=hi)(h4:hi < 2 ^ 62)(q:R (FX lo (hi - lo).toNat) H):wpAny (model X.prog X.w) X.A (pyIter (.ref s.heap.objs.size)) (X1 X pins σ tg R) E { s with heap:=s.heap.push { cls:=.type "range",data:=.fields #[.int lo t,.int hi u,.int 1 v]},toks:=tk}:=by
 refine wpAny_pyIter_range (IsRange.new ..) (small_one h1 h2 h3 h4) ?_
 have I1:Inv X pins σ H { s with heap:=s.heap.push { cls:=.type "range",data:=.fields #[.int lo t,.int hi u,.int 1 v]},toks:=tk}:=I.kept fun b o e=>aag _ e
 refine⟨(s.heap.push { cls:=.type "range",data:=.fields #[.int lo t,.int hi u,.int 1 v]}).objs.size,[(s.heap.push { cls:=.type "range",data:=.fields #[.int lo t,.int hi u,.int 1 v]}).objs.size],_,_,H,rfl,
   I1.kept (t':=tk) fun b o e=>aag _ e,vq _ lo (hi - lo).toNat,?_,fun b hb=>?_,q⟩
 . have e1:lo+((0:Nat):Int) * 1=lo:=by simp
   have e2:(((hi - lo).toNat:Nat):Int) - ((0:Nat):Int)=Builtin.Range.rangeSize lo hi 1:=by rw[rangeSize_one];split <;> omega
   show IsRangeIter _ _ (lo+((0:Nat):Int) * 1) ((((hi - lo).toNat:Nat):Int) - ((0:Nat):Int)) 1
   rw[e1,e2]
   exact aat _ rfl
 . have e:b=(s.heap.push { cls:=.type "range",data:=.fields #[.int lo t,.int hi u,.int 1 v]}).objs.size:=by simpa using hb
   subst e
   exact I1.t6 (aaa _) (I1.bu.fresh (aaa _))
def HI (ta:TA):TI:=fun σ H R=>ta σ H fun vs H1=>∃ j:Int,vs=[.int j]/\-(2 ^ 62)<=j/\j < 2 ^ 62/\R (FX 0 j.toNat) H1
theorem mB {a:Expr}{ta:TA}{p pos:Pos}(hg:Gl X "range")(hm:X.mg "range"=none)(ha:PA X [a] ta)(hs:starEach [a] X.env=[(false,eval a X.env)]:=by rfl):PI X tg (.Call (.Name "range" p) [a] [] pos) (HI ta):=by
 intro pins s σ H R I h
 refine Call_ (oj I hg hm boot_range (PyProof.Rows.callWith_type1 (bW (ha pos pins s σ H _ I h) fun us s1 ⟨vs,H1,I1,r1,q1⟩=>?_) hs rfl))
 obtain⟨j,e,q1,q2,q⟩:=q1
 subst e
 cases r1 with
 | cons r rr=>
   cases rr
   obtain⟨t,rfl⟩:=r
   exact call_range_1 (HH I1 (by omega) (by omega) q1 q2 (by simpa using q))
def X2 (wi:TI)(g:TG)(tb:TS):TS:=fun D σ H=>wi σ H fun J H1=>∃ W:Nat->Nat->St->Hp->Prop,(∃ m,W 0 m σ H1)/\∀ i m σ H,W i m σ H ->
 (J.stop i H/\D.nx σ H)\/(J.go i H/\∃ N:St->Hp->Prop,(∀ σ' H',N σ' H'->∃ m',m' < m/\W (i+1) m' σ' H')/\∀ x H',J.HF i H x H'->g x σ H' fun σ2 H2=>tb { D with nx:=N,ct:=N,bk:=D.nx} σ2 H2)
noncomputable def r0 (fp:List Addr)(h:Heap):List (Addr×Obj):=fp.filterMap fun b=>(h.get? b).map fun o=>(b,o)
theorem fX {fp:List Addr}{h:Heap}{b:Addr}{o:Obj}(hb:b∈fp)(e:h.get? b=some o):(b,o)∈r0 fp h:=List.mem_filterMap.mpr ⟨b,hb,by rw[e];rfl⟩
theorem FZ {fp:List Addr}{h:Heap}{p:Addr×Obj}(hp:p∈r0 fp h):p.1∈fp/\h.get? p.1=some p.2:=by
 obtain⟨b,hb,e⟩:=List.mem_filterMap.mp hp
 cases q:h.get? b with
 | none=>rw[q] at e;cases e
 | some o=>
   rw[q] at e
   have e':(b,o)=p:=Option.some.inj e
   subst e'
   exact⟨hb,q⟩
theorem Inv.pinned {pins:List (Addr×Obj)}{σ:St}{H:Hp}{s:Shared}{fp:List Addr}(I:Inv X pins σ H s)(hf:∀ b∈fp,lE X pins H b)(ho:∀ b∈fp,∃ o,s.heap.get? b=some o/\∀ v,o.data≠.cell v):Inv X (pins ++ r0 fp s.heap) σ H s:=
 I.DZ fun p hp=>(abe.mp hp).elim (fun z=>I.pin p (aaz _ z)) fun z=>by
   obtain⟨hb,e⟩:=FZ z
   obtain⟨f0,f1,f2,_⟩:=hf p.1 hb
   obtain⟨o,e',d⟩:=ho p.1 hb
   rw[e] at e';cases e'
   exact⟨e,f0,f1,f2,d⟩
theorem Inv.j9 {pins pl:List (Addr×Obj)}{σ:St}{H:Hp}{s:Shared}(I:Inv X (pins ++ pl) σ H s):Inv X pins σ H s:=I.DZ fun p hp=>I.pin p (aaz _ (List.mem_append_left _ hp))
theorem yW {iter:Expr}{body:List Stmt}{wi:TI}{g:TG}{tb:TS}{pos:Pos}(hp:PassesOwn (model X.prog X.w) X.A X.env X.xe)(hc:X.calm=true)(hi:PI X tg iter wi)(hg:PG X tg g)(hb:CF X body tb)(hs:∀ x,foldedSetIterable iter X.env x=pure x:=by intro _;rfl):PS X (.For tg iter body [] pos) (X2 wi g tb):=by
 intro pins s σ H D I h
 refine wpAny_For (bW (hi pins s σ H _ I h) fun v s1 h1=>bW h1 fun Oz s2 h2=>?_) hs
 obtain⟨it,fp,tn,J,H2,e,I2,T,D3,f2,W,⟨m0,w0⟩,turn⟩:=h2
 subst e
 have qm:∀ {H':Hp},(∀ b∈fp,H' b=none)->∀ b∈fp,lE X pins H' b:=fun hn b hb=>⟨hn b hb,(f2 b hb).2⟩
 refine codeAny_forLoop_any (fun n s'=>∃ i σ' H',Inv X pins σ' H' s'/\tn i s'.heap/\(∀ b∈fp,H' b=none)/\W i n σ' H') ?_ m0 ⟨0,σ,H2,I2,D3,fun b hb=>(f2 b hb).1,w0⟩
 rintro n s3 ⟨i,σ3,H3,I3,WZ,fr3,w3⟩
 rcases turn i n σ3 H3 w3 with⟨stop,qn⟩ | ⟨go,N,hN,step⟩
 . refine wpAny_passesOwn hp (bW (T.done X rfl rfl rfl hc i pins s3 σ3 H3 X.xe I3 (qm fr3) WZ stop) fun r s4 ⟨hr,I4⟩=>?_)
   subst hr
   exact wpAny_execs_nil ⟨σ3,H3,I4,qn⟩
 . refine wpAny_passesOwn hp (bW (T.item X rfl rfl rfl hc i pins s3 σ3 H3 X.xe I3 (qm fr3) WZ go) fun r s4 ⟨u,hr,h4⟩=>?_)
   subst hr
   refine wpAny_passesOwn hp (bW h4 fun _ s5 ⟨x,H5,I5,r5,y5,Hl,LA⟩=>?_)
   have I5':=I5.pinned (qm LA) (T.obj _ _ Hl)
   refine wpAny_passesOwn hp (bW (hg _ s5 σ3 H5 x u _ I5' r5 (step x H5 y5)) fun _ s6 ⟨σ6,H6,I6,q6⟩=>?_)
   refine wpAny_passesOwn hp (bW (hb _ s6 σ6 H6 _ I6 q6) fun f s7 q7=>?_)
   have again:∀ {σ7:St} {H7:Hp},Inv X (pins ++ r0 fp s5.heap) σ7 H7 s7->N σ7 H7->∃ m,m < n/\∃ i σ' H',Inv X pins σ' H' s7/\tn i s7.heap/\(∀ b∈fp,H' b=none)/\W i m σ' H':=fun {σ7 H7} I7 n7=>by
     obtain⟨m',hm,w7⟩:=hN σ7 H7 n7
     refine⟨m',hm,i+1,σ7,H7,I7.j9,T.keep _ _ _ Hl fun b hb o e=>(I7.pin (b,o) (aaz _ (aaz _ (fX hb e)))).1,fun b hb=>?_,w7⟩
     obtain⟨o,e,d⟩:=T.obj _ _ Hl b hb
     exact(I7.pin (b,o) (aaz _ (aaz _ (fX hb e)))).2.1
   cases f with
   | next=>obtain⟨σ7,H7,I7,n7⟩:=q7;exact again I7 n7
   | cont=>obtain⟨σ7,H7,I7,n7⟩:=q7;exact again I7 n7
   | brk=>obtain⟨σ7,H7,I7,q7⟩:=q7;exact⟨σ7,H7,I7.j9,q7⟩
   | ret v=>obtain⟨x7,σ7,H7,I7,r7,q7⟩:=q7;exact⟨x7,σ7,H7,I7.j9,r7,q7⟩
end
theorem AZ {K:PySem.W.Frag}{a:Addr}{xs:List V}{g:TG}{tb:TS}{D:Ends}{σ:St}{H:Hp}(Pv:Nat->St->Hp->Prop)(h0:Pv 0 σ H)(hl:∀ i σ H,i<=xs.length->Pv i σ H->mY K H a xs)(hs:∀ i x σ H,xs[i]?=some x->Pv i σ H->g x σ H fun σ2 H2=>tb { D with nx:=Pv (i+1),ct:=Pv (i+1),bk:=D.nx} σ2 H2)(hd:∀ σ H,Pv xs.length σ H->D.nx σ H):∃ W:Nat->Nat->St->Hp->Prop,(∃ m,W 0 m σ H)/\∀ i m σ H,W i m σ H->((Uh K a).stop i H/\D.nx σ H)\/((Uh K a).go i H/\∃ N:St->Hp->Prop,(∀ σ' H',N σ' H'->∃ m',m' < m/\W (i+1) m' σ' H')/\∀ x H',(Uh K a).HF i H x H'->g x σ H' fun σ2 H2=>tb { D with nx:=N,ct:=N,bk:=D.nx} σ2 H2):=by
 refine⟨fun i m σ H=>m=xs.length - i/\i<=xs.length/\Pv i σ H,⟨xs.length,by simp,aaW _,h0⟩,?_⟩
 rintro i m σ H ⟨rfl,hi,p⟩
 have q:=hl i σ H hi p
 by_cases dn:i < xs.length
 . refine .inr ⟨⟨xs,xs[i],q,by simp[dn]⟩,Pv (i+1),fun σ' H' p'=>⟨xs.length - (i+1),by omega,rfl,dn,p'⟩,fun x H' y=>?_⟩
   obtain⟨e,y⟩:=y
   subst e
   exact hs i x σ _ (y xs q) p
 . have e:i=xs.length:=by omega
   subst e
   exact .inl ⟨⟨xs,q,aaa _⟩,hd σ H p⟩
theorem F0 {lo:Int}{n:Nat}{g:TG}{tb:TS}{D:Ends}{σ:St}{H:Hp}(Pv:Nat->St->Hp->Prop)(h0:Pv 0 σ H)(hs:∀ i σ H,i < n->Pv i σ H->g (.int (lo+i)) σ H fun σ2 H2=>tb { D with nx:=Pv (i+1),ct:=Pv (i+1),bk:=D.nx} σ2 H2)(hd:∀ σ H,Pv n σ H->D.nx σ H):∃ W:Nat->Nat->St->Hp->Prop,(∃ m,W 0 m σ H)/\∀ i m σ H,W i m σ H->((FX lo n).stop i H/\D.nx σ H)\/((FX lo n).go i H/\∃ N:St->Hp->Prop,(∀ σ' H',N σ' H'->∃ m',m' < m/\W (i+1) m' σ' H')/\∀ x H',(FX lo n).HF i H x H'->g x σ H' fun σ2 H2=>tb { D with nx:=N,ct:=N,bk:=D.nx} σ2 H2):=by
 refine⟨fun i m σ H=>m=n - i/\i<=n/\Pv i σ H,⟨n,by simp,aaW _,h0⟩,?_⟩
 rintro i m σ H ⟨rfl,hi,p⟩
 by_cases dn:i < n
 . refine .inr ⟨dn,Pv (i+1),fun σ' H' p'=>⟨n - (i+1),by omega,rfl,dn,p'⟩,fun x H' y=>?_⟩
   obtain⟨e,y⟩:=y
   subst e y
   exact hs i σ _ dn p
 . have e:i=n:=by omega
   subst e
   exact .inl ⟨aaa _,hd σ H p⟩
abbrev R2:=V->V->Hp->VK->Prop
def oi (X:Cx)(f:Value->Value->Sem Value)(r:R2):Prop:=
 ∀ (pins:List (Addr×Obj)) (s:Shared) (σ:St) (H:Hp) (x y:V) (v u:Value) (Q:VK),Inv X pins σ H s->RelV x v->RelV y u->r x y H Q ->
   wpAny (model X.prog X.w) X.A (f v u) (EP X pins σ Q) X.xe s
def X3 (X:Cx)(f:Value->Sem Value)(r:V->Hp->VK->Prop):Prop:=
 ∀ (pins:List (Addr×Obj)) (s:Shared) (σ:St) (H:Hp) (x:V) (v:Value) (Q:VK),Inv X pins σ H s->RelV x v->r x H Q ->
   wpAny (model X.prog X.w) X.A (f v) (EP X pins σ Q) X.xe s
def ka (X:Cx)(f:Value)(r:List V->Hp->VK->Prop):Prop:=
 ∀ (pins:List (Addr×Obj)) (s:Shared) (σ:St) (H:Hp) (xs:List V) (us:List Value) (Q:VK),Inv X pins σ H s->Vals xs us->r xs H Q ->
   wpAny (model X.prog X.w) X.A (call f us) (EP X pins σ Q) X.xe s
def Ui (r:R2)(ta tb:TE):TE:=fun σ H Q=>ta σ H fun x H1=>tb σ H1 fun y H2=>r x y H2 Q
def tUn (r:V->Hp->VK->Prop)(ta:TE):TE:=fun σ H Q=>ta σ H fun x H1=>r x H1 Q
def rI (C:Int->Int->Prop)(g:Int->Int->V):R2:=fun x y H Q=>∃ i j,x=.int i/\y=.int j/\C i j/\Q (g i j) H
def LY (g:Int->Int->V):R2:=fun x y H Q=>∃ i j,x=.int i/\y=.int j/\Q (g i j) H
def rU (g:Int->V):V->Hp->VK->Prop:=fun x H Q=>∃ i,x=.int i/\Q (g i) H
section
variable {X:Cx}{a b:Expr}{ta tb:TE}{pos:Pos}
theorem Qd (ha:PE X a ta)(hb:PE X b tb){pins:List (Addr×Obj)}{s:Shared}{σ:St}{H:Hp}{R:V->V->Hp->Prop}(I:Inv X pins σ H s)(h:ta σ H fun x H1=>tb σ H1 fun y H2=>R x y H2){Q:Value->Shared->Prop}{f:Value->Value->Sem Value}(hf:∀ v u s2 x y H2,Inv X pins σ H2 s2->RelV x v->RelV y u->R x y H2->wpAny (model X.prog X.w) X.A (f v u) Q X.xe s2):wpAny (model X.prog X.w) X.A (eval a X.env) (fun v s₁=>wpAny (model X.prog X.w) X.A (eval b X.env) (fun u s₂=>wpAny (model X.prog X.w) X.A (f v u) Q X.xe s₂) X.xe s₁) X.xe s:=by
 refine bW (ha pins s σ H _ I h) fun v s1 ⟨x,H1,I1,r1,q1⟩=>?_
 refine bW (hb pins s1 σ H1 _ I1 q1) fun u s2 ⟨y,H2,I2,r2,q2⟩=>?_
 exact hf v u s2 x y H2 I2 r1 r2 q2
theorem OA {op:Operator}{r:R2}(ho:oi X (binaryOp op) r)(ha:PE X a ta)(hb:PE X b tb):PE X (.BinOp a op b pos) (Ui r ta tb):=by
 intro pins s σ H Q I h
 exact wpAny_BinOp (Qd ha hb I h fun v u s2 x y H2 I2 rx ry q=>ho pins s2 σ H2 x y v u Q I2 rx ry q)
theorem Uj {op:UnaryOp}{r:V->Hp->VK->Prop}(ho:X3 X (unaryOp op) r)(ha:PE X a ta):PE X (.UnaryOp op a pos) (tUn r ta):=by
 intro pins s σ H Q I h
 exact UnaryOp_ (bW (ha pins s σ H _ I h) fun v s1 ⟨x,H1,I1,r1,q1⟩=>ho pins s1 σ H1 x v Q I1 r1 q1)
theorem W0 {f:Value->Value->Sem Value}{C:Int->Int->Prop}{g:Int->Int->Int}(rule:∀ (i j:Int) (t u:Tok) (s:Shared) (Q:Value->Shared->Prop) (E:Value->Shared->Prop),C i j->Q (.int (g i j) s.toks) { s with toks:=s.toks+1}->wpAny (model X.prog X.w) X.A (f (.int i t) (.int j u)) Q E s):oi X f (rI C fun i j=>.int (g i j)):=by
 intro pins s σ H x y v u Q I rx ry h
 obtain⟨i,j,rfl,rfl,hc,q⟩:=h
 obtain⟨t,rfl⟩:=rx
 obtain⟨t',rfl⟩:=ry
 exact rule i j t t' s _ _ hc ⟨.int (g i j),H,I.tok _,⟨_,rfl⟩,q⟩
theorem Uk {f:Value->Value->Sem Value}{g:Int->Int->Int}(rule:∀ (i j:Int) (t u:Tok) (s:Shared) (Q:Value->Shared->Prop) (E:Value->Shared->Prop),Q (.int (g i j) s.toks) { s with toks:=s.toks+1}->wpAny (model X.prog X.w) X.A (f (.int i t) (.int j u)) Q E s):oi X f (LY fun i j=>.int (g i j)):=by
 intro pins s σ H x y v u Q I rx ry h
 obtain⟨i,j,rfl,rfl,q⟩:=h
 obtain⟨t,rfl⟩:=rx
 obtain⟨t',rfl⟩:=ry
 exact rule i j t t' s _ _ ⟨.int (g i j),H,I.tok _,⟨_,rfl⟩,q⟩
theorem LZ {f:Value->Value->Sem Value}{g:Int->Int->Bool}(rule:∀ (i j:Int) (t u:Tok) (s:Shared) (Q:Value->Shared->Prop) (E:Value->Shared->Prop),Q (.bool (g i j)) s->wpAny (model X.prog X.w) X.A (f (.int i t) (.int j u)) Q E s):oi X f (LY fun i j=>.bl (g i j)):=by
 intro pins s σ H x y v u Q I rx ry h
 obtain⟨i,j,rfl,rfl,q⟩:=h
 obtain⟨t,rfl⟩:=rx
 obtain⟨t',rfl⟩:=ry
 exact rule i j t t' s _ _ ⟨.bl (g i j),H,I,rfl,q⟩
def Ul (i j:Int):Prop:=0<=j/\j<=1000000/\i.natAbs < 2 ^ 64
def pW (i j:Int):Prop:=(-(2 ^ 64) < i/\i < 2 ^ 64)\/(-(2 ^ 64) < j/\j < 2 ^ 64)
theorem pW.ok {i j:Int}(h:pW i j):IntMulOk i j:=by
 rcases h with⟨h1,h2⟩ | ⟨h1,h2⟩
 . exact .of_left (intBits_le_64 h1 h2)
 . exact .of_right (intBits_le_64 h1 h2)
theorem Qe:oi X (binaryOp .Add) (LY fun i j=>.int (i+j)):=Uk fun _ _ _ _ _ _ _ q=>add_int q
theorem Qf:oi X (binaryOp .Sub) (LY fun i j=>.int (i - j)):=Uk fun _ _ _ _ _ _ _ q=>sub_int q
theorem Qg:oi X (binaryOp .Mod) (rI (fun _ j=>0 < j) fun i j=>.int (i % j)):=W0 fun i j _ _ _ _ _ hc q=>by
 have h1:(0:Int) < j:=hc
 exact mod_int' (by omega) (by rw[Int.fmod_eq_emod_of_nonneg i (by omega)];exact q)
theorem Qh:oi X (binaryOp .Pow) (rI Ul fun i j=>.int (i ^ j.toNat)):=W0 fun _ _ _ _ _ _ _ hc q=>pow_int_small hc.1 hc.2.1 hc.2.2 q
theorem unI {f:Value->Sem Value}{g:Int->Int}(rule:∀ (i:Int) (t:Tok) (s:Shared) (Q:Value->Shared->Prop) (E:Value->Shared->Prop),Q (.int (g i) s.toks) { s with toks:=s.toks+1}->wpAny (model X.prog X.w) X.A (f (.int i t)) Q E s):X3 X f (rU fun i=>.int (g i)):=by
 intro pins s σ H x v Q I rx h
 obtain⟨i,rfl,q⟩:=h
 obtain⟨t,rfl⟩:=rx
 exact rule i t s _ _ ⟨.int (g i),H,I.tok _,⟨_,rfl⟩,q⟩
theorem Qi:X3 X (unaryOp .USub) (rU fun i=>.int (-i)):=unI fun _ _ _ _ _ q=>neg_int q
end
noncomputable def L3:V->V->Bool
 | .cS,.cS=>true | .cS,.int _=>true | .int _,.cS=>true | .cS,.bl _=>true | .bl _,.cS=>true | .cS,.str _=>true | .str _,.cS=>true
 | .int _,.int _=>true | .bl _,.bl _=>true | .str _,.str _=>true | .Hk _,.Hk _=>true
 | .int _,.str _=>true | .str _,.int _=>true | .bl _,.str _=>true | .str _,.bl _=>true
 | _,_=>false
def rEq:R2:=fun x y H Q=>L3 x y=true/\Q (.bl (decide (x=y))) H
def rNe:R2:=fun x y H Q=>L3 x y=true/\Q (.bl (!decide (x=y))) H
theorem o4 {i j:Int}:decide (V.int i=V.int j)=(i == j):=by
 rw[abS]
 simp
theorem HJ {i j:Bool}:decide (V.bl i=V.bl j)=(i == j):=by
 rw[abS]
 simp
theorem o5 {i j:Str}:decide (V.str i=V.str j)=(i == j):=by
 rw[abS]
 simp
theorem D4 {i j:Array UInt8}:decide (V.Hk i=V.Hk j)=(i.toList == j.toList):=by
 rw[abS]
 cases i
 cases j
 simp
section
variable {X:Cx}{a b c:Expr}{ta tb tc:TE}{pos:Pos}
theorem bK {pins:List (Addr×Obj)}{σ:St}{H:Hp}{s:Shared}{Q:VK}{k k':Bool}(I:Inv X pins σ H s)(q:Q (.bl k) H)(e:k=k'):EP X pins σ Q (.bool k') s:=by
 subst e
 exact⟨.bl k,H,I,rfl,q⟩
theorem D5:oi X (compareOp .Eq) rEq:=by
 intro pins s σ H x y v u Q I rx ry h
 obtain⟨hs,q⟩:=h
 cases x with
 | cS=>
   cases rx
   cases y with
   | cS=>cases ry;exact PySem.EqNone.eq_none_none (bK I q (by simp))
   | bl j=>cases ry;exact PySem.EqNone.eq_none_bool (bK I q (by simp))
   | int j=>obtain⟨t',rfl⟩:=ry;exact PySem.EqNone.eq_none_int (bK I q (by simp))
   | str j=>obtain⟨t',rfl⟩:=ry;exact PySem.EqNone.eq_none_str (bK I q (by simp))
   | _=>exact absurd (show false=true from hs) aas
 | bl i=>
   cases rx
   cases y with
   | cS=>cases ry;exact PySem.EqNone.eq_bool_none (bK I q (by simp))
   | bl j=>cases ry;exact eq_bool (bK I q HJ)
   | str j=>obtain⟨t',rfl⟩:=ry;exact PySem.EqMixed.eq_bool_str (bK I q (by simp))
   | _=>exact absurd (show false=true from hs) aas
 | int i=>
   obtain⟨t,rfl⟩:=rx
   cases y with
   | cS=>cases ry;exact PySem.EqNone.eq_int_none (bK I q (by simp))
   | int j=>obtain⟨t',rfl⟩:=ry;exact eq_int (bK I q o4)
   | str j=>obtain⟨t',rfl⟩:=ry;exact PySem.EqMixed.eq_int_str (bK I q (by simp))
   | _=>exact absurd (show false=true from hs) aas
 | str i=>
   obtain⟨t,rfl⟩:=rx
   cases y with
   | cS=>cases ry;exact PySem.EqNone.eq_str_none (bK I q (by simp))
   | bl j=>cases ry;exact PySem.EqMixed.eq_str_bool (bK I q (by simp))
   | int j=>obtain⟨t',rfl⟩:=ry;exact PySem.EqMixed.eq_str_int (bK I q (by simp))
   | str j=>obtain⟨t',rfl⟩:=ry;exact eq_str (bK I q o5)
   | _=>exact absurd (show false=true from hs) aas
 | Hk i=>
   obtain⟨t,rfl⟩:=rx
   cases y with
   | Hk j=>obtain⟨t',rfl⟩:=ry;exact W.eq_bytes (bK I q D4)
   | _=>exact absurd (show false=true from hs) aas
 | _=>cases y <;> exact absurd (show false=true from hs) aas
theorem OB:oi X (compareOp .NotEq) rNe:=by
 intro pins s σ H x y v u Q I rx ry h
 obtain⟨hs,q⟩:=h
 cases x with
 | cS=>
   cases rx
   cases y with
   | cS=>cases ry;exact PySem.EqNone.ne_none_none (bK I q (by simp))
   | bl j=>cases ry;exact PySem.EqNone.ne_none_bool (bK I q (by simp))
   | int j=>obtain⟨t',rfl⟩:=ry;exact PySem.EqNone.ne_none_int (bK I q (by simp))
   | str j=>obtain⟨t',rfl⟩:=ry;exact PySem.EqNone.ne_none_str (bK I q (by simp))
   | _=>exact absurd (show false=true from hs) aas
 | bl i=>
   cases rx
   cases y with
   | cS=>cases ry;exact PySem.EqNone.ne_bool_none (bK I q (by simp))
   | bl j=>cases ry;exact ne_bool (bK I q (congrArg not HJ))
   | str j=>obtain⟨t',rfl⟩:=ry;exact PySem.EqMixed.ne_bool_str (bK I q (by simp))
   | _=>exact absurd (show false=true from hs) aas
 | int i=>
   obtain⟨t,rfl⟩:=rx
   cases y with
   | cS=>cases ry;exact PySem.EqNone.ne_int_none (bK I q (by simp))
   | int j=>obtain⟨t',rfl⟩:=ry;exact ne_int (bK I q (congrArg not o4))
   | str j=>obtain⟨t',rfl⟩:=ry;exact PySem.EqMixed.ne_int_str (bK I q (by simp))
   | _=>exact absurd (show false=true from hs) aas
 | str i=>
   obtain⟨t,rfl⟩:=rx
   cases y with
   | cS=>cases ry;exact PySem.EqNone.ne_str_none (bK I q (by simp))
   | bl j=>cases ry;exact PySem.EqMixed.ne_str_bool (bK I q (by simp))
   | int j=>obtain⟨t',rfl⟩:=ry;exact PySem.EqMixed.ne_str_int (bK I q (by simp))
   | str j=>obtain⟨t',rfl⟩:=ry;exact ne_str (bK I q (congrArg not o5))
   | _=>exact absurd (show false=true from hs) aas
 | Hk i=>
   obtain⟨t,rfl⟩:=rx
   cases y with
   | Hk j=>obtain⟨t',rfl⟩:=ry;exact W.ne_bytes (bK I q (congrArg not D4))
   | _=>exact absurd (show false=true from hs) aas
 | _=>cases y <;> exact absurd (show false=true from hs) aas
theorem OC:oi X (compareOp .Lt) (LY fun i j=>.bl (decide (i < j))):=LZ fun _ _ _ _ _ _ _ q=>lt_int q
theorem D6:oi X (compareOp .LtE) (LY fun i j=>.bl (decide (i<=j))):=LZ fun _ _ _ _ _ _ _ q=>le_int q
theorem OD:oi X (compareOp .Gt) (LY fun i j=>.bl (decide (j < i))):=LZ fun _ _ _ _ _ _ _ q=>gt_int q
theorem Um:oi X (compareOp .GtE) (LY fun i j=>.bl (decide (j<=i))):=LZ fun _ _ _ _ _ _ _ q=>ge_int q
theorem ko (b:Expr){op:CmpOp}(h:op≠.In:=by decide)(h2:op≠.NotIn:=by decide):behindInMarks op b=false:=by
 have e1:(op == CmpOp.In)=false:=by cases op <;> first | rfl | exact absurd rfl h
 have e2:(op == CmpOp.NotIn)=false:=by cases op <;> first | rfl | exact absurd rfl h2
 cases b <;> simp[behindInMarks,e1,e2]
theorem L5 {op:CmpOp}{r:R2}(ho:oi X (compareOp op) r)(ha:PE X a ta)(hb:PE X b tb)(hm:behindInMarks op b=false):PE X (.Compare a [op] [b] pos) (Ui r ta tb):=by
 intro pins s σ H Q I h
 exact wpAny_Compare1 (Qd ha hb I h fun v u s2 x y H2 I2 rx ry q=>ho pins s2 σ H2 x y v u Q I2 rx ry q) hm
def OE (t:TE):TT:=fun σ H Q=>t σ H fun x H'=>∃ k,x=.bl k/\Q k H'
theorem L6 {op:CmpOp}{r:R2}(ho:oi X (compareOp op) r)(ha:PE X a ta)(hb:PE X b tb)(hm:behindInMarks op b=false):PT X (.Compare a [op] [b] pos) (OE (Ui r ta tb)):=by
 intro pins s σ H Q I h
 refine wpAny_isTrue_Compare1 (bW (ha pins s σ H _ I h) fun v s1 ⟨x,H1,I1,r1,q1⟩=>bW (hb pins s1 σ H1 _ I1 q1) fun u s2 ⟨y,H2,I2,r2,q2⟩=>
   bW (ho pins s2 σ H2 x y v u _ I2 r1 r2 q2) fun c s3 ⟨z,H3,I3,r3,k,e,q3⟩=>?_) hm
 subst e
 cases r3
 exact wpAny_truthy_bool ⟨H3,I3,q3⟩
def HK (r r':R2)(ta tb tc:TE):TE:=fun σ H Q=>ta σ H fun x H1=>tb σ H1 fun y H2=>r x y H2 fun z H3=>∃ k,z=.bl k /\
 (if k=true then tc σ H3 fun w' H4=>r' y w' H4 Q else Q (.bl false) H3)
theorem HL {op CI:CmpOp}{r r':R2}(ho:oi X (compareOp op) r)(CD:oi X (compareOp CI) r')(ha:PE X a ta)(hb:PE X b tb)(hc:PE X c tc)(hm:lastMarks [op,CI] [b,c]=false:=by with_unfolding_all rfl):PE X (.Compare a [op,CI] [b,c] pos) (HK r r' ta tb tc):=by
 intro pins s σ H Q I h
 refine Compare_chain (bW (ha pins s σ H _ I h) fun v s1 ⟨x,H1,I1,r1,q1⟩=>chain_link (bW (hb pins s1 σ H1 _ I1 q1) fun u s2 ⟨y,H2,I2,r2,q2⟩=>
   bW (ho pins s2 σ H2 x y v u _ I2 r1 r2 q2) fun d s3 ⟨z,H3,I3,r3,k,e,q3⟩=>?_)) hm
 subst e
 cases r3
 refine wpAny_truthy_bool ?_
 cases k with
 | false=>exact ite_ff ⟨.bl false,H3,I3,rfl,q3⟩
 | true=>exact ite_tt (chain_last (bW (hc pins s3 σ H3 _ I3 q3) fun w' s4 ⟨z',H4,I4,r4,q4⟩=>CD pins s4 σ H4 y z' u w' Q I4 r2 r4 q4))
theorem HM {op CI:CmpOp}{r r':R2}(ho:oi X (compareOp op) r)(CD:oi X (compareOp CI) r')(ha:PE X a ta)(hb:PE X b tb)(hc:PE X c tc)(hm:lastMarks [op,CI] [b,c]=false:=by with_unfolding_all rfl):PT X (.Compare a [op,CI] [b,c] pos) (OE (HK r r' ta tb tc)):=by
 intro pins s σ H Q I h
 refine isTrue_chain (bW (ha pins s σ H _ I h) fun v s1 ⟨x,H1,I1,r1,q1⟩=>test_link (bW (hb pins s1 σ H1 _ I1 q1) fun u s2 ⟨y,H2,I2,r2,q2⟩=>
   bW (ho pins s2 σ H2 x y v u _ I2 r1 r2 q2) fun d s3 ⟨z,H3,I3,r3,k,e,q3⟩=>?_)) hm
 subst e
 cases r3
 refine wpAny_truthy_bool ?_
 cases k with
 | false=>
   obtain⟨k',e',q'⟩:=q3
   cases e'
   exact ite_ff ⟨H3,I3,q'⟩
 | true=>
   refine ite_tt (test_last (bW (hc pins s3 σ H3 _ I3 q3) fun w' s4 ⟨z',H4,I4,r4,q4⟩=>bW (CD pins s4 σ H4 y z' u w' _ I4 r2 r4 q4) fun d' s5 ⟨z2,H5,I5,r5,k2,e2,q5⟩=>?_))
   subst e2
   cases r5
   exact wpAny_truthy_bool ⟨H5,I5,q5⟩
theorem mf:(sizeLine:Nat) < 2 ^ 63:=by rw[sizeLine_eq];decide
theorem CJ:oi X (binaryOp .Add) (fun x y H Q=>∃ i j,x=.str i/\y=.str j/\i.length+j.length<=sizeLine/\Q (.str (i ++ j)) H):=by
 intro pins s σ H x y v u Q I rx ry h
 obtain⟨i,j,rfl,rfl,hz,q⟩:=h
 obtain⟨t,rfl⟩:=rx
 obtain⟨t',rfl⟩:=ry
 exact add_str (fun t' tk=>⟨.str (i ++ j),H,I.tok _,⟨_,rfl⟩,q⟩) hz
theorem vals1 {x:V}{us:List Value}(r:Vals [x] us):∃ u,us=[u]/\RelV x u:=by
 cases r with
 | cons r1 r2=>cases r2;exact⟨_,rfl,r1⟩
theorem vals2 {x y:V}{us:List Value}(r:Vals [x,y] us):∃ u w',us=[u,w']/\RelV x u/\RelV y w':=by
 cases r with
 | cons r1 r2=>
   cases r2 with
   | cons r3 r4=>cases r4;exact⟨_,_,rfl,r1,r3⟩
theorem F1 (hc:X.calm=true):ka X (.builtin "max") (fun xs H Q=>∃ i j,xs=[.int i,.int j]/\Q (.int (if j > i then j else i)) H):=by
 intro pins s σ H xs us Q I r h
 obtain⟨i,j,rfl,q⟩:=h
 obtain⟨u,w',rfl,⟨t,rfl⟩,⟨t',rfl⟩⟩:=vals2 r
 refine max_two_ints (I.ok.hd hc) fun h' tk k=>⟨_,H,I.kept k,?_,q⟩
 by_cases hj:j > i
 . rw[if_pos hj,if_pos hj];exact⟨_,rfl⟩
 . rw[if_neg hj,if_neg hj];exact⟨_,rfl⟩
theorem F2 (hc:X.calm=true):ka X (.builtin "min") (fun xs H Q=>∃ i j,xs=[.int i,.int j]/\Q (.int (if j < i then j else i)) H):=by
 intro pins s σ H xs us Q I r h
 obtain⟨i,j,rfl,q⟩:=h
 obtain⟨u,w',rfl,⟨t,rfl⟩,⟨t',rfl⟩⟩:=vals2 r
 refine min_two_ints (I.ok.hd hc) fun h' tk k=>⟨_,H,I.kept k,?_,q⟩
 by_cases hj:j < i
 . rw[if_pos hj,if_pos hj];exact⟨_,rfl⟩
 . rw[if_neg hj,if_neg hj];exact⟨_,rfl⟩
theorem F3:ka X (.type "int") (fun xs H Q=>(∃ i,xs=[.int i]/\Q (.int i) H)\/∃ k,xs=[.bl k]/\Q (.int (if k then 1 else 0)) H):=by
 intro pins s σ H xs us Q I r h
 rcases h with⟨i,rfl,q⟩ | ⟨k,rfl,q⟩
 . obtain⟨u,rfl,t,rfl⟩:=vals1 r
   exact call_int_int ⟨.int i,H,I,⟨_,rfl⟩,q⟩
 . obtain⟨u,rfl,r1⟩:=vals1 r
   cases r1
   exact call_int_bool ⟨.int (if k then 1 else 0),H,I.tok _,⟨_,rfl⟩,q⟩
end
structure CK (h:Heap)(x dx C:Addr)(mA:Str->Option Value):Prop where
 obj:h.get? x=some (W.instObj C dx)
 ns:h.Ns1 dx mA
 ne:dx≠x
theorem F4 {h:Heap}{dx:Addr}{mA:Str->Option Value}(n:h.Ns1 dx mA):∃ od,h.get? dx=some od/\∀ name,W.lookIn name od=some (mA name):=by
 obtain⟨o,es,ep,ho,hd,hk,_,hm⟩:=n
 refine⟨o,ho,fun name=>?_⟩
 have e:=hm name
 unfold nsFind findBy at e
 rw[<- Array.find?_toList] at e
 unfold W.lookIn
 rw[hd]
 dsimp only
 split
 . rename_i y q
   rw[q] at e
   exact congrArg some e
 . rename_i q
   rw[q] at e
   have a:es.toList.any (·.refKey)=false:=by
     rw[List.any_eq_false]
     intro y hy
     obtain⟨z,t,X4⟩:=hk y (Array.mem_toList_iff.mp hy)
     simp[DictEntry.refKey,X4]
   have a':¬ es.toList.any (·.refKey)=true:=by rw[a];exact aas
   rw[if_neg a']
   exact congrArg some e
theorem CK.look {h:Heap}{x dx C:Addr}{mA:Str->Option Value}(I:CK h x dx C mA):∃ od,W.InstAt h x (W.instObj C dx) C (some od)/\∀ name,W.lookIn name od=some (mA name):=
 let ⟨od,ho,hl⟩:=F4 I.ns
 ⟨od,⟨I.obj,rfl,rfl,ho⟩,hl⟩
section
variable {prog:Program}{w:World}{A:Around}{E:Value->Shared->Prop}{s:Shared}{K:W.Frag}{x dx C f:Addr}{mA:Str->Option Value}{name:Str}{v:Value}
theorem get_map {expr:Bool}{Q:Value->Shared->Prop}(X:K.In s.heap)(I:CK s.heap x dx C mA)(hg:W.plainGet K C name=true)(hh:W.hasDictIn K C=true)(ha:W.findIn K (.ref C) name=some none)(hv:mA name=some v)(OF:W.handedIn v=true)(h:Q v { s with toks:=s.toks+1}):wpAny (model prog w) A (getAttr (.ref x) name expr) Q E s:=by
 obtain⟨od,J,hl⟩:=I.look
 exact W.get_value X J (W.plainGet_of hg).1 (W.findObj_own hh ha rfl (by rw[hl,hv])) OF h
theorem HN {pl:Sem Bool}{Q:Value×List Value->Shared->Prop}(X:K.In s.heap)(I:CK s.heap x dx C mA)(hg:W.plainGet K C name=true)(hf:W.findIn K (.ref C) name=some (some (.ref f)))(ht:W.isFn K (.ref f)=true)(hv:mA name=none)(h:Q (.ref f,[.ref x]) s):wpAny (model prog w) A (getMethod (.ref x) name pl) Q E s:=by
 obtain⟨od,J,hl⟩:=I.look
 exact W.method_fn X J (W.plainGet_of hg).1 (W.plainGet_of hg).2 hf (beq_iff_eq.mp ht) (by show(W.lookIn name od).map (·.isSome)=some false;rw[hl,hv];rfl) h
theorem L7 {ns:List Str}{Q:Unit->Shared->Prop}(X:K.In s.heap)(I:CK s.heap x dx C mA)
   (hs:W.findIn K (.ref C) "__setattr__"=some (some (.builtin "object.__setattr__"))) (hp:W.plainOver K C=true) (ht:W.takerIn K C name=some none) (hh:W.hasDictIn K C=true)
   (hw:PySem.Within mA ns) (hsz:ns.length<=sizeLine)
   (h:∀ h',CK h' x dx C (fun y=>if y=name then some v else mA y)->abt dx s.heap h'->Q () { s with heap:=h',toks:=s.toks+2}) :
   wpAny (model prog w) A (setAttr (.ref x) name v) Q E s:=by
 obtain⟨od,J,hl⟩:=I.look
 refine W.set_plain X J hs (W.osa_open (s:={ s with toks:=s.toks+1}) (r:=none) X J hp ht fun b=>?_)
 obtain⟨cd,hc,Tw⟩:=W.any_some hh
 have hx:s.heap.get? x=some ⟨.ref C,some dx,.plain,#[]⟩:=I.obj
 refine wpAny_bind (wpAny_pure (wpAny_bind (wpAny_bind (wpAny_loadPart hx (wpAny_bind (W.Looks.here (s:={ s with toks:=s.toks+1}) (W.looks_clsIn X hc) ?_))))))
 rw[Tw]
 refine wpAny_pure (a:=some dx) (wpAny_bind (wpAny_pure (wpAny_bind ?_)))
 refine wpAny_nsSet1 (s:={ s with toks:=s.toks+1}) I.ns fun h' Tx ye=>?_
 obtain⟨oD,esD,epD,hoD,hdD,L8⟩:=Tx.count (PySem.Within.cons name v hw)
 refine wpAny_bind (wpAny_lookBehind hoD (by rw[hdD];exact pastItsLine_dict (aaA L8 (by rw[aaN];omega))) ?_)
 exact wpAny_pure (h _ ⟨(ye.2 _ (Ne.symm I.ne)).trans I.obj,Tx,I.ne⟩ ye)
theorem HP {R:Result->Shared->Prop}{vs:List Value}{kw:List (Str×Value)}(X:K.In s.heap)(hm:W.makesIn K C=true)(hi:W.findIn K (.ref C) "__init__"=some (some (.ref f)))(hf:W.typeIn K (.ref f)=some (.type "function"))(h:codeAny (model prog w) (A.under (.builtin "type.__call__" ⟨.ref C::vs,kw⟩)) (.call (.ref f) ⟨.ref (s.heap.objs.size+1)::vs,kw⟩) (W.InitBack (s.heap.objs.size+1) R) { s with heap:=(s.heap.push W.emptyDict).push (W.instObj C s.heap.objs.size)}):codeAny (model prog w) A (.call (.ref C) ⟨vs,kw⟩) R s:=by
 obtain⟨hh,g,d,t,os⟩:=s
 exact W.make_core (W.makes_of X hm) (W.looks_findIn X hi) (fun self=>W.bind_fn X self hf) (.inl rfl) h
theorem F5 {R:Result->Shared->Prop}(X:K.In s.heap)(hm:W.makesIn K C=true)(hi:W.findIn K (.ref C) "__init__"=some (some (.builtin "object.__init__")))(hb:∀ self,W.Looks (model prog w) s.heap (bindSpecial (.builtin "object.__init__") self) (.builtin "object.__init__",[self]))(h:codeAny (model prog w) (A.under (.builtin "type.__call__" ⟨[.ref C],[]⟩)) (.call (.builtin "object.__init__") ⟨[.ref (s.heap.objs.size+1)],[]⟩) (W.InitBack (s.heap.objs.size+1) R) { s with heap:=(s.heap.push W.emptyDict).push (W.instObj C s.heap.objs.size)}):codeAny (model prog w) A (.call (.ref C) ⟨[],[]⟩) R s:=by
 obtain⟨hh,g,d,t,os⟩:=s
 exact W.make_core (W.makes_of X hm) (W.looks_findIn X hi) hb (.inr ⟨rfl,rfl⟩) h
end
noncomputable def fA (f:Str)(v:V):List (Str×V)->List (Str×V)
 | []=>[(f,v)]
 | (g,x)::r=>if g=f then (g,v)::r else (g,x)::fA f v r
theorem oo (f g:Str)(v:V):∀ fs:List (Str×V),(fA f v fs).lookup g=if g=f then some v else fs.lookup g
 | []=>by
   show abD g [(f,v)]=_
   by_cases h:g=f
   . have hb:(g == f)=true:=beq_iff_eq.mpr h
     simp only[abD,hb,if_pos h]
   . have hb:(g == f)=false:=beq_eq_false_iff_ne.mpr h
     simp only[abD,hb,if_neg h]
 | (k,x)::r=>by
   have ih:=oo f g v r
   rw[show fA f v ((k,x)::r)=(if k=f then (k,v)::r else (k,x)::fA f v r) from rfl]
   by_cases hk:k=f
   . rw[if_pos hk]
     by_cases h:g=k
     . have hb:(g == k)=true:=beq_iff_eq.mpr h
       simp only[abD,hb,if_pos (h.trans hk)]
     . have hb:(g == k)=false:=beq_eq_false_iff_ne.mpr h
       simp only[abD,hb,if_neg (fun e:g=f=>h (e.trans hk.symm))]
   . rw[if_neg hk]
     by_cases h:g=k
     . have hb:(g == k)=true:=beq_iff_eq.mpr h
       simp only[abD,hb,if_neg (fun e:g=f=>hk (h.symm.trans e))]
     . have hb:(g == k)=false:=beq_eq_false_iff_ne.mpr h
       simp only[abD,hb]
       exact ih
theorem r6 (f:Str)(v:V):∀ fs:List (Str×V),f∈(fA f v fs).map (·.1)/\∀ g,g∈fs.map (·.1)->g∈(fA f v fs).map (·.1)
 | []=>⟨by simp[fA],fun g h=>by simp at h⟩
 | (k,x)::r=>by
   obtain⟨i1,i2⟩:=r6 f v r
   rw[show fA f v ((k,x)::r)=(if k=f then (k,v)::r else (k,x)::fA f v r) from rfl]
   by_cases hk:k=f
   . rw[if_pos hk]
     subst hk
     exact⟨by simp,fun g h=>by simpa using h⟩
   . rw[if_neg hk]
     refine⟨?_,fun g h=>?_⟩
     . rw[aau]
       exact aaJ _ i1
     . rw[aau] at h ⊢
       rcases aaH.mp h with e | e
       . exact aaH.mpr (.inl e)
       . exact aaJ _ (i2 g e)
theorem tK (f:Str)(v:V):∀ fs:List (Str×V),(fA f v fs).length<=fs.length+1
 | []=>by simp[fA]
 | (k,x)::r=>by
   have ih:=tK f v r
   rw[show fA f v ((k,x)::r)=(if k=f then (k,v)::r else (k,x)::fA f v r) from rfl]
   by_cases hk:k=f
   . rw[if_pos hk,aaN,aaN];omega
   . rw[if_neg hk,aaN,aaN];omega
theorem pV.some_of {v:V}{o:Option Value}(r:pV (some v) o):∃ u,o=some u/\RelV v u:=by
 cases o with
 | none=>exact(show False from r).elim
 | some u=>exact⟨u,rfl,r⟩
theorem pV.none_of {o:Option Value}(r:pV none o):o=none:=by
 cases o with
 | none=>rfl
 | some u=>exact(show False from r).elim
theorem F6 {v:V}{u:Value}(r:RelV v u):W.handedIn u=true:=by
 cases v with
 | cS=>cases (show u=Value.none from r);rfl
 | bl b=>cases (show u=Value.bool b from r);rfl
 | int i=>obtain⟨t,e⟩:=(show ∃ t,u=Value.int i t from r);cases e;rfl
 | str x=>obtain⟨t,e⟩:=(show ∃ t,u=Value.str x t from r);cases e;rfl
 | Hk b=>obtain⟨t,e⟩:=(show ∃ t,u=Value.bytes b t from r);cases e;rfl
 | PM b=>obtain⟨t,e⟩:=(show ∃ t,u=Value.float b t from r);cases e;rfl
 | ref a=>cases (show u=Value.ref a from r);rfl
 | ty n=>cases (show u=Value.type n from r);rfl
section
variable {P:Program}{w:World}{H:Hp}{h:Heap}{a C dx:Addr}{fs:List (Str×V)}
theorem uF (bu:qN P w H h)(e:Rd H a (.ins C dx fs)):∃ mA,CK h a dx C mA/\(∀ f,pV (fs.lookup f) (mA f))/\PySem.Within mA (fs.map (·.1))/\fs.length<=1000/\H dx=some (.own a):=by
 obtain⟨d,z,ne,ob,mA,n,r,q⟩:=(show aP P w H h a (.ins C dx fs) from e.ok bu)
 exact⟨mA,⟨ob,n,ne⟩,r,q,z,d⟩
end
structure uG (K:W.Frag)(C:Addr):Prop where
 pg:W.plainGet K C Str.empty=true
 hd:W.hasDictIn K C=true
 po:W.plainOver K C=true
 sa:W.findIn K (.ref C) "__setattr__"=some (some (.builtin "object.__setattr__"))
theorem uG.get {K:W.Frag}{C:Addr}(c:uG K C)(f:Str):W.plainGet K C f=true:=c.pg
def bL (K:W.Frag)(C:Addr)(f:Str):Prop:=W.findIn K (.ref C) f=some none
theorem bL.Uo {K:W.Frag}{C:Addr}{f:Str}(n:bL K C f):W.takerIn K C f=some none:=by
 unfold W.takerIn
 rw[show W.findIn K (.ref C) f=some none from n]
 rfl
structure Con (K:W.Frag)(C:Addr)(f:Str)(v:V)(u:Value):Prop where
 at_:W.findIn K (.ref C) f=some (some u)
 rel:RelV v u
 get:W.specialIn K u "__get__"=some none
 cp:W.copiedNames.contains f=false
structure Meth (K:W.Frag)(C:Addr)(m:Str)(f:Addr):Prop where
 at_:W.findIn K (.ref C) m=some (some (.ref f))
 fn:W.isFn K (.ref f)=true
 kp:W.keepIn K (.ref f)=true
section
variable {X:Cx}{pins:List (Addr×Obj)}{σ:St}{H:Hp}{s:Shared}{a C dx:Addr}{fs:List (Str×V)}{f:Str}{v:V}{A:Around}{E:Value->Shared->Prop}
theorem CL {b:Bool}{Q:Value->Shared->Prop}(I:Inv X pins σ H s)(e:Rd H a (.ins C dx fs))(c:uG X.K C)(n:bL X.K C f)(l:fs.lookup f=some v)(h:∀ u s',Inv X pins σ H s'->RelV v u->Q u s'):wpAny (model X.prog X.w) A (getAttr (.ref a) f b) Q E s:=by
 obtain⟨mA,O,r,_,_,_⟩:=uF I.bu e
 obtain⟨u,hu,ru⟩:=pV.some_of (v:=v) (o:=mA f) (by rw[<- l];exact r f)
 exact get_map I.mX O (c.get f) c.hd n hu (F6 ru) (h u _ (I.tok _) ru)
theorem vt {m:Str}{g:Addr}{pl:Sem Bool}{Q:Value×List Value->Shared->Prop}(I:Inv X pins σ H s)(e:Rd H a (.ins C dx fs))(c:uG X.K C)(k:Meth X.K C m g)(l:fs.lookup m=none)(h:Q (.ref g,[.ref a]) s):wpAny (model X.prog X.w) A (getMethod (.ref a) m pl) Q E s:=by
 obtain⟨mA,O,r,_,_,_⟩:=uF I.bu e
 have hn:mA m=none:=pV.none_of (by rw[<- l];exact r m)
 exact HN I.mX O (c.get m) k.at_ k.fn hn h
theorem CM {y:V}{u:Value}{Q:Unit->Shared->Prop}(I:Inv X pins σ H s)(e:H a=some (.ins C dx fs))(c:uG X.K C)(n:bL X.K C f)(hl:fs.length < 1000)(ry:RelV y u)(h:∀ s',Inv X pins σ (upd H a (.ins C dx (fA f y fs))) s'->Q () s'):wpAny (model X.prog X.w) A (setAttr (.ref a) f u) Q E s:=by
 obtain⟨mA,O,r,wi,_,ho⟩:=uF I.bu (.of e)
 have hz:(fs.map (·.1)).length<=sizeLine:=by rw[k5,sizeLine_eq];omega
 refine L7 I.mX O c.sa c.po n.Uo c.hd wi hz fun h' O' sb=>h _ ?_
 have hd:∃ o,h'.get? dx=some o:=let ⟨o,_,_,e',_⟩:=O'.ns;⟨o,e'⟩
 refine I.write (x:=a) (e:=dx) (by rw[e];exact True.intro) (.inr ho) (fun b q hb z=>(sb.2 b hb).trans z) hd ?_
 refine⟨by rw[aj O.ne];exact ho,?_,O.ne,O'.obj,_,O'.ns,fun g=>?_,fun g hg=>?_⟩
 . have:=tK f y fs;omega
 . show pV ((fA f y fs).lookup g) (if g=f then some u else mA g)
   rw[oo]
   by_cases q:g=f
   . rw[if_pos q,if_pos q];exact ry
   . rw[if_neg q,if_neg q];exact r g
 . by_cases q:g=f
   . rw[q];exact(r6 f y fs).1
   . refine(r6 f y fs).2 g (wi g fun z=>hg ?_)
     show(if g=f then some u else mA g)=none
     rw[if_neg q];exact z
theorem Inv.made (I:Inv X pins σ H s):Inv X pins σ (upd (upd H s.heap.objs.size (.own (s.heap.objs.size+1))) (s.heap.objs.size+1) (.ins C s.heap.objs.size [])) { s with heap:=(s.heap.push W.emptyDict).push (W.instObj C s.heap.objs.size)}:=by
 have e1:(s.heap.push W.emptyDict).get? s.heap.objs.size=some W.emptyDict:=aat s.heap rfl
 have e2:((s.heap.push W.emptyDict).push (W.instObj C s.heap.objs.size)).get? (s.heap.objs.size+1)=some (W.instObj C s.heap.objs.size):=by
   have:=aat (s.heap.push W.emptyDict) (o:=W.instObj C s.heap.objs.size) rfl
   rwa [abc] at this
 have e3:(s.heap.push W.emptyDict).Ns s.heap.objs.size (fun _=>none):=⟨W.emptyDict,#[],_,e1,rfl,(fun e he=>absurd he (by simp)),fun _=>rfl⟩
 have I1:=I.laid (a:=s.heap.objs.size) (o:=.own (s.heap.objs.size+1)) (h':=s.heap.push W.emptyDict) (t':=s.toks) (fun b u q=>aag _ q) (aaa _) ⟨_,e1⟩
 refine I1.laid (a:=s.heap.objs.size+1) (o:=.ins C s.heap.objs.size []) (t':=s.toks) (fun b u q=>aag _ q) (Nat.le_of_eq (abc _ _)) ?_
 have ne:s.heap.objs.size≠s.heap.objs.size+1:=aaw (abh _)
 refine⟨by rw[aj ne,ak],aaW _,ne,e2,fun _=>none,(Heap.Ns1.of_empty e3).at fun o q=>aag _ q,fun _=>True.intro,fun y hy=>absurd rfl hy⟩
theorem L9 {prog:Program}{w:World}{env:Env}{e:Expr}{f:Str}{pos:Pos}{s:Shared}{Q:Value->Shared->Prop}(hb:attributeBase e f env (eval e env)=eval e env)(h:wpAny (model prog w) A (eval e env) (fun o s₁=>wpAny (model prog w) A (getAttr o f true) Q E s₁) E s):wpAny (model prog w) A (eval (.Attribute e f pos) env) Q E s:=
 Attribute_any_ h (by rw[arm_eval_Attribute,hb])
end
def X5 (K:PySem.W.Frag)(ta:TE)(f:Str):TE:=fun σ H Q=>ta σ H fun x H1=>∃ a C dx fs v,x=.ref a/\Rd H1 a (.ins C dx fs)/\uG K C/\bL K C f/\fs.lookup f=some v/\Q v H1
def X6 (K:PySem.W.Frag)(ta tv:TE)(f:Str):TS:=fun D σ H=>tv σ H fun y H1=>ta σ H1 fun x H2=>∃ a C dx fs,x=.ref a/\H2 a=some (.ins C dx fs)/\uG K C/\bL K C f/\fs.length < 1000 /\
 D.nx σ (upd H2 a (.ins C dx (fA f y fs)))
section
variable {X:Cx}{o e value:Expr}{f:Str}{pos pos':Pos}{ta tv:TE}
theorem vv (he:PE X e ta)(hb:attributeBase e f X.env (eval e X.env)=eval e X.env):PE X (.Attribute e f pos) (X5 X.K ta f):=by
 intro pins s σ H Q I h
 refine L9 hb (bW (he pins s σ H _ I h) fun u s1 ⟨x,H1,I1,rx,a,C,dx,fs,v,ex,ea,c,n,l,q⟩=>?_)
 subst ex
 obtain rfl:u=Value.ref a:=rx
 exact CL I1 ea c n l fun u' s2 I2 ru=>⟨v,H1,I2,ru,q⟩
theorem vw (ha:PE X o ta)(hv:PE X value tv)(hs:swapsWith value (some (.Attribute o f pos')) pos.line X.env=pure false):PS X (.Assign [.Attribute o f pos'] value pos) (X6 X.K ta tv f):=by
 intro pins s σ H D I h
 refine plainObj_wpAny_Assign_Attribute (bW (hv pins s σ H _ I h) fun u s1 ⟨y,H1,I1,ry,q⟩=>bW (ha pins s1 σ H1 _ I1 q) fun ov s2 ⟨x,H2,I2,rx,a,C,dx,fs,ex,ea,c,n,l,q2⟩=>?_) hs
 subst ex
 obtain rfl:ov=Value.ref a:=rx
 exact CM I2 ea c n l ry fun s3 I3=>⟨σ,_,I3,q2⟩
end
section
variable {X:Cx}{pins:List (Addr×Obj)}{σ:St}{H:Hp}{s:Shared}{A:Around}{E:Value->Shared->Prop}{Q:Value->Shared->Prop}{c:Value}{b:Bool}
inductive t7 (K:W.Frag)(H:Hp):V->Value->Prop where
 | cS:t7 K H .cS (.type "NoneType")
 | bl (x:Bool):t7 K H (.bl x) (.type "bool")
 | int (i:Int):t7 K H (.int i) (.type "int")
 | str (x:Str):t7 K H (.str x) (.type "str")
 | PM (x:UInt64):t7 K H (.PM x) (.type "float")
 | lst {a:Addr} {xs:List V} (e:H a=some (.lst xs)):t7 K H (.ref a) (.type "list")
 | bG {a:Addr} {o:Obj} {xs:List V} (e:H a=some (.bG o (.lst xs))):t7 K H (.ref a) (.type "list")
 | tup {a:Addr} {xs:List V} (e:H a=some (.tup xs)):t7 K H (.ref a) (.type "tuple")
 | dK {a:Addr} {kvs:List (Key×V)} (e:H a=some (.dK kvs)):t7 K H (.ref a) (.type "dict")
 | dT {a:Addr} {kvs:List (List Key×V)} (e:H a=some (.dT kvs)):t7 K H (.ref a) (.type "dict")
 | ins {a C dx:Addr} {fs:List (Str×V)} (e:Rd H a (.ins C dx fs)) (cl:uG K C) (ha:W.findIn K (.ref C) "__class__"=some (some (.builtin "object.__class__")))
     (hn:W.specialIn K (.builtin "object.__class__") "__get__"=some (some (.builtin "getset_descriptor.__get__"))) (Qj:W.takesIn K (.builtin "object.__class__")=some true)
     (hm:W.mroIn K C (.type "object")=some true):t7 K H (.ref a) (.ref C)
theorem r8 {x:V}{u t:Value}(I:Inv X pins σ H s)(rx:RelV x u)(ty:t7 X.K H x t)(e:W.kitOne X.K t c=some b)(h:∀ tk,Q (.bool b) { s with toks:=tk}):wpAny (model X.prog X.w) A (call (.builtin "isinstance") [u,c]) Q E s:=by
 cases ty with
 | cS=>cases (show u=Value.none from rx);exact W.kia_one W.kitx_none I.mX True.intro e (fun z=>nomatch z) h
 | bl y=>cases (show u=Value.bool y from rx);exact W.kia_one W.kitx_bool I.mX True.intro e (fun z=>nomatch z) h
 | int i=>obtain⟨t,q⟩:=(show ∃ t,u=Value.int i t from rx);cases q;exact W.kia_one W.kitx_int I.mX True.intro e (fun z=>nomatch z) h
 | str y=>obtain⟨t,q⟩:=(show ∃ t,u=Value.str y t from rx);cases q;exact W.kia_one W.kitx_str I.mX True.intro e (fun z=>nomatch z) h
 | PM y=>obtain⟨t,q⟩:=(show ∃ t,u=Value.float y t from rx);cases q;exact W.kia_one W.kitx_float I.mX True.intro e (fun z=>nomatch z) h
 | @lst a xs ea=>
   cases (show u=Value.ref a from rx)
   obtain⟨_,_,n,_,h1⟩:=(show aP X.prog X.w H s.heap a (.lst xs) from I.bu a _ ea)
   exact W.kia_one W.kitx_list I.mX ⟨_,h1,rfl⟩ e (fun z=>nomatch z) h
 | @bG a ob xs ea=>
   cases (show u=Value.ref a from rx)
   obtain⟨_,_,_,n,_,h1⟩:=(show aP X.prog X.w H s.heap a (.bG ob (.lst xs)) from I.bu a _ ea)
   exact W.kia_one W.kitx_list I.mX ⟨_,h1,rfl⟩ e (fun z=>nomatch z) h
 | @tup a xs ea=>
   cases (show u=Value.ref a from rx)
   obtain⟨_,_,_,p⟩:=(show aP X.prog X.w H s.heap a (.tup xs) from I.bu a _ ea)
   obtain⟨o,h1,h2,_⟩:=p
   exact W.kia_one W.kitx_tuple I.mX ⟨o,h1,h2⟩ e (fun z=>nomatch z) h
 | @dK a kvs ea=>
   cases (show u=Value.ref a from rx)
   obtain⟨_,_,vs,_,p⟩:=(show aP X.prog X.w H s.heap a (.dK kvs) from I.bu a _ ea)
   obtain⟨o,es,ep,h1,h2,_⟩:=p
   exact W.kia_one W.kitx_dict I.mX ⟨o,h1,h2.1⟩ e (fun z=>nomatch z) h
 | @dT a kvs ea=>
   cases (show u=Value.ref a from rx)
   obtain⟨_,_,xs,_,o,es,ep,h1,h2,_⟩:=(show aP X.prog X.w H s.heap a (.dT kvs) from I.bu a _ ea)
   exact W.kia_one W.kitx_dict I.mX ⟨o,h1,h2.1⟩ e (fun z=>nomatch z) h
 | @ins a C dx fs ea cl ha hn Qj hm=>
   cases (show u=Value.ref a from rx)
   obtain⟨mA,O,_⟩:=uF I.bu ea
   obtain⟨od,J,_⟩:=O.look
   exact W.kia_one (W.kitx_own (cl.get _) cl.hd ha hn Qj hm) I.mX J e (fun z=>nomatch z) h
end
structure eZ (k:Nat)(A:Around):Prop where
 hd:A.handled=none
 dp:A.depth+3 * k+5 < recursionLimit
 un:A.units+16 * k+200 < cLine
theorem eZ.mono {j k:Nat}{A:Around}(r:eZ k A)(h:j<=k):eZ j A:=⟨r.hd,by have:=r.dp;omega,by have:=r.un;omega⟩
theorem eZ.deeper {k:Nat}{A:Around}(r:eZ (k+1) A)(env:Env):eZ k (A.deeper env):=
 ⟨r.hd,by have:=r.dp;show A.depth+1+3 * k+5 < _;omega,by have:=r.un;show A.units+3+16 * k+200 < _;omega⟩
theorem CN {A:Around}{C:Addr}{us:List Value}{kw:List (Str×Value)}:(A.under (.builtin "type.__call__" ⟨.ref C::us,kw⟩)).depth=A.depth+1:=by
 first | rfl | simp[Around.under,Code.weight,Code.isCreation,Code.isGuard,Code.isCaller,Code.frames,Code.isFrame,guardIds]
theorem CO {A:Around}{C:Addr}{us:List Value}{kw:List (Str×Value)}:(A.under (.builtin "type.__call__" ⟨.ref C::us,kw⟩)).units=A.units+1:=by
 first | rfl | simp[Around.under,Code.cUnits,Code.frames,Code.isFrame]
theorem eZ.make {k:Nat}{A:Around}(r:eZ (k+1) A)(C:Addr)(us:List Value)(kw:List (Str×Value)):eZ k (A.under (.builtin "type.__call__" ⟨.ref C::us,kw⟩)):=
 ⟨r.hd,by have:=r.dp;rw[CN];omega,by have:=r.un;rw[CO];omega⟩
theorem eZ.depth {k:Nat}{A:Around}(r:eZ k A):A.depth < recursionLimit:=by have:=r.dp;omega
theorem eZ.units {k:Nat}{A:Around}(r:eZ k A):A.units+64 < cLine:=by have:=r.un;omega
def Up:TA:=fun _ H Q=>Q [] H
def Uq (ta:TE)(tr:TA):TA:=fun σ H Q=>ta σ H fun x H1=>tr σ H1 fun xs H2=>Q (x::xs) H2
section
variable {X:Cx}{e:Expr}{es:List Expr}{te:TE}{t:TA}{pos:Pos}
theorem ow:PA X [] Up:=fun _ _ _ _ H Q I h=>Calls.spliced_nil ⟨[],H,I,.nil,h⟩
theorem lU (ha:PE X e te)(hr:PA X es t)(hs:starEach (e::es) X.env=(false,eval e X.env)::starEach es X.env:=by rfl):PA X (e::es) (Uq te t):=by
 intro pos pins s σ H Q I h
 rw[hs]
 show wpAny _ _ (spliced ((false,eval e X.env)::backTo pos (starEach es X.env))) _ _ s
 refine Calls.spliced_cons (bW (ha pins s σ H _ I h) fun u s1 ⟨x,H1,I1,r1,q1⟩=>?_)
 exact bW (hr pos pins s1 σ H1 _ I1 q1) fun us s2 ⟨xs,H2,I2,r2,q2⟩=>⟨x::xs,H2,I2,.cons r1 r2,q2⟩
def X7 (t:TA):TE:=fun σ H Q=>t σ H fun xs H1=>xs.length<=sizeLine/\∀ p,H1 p=none->Q (.ref p) (upd H1 p (.tup xs))
def X8 (t:TA):TE:=fun σ H Q=>t σ H fun xs H1=>xs.length<=sizeLine/\∀ p,H1 p=none->Q (.ref p) (upd H1 p (.lst xs))
theorem Qk {x1}(h:PA X es t):PE X (.Tuple es x1 pos) (X7 t):=by
 intro pins s σ H Q I hq
 refine wpAny_Tuple_spliced (bW (h pos pins s σ H _ I hq) fun us s1 ⟨xs,H1,I1,r,z,q⟩=>⟨by rw[<- r.length];exact z,?_⟩)
 have hf:H1 s1.heap.objs.size=none:=I1.bu.fresh (aaa _)
 refine⟨.ref s1.heap.objs.size,upd H1 s1.heap.objs.size (.tup xs),I1.laid (t':=s1.toks) (fun b u e=>aag _ e) (aaa _) ?_,rfl,q _ hf⟩
 exact⟨z,us,r,⟨_,aat _ rfl,rfl,_,rfl⟩⟩
theorem vx (h:PA X es t):PE X (.List es pos) (X8 t):=by
 intro pins s σ H Q I hq
 refine wpAny_List_spliced (bW (h pos pins s σ H _ I hq) fun us s1 ⟨xs,H1,I1,r,z,q⟩=>⟨by rw[<- r.length];exact z,?_⟩)
 have hf:H1 s1.heap.objs.size=none:=I1.bu.fresh (aaa _)
 refine⟨.ref s1.heap.objs.size,upd H1 s1.heap.objs.size (.lst xs),I1.laid (t':=s1.toks) (fun b u e=>aag _ e) (aaa _) ?_,rfl,q _ hf⟩
 exact⟨z,us,0,r,aat _ rfl⟩
end
abbrev Sp:=List V->Hp->VK->XK->Prop
abbrev sd:=List Env->Hp->Shared->XK->Value->Shared->Prop
structure A0 (P:Program)(w:World)(K:W.Frag)(mg:Str->Option Value)(base:Heap)(A:Around)(outer:List Env)(s:Shared)(H:Hp):Prop where
 frames:A.frames=some outer
 mod:Mod K mg base
 bs:∀ b o,base.get? b=some o->s.heap.get? b=some o/\H b=none
 DY:base.objs.size<=s.heap.objs.size
 rY:s.heap.FunFrames base outer
 Ov:∀ b∈Hz outer,H b=none
 bu:qN P w H s.heap
 bare:AllBare s.gens
def CE (outer:List Env)(P:Program)(w:World)(H:Hp)(s:Shared)(Q:VK)(u:Value)(s':Shared):Prop:=
 ∃ v H',s'.os=s.os/\AllBare s'.gens/\Un (Hz outer) [] H H' s.heap s'.heap/\qN P w H' s'.heap/\RelV v u/\Q v H'
def CR (CX:sd)(outer:List Env)(P:Program)(w:World)(H:Hp)(s:Shared)(Q:VK)(E:XK)(r:Result)(s':Shared):Prop:=
 match r with
 | .ok (.ret u)=>CE outer P w H s Q u s'
 | .ok _=>False
 | .error e=>CX outer H s E e s'
structure ke (P:Program)(w:World)(K:W.Frag)(mg:Str->Option Value)(base:Heap)(CX:sd)(k:Nat)(f:Addr)(fd:FuncData)(ps:List Str)(sp:Sp):Prop where
 len:∀ vs H Q E,sp vs H Q E->vs.length=ps.length
 run:∀ (A:Around) (outer:List Env) (s:Shared) (H:Hp) (args:Args) (us:List Value) (vs:List V) (Q:VK) (E:XK),eZ k A->A0 P w K mg base A outer s H->BindsTo s fd args (ps.zip us)->Vals vs us->sp vs H Q E ->
   codeAny (model P w) A (.call (.ref f) args) (CR CX outer P w H s Q E) s
theorem A0.make {P:Program}{w:World}{K:W.Frag}{mg:Str->Option Value}{base:Heap}{A:Around}{outer:List Env}{s:Shared}{H:Hp}(e:A0 P w K mg base A outer s H)(C:Addr)(us:List Value)(kw:List (Str×Value)):A0 P w K mg base (A.under (.builtin "type.__call__" ⟨.ref C::us,kw⟩)) outer s H:=⟨by first | exact e.frames | (simpa [Around.under,Code.envs,Code.isFrame,pushEnvs] using e.frames),e.mod,e.bs,e.DY,e.rY,e.Ov,e.bu,e.bare⟩
section
variable {X:Cx}{pins:List (Addr×Obj)}{σ:St}{H:Hp}{s s':Shared}
theorem Inv.Ur (I:Inv X pins σ H s):A0 X.prog X.w X.K X.mg X.base X.A X.stack s H:=
 ⟨I.ok.frames,I.ok.mod,I.bs,aaA I.ok.DY I.sz,I.stack,I.uD,I.bu,I.bare⟩
theorem Inv.after {Q:VK}{u:Value}(I:Inv X pins σ H s)(h:CE X.stack X.prog X.w H s Q u s'):EP X pins σ Q u s':=by
 obtain⟨v,H',os,bare,un,bu,r,q⟩:=h
 obtain⟨hh,g,d,t,X9⟩:=s'
 obtain rfl:X9=s.os:=os
 exact⟨v,H',I.call (h':=hh) (g':=g) (d':=d) (t':=t) (ch:=[]) un bu bare (fun b z=>absurd z (by simp)),r,q⟩
end
def Us (sp:Sp)(dvs:List V)(E:XK)(t:TA):TE:=fun σ H Q=>t σ H fun vs H1=>sp (vs ++ dvs) H1 Q E
def OG (C:Addr)(m:Str)(sp:Sp)(dvs:List V)(E:XK)(ta:TE)(t:TA):TE:=fun σ H Q=>ta σ H fun x H1=>∃ a dx fs,x=.ref a/\Rd H1 a (.ins C dx fs)/\fs.lookup m=none /\
 t σ H1 fun vs H2=>sp (x::(vs ++ dvs)) H2 Q E
def Ut (C:Addr)(sp:Sp)(dvs:List V)(E:XK)(t:TA):TE:=fun σ H Q=>t σ H fun vs H1=>∀ x dx,H1 x=none->H1 dx=none->dx≠x ->
 sp (.ref x::(vs ++ dvs)) (upd (upd H1 dx (.own x)) x (.ins C dx [])) (fun v H2=>v=.cS/\Q (.ref x) H2) E
def Binds (K:PySem.W.Frag)(fd:FuncData)(ps:List Str)(ds:List Value):Prop:=
 ∀ (s:Shared) (us:List Value),K.In s.heap->(us ++ ds).length=ps.length->BindsTo s fd ⟨us,[]⟩ (ps.zip (us ++ ds))
theorem Binds.all {K:W.Frag}{fd:FuncData}{ps:List Str}(h:∀ us:List Value,us.length=ps.length->bindArgs fd ⟨us,[]⟩=pure (ps.zip us)):Binds K fd ps []:=fun s us _ hl=>by
 rw[aa3] at hl ⊢
 exact .of_eq (h us hl)
def Passes (CX:sd)(X:Cx)(E:XK):Prop:=∀ (pins:List (Addr×Obj)) (σ:St) (H:Hp) (s:Shared) (e:Value) (s':Shared),Inv X pins σ H s->CX X.stack H s E e s'->X.xe e s'
section
variable {X:Cx}{CX:sd}{k:Nat}{f C:Addr}{fd:FuncData}{ps:List Str}{sp:Sp}{dvs:List V}{ds:List Value}{E:XK}{x m:Str}{p pos apos:Pos}{e o:Expr}{es:List Expr}{ta:TE}{t:TA}
theorem CP {pins:List (Addr×Obj)}{σ:St}{H:Hp}{s:Shared}{Q:VK}{us:List Value}{vs:List V}(F:ke X.prog X.w X.K X.mg X.base CX k f fd ps sp)(hr:eZ k X.A)(hb:Binds X.K fd ps ds)(hd:Vals dvs ds)(hx:Passes CX X E)(I:Inv X pins σ H s)(r:Vals vs us)(h:sp (vs ++ dvs) H Q E):wpAny (model X.prog X.w) X.A (call (.ref f) us) (EP X pins σ Q) X.xe s:=by
 have r2:Vals (vs ++ dvs) (us ++ ds):=r.append hd
 have hl:(us ++ ds).length=ps.length:=by rw[<- r2.length];exact F.len _ _ _ _ h
 refine wpAny_call (codeAny_mono (F.run X.A X.stack s H ⟨us,[]⟩ (us ++ ds) (vs ++ dvs) Q E hr I.Ur (hb s us I.mX hl) r2 h) fun r s' hq=>?_)
 cases r with
 | error e=>exact hx pins σ H s e s' I hq
 | ok fl=>
   cases fl with
   | ret u=>exact I.after hq
   | next=>exact False.elim hq
   | brk=>exact False.elim hq
   | cont=>exact False.elim hq
theorem D7 (F:ke X.prog X.w X.K X.mg X.base CX k f fd ps sp)(hr:eZ k X.A)(hg:Gl X x)(hm:X.mg x=some (.ref f))(hk:W.keepIn X.K (.ref f)=true)(hb:Binds X.K fd ps ds)(hd:Vals dvs ds)(hx:Passes CX X E)(ha:PA X (e::es) t)(mW:(x == ("__debug__":Str))=false:=by decide)(he:starEach (e::es) X.env=(false,eval e X.env)::starEach es X.env:=by rfl)(o6:(backTo pos (starEach es X.env)).any (·.1)=false:=by rfl):PE X (.Call (.Name x p) (e::es) [] pos) (Us sp dvs E t):=by
 intro pins s σ H Q I h
 refine wpAny_Call_Name_kw (uE I hg hm ?_ mW)
 refine W.callWith_K (h₀:=X.base) I.ok.mod.T2 hk (bW (ha pos pins s σ H _ I h) fun us s1 ⟨vs,H1,I1,r,q⟩=>⟨I1.mX,?_⟩) he o6
 exact CP F hr hb hd hx I1 r q
theorem D8 {pl:Sem Bool}(he:PE X o ta)(c:uG X.K C)(hm:Meth X.K C m f)(F:ke X.prog X.w X.K X.mg X.base CX k f fd ps sp)(hr:eZ k X.A)(hb:Binds X.K fd ps ds)(hd:Vals dvs ds)(hx:Passes CX X E)(ha:PA X (e::es) t)
   (mV:starEach (e::es) X.env=(false,eval e X.env)::starEach es X.env:=by rfl) (o6:(backTo pos (starEach es X.env)).any (·.1)=false:=by rfl)
   (ht:eval (.Call (.Attribute o m apos) (e::es) [] pos) X.env=(do
     let ov <- eval o X.env
     standAt apos.atName
     let (f,first) <- holding [ov] (getMethod ov m pl)
     callWith pos f first (backTo pos (starEach (e::es) X.env)) (backToKw pos (keywordEach [] X.env))):=by rfl) :
   PE X (.Call (.Attribute o m apos) (e::es) [] pos) (OG C m sp dvs E ta t):=by
 intro pins s σ H Q I h
 refine W.methodCall_KW (pl:=pl) (bW (he pins s σ H _ I h) fun u s1 ⟨x,H1,I1,rx,a,dx,fs,ex,ea,l,q⟩=>?_) ht
 subst ex
 obtain rfl:u=Value.ref a:=rx
 refine vt I1 ea c hm l ?_
 refine W.callWith_K (first:=[.ref a]) (h₀:=X.base) I.ok.mod.T2 hm.kp (bW (ha pos pins s1 σ H1 _ I1 q) fun us s2 ⟨vs,H2,I2,r,q2⟩=>⟨I2.mX,?_⟩) mV o6
 exact CP (us:=.ref a::us) (vs:=.ref a::vs) F hr hb hd hx I2 (.cons rfl r) q2
theorem HQ {pl:Sem Bool}(he:PE X o ta)(c:uG X.K C)(hm:Meth X.K C m f)(F:ke X.prog X.w X.K X.mg X.base CX k f fd ps sp)(hr:eZ k X.A)(hb:Binds X.K fd ps ds)(hd:Vals dvs ds)(hx:Passes CX X E)
   (ht:eval (.Call (.Attribute o m apos) [] [] pos) X.env=(do
     let ov <- eval o X.env
     standAt apos.atName
     let (f,first) <- holding [ov] (getMethod ov m pl)
     callWith pos f first (backTo pos (starEach [] X.env)) (backToKw pos (keywordEach [] X.env))):=by rfl) :
   PE X (.Call (.Attribute o m apos) [] [] pos) (OG C m sp dvs E ta Up):=by
 intro pins s σ H Q I h
 refine W.methodCall_KW (pl:=pl) (bW (he pins s σ H _ I h) fun u s1 ⟨x,H1,I1,rx,a,dx,fs,ex,ea,l,q⟩=>?_) ht
 subst ex
 obtain rfl:u=Value.ref a:=rx
 refine vt I1 ea c hm l ?_
 exact W.callWith_K0 (first:=[.ref a]) I1.mX hm.kp (CP (us:=[.ref a]) (vs:=[.ref a]) F hr hb hd hx I1 (.cons rfl .nil) q)
structure Mk (K:W.Frag)(C f:Addr):Prop where
 makes:W.makesIn K C=true
 init:W.findIn K (.ref C) "__init__"=some (some (.ref f))
 fn:W.isFn K (.ref f)=true
 kp:W.keepIn K (.ref C)=true
theorem HR {pins:List (Addr×Obj)}{σ:St}{H:Hp}{s:Shared}{Q:VK}{us:List Value}{vs:List V}(M:Mk X.K C f)(F:ke X.prog X.w X.K X.mg X.base CX k f fd ps sp)(hr:eZ (k+1) X.A)(hb:Binds X.K fd ps ds)(hd:Vals dvs ds)(hx:Passes CX X E)(I:Inv X pins σ H s)(r:Vals vs us)(h:∀ x dx,H x=none->H dx=none->dx≠x->sp (.ref x::(vs ++ dvs)) (upd (upd H dx (.own x)) x (.ins C dx [])) (fun v H2=>v=.cS/\Q (.ref x) H2) E):wpAny (model X.prog X.w) X.A (call (.ref C) us) (EP X pins σ Q) X.xe s:=by
 have hq:=h (s.heap.objs.size+1) s.heap.objs.size (I.bu.fresh (abf _)) (I.bu.fresh (aaa _)) (aaw (abh _))
 have I2:=Inv.made (C:=C) I
 have r2:Vals (V.ref (s.heap.objs.size+1)::(vs ++ dvs)) (Value.ref (s.heap.objs.size+1)::(us ++ ds)):=.cons rfl (r.append hd)
 have hl:(Value.ref (s.heap.objs.size+1)::us ++ ds).length=ps.length:=by
   have e:=r2.length
   rw[F.len _ _ _ _ hq] at e
   exact e.symm
 refine wpAny_call (HP (f:=f) I.mX M.makes M.init (beq_iff_eq.mp M.fn) (codeAny_mono (F.run _ X.stack _ _ ⟨Value.ref (s.heap.objs.size+1)::us,[]⟩ (Value.ref (s.heap.objs.size+1)::(us ++ ds)) _ _ E (hr.make C us [])
   (I2.Ur.make C us []) (hb _ (Value.ref (s.heap.objs.size+1)::us) I2.mX hl) r2 hq) fun r s' Ql=>?_))
 cases r with
 | error e=>exact hx pins σ _ _ e s' I2 Ql
 | ok fl=>
   cases fl with
   | ret u=>
     obtain⟨v,H',I3,rv,ev,q3⟩:=I2.after Ql
     subst ev
     exact⟨rv,⟨V.ref (s.heap.objs.size+1),H',I3,rfl,q3⟩⟩
   | next=>exact False.elim Ql
   | brk=>exact False.elim Ql
   | cont=>exact False.elim Ql
theorem D9 (M:Mk X.K C f)(F:ke X.prog X.w X.K X.mg X.base CX k f fd ps sp)(hr:eZ (k+1) X.A)(hg:Gl X x)(hm:X.mg x=some (.ref C))(hb:Binds X.K fd ps ds)(hd:Vals dvs ds)(hx:Passes CX X E)(ha:PA X (e::es) t)(mW:(x == ("__debug__":Str))=false:=by decide)(he:starEach (e::es) X.env=(false,eval e X.env)::starEach es X.env:=by rfl)(o6:(backTo pos (starEach es X.env)).any (·.1)=false:=by rfl):PE X (.Call (.Name x p) (e::es) [] pos) (Ut C sp dvs E t):=by
 intro pins s σ H Q I h
 refine wpAny_Call_Name_kw (uE I hg hm ?_ mW)
 refine W.callWith_K (h₀:=X.base) I.ok.mod.T2 M.kp (bW (ha pos pins s σ H _ I h) fun us s1 ⟨vs,H1,I1,r,q⟩=>⟨I1.mX,?_⟩) he o6
 exact HR M F hr hb hd hx I1 r q
end
section
variable {fd:FuncData}{ps ks:List Str}
structure Ya (K:W.Frag)(fd:FuncData)(ps ks:List Str)(g:List Value->List Value->List Value)(gV:List V->List V->List V):Prop where
 to:∀ (s:Shared) (us ws:List Value),K.In s.heap->(g us ws).length=ps.length->BindsTo s fd ⟨us,ks.zip ws⟩ (ps.zip (g us ws))
 rel:∀ {vs:List V} {us:List Value} {zs:List V} {ws:List Value},Vals vs us->Vals zs ws->Vals (gV vs zs) (g us ws)
end
structure aq (N P:List Str)(sc:Scope):Prop where
 kind:sc.kind=.function
 co:sc.isCoroutine=false
 gen:sc.isGenerator=false
 nd:N.Nodup
 pre:N.take P.length=P
 par:∀ x∈P,sc.names.lookup x=some .local\/sc.names.lookup x=some .cell
 Qm:∀ y∈sc.names,y.2≠.free
theorem yf {kindOf:Str->Option NameKind}{x:Str}:∀ {binds:List (Str×Value)} {m:Str->Option Value},(∀ v,(x,v) ∉ binds)->bindL kindOf binds m x=m x
 | [],_,_=>rfl
 | (n,v)::r,m,h=>by
   unfold bindL
   rw[yf fun w hw=>h w (aaJ _ hw)]
   split
   . have:x≠n:=by rintro rfl;exact h v aa1
     simp[this]
   . rfl
theorem yg {kindOf:Str->Option NameKind}{x:Str}:∀ {binds:List (Str×Value)} {m:Str->Option Value},(∀ v,(x,v) ∉ binds)->bindC kindOf binds m x=m x
 | [],_,_=>rfl
 | (n,v)::r,m,h=>by
   unfold bindC
   rw[yg fun w hw=>h w (aaJ _ hw)]
   split
   . rfl
   . have:x≠n:=by rintro rfl;exact h v aa1
     simp[this]
theorem yh {kindOf:Str->Option NameKind}{x:Str}{v:Value}:∀ {P:List Str} {vs:List Value} {i:Nat} {m:Str->Option Value},P.Nodup->P[i]?=some x->vs[i]?=some v->kindOf x=some .local->bindL kindOf (P.zip vs) m x=some v
 | [],_,_,_,_,h,_,_=>by simp at h
 | _::_,[],_,_,_,_,h,_=>by simp at h
 | p::P,w::vs,0,m,nd,h1,h2,hk=>by
   simp at h1 h2;subst h1;subst h2
   show bindL kindOf ((p,w)::P.zip vs) m p=_
   unfold bindL
   rw[yf fun v hv=>(abu.mp nd).1 (List.of_mem_zip hv).1,if_pos hk]
   simp
 | p::P,w::vs,i+1,m,nd,h1,h2,hk=>by
   show bindL kindOf ((p,w)::P.zip vs) m x=_
   unfold bindL
   exact yh (i:=i) (abu.mp nd).2 (by simpa using h1) (by simpa using h2) hk
theorem yi {kindOf:Str->Option NameKind}{x:Str}{v:Value}:∀ {P:List Str} {vs:List Value} {i:Nat} {m:Str->Option Value},P.Nodup->P[i]?=some x->vs[i]?=some v->kindOf x≠some .local->bindC kindOf (P.zip vs) m x=some v
 | [],_,_,_,_,h,_,_=>by simp at h
 | _::_,[],_,_,_,_,h,_=>by simp at h
 | p::P,w::vs,0,m,nd,h1,h2,hk=>by
   simp at h1 h2;subst h1;subst h2
   show bindC kindOf ((p,w)::P.zip vs) m p=_
   unfold bindC
   rw[yg fun v hv=>(abu.mp nd).1 (List.of_mem_zip hv).1,if_neg hk]
   simp
 | p::P,w::vs,i+1,m,nd,h1,h2,hk=>by
   show bindC kindOf ((p,w)::P.zip vs) m x=_
   unfold bindC
   exact yi (i:=i) (abu.mp nd).2 (by simpa using h1) (by simpa using h2) hk
noncomputable def start (N:List Str)(vs:List V):St:=vs.map some ++ aan (N.length - vs.length) none
noncomputable def A1 (CX:sd)(P:Program)(w:World)(K:W.Frag)(mg:Str->Option Value)(base:Heap)(N:List Str)(qual:Str)(scope:Scope)(f:Addr)(cd:Value)(A:Around)(outer:List Env)(s:Shared)(H:Hp)(E:XK):Cx where
 prog:=P
 w:=w
 K:=K
 mg:=mg
 base:=base
 A:=A.deeper (envOfC qual scope s.heap.objs.size f cd)
 N:=N
 s₀:=s
 H₀:=H
 env:=envOfC qual scope s.heap.objs.size f cd
 outer:=outer
 stack:=envOfC qual scope s.heap.objs.size f cd::outer
 ex:=[]
 calm:=true
 fn:=fun _=>true
 pn:=[]
 xe:=fun e s'=>wpAny (model P w) (A.deeper (envOfC qual scope s.heap.objs.size f cd)) (leaving (envOfC qual scope s.heap.objs.size f cd) e) (fun _ Ma=>CX outer H s E e Ma) (fun e' Ma=>CX outer H s E e' Ma) s'
theorem A2 {sc:Scope}{n:Nat}{x:Str}(h:sc.names.lookup x=some .cell):∃ c,(cellsFrom n sc.names []).lookup x=some c:=by
 have q:=W.cellsFrom_some sc.names n [] (.inl h)
 exact abB.mp q
theorem F7 {CX:sd}{P:Program}{w:World}{K:W.Frag}{mg:Str->Option Value}{base:Heap}{N ps:List Str}{qual:Str}{scope:Scope}{f:Addr}{cd:Value}{A:Around}{outer:List Env}{s s1:Shared}{H:Hp}{E:XK}{us:List Value}{vs:List V}(S:aq N ps scope)(hd:A.handled=none)(e0:A0 P w K mg base A outer s H)(hl:vs.length=ps.length)(r:Vals vs us)(x:InCallC s s.heap.objs.size (bindL (envOfC qual scope s.heap.objs.size f cd).kindOf (ps.zip us) fun _=>none) (cellsFrom (s.heap.objs.size+1) scope.names []) (bindC (envOfC qual scope s.heap.objs.size f cd).kindOf (ps.zip us) fun _=>none) s1):Inv (A1 CX P w K mg base N qual scope f cd A outer s H E) [] (start N vs) H s1:=by
 have o6:ps.length<=N.length:=by have:=congrArg abg S.pre;rw[aay] at this;omega
 obtain⟨h1,tk,rfl,hk⟩:=x.done
 have Uu:∀ b:Addr,b ∉ (A1 CX P w K mg base N qual scope f cd A outer s H E).ex:=fun b z=>absurd (show b∈([]:List Addr) from z) (by simp)
 refine⟨⟨e0.mod,S.kind,rfl,rfl,aaa _,fun y z c h1 h2=>?_,fun y hy=>?_,fun y c _ h=>?_,fun _=>hd,Around.frames_deeper e0.frames,.inr ⟨rfl,rfl⟩,fun b z=>absurd z (Uu b),e0.bs,e0.DY,fun b _ _=>Uu b,fun b z=>absurd z (Uu b),e0.rY,e0.Ov⟩,
   rfl,e0.bare,Un.kept hk,⟨_,x.toInCall.ns,fun i y v h1 h2 h3=>?_⟩,fun y c h=>⟨_,x.cell y c h⟩,e0.bu.fresh (aaa _),fun y c h=>?_,fun p hp=>absurd (show p∈([]:List (Addr×Obj)) from hp) (by simp),e0.bu.kept hk,?_⟩
 . exact name_of_addr x.apart (PySem.mem_of_lookup h1) (PySem.mem_of_lookup h2)
 . have hy:scope.names.lookup y=some .cell\/scope.names.lookup y=some .free:=hy
   rcases hy with hy | hy
   . exact A2 hy
   . exact absurd rfl (S.Qm _ (PySem.mem_of_lookup hy))
 . exact aa7 (x.above y c (PySem.mem_of_lookup h))
 . have hi:i < vs.length:=by
     unfold start at h2
     by_cases hi:i < vs.length
     . exact hi
     . rw[aaE (by simpa using hi)] at h2
       rw[aaV] at h2
       split at h2 <;> cases h2
   have ha:vs[i]?=some v:=by
     unfold start at h2
     rw[aaC (by simpa using hi),aab] at h2
     cases e:vs[i]? with
     | none=>rw[e] at h2;cases h2
     | some a=>rw[e] at h2;cases h2;rfl
   obtain⟨u,hu,rv⟩:=r.get ha
   have hp:ps[i]?=some y:=by
     rw[<- S.pre,List.getElem?_take_of_lt (by omega)];exact h1
   have ndP:ps.Nodup:=by rw[<- S.pre];exact S.nd.sublist (List.take_sublist _ _)
   refine⟨u,rv,?_⟩
   rcases S.par y (abj hp) with k | k
   . exact .inl ⟨k,yh ndP hp hu k⟩
   . obtain⟨c,e⟩:=A2 (n:=s.heap.objs.size+1) k
     refine .inr ⟨.inl k,c,e,?_⟩
     have q:=x.cell y c e
     rw[yi ndP hp hu (by show scope.names.lookup y≠_;rw[k];decide)] at q
     exact q
 . exact e0.bu.fresh (aa7 (x.above y c (PySem.mem_of_lookup h)))
 . unfold start
   show _=N.length
   rw[aax,k5,List.length_replicate]
   omega
theorem HS {CX:sd}{P:Program}{w:World}{K:W.Frag}{mg:Str->Option Value}{base:Heap}{k:Nat}{f:Addr}{name qual:Str}{params:Arguments}{body:List Stmt}{scope:Scope}{dV kV doc pm bo ct oc:Value}{an od:Option Addr}{yj:Array (Option Value)}{N ps:List Str}{sp:Sp}(lk:K.lookup f=some ⟨oc,od,.func (W.fnOf name qual params body scope dV kV doc pm an bo ct),yj⟩)(mz:W.codeIn K bo qual=true)(S:aq N ps scope)(len:∀ vs H Q E,sp vs H Q E->vs.length=ps.length)(qR:∀ (A:Around) (outer:List Env) (s:Shared) (H:Hp) (vs:List V) (Q:VK) (E:XK),eZ k (A.deeper (envOfC qual scope s.heap.objs.size f bo))->sp vs H Q E->∃ t,CF (A1 CX P w K mg base N qual scope f bo A outer s H E) body t/\t { nx:=fun _ H'=>Q .cS H',rt:=Q} (start N vs) H):ke P w K mg base CX (k+1) f (W.fnOf name qual params body scope dV kV doc pm an bo ct) ps sp:=by
 refine⟨len,fun A outer s H args us vs Q E hr e0 hb r LB=>?_⟩
 have hl:=len _ _ _ _ LB
 have KX:K.In s.heap:=e0.mod.T2.keeps fun b o e=>(e0.bs b o e).1
 have lim:s.heap.NoLimit:=e0.mod.nolimit.keeps fun b o e=>(e0.bs b o e).1
 have Uv:∀ y∈ps.zip us,scope.names.lookup y.1=some .local\/(scope.names.lookup y.1=some .cell/\((cellsFrom (s.heap.objs.size+1) scope.names []).lookup y.1).isSome=true):=fun⟨n,v⟩ hy=>by
   rcases S.par n (List.of_mem_zip hy).1 with q | q
   . exact .inl q
   . exact .inr ⟨q,W.cellsFrom_some _ _ _ (.inl q)⟩
 refine codeAny_call_function hr.depth (KX _ _ lk) rfl S.co S.gen rfl (W.codeRec_of KX mz) (hb _ _ _ _ ?_)
 refine wpAny_newFunctionEnv_cells S.kind Uv fun env he s1 x=>?_
 subst he
 refine⟨lim.keeps x.toInCall.keep,codeAny_func ?_⟩
 obtain⟨t,ht,hq⟩:=qR A outer s H vs Q E (hr.deeper _) LB
 have I:Inv (A1 CX P w K mg base N qual scope f bo A outer s H E) [] (start N vs) H s1:=F7 S hr.hd e0 hl r x
 refine wpAny_mono (ht [] s1 (start N vs) H _ I hq) (fun fl s' hs=>?_) fun e s' hs=>hs
 have fin:∀ {σ':St} {H':Hp} {v:V} {u:Value},Inv (A1 CX P w K mg base N qual scope f bo A outer s H E) [] σ' H' s'->RelV v u->Q v H'->CE outer P w H s Q u s':=
   fun {σ' H' v u} J rv q=>⟨v,H',J.os,J.bare,J.base,J.bu,rv,q⟩
 cases fl with
 | ret u=>
   obtain⟨v,σ',H',J,rv,q⟩:=hs
   exact fin J rv q
 | next=>
   obtain⟨σ',H',J,q⟩:=hs
   exact fin (v:=V.cS) (u:=Value.none) J rfl q
 | brk=>
   obtain⟨_,_,_,q⟩:=hs
   exact False.elim q
 | cont=>
   obtain⟨_,_,_,q⟩:=hs
   exact False.elim q
section
variable {X:Cx}{x:Str}{p pos:Pos}{e:Expr}{es:List Expr}{t:TA}{id T:String}{r:List V->Hp->VK->Prop}
def tCB (r:List V->Hp->VK->Prop)(t:TA):TE:=fun σ H Q=>t σ H fun vs H1=>r vs H1 Q
theorem fB (hc:ka X (.builtin id) r)(hg:Gl X x)(hm:X.mg x=none)(hv:bootBuiltins x=some (.builtin id))(ha:PA X (e::es) t)(hn:x≠"__name__":=by decide)(mW:(x == ("__debug__":Str))=false:=by decide)(he:starEach (e::es) X.env=(false,eval e X.env)::starEach es X.env:=by rfl)(o6:(backTo pos (starEach es X.env)).any (·.1)=false:=by rfl):PE X (.Call (.Name x p) (e::es) [] pos) (tCB r t):=by
 intro pins s σ H Q I h
 refine wpAny_Call_Name_kw (oj I hg hm hv ?_ hn mW)
 exact PyProof.Rows.callWith_builtin1 (bW (ha pos pins s σ H _ I h) fun us s1 ⟨vs,H1,I1,r1,q1⟩=>hc pins s1 σ H1 vs us Q I1 r1 q1) he o6
theorem mC (hc:ka X (.type T) r)(hg:Gl X x)(hm:X.mg x=none)(hv:bootBuiltins x=some (.type T))(ha:PA X (e::es) t)(hn:x≠"__name__":=by decide)(mW:(x == ("__debug__":Str))=false:=by decide)(he:starEach (e::es) X.env=(false,eval e X.env)::starEach es X.env:=by rfl)(o6:(backTo pos (starEach es X.env)).any (·.1)=false:=by rfl):PE X (.Call (.Name x p) (e::es) [] pos) (tCB r t):=by
 intro pins s σ H Q I h
 refine wpAny_Call_Name_kw (oj I hg hm hv ?_ hn mW)
 exact PyProof.Rows.callWith_type1 (bW (ha pos pins s σ H _ I h) fun us s1 ⟨vs,H1,I1,r1,q1⟩=>hc pins s1 σ H1 vs us Q I1 r1 q1) he o6
end
end L2
namespace HT
open PySem PyProof.Rows
section
noncomputable def A3 (n d:Nat):Option Int->Nat
 | none=>d
 | some v=>if v < 0 then (v+(n:Int)).toNat else min v.toNat n
theorem HU (n d:Nat):A3 n d none=d:=rfl
theorem Mb (n d k:Nat):A3 n d (some (k:Int))=min k n:=by
 show(if (k:Int) < 0 then ((k:Int)+(n:Int)).toNat else min (k:Int).toNat n)=min k n
 rw[if_neg (by omega),aaU]
end
end HT
namespace L2
open PySem PySem.Spec PyProof.Rows
abbrev TO:=St->Hp->(Option Int->Hp->Prop)->Prop
def PO (X:Cx)(e:Option Expr)(t:TO):Prop:=
 ∀ (pins:List (Addr×Obj)) (s:Shared) (σ:St) (H:Hp) (Q:Option Int->Hp->Prop),Inv X pins σ H s->t σ H Q ->
   wpAny (model X.prog X.w) X.A (evalPart e X.env) (fun u s'=>∃ o H',Inv X pins σ H' s'/\IsPart u o/\Q o H') X.xe s
def Mc:TO:=fun _ H Q=>Q none H
def Uw (t:TE):TO:=fun σ H Q=>t σ H fun x H1=>∃ i,x=.int i/\Q (some i) H1
theorem intsAre_of {ns:List Int}:∀ {us:List Value},Vals (ns.map V.int) us->IntsAre us ns:=by
 induction ns with
 | nil=>intro us r;rw[List.map_nil] at r;cases r;exact .nil
 | cons n ns ih=>
   intro us r
   rw[aau] at r
   cases r with
   | cons r1 r2=>
     obtain⟨t,e⟩:=r1
     subst e
     exact .cons n t (ih r2)
section
variable {X:Cx}{e:Expr}{te:TE}{lo hi:Option Expr}{tl th:TO}{pos p2:Pos}
theorem Ea:PO X none Mc:=by
 intro pins s σ H Q I h
 rw[evalPart_none]
 exact wpAny_pure ⟨none,H,I,.none,h⟩
theorem Eb (h:PE X e te):PO X (some e) (Uw te):=by
 intro pins s σ H Q I hw
 rw[evalPart_some]
 refine bW (h pins s σ H _ I hw) fun u s1 ⟨x,H1,I1,r1,q1⟩=>?_
 obtain⟨i,rfl,q⟩:=q1
 obtain⟨t,rfl⟩:=r1
 exact⟨some i,H1,I1,.int i t,q⟩
def Yb (X:Cx)(r:V->Option Int->Option Int->Hp->VK->Prop):Prop:=
 ∀ (pins:List (Addr×Obj)) (s:Shared) (σ:St) (H:Hp) (x:V) (v vl vu:Value) (lo hi:Option Int) (sl:Addr) (Q:VK),Inv X pins σ H s->RelV x v->s.heap.IsSliceOf sl vl vu .none->IsPart vl lo->IsPart vu hi->r x lo hi H Q ->
   ∃ T id,typeLookup (.type T) "__getitem__"=pure (some (.builtin id))/\s.TypeIs v T/\wpAny (model X.prog X.w) X.A (getItem v (.ref sl)) (EP X pins σ Q) X.xe s
def tSl (r:V->Option Int->Option Int->Hp->VK->Prop)(te:TE)(tl th:TO):TE:=fun σ H Q=>te σ H fun x H1=>tl σ H1 fun l H2=>th σ H2 fun u H3=>r x l u H3 Q
theorem A4 {r:V->Option Int->Option Int->Hp->VK->Prop}(hr:Yb X r)(he:PE X e te)(hl:PO X lo tl)(hu:PO X hi th):PE X (.Subscript e (.Slice lo hi none p2) pos) (tSl r te tl th):=by
 intro pins s σ H Q I h
 refine Subscript_ (bW (he pins s σ H _ I h) fun v s1 ⟨x,H1,I1,r1,q1⟩=>?_)
 refine wpAny_Slice (bW (hl pins s1 σ H1 _ I1 q1) fun vl s2 ⟨l,H2,I2,pl,q2⟩=>bW (hu pins s2 σ H2 _ I2 q2) fun vu s3 ⟨u,H3,I3,pu,q3⟩=>?_)
 rw[evalPart_none]
 refine wpAny_pure ?_
 have I4:Inv X pins σ H3 { s3 with heap:=s3.heap.push { cls:=.type "slice",data:=.fields #[vl,vu,.none]}}:=I3.kept (t':=s3.toks) fun b ob q=>aag _ q
 obtain⟨T,id,hT,ht,hg⟩:=hr pins { s3 with heap:=s3.heap.push { cls:=.type "slice",data:=.fields #[vl,vu,.none]}} σ H3 x v vl vu l u s3.heap.objs.size Q I4 r1 (Heap.IsSliceOf.new ..) pl pu q3
 show wpAny (model X.prog X.w) X.A (subscriptTail e (.Slice lo hi none p2) v (.ref s3.heap.objs.size)) (EP X pins σ Q) X.xe { s3 with heap:=s3.heap.push { cls:=.type "slice",data:=.fields #[vl,vu,.none]}}
 exact tail_any (ops:=[.ref s3.heap.objs.size,v]) ht hT hg (by with_unfolding_all rfl)
noncomputable def F8 (xs:List V)(lo hi:Option Int):List V:=(xs.drop (HT.A3 xs.length 0 lo)).take (HT.A3 xs.length xs.length hi - HT.A3 xs.length 0 lo)
theorem A5 (xs:List V)(lo hi:Option Int):(F8 xs lo hi).length<=xs.length:=by
 unfold F8
 rw[aay,aba]
 omega
theorem A6:ka X (.type "tuple") (fun xs H Q=>∃ a ys,xs=[.ref a]/\Cy X.K H a ys/\Q (.ref a) H):=by
 intro pins s σ H xs us Q I r h
 obtain⟨a,ys,rfl,ha,q⟩:=h
 obtain⟨u,rfl,ru⟩:=vals1 r
 cases ru
 obtain⟨aG,_,p1,_⟩:=I.tuple ha
 exact call_tuple_same (items:=aG.toArray) p1 ⟨.ref a,H,I,rfl,q⟩
end
noncomputable def CQ (n:Nat)(i:Int):Option Nat:=if 0<=i then (if i < n then some i.toNat else none) else if -(n:Int)<=i then some (i+n).toNat else none
noncomputable def oy {α:Type}(xs:List α)(i:Int):Option α:=(CQ xs.length i).bind fun j=>xs[j]?
theorem Ec {n:Nat}{i:Int}{j:Nat}(h:CQ n i=some j):seqIndex? i n=some j/\j < n/\-(n:Int)<=i/\i < n:=by
 unfold CQ at h
 by_cases h0:0<=i
 . rw[if_pos h0] at h
   by_cases h1:i < n
   . rw[if_pos h1] at h
     have e:i.toNat=j:=Option.some.inj h
     exact⟨by rw[seqIndex_of h0 h1,e],by omega,by omega,h1⟩
   . rw[if_neg h1] at h;cases h
 . rw[if_neg h0] at h
   by_cases h1:-(n:Int)<=i
   . rw[if_pos h1] at h
     have e:(i+n).toNat=j:=Option.some.inj h
     exact⟨by rw[seqIndex_neg (by omega) h1,e],by omega,h1,by omega⟩
   . rw[if_neg h1] at h;cases h
theorem yY {α:Type}{xs:List α}{i:Int}{v:α}(h:oy xs i=some v):∃ j,seqIndex? i xs.length=some j/\xs[j]?=some v/\j < xs.length/\-(xs.length:Int)<=i/\i < xs.length:=by
 unfold oy at h
 cases e:CQ xs.length i with
 | none=>rw[e] at h;cases h
 | some j=>
   rw[e] at h
   obtain⟨h1,h2,h3,h4⟩:=Ec e
   exact⟨j,h1,h,h2,h3,h4⟩
theorem lW {α:Type}{xs:List α}{j:Nat}{v:α}(h:xs[j]?=some v):oy xs (j:Int)=some v:=by
 have hj:j < xs.length:=(aaj.mp h).1
 have e:CQ xs.length (j:Int)=some j:=by
   unfold CQ
   rw[if_pos (by omega),if_pos (by omega)];simp
 unfold oy;rw[e];exact h
def kL (b:Expr):Prop:=∀ o i,subscripted b false o i=operate [o,i] (getItem o i)
def Tz (X:Cx)(r:R2):Prop:=
 ∀ (value slice:Expr) (pins:List (Addr×Obj)) (s:Shared) (σ:St) (H:Hp) (x y:V) (v u:Value) (Q:VK),Inv X pins σ H s->RelV x v->RelV y u->r x y H Q ->
   subscripted slice false v u=operate [v,u] (getItem v u)->wpAny (model X.prog X.w) X.A (subscriptTail value slice v u) (EP X pins σ Q) X.xe s
def Qn (X:Cx)(id:String)(r:V->List V->Hp->VK->Prop):Prop:=
 ∀ (pins:List (Addr×Obj)) (s:Shared) (σ:St) (H:Hp) (x:V) (xs:List V) (v:Value) (us:List Value) (Q:VK),Inv X pins σ H s->RelV x v->Vals xs us->r x xs H Q ->
   wpAny (model X.prog X.w) X.A (call (.builtin id) (v::us)) (EP X pins σ Q) X.xe s
section
variable {X:Cx}{a b:Expr}{ta tb:TE}{pos:Pos}
theorem vy {r:R2}(hr:Tz X r)(ha:PE X a ta)(hb:PE X b tb)(hs:kL b):PE X (.Subscript a b pos) (Ui r ta tb):=by
 intro pins s σ H Q I h
 exact Subscript_ (Qd ha hb I h fun v u s2 x y H2 I2 rx ry q=>hr a b pins s2 σ H2 x y v u Q I2 rx ry q (hs _ _))
def Yc (K:W.Frag):R2:=fun x y H Q=>∃ p xs i v,x=.ref p/\y=.int i/\mY K H p xs/\oy xs i=some v/\Q v H
def Yd (K:W.Frag):R2:=fun x y H Q=>∃ p xs i v,x=.ref p/\y=.int i/\Cy K H p xs/\oy xs i=some v/\Q v H
def Ye:R2:=fun x y H Q=>∃ z i c,x=.str z/\y=.int i/\z.length<=sizeLine/\oy z.cps.toList i=some c/\Q (.str ⟨#[c]⟩) H
theorem yZ:Tz X (Yc X.K):=by
 intro value slice pins s σ H x y v u Q I rx ry h hs
 obtain⟨p,xs,i,z,rfl,rfl,hq,he,q⟩:=h
 cases rx
 obtain⟨t,rfl⟩:=ry
 obtain⟨aG,r,pl,hz⟩:=I.list hq
 obtain⟨j,h1,h2,h3,h4,h5⟩:=yY he
 obtain⟨w,ew,HE⟩:=r.get h2
 have hl:=r.length
 have hn:=mf
 have fin:EP X pins σ Q w s:=⟨z,H,I,HE,q⟩
 by_cases h0:0<=i
 . have hj:i.toNat=j:=by
     rw[seqIndex_of h0 h5] at h1
     exact Option.some.inj h1
   exact item_listR pl.isList h0 (by omega) (by rw[hj];simpa using ew) fin hs
 . have hj:(i+(aG.toArray.size:Int)).toNat=j:=by
     rw[seqIndex_neg (by omega) h4] at h1
     rw[aar,<- hl]
     exact Option.some.inj h1
   exact subscriptTail_builtinR (x:=w) pl.isList.typeIs slot_list_getitem.lookup
     (wpAny_getItem_list_neg (Q:=fun r s'=>r=w/\EP X pins σ Q r s') pl.isList (by omega) (by rw[aar] <;> omega) (by omega) (by rw[hj];simpa using ew) ⟨rfl,fin⟩) hs
theorem Qo:Tz X (Yd X.K):=by
 intro value slice pins s σ H x y v u Q I rx ry h hs
 obtain⟨p,xs,i,z,rfl,rfl,hq,he,q⟩:=h
 cases rx
 obtain⟨t,rfl⟩:=ry
 obtain⟨aG,r,pl,hz⟩:=I.tuple hq
 obtain⟨j,h1,h2,h3,h4,h5⟩:=yY he
 obtain⟨w,ew,HE⟩:=r.get h2
 have hl:=r.length
 have hn:=mf
 have fin:EP X pins σ Q w s:=⟨z,H,I,HE,q⟩
 exact subscriptTail_builtinR (x:=w) pl.typeIs slot_tuple_getitem.lookup
   (getItem_tuple (j:=j) (Q:=fun r s'=>r=w/\EP X pins σ Q r s') pl (by omega) (by omega) (by rw[aar,<- hl];exact h1) (by simpa using ew) ⟨rfl,fin⟩) hs
theorem Qp:Tz X Ye:=by
 intro value slice pins s σ H x y v u Q I rx ry h hs
 obtain⟨z,i,c,rfl,rfl,hz,he,q⟩:=h
 obtain⟨t,rfl⟩:=rx
 obtain⟨t',rfl⟩:=ry
 obtain⟨j,h1,h2,h3,h4,h5⟩:=yY he
 have hl:z.cps.toList.length=z.length:=by simp[Str.length]
 rw[hl] at h1 h4 h5
 have hn:=mf
 exact tail_any (typeIs_str s z t) slot_str_getitem.lookup (getItem_str (c:=c) (by
   have e1:decide (i < -(2 ^ 63:Int))=false:=decide_eq_false (by omega)
   have e2:decide (i >= 2 ^ 63)=false:=decide_eq_false (by omega)
   rw[e1,e2,Bool.or_false]) (by rw[h1];simpa using h2) ⟨.str ⟨#[c]⟩,H,I.tok _,⟨_,rfl⟩,q⟩) hs
theorem CS (aG:List Value)(n j:Nat)(u:Value):Obj.mapSeq (·.setIfInBounds j u) { cls:=.type "list",data:=.seq aG.toArray n}={ cls:=.type "list",data:=.seq (aG.set j u).toArray n}:=by
 simp[Obj.mapSeq]
theorem Inv.lst {pins:List (Addr×Obj)}{σ:St}{H:Hp}{s:Shared}{p:Addr}{xs:List V}(I:Inv X pins σ H s)(h:H p=some (.lst xs)):∃ (aG:List Value) (n:Nat),Vals xs aG/\s.heap.get? p=some { cls:=.type "list",data:=.seq aG.toArray n}/\xs.length<=sizeLine:=by
 obtain⟨z,aG,n,r,e⟩:=I.bu p _ h
 exact⟨aG,n,r,e,z⟩
theorem Inv.Qq {pins:List (Addr×Obj)}{σ:St}{H:Hp}{s:Shared}{p:Addr}{xs ys:List V}{aG its':List Value}{n n':Nat}{f:Obj->Obj}(I:Inv X pins σ H s)(h:H p=some (.lst xs))(ho:s.heap.get? p=some { cls:=.type "list",data:=.seq aG.toArray n})(hf:f { cls:=.type "list",data:=.seq aG.toArray n}={ cls:=.type "list",data:=.seq its'.toArray n'})(r:Vals ys its')(hz:ys.length<=sizeLine)(t:Nat):Inv X pins σ (upd H p (.lst ys)) { s with heap:=s.heap.update p f,toks:=t}:=by
 have e:(s.heap.update p f).get? p=some { cls:=.type "list",data:=.seq its'.toArray n'}:=by
   rw[abL f ho (by rw[hf] <;> rfl),hf]
 refine I.write (x:=p) (e:=p) (by rw[h];trivial) (.inl rfl) (fun b u hb q=>(abH _ _ (Ne.symm hb)).trans q) ⟨_,e⟩ ?_
 exact⟨hz,its',n',r,e⟩
def Ux:V->V->V->Hp->(Hp->Prop)->Prop:=fun o i v H Q=>∃ p xs k j,o=.ref p/\i=.int k/\H p=some (.lst xs)/\CQ xs.length k=some j/\Q (upd H p (.lst (xs.set j v)))
theorem set_list:Ud X Ux:=by
 intro pins s σ H o i v ov iv u Q I ro ri rv h
 obtain⟨p,xs,k,j,rfl,rfl,hp,hj,q⟩:=h
 cases ro
 obtain⟨t,rfl⟩:=ri
 obtain⟨aG,n,r,ho,hz⟩:=I.lst hp
 obtain⟨h1,h2,h3,h4⟩:=Ec hj
 have hl:=r.length
 have hn:=mf
 have I':Inv X pins σ (upd H p (.lst (xs.set j v))) { s with heap:=s.heap.update p (Obj.mapSeq (·.setIfInBounds j u))}:=
   I.Qq hp ho (CS aG n j u) (r.set rv j) (by rw[abT];exact hz) s.toks
 by_cases h0:0<=k
 . have hk:k.toNat=j:=by
     rw[seqIndex_of h0 h4] at h1
     exact Option.some.inj h1
   exact W.ki_setAt ho h0 (by omega) (by rw[aar,<- hl];exact h4) (by rw[hk];exact⟨_,I',q⟩)
 . have hk:(k+(aG.toArray.size:Int)).toNat=j:=by
     rw[seqIndex_neg (by omega) h3] at h1
     rw[aar,<- hl]
     exact Option.some.inj h1
   exact W.ki_setBack ho (by omega) (by rw[aar,<- hl];exact h3) (by omega) (by rw[hk];exact⟨_,I',q⟩)
theorem zb (lo hi:Option Int)(n:Nat):(sliceBounds lo hi none n).1=((HT.A3 n 0 lo:Nat):Int)/\(sliceBounds lo hi none n).2.1=((HT.A3 n n hi:Nat):Int)/\(sliceBounds lo hi none n).2.2=1:=by
 refine⟨?_,?_,rfl⟩
 . cases lo with
   | none=>simp[sliceBounds,HT.A3]
   | some i=>
     simp only[sliceBounds,HT.A3,Option.getD_none,show(1:Int) > 0 by decide,if_true]
     by_cases h:i < 0
     . simp only[h,if_true] <;> omega
     . simp only[h,if_false] <;> omega
 . cases hi with
   | none=>simp[sliceBounds,HT.A3]
   | some i=>
     simp only[sliceBounds,HT.A3,Option.getD_none,show(1:Int) > 0 by decide,if_true]
     by_cases h:i < 0
     . simp only[h,if_true] <;> omega
     . simp only[h,if_false] <;> omega
theorem xC (aG:List Value)(lo hi:Option Int):slicePick aG.toArray lo hi none=((aG.drop (HT.A3 aG.length 0 lo)).take (HT.A3 aG.length aG.length hi - HT.A3 aG.length 0 lo)).toArray:=by
 obtain⟨h1,h2,h3⟩:=zb lo hi aG.toArray.size
 unfold slicePick
 rw[h1,h2,h3]
 simp only[sliceRange_one,pick_run,aar] <;> rfl
def Yf (K:W.Frag):V->Option Int->Option Int->Hp->VK->Prop:=fun x lo hi H Q=>∃ a xs,x=.ref a/\mY K H a xs/\∀ p,H p=none->Q (.ref p) (upd H p (.lst (F8 xs lo hi)))
theorem Md:Yb X (Yf X.K):=by
 intro pins s σ H x v vl vu lo hi sl Q I rx hs pl pu h
 obtain⟨a,xs,rfl,hx,q⟩:=h
 cases rx
 obtain⟨aG,r,ht,hz⟩:=I.list hx
 have hlen:=r.length
 refine⟨"list",_,slot_list_getitem.lookup,ht.isList.typeIs,?_⟩
 refine wpAny_getItem_list_slice ht.isList hs pl pu .none (by simp) ?_ (by rw[aar] <;> omega)
 rw[xC,<- hlen]
 refine⟨.ref s.heap.objs.size,_,I.laid (t':=s.toks) (o:=.lst (F8 xs lo hi)) (fun b ob q=>aag _ q) (aaa _) ?_,rfl,q _ (I.bu.fresh (aaa _))⟩
 exact⟨aaA (A5 xs lo hi) hz,_,0,(r.drop (HT.A3 xs.length 0 lo)).take (HT.A3 xs.length xs.length hi - HT.A3 xs.length 0 lo),aat _ rfl⟩
noncomputable def qS:V->Bool
 | .cS=>true
 | .bl _=>true
 | .int _=>true
 | .str _=>true
 | _=>false
noncomputable def LC:V->V->Bool
 | .cS,.cS=>true
 | .bl a,.bl b=>a == b
 | .bl a,.int b=>(if a then 1 else 0) == b
 | .int a,.bl b=>a == (if b then 1 else 0)
 | .int a,.int b=>a == b
 | .str a,.str b=>a == b
 | _,_=>false
theorem Qr {A:Around}{s:Shared}{y x:V}{u v:Value}(ry:RelV y u)(rx:RelV x v)(fy:qS y=true)(fx:qS x=true):SeqAt.EqAt A s u v (LC y x):=by
 cases y with
 | cS=>
   cases ry
   cases x with
   | cS=>cases rx;exact SeqAt.EqAt.same _
   | bl b=>cases rx;exact SeqAt.EqAt.none_bool b
   | int b=>obtain⟨t,rfl⟩:=rx;exact SeqAt.EqAt.none_int b t
   | str b=>obtain⟨t,rfl⟩:=rx;exact SeqAt.EqAt.none_str b t
   | _=>exact absurd (show false=true from fx) aas
 | bl a=>
   cases ry
   cases x with
   | cS=>cases rx;exact SeqAt.EqAt.bool_none a
   | bl b=>cases rx;exact SeqAt.EqAt.bool_bool a b
   | int b=>obtain⟨t,rfl⟩:=rx;exact SeqAt.EqAt.bool_int a b t
   | str b=>obtain⟨t,rfl⟩:=rx;exact SeqAt.EqAt.bool_str a b t
   | _=>exact absurd (show false=true from fx) aas
 | int a=>
   obtain⟨t',rfl⟩:=ry
   cases x with
   | cS=>cases rx;exact SeqAt.EqAt.int_none a t'
   | bl b=>cases rx;exact SeqAt.EqAt.int_bool a t' b
   | int b=>obtain⟨t,rfl⟩:=rx;exact SeqAt.EqAt.int_int a t' b t
   | str b=>obtain⟨t,rfl⟩:=rx;exact SeqAt.EqAt.int_str a t' b t
   | _=>exact absurd (show false=true from fx) aas
 | str a=>
   obtain⟨t',rfl⟩:=ry
   cases x with
   | cS=>cases rx;exact SeqAt.EqAt.str_none a t'
   | bl b=>cases rx;exact SeqAt.EqAt.str_bool a t' b
   | int b=>obtain⟨t,rfl⟩:=rx;exact SeqAt.EqAt.str_int a t' b t
   | str b=>obtain⟨t,rfl⟩:=rx;exact SeqAt.EqAt.str_str a t' b t
   | _=>exact absurd (show false=true from fx) aas
 | _=>exact absurd (show false=true from fy) aas
noncomputable def CT (x:V)(u:Value):Bool:=match u with
 | .none=>LC .cS x
 | .bool b=>LC (.bl b) x
 | .int i _=>LC (.int i) x
 | .str z _=>LC (.str z) x
 | _=>false
theorem HV {x y:V}{u:Value}(r:RelV y u)(f:qS y=true):CT x u=LC y x:=by
 cases y with
 | cS=>cases r;rfl
 | bl b=>cases r;rfl
 | int i=>obtain⟨t,rfl⟩:=r;rfl
 | str z=>obtain⟨t,rfl⟩:=r;rfl
 | _=>exact absurd (show false=true from f) aas
theorem qT {x:V}:∀ {xs:List V} {us:List Value},Vals xs us->xs.all qS=true->us.any (CT x)=xs.any fun y=>LC y x
 | _,_,.nil,_=>rfl
 | y::xs,u::us,.cons r t,f=>by
   rw[abP,aaS] at f
   rw[abC,abC,HV r f.1,qT t f.2]
theorem oA {A:Around}{s:Shared}{x:V}{v:Value}(rx:RelV x v)(fx:qS x=true):∀ {xs:List V} {us:List Value},Vals xs us->xs.all qS=true->∀ u∈us,SeqAt.EqAt A s u v (CT x u)
 | _,_,.nil,_=>fun u hu=>by cases hu
 | y::xs,u::us,.cons r t,f=>fun u' hu=>by
   rw[abP,aaS] at f
   rcases aaH.mp hu with rfl | hu
   . rw[HV r f.1];exact Qr r rx f.1 fx
   . exact oA rx fx t f.2 u' hu
noncomputable def Uy (x:V)(xs:List V):Bool:=xs.any fun y=>LC y x
def W2 (K:W.Frag)(neg:Bool):R2:=fun x y H Q=>∃ p xs,y=.ref p/\(mY K H p xs\/Cy K H p xs)/\qS x=true/\xs.all qS=true/\Q (.bl (if neg then !Uy x xs else Uy x xs)) H
theorem yk:oi X (compareOp .In) (W2 X.K false):=by
 intro pins s σ H x y v u Q I rx ry h
 obtain⟨p,xs,rfl,hq,fx,fs,q⟩:=h
 cases ry
 rcases hq with hq | hq
 . obtain⟨aG,r,pl,hz⟩:=I.list hq
   refine SeqAt.in_listAt (CT x) pl.isList (fun w hw=>oA rx fx r fs w (by simpa using hw)) ⟨.bl _,H,I,rfl,?_⟩
   rw[show aG.toArray.any (CT x)=aG.any (CT x) by simp,qT r fs]
   exact q
 . obtain⟨aG,r,pl,hz⟩:=I.tuple hq
   refine SeqAt.in_tupleAt (CT x) pl (fun w hw=>oA rx fx r fs w (by simpa using hw)) ⟨.bl _,H,I,rfl,?_⟩
   rw[show aG.toArray.any (CT x)=aG.any (CT x) by simp,qT r fs]
   exact q
theorem qU:oi X (compareOp .NotIn) (W2 X.K true):=by
 intro pins s σ H x y v u Q I rx ry h
 obtain⟨p,xs,rfl,hq,fx,fs,q⟩:=h
 cases ry
 rcases hq with hq | hq
 . obtain⟨aG,r,pl,hz⟩:=I.list hq
   refine SeqAt.notIn_listAt (CT x) pl.isList (fun w hw=>oA rx fx r fs w (by simpa using hw)) ⟨.bl _,H,I,rfl,?_⟩
   rw[show aG.toArray.any (CT x)=aG.any (CT x) by simp,qT r fs]
   exact q
 . obtain⟨aG,r,pl,hz⟩:=I.tuple hq
   refine SeqAt.notIn_tupleAt (CT x) pl (fun w hw=>oA rx fx r fs w (by simpa using hw)) ⟨.bl _,H,I,rfl,?_⟩
   rw[show aG.toArray.any (CT x)=aG.any (CT x) by simp,qT r fs]
   exact q
theorem m6:ka X (.builtin "len") (fun xs H Q=>∃ p ys,xs=[.ref p]/\(mY X.K H p ys\/Cy X.K H p ys)/\Q (.int ys.length) H):=by
 intro pins s σ H xs us Q I r h
 obtain⟨p,ys,rfl,hq,q⟩:=h
 obtain⟨u,rfl,rx⟩:=vals1 r
 cases rx
 have hn:=mf
 rcases hq with hq | hq
 . obtain⟨aG,r',pl,hz⟩:=I.list hq
   have hlen:=r'.length
   exact Calls.call_len_list pl.isList (by simp only[aar] <;> omega) ⟨.int ys.length,H,I.tok _,⟨s.toks+1,by rw[aar,hlen]⟩,q⟩
 . obtain⟨aG,r',pl,hz⟩:=I.tuple hq
   have hlen:=r'.length
   exact len_tuple pl (by simp only[aar] <;> omega) ⟨.int ys.length,H,I.tok _,⟨s.toks+1,by rw[aar,hlen]⟩,q⟩
theorem zc:ka X (.builtin "len") (fun xs H Q=>∃ z,xs=[.str z]/\z.length<=sizeLine/\Q (.int z.length) H):=by
 intro pins s σ H xs us Q I r h
 obtain⟨z,rfl,hz,q⟩:=h
 obtain⟨u,rfl,t,rfl⟩:=vals1 r
 have hn:=mf
 exact len_str (by omega) ⟨.int z.length,H,I.tok _,⟨_,rfl⟩,q⟩
theorem zd:ka X (.type "list") (fun xs H Q=>∃ p ys,xs=[.ref p]/\(mY X.K H p ys\/Cy X.K H p ys)/\∀ l,H l=none->Q (.ref l) (upd H l (.lst ys))):=by
 intro pins s σ H xs us Q I r h
 obtain⟨p,ys,rfl,hq,q⟩:=h
 obtain⟨u,rfl,rx⟩:=vals1 r
 cases rx
 have fin:∀ (aG:List Value),Vals ys aG->ys.length<=sizeLine->∀ (h':Heap) (c':Nat),(∀ b o',s.heap.get? b=some o'->h'.get? b=some o') ->
     h'.get? s.heap.objs.size=some { cls:=.type "list",dict:=none,data:=.seq aG.toArray c',slots:=#[]}->EP X pins σ Q (.ref s.heap.objs.size) { s with heap:=h'}:=fun aG r' hz h' c' kp e=>
   ⟨.ref s.heap.objs.size,_,I.laid (t':=s.toks) kp (aaa _) (show aP X.prog X.w _ h' _ (.lst ys) from⟨hz,aG,c',r',e⟩),rfl,q _ (I.bu.fresh (aaa _))⟩
 rcases hq with hq | hq
 . obtain⟨aG,r',pl,hz⟩:=I.list hq
   have hlen:=r'.length
   obtain⟨o,ho,hc,n,hd⟩:=pl.isList
   exact call_list_seq p (.inl rfl) ho hc hd (fun h' c' kp e=>fin aG r' hz h' c' kp e) (by simp only[aar] <;> omega)
 . obtain⟨aG,r',pl,hz⟩:=I.tuple hq
   have hlen:=r'.length
   obtain⟨o,ho,hc,n,hd⟩:=pl
   exact call_list_seq p (.inr rfl) ho hc hd (fun h' c' kp e=>fin aG r' hz h' c' kp e) (by simp only[aar] <;> omega)
def W3 (K:W.Frag)(T:String)(x:V)(H:Hp):Prop:=match x with
 | .str _=>T="str"
 | .int _=>T="int"
 | .ref p=>(T="list"/\∃ xs,mY K H p xs)\/(T="tuple"/\∃ o,K.lookup p=some o/\o.cls=.type "tuple"/\o.dict=none) \/
     (T="dict"/\((∃ kvs,H p=some (.dK kvs))\/(∃ kvs,H p=some (.dT kvs))\/∃ tg o kvs,H p=some (.kd tg o kvs)))\/(T="set"/\∃ S n,H p=some (.set S n)) \/
     (T="list"/\∃ (a:Addr) (ls:km) (ns:List Nat) (j:Nat) (f:Nat->List (Key×FD)) (N:Nat),H a=some (.bJ ls ns)/\ls[j]?=some (p,f)/\ns[j]?=some N)
 | _=>False
theorem HW {pins:List (Addr×Obj)}{σ:St}{H:Hp}{s:Shared}{T:String}{x:V}{v:Value}(I:Inv X pins σ H s)(r:RelV x v)(ty:W3 X.K T x H):s.TypeIs v T/\∀ a,v=.ref a->∃ ob,s.heap.get? a=some ob/\ob.dict=none:=by
 cases x with
 | str z=>
   obtain⟨t,rfl⟩:=r
   cases (show T="str" from ty)
   exact⟨typeIs_str s z t,fun _ e=>nomatch e⟩
 | int i=>
   obtain⟨t,rfl⟩:=r
   cases (show T="int" from ty)
   exact⟨typeIs_int s i t,fun _ e=>nomatch e⟩
 | ref p=>
   cases r
   rcases ty with⟨rfl,xs,hq⟩ | ⟨rfl,o,hk,hc,hd⟩ | ⟨rfl,hk⟩ | ⟨rfl,S,n,hk⟩ | ⟨rfl,a,ls,ns,j,f,N,h1,h2,h3⟩
   . obtain⟨aG,_,pl,_⟩:=I.list hq
     refine⟨pl.isList.typeIs,fun a e=>?_⟩
     cases e
     obtain⟨o,n,e,c,hd,_⟩:=pl
     exact⟨o,e,hd⟩
   . refine⟨⟨o,I.mX p o hk,hc⟩,fun a e=>?_⟩
     cases e
     exact⟨o,I.mX _ o hk,hd⟩
   . have z:∃ o,s.heap.get? p=some o/\o.ExactDict:=by
       rcases hk with⟨kvs,hk⟩ | ⟨kvs,hk⟩ | ⟨tg,ob,kvs,hk⟩
       . obtain⟨_,_,_,_,o,_,_,e,ex,_⟩:=I.bu p _ hk
         exact⟨o,e,ex⟩
       . obtain⟨_,_,_,_,o,_,_,e,ex,_⟩:=I.bu p _ hk
         exact⟨o,e,ex⟩
       . obtain⟨_,⟨_,_,_,_,o,_,_,e,ex,_⟩,_⟩:=I.bu p _ hk
         exact⟨o,e,ex⟩
     obtain⟨o,e,ex⟩:=z
     refine⟨⟨o,e,ex.1⟩,fun a e2=>?_⟩
     cases e2
     exact⟨o,e,ex.2.1⟩
   . obtain⟨o,_,_,_,e,ex,_⟩:=I.bu p _ hk
     refine⟨⟨o,e,ex.1⟩,fun a e2=>?_⟩
     cases e2
     exact⟨o,e,ex.2.1⟩
   . obtain⟨_,_,_,_,_,_,h6⟩:=(show aP X.prog X.w H s.heap a (.bJ ls ns) from I.bu a _ h1)
     obtain⟨aG,c,e1,e2,e3⟩:=h6 j p f N h2 h3
     refine⟨⟨_,e1,rfl⟩,fun a' e4=>?_⟩
     cases e4
     exact⟨_,e1,rfl⟩
 | _=>exact False.elim ty
def Yg (K:W.Frag)(T:String)(r:V->List V->Hp->VK->Prop)(to:TE):TE:=fun σ H Q=>to σ H fun x H1=>W3 K T x H1/\r x [] H1 Q
def tBM (K:W.Frag)(T:String)(r:V->List V->Hp->VK->Prop)(to:TE)(t:TA):TE:=fun σ H Q=>to σ H fun x H1=>W3 K T x H1/\t σ H1 fun xs H2=>r x xs H2 Q
variable {o e:Expr}{es:List Expr}{to:TE}{t:TA}{name:Str}{apos bM:Pos}{T id:String}{r:V->List V->Hp->VK->Prop}
theorem HX (pa:PlainAttrs T)(slot:Slot T name id)(Uz:typeOf (.builtin id)=pure (.type "method_descriptor"))(hm:Qn X id r)(ho:PE X o to)(i5:attributeBase o name X.env (eval o X.env)=eval o X.env:=by rfl)(i6:(apos.endLine == bM.line)=true:=by rfl):PE X (.Call (.Attribute o name apos) [] [] bM) (Yg X.K T r to):=by
 intro pins s σ H Q I h
 refine wpAny_Call_method0_late i5 i6 (bW (ho pins s σ H _ I h) fun v s1 ⟨x,H1,I1,r1,ty,q1⟩=>?_)
 obtain⟨h1,h2⟩:=HW I1 r1 ty
 exact⟨T,id,pa,slot,Uz,h1,h2,Calls.callWith_builtin rfl (PySem.evalArgs_none (hm pins s1 σ H1 x [] v [] Q I1 r1 .nil q1))⟩
theorem tL (pa:PlainAttrs T)(slot:Slot T name id)(Uz:typeOf (.builtin id)=pure (.type "method_descriptor"))(hm:Qn X id r)(ho:PE X o to)(ha:PA X (e::es) t)
   (i5:attributeBase o name X.env (eval o X.env)=eval o X.env:=by rfl)
   (se:((backTo bM (starEach (e::es) X.env)).all (fun x=>!x.1) && (backToKw bM (keywordEach [] X.env)).all (fun x=>x.1.isSome)
     && decide ((e::es).length+([]:List Keyword).length+(if ([]:List Keyword).isEmpty then 0 else 1) < 30))=true:=by rfl)
   (i6:(apos.endLine == bM.line)=true:=by rfl) (hs:starEach (e::es) X.env=(false,eval e X.env)::starEach es X.env:=by rfl) (Qs:(backTo bM (starEach es X.env)).any (·.1)=false:=by rfl) :
   PE X (.Call (.Attribute o name apos) (e::es) [] bM) (tBM X.K T r to t):=by
 intro pins s σ H Q I h
 refine wpAny_Call_method_late i5 se i6 rfl (bW (ho pins s σ H _ I h) fun v s1 ⟨x,H1,I1,r1,ty,q1⟩=>?_)
 obtain⟨h1,h2⟩:=HW I1 r1 ty
 refine⟨T,id,pa,slot,Uz,h1,h2,?_⟩
 have hA:=ha bM pins s1 σ H1 _ I1 q1
 rw[hs] at hA ⊢
 refine Calls.callWith_builtin (by show(false || (backTo bM (starEach es X.env)).any (·.1))=false;rw[Qs] <;> rfl) (Calls.evalArgs_plain ?_)
 exact bW hA fun us s2 ⟨vs,H2,I2,r2,q2⟩=>hm pins s2 σ H2 x vs v us Q I2 r1 r2 q2
end
def Yh (X:Cx)(id:String)(r:V->List V->Hp->VK->Prop):Prop:=
 ∀ (pins:List (Addr×Obj)) (s:Shared) (σ:St) (H:Hp) (x:V) (xs:List V) (v:Value) (us:List Value) (Q:VK),Inv X pins σ H s->RelV x v->Vals xs us->r x xs H Q ->
   wpAny (model X.prog X.w) X.A (call (.builtin id) (v::us)) (EP X pins σ Q) X.xe s
theorem Vals.one:∀ {x:V} {us:List Value},Vals [x] us->∃ u,us=[u]/\RelV x u
 | _,_,.cons r .nil=>⟨_,rfl,r⟩
theorem Vals.zero:∀ {us:List Value},Vals [] us->us=[]
 | _,.nil=>rfl
theorem Vals.dropLast {xs:List V}{us:List Value}(h:Vals xs us):Vals xs.dropLast us.dropLast:=by
 induction h with
 | nil=>exact .nil
 | cons r t ih=>
   cases t with
   | nil=>exact .nil
   | cons q t'=>exact .cons r ih
theorem Vals.rep {xs:List V}{us:List Value}(h:Vals xs us):∀ k:Nat,Vals (aan k xs).flatten (aan k us).flatten
 | 0=>.nil
 | k+1=>by
   rw[abd,abd,aa4,aa4]
   exact Vals.append h (Vals.rep h k)
theorem CU {α:Type}(l:List α):l.eraseIdx (l.length - 1)=l.dropLast:=by
 induction l with
 | nil=>rfl
 | cons a r ih=>
   cases r with
   | nil=>rfl
   | cons b r=>
     have e:(a::b::r).length - 1=((b::r).length - 1)+1:=by
       have h1:(a::b::r).length=r.length+2:=rfl
       have h2:(b::r).length=r.length+1:=rfl
       omega
     rw[e,List.eraseIdx_cons_succ,ih]
     all_goals rfl
theorem foldl_rep (aG:List Value):∀ (k:Nat) (acc:List Value),List.foldl (fun x1 x2=>x1 ++ x2) acc.toArray (aan k aG.toArray)=(acc ++ (aan k aG).flatten).toArray
 | 0,acc=>by simp
 | k+1,acc=>by
   have e:acc.toArray ++ aG.toArray=(acc ++ aG).toArray:=by simp
   have e2:(acc ++ aG) ++ (aan k aG).flatten=acc ++ (aan (k+1) aG).flatten:=by
     rw[abd,aa4,List.append_assoc]
   rw[<- e2,<- foldl_rep aG k (acc ++ aG),<- e,abd,List.foldl_cons]
section
variable {X:Cx}{pins:List (Addr×Obj)}{σ:St}{H:Hp}{s:Shared}{l:Addr}{xs ys:List V}
theorem Inv.Qt {aG its':List Value}{n:Nat}{f:Array Value->Array Value}{t':Nat}(I:Inv X pins σ H s)(hH:H l=some (.lst xs))(e:s.heap.get? l=some { cls:=.type "list",data:=.seq aG.toArray n})(hf:f aG.toArray=its'.toArray)(hv:Vals ys its')(hz:ys.length<=sizeLine):Inv X pins σ (upd H l (.lst ys)) { s with heap:=s.heap.update l (Obj.mapSeq f),toks:=t'}:=by
 have q:=PySem.IsL.update e f
 rw[hf] at q
 refine I.write (x:=l) (e:=l) (by rw[hH];exact trivial) (.inl rfl) (fun b' u hb hu=>(abH s.heap (Obj.mapSeq f) (Ne.symm hb)).trans hu) ⟨_,q⟩ ?_
 exact⟨hz,its',_,hv,q⟩
theorem Inv.Yi {aG:List Value}{t':Nat}(I:Inv X pins σ H s)(hv:Vals ys aG)(hz:ys.length<=sizeLine):Inv X pins σ (upd H s.heap.objs.size (.lst ys)) { s with heap:=s.heap.push { cls:=.type "list",data:=.seq aG.toArray},toks:=t'}:=
 I.laid (fun _ _ q=>aag _ q) (aaa _) ⟨hz,aG,0,hv,aat _ rfl⟩
theorem Inv.fresh (I:Inv X pins σ H s):H s.heap.objs.size=none:=I.bu.fresh (aaa _)
theorem Inv.HY (I:Inv X pins σ H s)(hH:H l=some (.lst xs)):xs.length<=sizeLine/\∃ (aG:List Value) (n:Nat),Vals xs aG/\xs.length=aG.length/\s.heap.get? l=some { cls:=.type "list",data:=.seq aG.toArray n}:=by
 obtain⟨z,aG,n,r,e⟩:=I.bu l _ hH
 exact⟨z,aG,n,r,r.length,e⟩
theorem A7 {n:Nat}(h:n<=sizeLine):Builtin.List.listTooLong n=false:=by
 unfold Builtin.List.listTooLong
 exact decide_eq_false (by omega)
end
section
variable {X:Cx}
def Me:V->List V->Hp->VK->Prop:=fun x vs H Q=>∃ l xs y,x=.ref l/\vs=[y]/\H l=some (.lst xs)/\xs.length < sizeLine/\Q .cS (upd H l (.lst (xs ++ [y])))
theorem o7:Yh X "list.append" Me:=by
 intro pins s σ H x vs v us Q I rx rv h
 obtain⟨l,xs,y,rfl,rfl,hH,hz,q⟩:=h
 cases rx
 obtain⟨u,rfl,ru⟩:=rv.one
 obtain⟨z,aG,n,r,hl,e⟩:=I.HY hH
 refine call_meets F.slot_list_append ⟨_,e,rfl⟩ F.entry_list_append (F.args_list_append_2 _ _) (PySem.list_append l aG.toArray n u (by rw[aar];omega)) ⟨e,?_⟩
 refine⟨.cS,_,I.Qt (its':=aG ++ [u]) hH e (by simp) (r.append (.cons ru .nil)) ?_,rfl,q⟩
 rw[aax,List.length_singleton]
 omega
def Mf:V->List V->Hp->VK->Prop:=fun x vs H Q=>∃ l b xs zs,x=.ref l/\vs=[.ref b]/\H l=some (.lst xs)/\H b=some (.lst zs)/\xs.length+zs.length<=sizeLine/\Q .cS (upd H l (.lst (xs ++ zs)))
theorem F9:Yh X "list.extend" Mf:=by
 intro pins s σ H x vs v us Q I rx rv h
 obtain⟨l,b,xs,zs,rfl,rfl,hH,hB,hz,q⟩:=h
 cases rx
 obtain⟨u,rfl,ru⟩:=rv.one
 cases ru
 obtain⟨z,aG,n,r,hl,e⟩:=I.HY hH
 obtain⟨z2,Mg,n2,r2,UA,e2⟩:=I.HY hB
 have hsz:aG.toArray.size+Mg.toArray.size<=sizeLine:=by rw[aar,aar];omega
 have HZ:¬ (!aG.toArray.isEmpty && Builtin.List.listTooLong (aG.toArray.size+Mg.toArray.size))=true:=by
   rw[A7 hsz,Bool.and_false]
   exact aas
 refine call_meets F.slot_list_extend ⟨_,e,rfl⟩ F.entry_list_extend (F.args_list_extend_2 _ _)
   (AutoSeq1.list_extend_list_list_0 l aG.toArray n b Mg.toArray n2 HZ (by rw[aar];omega) (by omega)) ⟨e,e2,?_⟩
 refine⟨.cS,_,I.Qt (its':=aG ++ Mg) hH e (by simp) (r.append r2) ?_,rfl,q⟩
 rw[aax]
 omega
def Yj:V->List V->Hp->VK->Prop:=fun x vs H Q=>∃ l xs y,x=.ref l/\vs=[]/\H l=some (.lst xs)/\xs[xs.length - 1]?=some y/\Q y (upd H l (.lst xs.dropLast))
theorem Qu:Yh X "list.pop" Yj:=by
 intro pins s σ H x vs v us Q I rx rv h
 obtain⟨l,xs,y,rfl,rfl,hH,hy,q⟩:=h
 cases rx
 have hus:=rv.zero
 subst hus
 obtain⟨z,aG,n,r,hl,e⟩:=I.HY hH
 obtain⟨u,hu,ru⟩:=r.get hy
 have UB:aG.toArray[aG.toArray.size - 1]?=some u:=by
   show aG.toArray[aG.length - 1]?=some u
   rw[<- abM,<- hl]
   exact hu
 refine call_meets F.slot_list_pop ⟨_,e,rfl⟩ F.entry_list_pop (F.args_list_pop_1 _) (MeetsSeq.list_pop_last l aG.toArray n u UB (by rw[aar];omega)) ⟨e,?_⟩
 refine⟨y,_,I.Qt (its':=aG.dropLast) hH e ?_ r.dropLast ?_,ru,q⟩
 . show aG.toArray.eraseIdxIfInBounds (aG.toArray.size - 1)=aG.dropLast.toArray
   rw[aar,List.eraseIdxIfInBounds_toArray,CU]
 . rw[abo]
   omega
def Yk:R2:=fun x y H Q=>∃ l k xs,x=.ref l/\y=.int k/\H l=some (.lst xs)/\-(2 ^ 63)<=k/\k < 2 ^ 63/\xs.length * k.toNat<=sizeLine /\
 ∀ p,H p=none->Q (.ref p) (upd H p (.lst (aan k.toNat xs).flatten))
theorem len_rep {α:Type}(xs:List α)(k:Nat):(aan k xs).flatten.length=k * xs.length:=by
 induction k with
 | zero=>simp
 | succ k ih=>rw[abd,aa4,aax,ih,Nat.succ_mul,Nat.add_comm]
theorem Qv:oi X (binaryOp .Mult) Yk:=by
 intro pins s σ H x y v u Q I rx ry h
 obtain⟨l,k,xs,rfl,rfl,hH,h1,h2,hz,q⟩:=h
 cases rx
 obtain⟨t,rfl⟩:=ry
 obtain⟨z,aG,n,r,hl,e⟩:=I.HY hH
 have hlen:aG.toArray.size * k.toNat<=sizeLine:=by rw[aar,<- hl];exact hz
 have Yl:¬ aG.toArray.size * k.toNat > (2 ^ 63 - 1) / 8:=by
   have:(sizeLine:Nat)<=(2 ^ 63 - 1) / 8:=by decide
   omega
 have vz:¬ (!Builtin.List.listFitsIndex k)=true:=by
   rw[fitsIndex_both h1 h2]
   exact aas
 have HZ:¬ Builtin.List.listTooLong (aG.toArray.size * k.toNat)=true:=by
   rw[A7 hlen]
   exact aas
 have Ga:List.foldl (fun x1 x2=>x1 ++ x2) #[] (aan (if aG.toArray.isEmpty=true then 0 else k.toNat) aG.toArray)=(aan k.toNat aG).flatten.toArray:=by
   have f0:∀ m:Nat,List.foldl (fun x1 x2=>x1 ++ x2) #[] (aan m aG.toArray)=(aan m aG).flatten.toArray:=fun m=>by
     have:=foldl_rep aG m []
     rw[List.nil_append] at this
     exact this
   rw[f0]
   cases aG with
   | nil=>simp
   | cons a r'=>rw[if_neg (by simp)]
 refine wpAny_binaryOp_repeat_ref (T:="list") (U:="int") (by decide) ⟨_,e,rfl⟩ (fun s'=>typeIs_int s' k t) noFill_list_mul F.fills_int_mul F.slot_int_rmul repeat_list F.slot_int_index.lookup
   (call_meets F.slot_int_rmul (typeIs_int s k t) F.entry_int_rmul (F.args_int_rmul_2 _ _) (int___rmul___int_list k t l aG.toArray n)
     ⟨e,rfl,⟨_,e,rfl⟩,call_meets F.slot_list_mul ⟨_,e,rfl⟩ F.entry_list_mul (F.args_list_mul_2 _ _) (AutoListH.list___mul___list_int_3 l aG.toArray n k t vz Yl HZ) ⟨e,?_⟩⟩)
 rw[Ga]
 exact⟨.ref _,_,I.Yi (t':=s.toks) (r.rep k.toNat) (by rw[len_rep,Nat.mul_comm];exact hz),rfl,q _ I.fresh⟩
end
section
variable {κ:Type}[DecidableEq κ]
noncomputable def oB (kvs:List (κ×V))(k:κ):Option V:=(kvs.find? fun kv=>decide (kv.1=k)).map (·.2)
noncomputable def putK (kvs:List (κ×V))(k:κ)(v:V):List (κ×V):=
 if (kvs.any fun kv=>decide (kv.1=k))=true then kvs.map (fun kv=>if kv.1=k then (kv.1,v) else kv) else kvs ++ [(k,v)]
theorem oC {p:κ×V}{r:List (κ×V)}{k:κ}(e:p.1=k):oB (p::r) k=some p.2:=by simp[oB,abl,e]
theorem mD {p:κ×V}{r:List (κ×V)}{k:κ}(e:¬ p.1=k):oB (p::r) k=oB r k:=by simp[oB,abl,e]
theorem qV (k:κ):∀ kvs:List (κ×V),(kvs.any fun kv=>decide (kv.1=k))=(oB kvs k).isSome
 | []=>rfl
 | p::r=>by
   rw[abC]
   by_cases e:p.1=k
   . simp only[oC e,decide_eq_true e,Bool.true_or,Option.isSome_some]
   . rw[mD e,decide_eq_false e,Bool.false_or];exact qV k r
theorem tM (kvs:List (κ×V))(k:κ)(v:V):(putK kvs k v).length<=kvs.length+1:=by
 unfold putK
 split
 . rw[k5];omega
 . rw[aax,aaN,List.length_nil];omega
theorem pV.sh {o:Option V}{u:Option Value}(r:pV o u):o.isSome=u.isSome:=by
 cases o with
 | none=>cases u with
   | none=>rfl
   | some _=>exact(show False from r).elim
 | some _=>cases u with
   | none=>exact(show False from r).elim
   | some _=>rfl
theorem KV.val {kvs:List (κ×V)}{vs:List (κ×Value)}(r:KV kvs vs)(k:κ):pV (oB kvs k) (valueAt vs k):=by
 unfold KV at r
 induction r with
 | nil=>exact True.intro
 | @cons p q ps qs h t ih=>
   obtain⟨h1,h2⟩:=h
   by_cases e:p.1=k
   . have e':q.1=k:=h1.symm.trans e
     have b:valueAt (q::qs) k=some q.2:=by simp[valueAt,abl,e']
     rw[oC e,b];exact h2
   . have e':¬ q.1=k:=fun z=>e (h1.trans z)
     have b:valueAt (q::qs) k=valueAt qs k:=by simp[valueAt,abl,e']
     rw[mD e,b];exact ih
theorem KV.any {kvs:List (κ×V)}{vs:List (κ×Value)}(r:KV kvs vs)(k:κ):(kvs.any fun kv=>decide (kv.1=k))=vs.any fun kv=>decide (kv.1=k):=by
 unfold KV at r
 induction r with
 | nil=>rfl
 | cons h t ih=>rw[abC,abC,ih,h.1]
theorem KV.Qw {kvs:List (κ×V)}{vs:List (κ×Value)}(r:KV kvs vs)(k:κ){y:V}{u:Value}(ry:RelV y u):KV (kvs.map fun kv=>if kv.1=k then (kv.1,y) else kv) (vs.map fun kv=>if kv.1=k then (kv.1,u) else kv):=by
 unfold KV at r ⊢
 induction r with
 | nil=>exact .nil
 | @cons p q ps qs h t ih=>
   rw[aau,aau]
   refine .cons ?_ ih
   obtain⟨h1,h2⟩:=h
   by_cases e:p.1=k
   . rw[if_pos e,if_pos (h1.symm.trans e)];exact⟨h1,ry⟩
   . rw[if_neg e,if_neg (fun z=>e (h1.trans z))];exact⟨h1,h2⟩
theorem KV.put {kvs:List (κ×V)}{vs:List (κ×Value)}(r:KV kvs vs)(k:κ){y:V}{u:Value}(ry:RelV y u):KV (putK kvs k y) (stored vs k u):=by
 unfold putK stored
 rw[r.any k]
 by_cases e:(vs.any fun kv=>decide (kv.1=k))=true
 . rw[if_pos e,if_pos e];exact r.Qw k ry
 . rw[if_neg e,if_neg e];exact Paired.snoc r ⟨rfl,ry⟩
theorem KV.length {kvs:List (κ×V)}{vs:List (κ×Value)}(r:KV kvs vs):kvs.length=vs.length:=Paired.length r
end
theorem A8 {P:Program}{w:World}{k:Key}{u:Value}(r:RelV (kV k) u):(cR P w).is k u=true:=by
 cases k with
 | inl i=>obtain⟨t,e⟩:=(show ∃ t,u=Value.int i t from r);subst e;exact AL P w i t
 | inr x=>obtain⟨t,e⟩:=(show ∃ t,u=Value.str x t from r);subst e;exact AM P w x t
theorem yl {P:Program}{w:World}:∀ {ks:List Key} {us:List Value},Vals (ks.map kV) us->ItemsAre (cR P w) ks us
 | [],_,r=>by rw[List.map_nil] at r;cases r;exact .nil
 | k::ks,_,r=>by
   rw[aau] at r
   cases r with
   | cons h t=>exact .cons (A8 h) (yl t)
abbrev KT (H:Hp):List (List Key×V)->List (List Key×Addr×Value)->Prop:=Paired fun p q=>p.1=q.1/\H q.2.1=some (.tup (p.1.map kV))/\RelV p.2 q.2.2
theorem KT.val {H:Hp}{kvs:List (List Key×V)}{xs:List (List Key×Addr×Value)}(r:KT H kvs xs)(k:List Key):pV (oB kvs k) ((atKey xs k).map (·.2)):=by
 induction r with
 | nil=>exact True.intro
 | @cons p q ps qs h t ih=>
   obtain⟨h1,_,h2⟩:=h
   by_cases e:p.1=k
   . have e':q.1=k:=h1.symm.trans e
     have b:atKey (q::qs) k=some q.2:=by simp[atKey,abl,e']
     rw[oC e,b];exact h2
   . have e':¬ q.1=k:=fun z=>e (h1.trans z)
     have b:atKey (q::qs) k=atKey qs k:=by simp[atKey,abl,e']
     rw[mD e,b];exact ih
theorem KT.Qw {H:Hp}{kvs:List (List Key×V)}{xs:List (List Key×Addr×Value)}(r:KT H kvs xs)(k:List Key){y:V}{u:Value}(ry:RelV y u):KT H (kvs.map fun kv=>if kv.1=k then (kv.1,y) else kv) (xs.map (putAt k u)):=by
 induction r with
 | nil=>exact .nil
 | @cons p q ps qs h t ih=>
   rw[aau,aau]
   refine .cons ?_ ih
   obtain⟨h1,h2,h3⟩:=h
   unfold putAt
   by_cases e:p.1=k
   . rw[if_pos e,if_pos (h1.symm.trans e)];exact⟨h1,h2,ry⟩
   . rw[if_neg e,if_neg (fun z=>e (h1.trans z))];exact⟨h1,h2,h3⟩
theorem KT.put {H:Hp}{kvs:List (List Key×V)}{xs:List (List Key×Addr×Value)}(r:KT H kvs xs)(k:List Key){b:Addr}{y:V}{u:Value}(hb:H b=some (.tup (k.map kV)))(ry:RelV y u):KT H (putK kvs k y) (storedH xs k b u):=by
 have e:(kvs.any fun kv=>decide (kv.1=k))=(atKey xs k).isSome:=by
   rw[qV,(r.val k).sh,Option.isSome_map]
 unfold putK storedH
 rw[e]
 by_cases q:(atKey xs k).isSome=true
 . rw[if_pos q,if_pos q];exact r.Qw k ry
 . rw[if_neg q,if_neg q];exact Paired.snoc r ⟨rfl,hb,ry⟩
theorem KT.keeps {H H':Hp}{kvs:List (List Key×V)}{xs:List (List Key×Addr×Value)}(r:KT H kvs xs)(ht:∀ b ys,H b=some (.tup ys)->H' b=some (.tup ys)):KT H' kvs xs:=
 Paired.PR r fun _ _ z=>⟨z.1,ht _ _ z.2.1,z.2.2⟩
section
variable {P:Program}{w:World}{H:Hp}{h:Heap}{a:Addr}
theorem OH {u:HO}(ok:qN P w H h)(e:Rd H a u):aP P w H h a u:=e.ok ok
theorem tN {kvs:List (Key×V)}(ok:qN P w H h)(e:Rd H a (.dK kvs)):kvs.length<=sizeLine/\(a == sysModules)=false/\∃ vs,KV kvs vs/\h.DictOf (cR P w) a vs:=
 show aP P w H h a (.dK kvs) from OH ok e
theorem OI {kvs:List (Key×V)}(ok:qN P w H h)(e:H a=some (.dK kvs)):kvs.length<=sizeLine/\(a == sysModules)=false/\∃ vs,KV kvs vs/\h.DictOf (cR P w) a vs:=tN ok (.inl e)
theorem ze {ks:List Key}(ok:qN P w H h)(e:H a=some (.tup (ks.map kV))):(tupleKind (cR P w)).is h ks a:=by
 obtain⟨_,aG,r,o,h1,h2,n,h3⟩:=(show aP P w H h a (.tup (ks.map kV)) from ok a _ e)
 exact⟨o,aG.toArray,n,h1,h2,h3,by simpa using yl r⟩
theorem Ed {kvs:List (List Key×V)}(ok:qN P w H h)(e:Rd H a (.dT kvs)):kvs.length<=sizeLine/\(a == sysModules)=false/\∃ xs,KT H kvs xs/\h.DictOfH (tupleKind (cR P w)) a xs:=by
 obtain⟨z,y,xs,r,o,es,ep,h1,h2,h3,h4,h5⟩:=(show aP P w H h a (.dT kvs) from OH ok e)
 refine⟨z,y,xs,r,o,es,ep,h1,h2,h3,h4,fun x hx=>?_,h5⟩
 have all:∀ {l:List (List Key×V)} {m:List (List Key×Addr×Value)},KT H l m->∀ x∈m,(tupleKind (cR P w)).is h x.1 x.2.1:=by
   intro l m q
   induction q with
   | nil=>intro x hx;exact nomatch hx
   | @cons p q ps qs hq t ih=>
     intro x hx
     rcases aaH.mp hx with e | hx
     . subst e
       exact ze ok (by rw[<- hq.1];exact hq.2.1)
     . exact ih x hx
 exact all r x hx
theorem UC {kvs:List (List Key×V)}(ok:qN P w H h)(e:H a=some (.dT kvs)):kvs.length<=sizeLine/\(a == sysModules)=false/\∃ xs,KT H kvs xs/\h.DictOfH (tupleKind (cR P w)) a xs:=Ed ok (.inl e)
end
def t8 (H:Hp)(a:Addr)(y:V)(r:Option V):Prop:=
 (∃ kvs k,Rd H a (.dK kvs)/\y=kV k/\r=oB kvs k)\/∃ kvs k b,Rd H a (.dT kvs)/\y=.ref b/\H b=some (.tup (k.map kV))/\r=oB kvs k
def Gb (H:Hp)(a:Addr)(y v:V)(H':Hp):Prop:=
 (∃ kvs k,H a=some (.dK kvs)/\y=kV k/\kvs.length < sizeLine/\H'=upd H a (.dK (putK kvs k v))) \/
 ∃ kvs k b,H a=some (.dT kvs)/\y=.ref b/\H b=some (.tup (k.map kV))/\kvs.length < sizeLine/\H'=upd H a (.dT (putK kvs k v))
theorem t8.k {H:Hp}{a:Addr}{kvs:List (Key×V)}{k:Key}(e:H a=some (.dK kvs)):t8 H a (kV k) (oB kvs k):=.inl ⟨kvs,k,.inl e,rfl,rfl⟩
theorem Gb.k {H:Hp}{a:Addr}{kvs:List (Key×V)}{k:Key}{v:V}(e:H a=some (.dK kvs))(hl:kvs.length < sizeLine):Gb H a (kV k) v (upd H a (.dK (putK kvs k v))):=.inl ⟨kvs,k,e,rfl,hl,rfl⟩
section
variable {X:Cx}{pins:List (Addr×Obj)}{σ:St}{H:Hp}{s:Shared}{a:Addr}{y v:V}{u r:Value}{o:Option V}{A:Around}{E:Value->Shared->Prop}
theorem Inv.big (I:Inv X pins σ H s):sysModules < s.heap.objs.size:=by
 have h:mainGlobals < s.heap.objs.size:=(I.mod.glob.keeps I.bk).lt
 exact Nat.lt_trans (by decide) h
theorem Gd {Q:Value->Shared->Prop}(hu:A.units+1 < cLine)(I:Inv X pins σ H s)(g:t8 H a y (some v))(ry:RelV y u)(h:∀ w' s',Inv X pins σ H s'->RelV v w'->Q w' s'):wpAny (model X.prog X.w) A (getItem (.ref a) u) Q E s:=by
 rcases g with⟨kvs,k,e,ey,l⟩ | ⟨kvs,k,b,e,ey,eb,l⟩
 . subst ey
   obtain⟨z,hd,vs,rel,dd⟩:=tN I.bu e
   obtain⟨w',hw,HE⟩:=pV.some_of (v:=v) (o:=valueAt vs k) (by rw[l];exact rel.val k)
   exact wpAny_getItem_of (A8 ry) dd.mapOf hw (h w' _ (I.tok _) HE)
 . subst ey
   cases (show u=Value.ref b from ry)
   obtain⟨z,hd,xs,rel,dd⟩:=Ed I.bu e
   obtain⟨w',hw,HE⟩:=pV.some_of (v:=v) (o:=(atKey xs k).map (·.2)) (by rw[l];exact rel.val k)
   obtain⟨p,hp,zf⟩:=Option.map_eq_some_iff.mp hw
   refine wpAny_getItem_heap (tupleKind_room_in1 hu) (ze I.bu eb) dd hp ?_
   rw[zf]
   exact h w' _ (I.tok _) HE
theorem Mh {Q:Value->Shared->Prop}(hu:A.units+1 < cLine)(I:Inv X pins σ H s)(g:t8 H a y o)(ry:RelV y u)(h:∀ s',Inv X pins σ H s'->Q (.bool (!o.isSome)) s'):wpAny (model X.prog X.w) A (compareOp .NotIn u (.ref a)) Q E s:=by
 rcases g with⟨kvs,k,e,ey,l⟩ | ⟨kvs,k,b,e,ey,eb,l⟩
 . subst ey
   obtain⟨z,hd,vs,rel,dd⟩:=tN I.bu e
   refine wpAny_notIn_of (A8 ry) hd dd.mapOf ?_
   rw[<- (rel.val k).sh,<- l]
   exact h _ (I.tok _)
 . subst ey
   cases (show u=Value.ref b from ry)
   obtain⟨z,hd,xs,rel,dd⟩:=Ed I.bu e
   refine wpAny_notIn_heap (tupleKind_room_in1 hu) (ze I.bu eb) hd dd ?_
   have q:=(rel.val k).sh
   rw[Option.isSome_map] at q
   rw[<- q,<- l]
   exact h _ (I.tok _)
theorem m7 {h':Heap}{t':Nat}{ob:HO}(I:Inv X pins σ H s)(mu:Tt (H a))(hs:abt a s.heap h')(he:∃ q,h'.get? a=some q)(new:aP X.prog X.w (upd H a ob) h' a ob):Inv X pins σ (upd H a ob) { s with heap:=h',toks:=t'}:=
 I.write (x:=a) (e:=a) mu (.inl rfl) (fun b q hb z=>(hs.2 b hb).trans z) he new
theorem Ia {P:Program}{w:World}{H':Hp}{h':Heap}{kvs:List (Key×V)}{vs:List (Key×Value)}(z:kvs.length<=sizeLine)(hd:(a == sysModules)=false)(rel:KV kvs vs)(dd:h'.DictOf (cR P w) a vs):aP P w H' h' a (.dK kvs):=⟨z,hd,vs,rel,dd⟩
theorem Ge {H':Hp}{Q:Unit->Shared->Prop}(hu:A.units+1 < cLine)(I:Inv X pins σ H s)(g:Gb H a y v H')(ry:RelV y u)(rv:RelV v r)(h:∀ s',Inv X pins σ H' s'->Q () s'):wpAny (model X.prog X.w) A (setItem (.ref a) u r) Q E s:=by
 rcases g with⟨kvs,k,e,ey,l,eH⟩ | ⟨kvs,k,b,e,ey,eb,l,eH⟩
 . subst ey eH
   obtain⟨z,hd,vs,rel,dd⟩:=OI I.bu e
   have hz:vs.length<=sizeLine:=by rw[<- rel.length];exact z
   have hl:(putK kvs k v).length<=sizeLine:=by have:=tM kvs k v;omega
   refine wpAny_setItem_pairs (hsz:=hz) (A8 ry) dd fun h' Qx hs=>h _ ?_
   have he:∃ q,h'.get? a=some q:=let ⟨q,_,_,hq,_⟩:=Qx;⟨q,hq⟩
   exact m7 I (by rw[e];exact True.intro) hs he (Ia hl hd (rel.put k rv) Qx)
 . subst ey eH
   cases (show u=Value.ref b from ry)
   obtain⟨z,hd,xs,rel,dd⟩:=UC I.bu e
   have hz:xs.length<=sizeLine:=by rw[<- Paired.length rel];exact z
   have hl:(putK kvs k v).length<=sizeLine:=by have:=tM kvs k v;omega
   refine wpAny_setItem_heap (hsz:=hz) (tupleKind_room_in1 hu) (ze I.bu eb) dd fun h' Qx hs=>h _ ?_
   obtain⟨q,es,ep,hq,h2,h3,h4,_,h5⟩:=Qx
   refine m7 I (by rw[e];exact True.intro) hs ⟨q,hq⟩ ⟨hl,hd,_,(rel.put k eb rv).keeps fun c ys ec=>?_,q,es,ep,hq,h2,h3,h4,h5⟩
   rw[aj (TZ ec e (fun z=>nomatch z))]
   exact ec
end
def Mi (i:Expr):Prop:=∀ ov iv,subscripted i false ov iv=operate [ov,iv] (getItem ov iv)
theorem Mj {prog:Program}{w:World}{A:Around}{E:Value->Shared->Prop}{s:Shared}{env:Env}{value slice:Expr}{pos:Pos}{T id:String}{Q:Value->Shared->Prop}(hl:typeLookup (.type T) "__getitem__"=pure (some (.builtin id)))(hs:Mi slice)(h:wpAny (model prog w) A (eval value env) (fun o s₁=>wpAny (model prog w) A (eval slice env) (fun i s₂=>s₂.TypeIs o T/\wpAny (model prog w) A (getItem o i) Q E s₂) E s₁) E s):wpAny (model prog w) A (eval (.Subscript value slice pos) env) Q E s:=by
 refine Subscript_ (wpAny_mono h (fun o s₁ h₁=>wpAny_mono h₁ (fun i s₂ h₂=>?_) fun _ _ x=>x) fun _ _ x=>x)
 obtain⟨hT,h₂⟩:=h₂
 unfold subscriptTail
 refine wpAny_bind ?_
 rw[getitemInPython_of_ne hT.not_modules]
 refine wpAny_bind (wpAny_specialOf hT hl ?_)
 have fin:wpAny (model prog w) A (subscripted slice false o i) (fun r s₃=>wpAny (model prog w) A (letTemporaryGo value o r >>= fun _=>pure r) Q E s₃) E s₂:=by
   rw[hs o i]
   exact wpAny_operating (wpAny_mono h₂ (fun r s₃ h₃=>wpAny_bind (wpAny_letTemporaryGo (wpAny_pure h₃))) fun _ _ x=>x)
 first
   | exact wpAny_pure (wpAny_bind fin)
   | exact wpAny_bind (wpAny_pure (wpAny_bind fin))
   | exact wpAny_bind fin
theorem A9 {X:Cx}{pins:List (Addr×Obj)}{σ:St}{H:Hp}{s:Shared}{a:Addr}{y:V}{o:Option V}(I:Inv X pins σ H s)(g:t8 H a y o):s.TypeIs (.ref a) "dict":=by
 rcases g with⟨kvs,k,e,_,_⟩ | ⟨kvs,k,b,e,_,_,_⟩
 . obtain⟨_,_,vs,_,dd⟩:=tN I.bu e
   exact dd.typeIs
 . obtain⟨_,_,xs,_,dd⟩:=Ed I.bu e
   exact dd.typeIs
def UD (td ty:TE):TE:=fun σ H Q=>td σ H fun x H1=>ty σ H1 fun y H2=>∃ a v,x=.ref a/\t8 H2 a y (some v)/\Q v H2
def Ym (ty td:TE):TE:=fun σ H Q=>ty σ H fun y H1=>td σ H1 fun x H2=>∃ a o,x=.ref a/\t8 H2 a y o/\Q (.bl o.isSome) H2
def Ee (ty td:TE):TE:=fun σ H Q=>ty σ H fun y H1=>td σ H1 fun x H2=>∃ a o,x=.ref a/\t8 H2 a y o/\Q (.bl (!o.isSome)) H2
def UE (td ty tv:TE):TS:=fun D σ H=>tv σ H fun v H1=>td σ H1 fun x H2=>ty σ H2 fun y H3=>∃ a H4,x=.ref a/\Gb H3 a y v H4/\D.nx σ H4
section
variable {X:Cx}{o i value:Expr}{pos pos':Pos}{td ty tv:TE}
theorem Ef (hu:X.A.units+1 < cLine)(ho:PE X o td)(hi:PE X i ty)(hs:Mi i):PE X (.Subscript o i pos) (UD td ty):=by
 intro pins s σ H Q I h
 refine Mj PySem.F.slot_dict_getitem.lookup hs (bW (ho pins s σ H _ I h) fun u s1 ⟨x,H1,I1,rx,q1⟩=>bW (hi pins s1 σ H1 _ I1 q1) fun iv s2 ⟨y,H2,I2,ry,a,v,ex,g,q2⟩=>?_)
 subst ex
 obtain rfl:u=Value.ref a:=rx
 exact⟨A9 I2 g,Gd hu I2 g ry fun w' s3 I3 HE=>⟨v,H2,I3,HE,q2⟩⟩
theorem Gf (hu:X.A.units+1 < cLine)(hi:PE X i ty)(ho:PE X o td):PC X .NotIn i o (Ee ty td):=by
 intro pins s σ H Q I h
 refine bW (hi pins s σ H _ I h) fun iv s1 ⟨y,H1,I1,ry,q1⟩=>bW (ho pins s1 σ H1 _ I1 q1) fun u s2 ⟨x,H2,I2,rx,a,ov,ex,g,q2⟩=>?_
 subst ex
 obtain rfl:u=Value.ref a:=rx
 exact Mh hu I2 g ry fun s3 I3=>⟨.bl (!ov.isSome),H2,I3,rfl,q2⟩
theorem Eg (hu:X.A.units+1 < cLine)(ho:PE X o td)(hi:PE X i ty)(hv:PE X value tv)(hs:swapsWith value (some (.Subscript o i pos')) pos.line X.env=pure false):PS X (.Assign [.Subscript o i pos'] value pos) (UE td ty tv):=by
 intro pins s σ H D I h
 refine wpAny_Assign_Subscript (bW (hv pins s σ H _ I h) fun r s1 ⟨v,H1,I1,rv,q1⟩=>bW (ho pins s1 σ H1 _ I1 q1) fun u s2 ⟨x,H2,I2,rx,q2⟩=>bW (hi pins s2 σ H2 _ I2 q2) fun iv s3 ⟨y,H3,I3,ry,a,H4,ex,g,q3⟩=>?_) hs
 subst ex
 obtain rfl:u=Value.ref a:=rx
 exact Ge hu I3 g ry rv fun s4 I4=>⟨σ,H4,I4,q3⟩
end
theorem Ba {P:Program}{w:World}{H:Hp}(h:Heap)(hb:sysModules < h.objs.size):aP P w H (h.push { cls:=.type "dict",data:=.dict #[]}) h.objs.size (.dK []):=
 ⟨aaW _,beq_eq_false_iff_ne.mpr (Ne.symm (aaw hb)),[],.nil,Heap.DictOf.new h⟩
def Qy:TE:=fun _ H Q=>∀ p,H p=none->Q (.ref p) (upd H p (.dK []))
section
variable {X:Cx}{pos:Pos}
theorem Bb:PE X (.Dict [] [] pos) Qy:=fun pins s σ H Q I h=>
 wpAny_Dict_empty ⟨.ref s.heap.objs.size,_,I.laid (a:=s.heap.objs.size) (o:=.dK []) (t':=s.toks) (fun _ _ q=>aag _ q) (aaa _) (Ba s.heap I.big),rfl,h _ (I.bu.fresh (aaa _))⟩
end
structure M1 (X:Cx)(o:Expr)(m:Str)(apos:Pos)(e:Expr)(bM:Pos):Prop where
 base:attributeBase o m X.env (eval o X.env)=eval o X.env
 few:((backTo bM (starEach [e] X.env)).all (fun x=>!x.1) && (backToKw bM (keywordEach [] X.env)).all (fun x=>x.1.isSome)
   && decide (([e]:List Expr).length+([]:List Keyword).length+(if ([]:List Keyword).isEmpty then 0 else 1) < 30))=true
 line:(apos.endLine == bM.line)=true
 trees:backTo bM (starEach [e] X.env)=[(false,eval e X.env)]
structure M2 (X:Cx)(o:Expr)(m:Str)(apos:Pos)(e f:Expr)(bM:Pos):Prop where
 base:attributeBase o m X.env (eval o X.env)=eval o X.env
 few:((backTo bM (starEach [e,f] X.env)).all (fun x=>!x.1) && (backToKw bM (keywordEach [] X.env)).all (fun x=>x.1.isSome)
   && decide (([e,f]:List Expr).length+([]:List Keyword).length+(if ([]:List Keyword).isEmpty then 0 else 1) < 30))=true
 line:(apos.endLine == bM.line)=true
 trees:backTo bM (starEach [e,f] X.env)=[(false,eval e X.env),(false,eval f X.env)]
end L2
namespace Att
open PySem PySem.W PySem.Calls PyProof.Rows
theorem t9 {P:Params}{h:Heap}:∀ (ns:List Int) (vs:List Value),WellAll P h vs (ns.map WData.int)->IntsAre vs ns:=by
 intro ns
 induction ns with
 | nil=>
   intro vs w
   rw[List.map_nil] at w
   cases w
   exact .nil
 | cons n ns ih=>
   intro vs w
   rw[aau] at w
   cases w with
   | cons a b=>
     cases a
     exact .cons _ _ (ih _ b)
theorem Gg {l:OpenLaw}{n:Nat}(hn:l.most=some n){P:Params}{h:Heap}{args:List WData}{vals:List Value}(Ml:l.row.toRowW.claim.pre args=true)(Qz:WellAll P h vals args):∃ a vs ns,vals=[Value.ref a]/\args=[WData.list (ns.map WData.int)]/\h.get? a=some { cls:=.type "list",data:=.seq vs.toArray}/\IntsAre vs ns/\ns.length<=n:=by
 have hsh:WShape.hasAll [] args [.list .int]=true:=(pre_splitW Ml).1
 have hc:l.pre.holds [] { args:=args}=true:=(pre_splitW Ml).2
 obtain⟨d,r,rfl,h1,h2⟩:=hasAllW_cons hsh
 obtain rfl:=hasAllW_nil h2
 obtain⟨xs,rfl,h3⟩:=hasW_list h1
 obtain⟨ns,rfl⟩:=items_int h3
 have hlen:ns.length<=n:=by
   unfold OpenLaw.pre at hc
   have h4:(WTm.not (.lt (.lit (.int (n:Int))) (.len (.arg 0)))).holds [] { args:=[.list (ns.map .int)]}=true:=by
     have h4:=(holds_andW hc).1
     rw[hn] at h4
     exact h4
   have h5:=condW_of h4 (w_not (w_lt w_lit (w_len_list (w_arg rfl))))
   rw[k5] at h5
   refine abN fun q=>?_
   have q':(n:Int) < ((ns.length:Nat):Int):=by omega
   first
     | (rw[decide_eq_true q'] at h5;exact absurd h5 (by decide))
     | (simp at h5;omega)
 cases Qz with
 | cons w1 w2=>
   cases w2
   cases w1 with
   | list ho Yn=>exact⟨_,_,ns,rfl,rfl,ho,t9 ns _ Yn,hlen⟩
theorem Gh (l:OpenLaw)(args:List WData):l.row.toRowW.claim.post args (.bool true) args=true:=
 postW_of (r:=l.row.toRowW) (X:=(true == true))
   (show WShape.has [] (.bool true) .bool=true by first | rfl | decide | simp[WShape.has,WShape.arms,WShape.armsAll])
   (show(WTm.eq .res (.lit (.bool true))).value [] { args:=args,res:=some (.bool true),after:=args}=some (.bool (true == true)) from w_eq_bool (w_res rfl) w_lit) rfl
theorem Bc {l:OpenLaw}{n:Nat}{q:Program}{loose:List Str}{XP:(Str->Option Value)->Heap->Prop}{YP:World->Heap->Prop}{d:DefRec}(hn:l.most=some n)(UG:d.params.defaults=[])(call:∀ (w:World) (s₀ s₁:Shared) (mg mb:Str->Option Value) (fa:Addr) (o:Obj) (pm cd doc:Value) (a:Addr) (vs:List Value) (ns:List Int),Ground q loose [] XP w s₀ mg mb s₁.heap->YP w s₁.heap->s₁.heap.get? fa=some o->o.data=.func (docDef d.name d.params d.body d.scope pm cd doc)->s₁.heap.CodeRec cd d.name->mg d.name=some (.ref fa)->s₁.heap.get? a=some { cls:=.type "list",data:=.seq vs.toArray}->IntsAre vs ns->ns.length<=n->s₁.gens=#[]->codeAny (model l.prog w) callerA (.call (.ref fa) ⟨[.ref a],[]⟩) (fun r s'=>r=.ok (.ret (.bool true))/\OldK s₁.heap s'.heap/\s'.os=s₁.os/\AllBare s'.gens) s₁):WalkO q loose XP YP l.row.toRowW d [] (fun f vs=>PySem.call f vs):=by
 intro w s₀ s₁ mg mb G Y fa o pm cd doc dV kV ho hd mz hD UH hg args vals as Ml ab2 OJ Qz hlo
 obtain rfl:dV=.none:=Dflts.none hD UG
 obtain rfl:kV=.none:=Dflts.noKw hD
 obtain⟨a,vs,ns,rfl,rfl,QA,hints,hlen⟩:=Gg hn Ml Qz
 refine enter_call (codeAny_mono (call w s₀ s₁ mg mb fa o pm cd doc a vs ns G Y ho (fd_plain hd) mz UH QA hints hlen hg) fun r s' hq=>?_)
 obtain⟨rfl,h2,h3,h4⟩:=hq
 exact⟨.inl ⟨.bool true,.bool true,[],rfl,fun _=>rfl,.bool true,Gh l _,fun _=>⟨List.Pairwise.nil,fun _ hm=>(nomatch hm)⟩⟩,h2,h3,h4⟩
end Att
namespace L2
open PySem PySem.Spec PyProof.Rows
theorem o8:∀ {vs:List Value} {ns:List Int},IntsAre vs ns->Vals (ns.map V.int) vs
 | _,_,.nil=>.nil
 | _,_,.cons n t h=>.cons ⟨t,rfl⟩ (o8 h)
def Mm (H:Hp):Prop:=∀ b,H b=none\/∃ o xs,H b=some (.bG o (.lst xs))
theorem Ib {P:Program}{w:World}{K:W.Frag}{mg mb:Str->Option Value}{CX:sd}{k:Nat}{fa a:Addr}{fd:FuncData}{x:Str}{sp:Sp}{s₁:Shared}{vs:List Value}{ns:List Int}(KX:K.In s₁.heap)(Hm:s₁.heap.Ns mainGlobals mg)(hb:s₁.heap.Ns builtinsNs mb)(hbb:∀ x:Str,x≠"__name__"->mb x=bootBuiltins x)(Yo:s₁.heap.NoLimit)(hg:s₁.gens=#[])(ha:s₁.heap.get? a=some { cls:=.type "list",data:=.seq vs.toArray})(hi:IntsAre vs ns)(hl:ns.length<=sizeLine)(hr:eZ k callerA)(F:∀ base:Heap,K.In base->base.Ns mainGlobals mg->ke P w K mg base CX k fa fd [x] sp)(UI:∀ (s:Shared) (u:Value),BindsTo s fd ⟨[u],[]⟩ [(x,u)])(LB:∀ H:Hp,Mm H->mY K H a (ns.map V.int)->sp [.ref a] H (fun v _=>v=.bl true) fun _ _ _=>False)(UJ:∀ H e s',CX [] H s₁ (fun _ _ _=>False) e s'->False):codeAny (model P w) callerA (.call (.ref fa) ⟨[.ref a],[]⟩) (fun r s'=>r=.ok (.ret (.bool true))/\OldK s₁.heap s'.heap/\s'.os=s₁.os/\AllBare s'.gens) s₁:=by
 have rv:=o8 hi
 have Yp:=hi.length
 have core:∀ H:Hp,Mm H->mY K H a (ns.map V.int)->qN P w H s₁.heap->(∀ b,H b≠none->b=a)->(H a≠none->K.lookup a=none) ->
     codeAny (model P w) callerA (.call (.ref fa) ⟨[.ref a],[]⟩) (fun r s'=>r=.ok (.ret (.bool true))/\OldK s₁.heap s'.heap/\s'.os=s₁.os/\AllBare s'.gens) s₁:=by
   intro H hO hS bu hA hK
   have Eh:∀ {b:Addr} {o:Obj},s₁.heap.get? b=some o->H b=none->(yU s₁.heap H).get? b=some o:=fun e n=>Hy e n
   have Uu:∀ {b:Addr} {o:Obj} {es:Array DictEntry} {ep:Nat},s₁.heap.get? b=some o->o.data=.dict es ep->H b=none:=fun {b o es ep} e d=>by
     cases q:H b with
     | none=>rfl
     | some u=>
       have e':b=a:=hA b (by rw[q];simp)
       subst e'
       rw[ha] at e;cases e
       have d':Data.seq vs.toArray _=Data.dict es ep:=d
       cases d'
   have W4:∀ {b:Addr} {m:Str->Option Value},s₁.heap.Ns b m->(yU s₁.heap H).Ns b m:=fun {b m} ⟨o,es,ep,e,d,r⟩=>⟨o,es,ep,Eh e (Uu e d),d,r⟩
   have hKb:K.In (yU s₁.heap H):=fun b o e=>Eh (KX b o e) (by
     cases q:H b with
     | none=>rfl
     | some u=>
       have e':b=a:=hA b (by rw[q];simp)
       subst e'
       rw[hK (by rw[q];simp)] at e;cases e)
   have hM:Mod K mg (yU s₁.heap H):=⟨hKb,W4 Hm,⟨mb,W4 hb,hbb⟩,let ⟨mc,h1,h2⟩:=Yo;⟨mc,W4 h1,h2⟩⟩
   have e0:A0 P w K mg (yU s₁.heap H) callerA [] s₁ H:=⟨rfl,hM,fun b o e=>LP e,Nat.le_of_eq (FW _ _),trivial,fun b hb=>absurd (show b∈([]:List Addr) from hb) (by simp),bu,.of_eq hg⟩
   refine codeAny_mono ((F _ hKb (W4 Hm)).run callerA [] s₁ H ⟨[.ref a],[]⟩ [.ref a] [.ref a] _ _ hr e0 (UI s₁ (.ref a)) (.cons rfl .nil) (LB H hO hS)) fun r s' h=>?_
   cases r with
   | error e=>exact(UJ H e s' h).elim
   | ok fl=>
     cases fl with
     | next=>exact False.elim h
     | brk=>exact False.elim h
     | cont=>exact False.elim h
     | ret u=>
       obtain⟨v,H',os,bare,un,Yq,r',q⟩:=h
       have q':v=.bl true:=q
       subst q'
       obtain rfl:u=Value.bool true:=r'
       refine⟨rfl,OldK.of_keep fun b o e=>?_,os,bare⟩
       cases q:H b with
       | none=>exact un.keep b o e q (by intro z;exact absurd (show b∈([]:List Addr) from z) (by simp)) (by simp)
       | some u=>
         rcases hO b with z | ⟨ob,xs,z⟩
         . rw[q] at z;cases z
         . have z2:=un.yT b ob _ z
           obtain⟨e1,_⟩:=bu b _ z
           obtain⟨e2,_⟩:=Yq b _ z2
           rw[e] at e1;cases e1
           exact e2
 cases hk:K.lookup a with
 | some o=>
   have e:=KX a o hk
   rw[ha] at e
   cases e
   refine core (fun _=>none) (fun _=>.inl rfl) (.inr ⟨_,vs.toArray,_,hk,rfl,rfl,rfl,by rw[aar,Yp];exact hl,by simpa using rv⟩) (fun b u z=>by have z':(none:Option HO)=some u:=z;cases z') (fun b z=>absurd rfl z) fun z=>absurd rfl z
 | none=>
   refine core (fun b=>if b=a then some (.bG { cls:=.type "list",data:=.seq vs.toArray} (.lst (ns.map V.int))) else none) (fun b=>?_) (.inl (.inr (.inl ⟨{ cls:=.type "list",data:=.seq vs.toArray},if_pos rfl⟩))) (fun b u z=>?_) (fun b z=>?_) fun _=>hk
   . by_cases hb:b=a
     . exact .inr ⟨_,_,if_pos hb⟩
     . exact .inl (if_neg hb)
   . by_cases hb:b=a
     . have z':=(if_pos hb).symm.trans z
       cases z'
       subst hb
       exact⟨ha,by rw[k5];exact hl,vs,_,rv,ha⟩
     . have z':=(if_neg hb).symm.trans z
       cases z'
   . by_cases hb:b=a
     . exact hb
     . exact absurd (if_neg hb) z
noncomputable abbrev KOf {K:W.Frag}{h:Heap}(_:K.In h):W.Frag:=K
theorem Mn {l:W.OpenLaw}{n k:Nat}{q:Program}{loose:List Str}{XP:(Str->Option Value)->Heap->Prop}{YP:World->Heap->Prop}{d:DefRec}{K:Params->W.Frag}{CX:World->sd}{sp:World->Sp}{x:Str}(hn:l.most=some n)(Tx:n<=sizeLine)(UG:d.params.defaults=[])(hr:eZ k callerA)(hY:∀ (w:World) (h:Heap),YP w h->(K w.params).In h)(F:∀ (w:World) (mg:Str->Option Value) (fa:Addr) (h:Heap),(K w.params).In h->h.Ns mainGlobals mg->mg d.name=some (.ref fa)->∃ fd:FuncData,(∀ (s:Shared) (u:Value),BindsTo s fd ⟨[u],[]⟩ [(x,u)])/\∀ base:Heap,(K w.params).In base->base.Ns mainGlobals mg->ke l.prog w (K w.params) mg base (CX w) k fa fd [x] (sp w))(LB:∀ (w:World) (H:Hp) (a:Addr) (ns:List Int),ns.length<=n->Mm H->mY (K w.params) H a (ns.map V.int)->sp w [.ref a] H (fun v _=>v=.bl true) fun _ _ _=>False)(UJ:∀ (w:World) (H:Hp) (s:Shared) (e:Value) (s':Shared),CX w [] H s (fun _ _ _=>False) e s'->False):W.WalkO q loose XP YP l.row.toRowW d [] (fun f vs=>PySem.call f vs):=by
 refine Att.Bc hn UG fun w s₀ s₁ mg mb fa o pm cd doc a vs ns G Y ho hd mz UH QA hints hlen hg=>?_
 have KX:=hY w _ Y
 obtain⟨fd,hb,hF⟩:=F w mg fa _ KX G.T.g UH
 exact Ib KX G.T.g G.T.b G.T.builtins G.T.nolimit hg QA hints (aaA hlen Tx) hr hF hb (fun H hO hS=>LB w H a ns hlen hO hS) fun H e s'=>UJ w H s₁ e s'
theorem Ic {l:W.OpenLaw}{n k:Nat}{q:Program}{loose:List Str}{XP:(Str->Option Value)->Heap->Prop}{YP:World->Heap->Prop}{d:DefRec}{K:Params->W.Frag}{CX:sd}{sp:W.Frag->Sp}{x:Str}(hn:l.most=some n)(Tx:n<=sizeLine)(UG:d.params.defaults=[])(hr:eZ k callerA)(hY:∀ (w:World) (h:Heap),YP w h->(K w.params).In h)(F:∀ (w:World) (mg:Str->Option Value) (fa:Addr) (h:Heap),(K w.params).In h->h.Ns mainGlobals mg->mg d.name=some (.ref fa)->∃ fd:FuncData,(∀ (s:Shared) (u:Value),BindsTo s fd ⟨[u],[]⟩ [(x,u)])/\∀ base:Heap,(K w.params).In base->base.Ns mainGlobals mg->ke l.prog w (K w.params) mg base CX k fa fd [x] (sp (K w.params)))(LB:∀ (K:W.Frag) (H:Hp) (a:Addr) (ns:List Int),ns.length<=n->Mm H->mY K H a (ns.map V.int)->sp K [.ref a] H (fun v _=>v=.bl true) fun _ _ _=>False)(UJ:∀ (H:Hp) (s:Shared) (e:Value) (s':Shared),CX [] H s (fun _ _ _=>False) e s'->False):W.WalkO q loose XP YP l.row.toRowW d [] (fun f vs=>PySem.call f vs):=
 Mn (K:=K) (CX:=fun _=>CX) (sp:=fun w=>sp (K w.params)) hn Tx UG hr hY F (fun w H a ns h1 h2 h3=>LB (K w.params) H a ns h1 h2 h3) fun _ H s e s'=>UJ H s e s'
noncomputable def inClass (s:Stmt)(j:Nat):Stmt:=match s with
 | .ClassDef _ _ _ body _ _ _ _ _ _ _=>body.getD j (.Pass ⟨0,0,0,0⟩)
 | _=>.Pass ⟨0,0,0,0⟩
noncomputable def cg (s:Stmt):Arguments:=match s with
 | .FunctionDef _ a _ _ _ _ _ _ _ _=>a
 | _=>{ posonlyargs:=[],args:=[],vararg:=none,kwonlyargs:=[],kw_defaults:=[],kwarg:=none,defaults:=[]}
noncomputable def aE (s:Stmt):List Stmt:=match s with
 | .FunctionDef _ _ b _ _ _ _ _ _ _=>b
 | _=>[]
noncomputable def af (s:Stmt):Scope:=match s with
 | .FunctionDef _ _ _ _ _ _ sc _ _ _=>sc
 | _=>{ kind:=.function,names:=[],isGenerator:=false,isCoroutine:=false}
abbrev CX0:sd:=fun _ _ _ _ _ _=>False
abbrev E0:XK:=fun _ _ _=>False
structure TB (K:W.Frag)(x qual:Str)(st:Stmt)(f:Addr)(fd:FuncData):Prop where
 ex:∃ (oc:Value) (od:Option Addr) (kV doc pm:Value) (an:Option Addr) (bo ct:Value) (yj:Array (Option Value)),
   fd=W.fnOf x qual (cg st) (aE st) (af st) .none kV doc pm an bo ct/\K.lookup f=some ⟨oc,od,.func fd,yj⟩/\W.codeIn K bo qual=true
 kp:W.keepIn K (.ref f)=true
section
variable {K:W.Frag}
theorem TB.binds {x qual:Str}{st:Stmt}{f:Addr}{fd:FuncData}{ps:List Str}(F:TB K x qual st f fd)(h:∀ (kV doc pm:Value) (an:Option Addr) (bo ct:Value) (us:List Value),us.length=ps.length->bindArgs (W.fnOf x qual (cg st) (aE st) (af st) .none kV doc pm an bo ct) ⟨us,[]⟩=pure (ps.zip us)):Binds K fd ps []:=by
 obtain⟨oc,od,kV,doc,pm,an,bo,ct,yj,rfl,lk,mz⟩:=F.ex
 exact .all (h kV doc pm an bo ct)
theorem vA {x qual:Str}{st:Stmt}{f:Addr}{oc:Value}{od an:Option Addr}{yj:Array (Option Value)}{kV doc pm bo ct:Value}(l:K.lookup f=some ⟨oc,od,.func (W.fnOf x qual (cg st) (aE st) (af st) .none kV doc pm an bo ct),yj⟩)(c:W.codeIn K bo qual=true)(k:W.keepIn K (.ref f)=true):TB K x qual st f (W.fnOf x qual (cg st) (aE st) (af st) .none kV doc pm an bo ct):=⟨⟨oc,od,kV,doc,pm,an,bo,ct,yj,rfl,l,c⟩,k⟩
end
theorem si {n:Nat}(h:n<=1000):n < sizeLine:=aaO h (by decide)
theorem zg {A B:Prop}(h:B):if false=true then A else B:=by
 rw[if_neg aas]
 exact h
theorem zh {A B:Prop}(h:A):if true=true then A else B:=by
 rw[if_pos rfl]
 exact h
def aF (H H':Hp):Prop:=∀ b o,H b=some o->H' b=some o
theorem aF.refl (H:Hp):aF H H:=fun _ _ h=>h
theorem aF.trans {H H1 H2:Hp}(a:aF H H1)(b:aF H1 H2):aF H H2:=fun c o h=>b c o (a c o h)
theorem aF.free {H H':Hp}(e:aF H H'){l:Addr}(h:H' l=Option.none):H l=Option.none:=by
 cases q:H l with
 | none=>rfl
 | some o=>
   rw[e l o q] at h
   cases h
theorem aF.seq {K:W.Frag}{H H':Hp}{a:Addr}{xs:List V}(e:aF H H')(h:mY K H a xs):mY K H' a xs:=by
 rcases h with(h | ⟨o,h⟩ | ⟨_,_,_,_,h⟩ | ⟨o,h⟩) | h
 . exact .inl (.inl (e _ _ h))
 . exact .inl (.inr (.inl ⟨o,e _ _ h⟩))
 . cases h
 . exact .inl (.inr (.inr (.inr ⟨o,e _ _ h⟩)))
 . exact .inr h
end L2
set_option maxHeartbeats 4000000
namespace Sg
open PySem PySem.Spec PyProof.Rows L2 PySem.Builtin PySem.Builtin.Getset_descriptor
def CV (h:Heap)(x D:Addr):Prop:=∃ ox,h.get? x=some ox/\ox.cls=.ref D
theorem CV.ty {M:Model}{h:Heap}{x D:Addr}(I:CV h x D):W.Looks M h (typeOf (.ref x)) (.ref D):=by
 obtain⟨ox,h1,h2⟩:=I
 rw[<- h2]
 exact(W.Looks.ld h1).andThen .now
theorem QB {prog:Program}{w:World}{A:Around}{E:Value->Shared->Prop}{K:W.Frag}{s:Shared}{x D:Addr}{name:Str}{tk:Tok}{fill expr:Bool}{Q:Value->Shared->Prop}{r:Builtin.ObjectAttr.Found}(X:K.In s.heap)(I:CV s.heap x D)
   (hga:W.findIn K (.ref D) "__getattribute__"=some (some (.builtin "BaseException.__getattribute__"))) (Yr:W.findIn K (.ref D) "__getattr__"=some none) (t5:W.mroIn K D (.type "BaseException")=some true)
   (hf:W.Looks (model prog w) s.heap (Builtin.ObjectAttr.find (.ref x) (.ref D) name) r)
   (h:match r with
     | .bind g a=>wpAny (model prog w) A.in1 (call g [a,.ref x,.ref D]) (fun v s'=>wpAny (model prog w) A (handedOut v) Q E s') (fun _ _=>False) s
     | .value v=>wpAny (model prog w) A (handedOut v) Q E s
     | .missing=>False) :
   wpAny (model prog w) A (getAttrBy (.ref x) (.str name tk) fill expr) Q E s:=by
 obtain⟨hh,gg,d,t,os⟩:=s
 have L0:=I.ty (M:=model prog w)
 have L1:=W.looks_findIn (M:=model prog w) X hga
 have L2':=W.looks_findIn (M:=model prog w) X Yr
 have L4:=W.looks_mroIn (M:=model prog w) X t5
 have f3:=PySem.F.excAttr_ValueError.ga.bind (.ref x)
 unfold getAttrBy
 refine wpAny_holding (wpAny_bind (L0.at (wpAny_bind (L1.at ?_))))
 have QC:(Value.builtin "BaseException.__getattribute__" == Value.builtin "object.__getattribute__")=false:=by
   decide +kernel
 simp only[QC,Bool.and_false,aa2,if_false]
 unfold getAttrByItsOwn hookBefore
 refine wpAny_bind (L2'.at ?_)
 refine wpAny_bind (wpAny_attempt (wpAny_holding ?_))
 unfold callGetattribute boundAndCalled
 have hx0:(expr && onTheHeap (Value.builtin "BaseException.__getattribute__"))=false:=by
   cases expr <;> rfl
 rw[hx0,f3]
 simp only[aa2,if_false]
 refine wpAny_bind (wpAny_pure ?_)
 have hbi:W.Looks (model prog w) hh (isInstance (.ref x) (.type "BaseException")) true:=L0.andThen L4
 refine wpAny_call (codeAny_call_builtin PySem.F.excAttr_ValueError.ga.plain PySem.F.entry_bexc_ga (@W.check_slot (model prog w) _ _ _ "BaseException.__getattribute__" "BaseException" "__getattribute__" (.ref x) [.str name tk] [] _ (by decide +kernel) (by decide +kernel) hbi (PySem.F.args_bexc_ga _ _) ?_))
 unfold Builtin.«object.__getattribute__»
 refine wpAny_bind (wpAny_pure ?_)
 show wpAny (model prog w) A.in1 (Builtin.ObjectAttr.attrName (.str name tk) >>= _) _ _ _
 unfold Builtin.ObjectAttr.attrName
 refine wpAny_bind (wpAny_pure (wpAny_bind (L0.at (wpAny_bind (hf.at ?_)))))
 cases r with
 | bind g a=>
   show wpAny (model prog w) A.in1 (Builtin.ObjectAttr.bindTo g a (.ref x) (.ref D)) _ _ _
   unfold Builtin.ObjectAttr.bindTo
   show wpAny (model prog w) A.in1 (holding [a] (call g [a,.ref x,.ref D]) >>= ret) _ _ _
   exact wpAny_bind (wpAny_holding (wpAny_mono h (fun v s' z=>wpAny_pure z) fun _ _ z=>z.elim))
 | value v=>
   show wpAny (model prog w) A.in1 (ret v) _ _ _
   exact wpAny_pure h
 | missing=>exact h.elim
theorem Mo {prog:Program}{w:World}{A:Around}{K:W.Frag}{s:Shared}{x D:Addr}{tp:Value}{R:Result->Shared->Prop}(X:K.In s.heap)(I:CV s.heap x D)(hm:W.mroIn K D (.type "object")=some true)(hR:R (.ok (.ret (.ref D))) s):codeAny (model prog w) A (.call (.builtin "getset_descriptor.__get__") ⟨[.builtin "object.__class__",.ref x,tp],[]⟩) R s:=by
 obtain⟨hh,g,dr,t,os⟩:=s
 have L0:=I.ty (M:=model prog w)
 have L1:=W.looks_mroIn (M:=model prog w) X hm
 have pl:=W.KF.slot_gs.plain
 have ent:=W.KF.entry_gs
 refine codeAny_call_builtin pl ent (W.KF.slot_gs.check _ _ _ _ _ _ _ _ W.KF.type_class (W.KF.args_gs _ _ _) ?_)
 unfold Builtin.«getset_descriptor.__get__» descrGet
 rw[W.dga_obj]
 refine wpAny_bind (wpAny_pure ?_)
 unfold descrGetter descrCheckInstance descrNameAndClass isInstance
 simp only[W.KF.owner_class]
 repeat lk
 refine⟨Code.quiet_builtin _ (by decide +kernel),codeAny_builtin W.KF.entry_class ?_⟩
 unfold Builtin.«object.__class__» shownTypeOf
 repeat lk
 exact hR
structure TC (K:W.Frag)(C:Addr):Prop where
 hc:(W.clsIn K C).isSome=true
 ga:W.findIn K (.ref C) "__getattribute__"=some (some (.builtin "BaseException.__getattribute__"))
 gt:W.findIn K (.ref C) "__getattr__"=some none
 be:W.mroIn K C (.type "BaseException")=some true
 ha:W.findIn K (.ref C) "__class__"=some (some (.builtin "object.__class__"))
 hn:W.specialIn K (.builtin "object.__class__") "__get__"=some (some (.builtin "getset_descriptor.__get__"))
 Qj:W.takesIn K (.builtin "object.__class__")=some true
 hm:W.mroIn K C (.type "object")=some true
theorem Ie {M:Model}{K:W.Frag}{h:Heap}{x C:Addr}(X:K.In h)(T:TC K C):W.Looks M h (Builtin.ObjectAttr.find (.ref x) (.ref C) "__class__") (.bind (.builtin "getset_descriptor.__get__") (.builtin "object.__class__")):=by
 refine(W.looks_findIn X T.ha).andThen ?_
 refine(W.looks_specialIn X T.hn:W.Looks M h (Builtin.ObjectAttr.getOf (some (.builtin "object.__class__"))) _).andThen ?_
 refine((W.looks_takesIn X T.Qj).andThen .now:W.Looks M h (Builtin.ObjectAttr.dataDescriptor? (some (.builtin "object.__class__")) (some (.builtin "getset_descriptor.__get__"))) (some (.builtin "getset_descriptor.__get__",.builtin "object.__class__"))).andThen ?_
 exact W.Looks.tag .now
theorem Bd {K:W.Frag}{x D:Addr}(T:TC K D):W.KitX K (.ref x) (.ref D) (fun h=>CV h x D) where
 ty:=fun _ _ _ I=>I.ty
 it:=fun M h X _=>by
   obtain⟨cdD,L8⟩:=abB.mp T.hc
   unfold W.clsIn at L8
   split at L8
   . rename_i u1 u2 u3 u4 Ys
     intro A' Q' E' s' k q
     unfold isType loadHead
     exact wpAny_bind (wpAny_loadPart (k _ _ (X _ _ Ys)) (wpAny_pure q))
   . cases L8
 ne:=fun h tp dd aG n sl X htp=>by
   obtain⟨cdD,L8⟩:=abB.mp T.hc
   refine Bool.eq_false_iff.mpr fun q=>?_
   have e:D=tp:=Value.ref.inj (beq_iff_eq.mp q)
   subst e
   unfold W.clsIn at L8
   split at L8
   . rename_i u1 u2 u3 u4 Ys
     have z:=(X _ _ Ys).symm.trans htp
     cases z
   . cases L8
 ca:=fun {prog w A E Q s} X I k=>by
   unfold getAttr? getAttrBy?
   refine wpAny_bind (wpAny_mkText (wpAny_bind (wpAny_attempt ?_)))
   refine QB (s:={ s with toks:=s.toks+1}) X I T.ga T.gt T.be (Ie X T) ?_
   refine wpAny_call (Mo (s:={ s with toks:=s.toks+1}) X I T.hm ?_)
   exact W.handed_on rfl (wpAny_pure k)
end Sg
namespace Sg
open PySem PySem.Spec PyProof.Rows L2
noncomputable abbrev St:=L2.St
def Ig (h:Heap)(x C dx:Addr):Prop:=∃ ox,h.get? x=some ox/\ox.cls=.ref C/\ox.dict=some dx/\∃ vs,ox.data=.fields vs
theorem Ig.of {h:Heap}{x C dx:Addr}(I:Ig h x C dx):CV h x C:=let ⟨ox,h1,h2,_⟩:=I;⟨ox,h1,h2⟩
inductive Dt where
 | cS
 | bl (b:Bool)
 | int (i:Int)
 | str (x:Str)
 | tup (ds:List Dt)
 | lst (ds:List Dt)
 | o9 (ns:List Int)
 | eX (kvs:List (Key×Dt))
 | obj (C:Addr) (fs:List (Str×Dt))
 | ty (n:String)
 | cls (C:Addr)
 | xo (C:Addr)
 | qo (kvs:List (Key×Dt))
 | Cz (C:Addr) (fs:List (Str×Dt))
 | dW (kvs:List (Key×Dt))
 | memo (a:Addr) (ls:km) (j n:Nat)
 | dU (a:Addr) (ls:km) (j n:Nat)
 | uH (a:Addr) (ls:km) (n:Nat)
 | vB (C:Addr) (fs:List (Str×Dt)) (gs:List (Nat->List (Key×FD))) (nm:List Str) (n:Nat)
 | i4 (fd:FD)
 | mh (OK:List (List Key×Int))
noncomputable def tP (fs:List (Str×Dt))(nm:List Str)(a:Addr)(ls:km)(n:Nat):List (Str×Dt):=fs ++ (aam nm.length).map fun j=>(nm.getD j "",.memo a ls j n)
def Known (H:Hp)(p:Addr)(f:Nat->List (Key×FD))(n:Nat):Prop:=∀ i,i < n->∃ q o kvs,H q=some (.kd (some (p,i)) o kvs)/\rX H kvs (f i)
def cf (H:Hp)(a:Addr)(ls:km):Prop:=H a=some (.memo ls)\/∃ ns,H a=some (.bJ ls ns)
theorem Known.mono {H H':Hp}{p:Addr}{f:Nat->List (Key×FD)}{n:Nat}(e:∀ b u,H b=some u->H' b=some u)(h:Known H p f n):Known H' p f n:=fun i hi=>let ⟨q,o,kvs,h1,h2⟩:=h i hi;⟨q,o,kvs,e _ _ h1,h2.kp (.of e)⟩
theorem cf.mono {H H':Hp}{a:Addr}{ls:km}(e:∀ b u,H b=some u->H' b=some u)(h:cf H a ls):cf H' a ls:=h.imp (e _ _) fun⟨ns,z⟩=>⟨ns,e _ _ z⟩
mutual
inductive Rep (K:W.Frag)(H:Hp):V->Dt->Prop
 | cS:Rep K H .cS .cS
 | bl (b:Bool):Rep K H (.bl b) (.bl b)
 | int (i:Int):Rep K H (.int i) (.int i)
 | str (x:Str):Rep K H (.str x) (.str x)
 | tup {a:Addr} {vs:List V} {ds:List Dt}:Cy K H a vs->bH K H vs ds->Rep K H (.ref a) (.tup ds)
 | lst {a:Addr} {vs:List V} {ds:List Dt}:H a=some (.lst vs)->bH K H vs ds->Rep K H (.ref a) (.lst ds)
 | o9 {a:Addr} {ns:List Int}:mY K H a (ns.map V.int)->Rep K H (.ref a) (.o9 ns)
 | eX {a:Addr} {kvs:List (Key×V)} {kds:List (Key×Dt)}:H a=some (.dK kvs)->cU K H kvs kds->Rep K H (.ref a) (.eX kds)
 | obj {a C dx:Addr} {fs:List (Str×V)} {ds:List (Str×Dt)}:Rd H a (.ins C dx fs)->bg K H fs ds->Rep K H (.ref a) (.obj C ds)
 | ty (n:String):Rep K H (.ty n) (.ty n)
 | cls (C:Addr):Rep K H (.ref C) (.cls C)
 | xo {a C:Addr} {ph:Heap->Prop}:H a=some (.ext ph)->(∀ h,ph h->CV h a C)->Rep K H (.ref a) (.xo C)
 | qo {a:Addr} {ob:Obj} {kvs:List (Key×V)} {kds:List (Key×Dt)}:H a=some (.bG ob (.dK kvs))->cU K H kvs kds->Rep K H (.ref a) (.qo kds)
 | Cz {a C dx:Addr} {ph:Heap->Prop} {fs:List (Str×V)} {ds:List (Str×Dt)}:H a=some (.ext ph)->(∀ h,ph h->Ig h a C dx)->H dx=some (.xd fs)->bg K H fs ds->Rep K H (.ref a) (.Cz C ds)
 | dW {a:Addr} {tg:Option (Addr×Nat)} {ob:Obj} {kvs:List (Key×V)} {kds:List (Key×Dt)}:H a=some (.kd tg ob kvs)->cU K H kvs kds->Rep K H (.ref a) (.dW kds)
 | memo {a p:Addr} {ls:km} {j n:Nat} {f:Nat->List (Key×FD)}:ls[j]?=some (p,f)->H a=some (.memo ls)->(p=a\/H p=some (.part a))->Known H p f n->Rep K H (.ref p) (.memo a ls j n)
 | dU {a p:Addr} {ls:km} {j n:Nat} {f:Nat->List (Key×FD)}:ls[j]?=some (p,f)->cf H a ls->(p=a\/H p=some (.part a))->Known H p f n->Rep K H (.ref p) (.dU a ls j n)
 | uH {a:Addr} {ls:km} {n:Nat}:(∀ (j:Nat) (p:Addr) (f:Nat->List (Key×FD)),ls[j]?=some (p,f)->Known H p f n)->Rep K H .cS (.uH a ls n)
 | vB {s a C dx:Addr} {fv:List (Str×V)} {fs:List (Str×Dt)} {gs:List (Nat->List (Key×FD))} {nm:List Str} {n:Nat} {ls:km}:ls.map (·.2)=gs->Rd H s (.ins C dx fv)->bg K H fv (tP fs nm a ls n)->Rep K H (.ref s) (.vB C fs gs nm n)
 | i4 {v:V} {fd:FD}:Fz H v fd->Rep K H v (.i4 fd)
 | mh {a:Addr} {OK:List (List Key×Int)}:H a=some (.dT (OK.map fun k=>(k.1,V.int k.2)))->Rep K H (.ref a) (.mh OK)
inductive bH (K:W.Frag)(H:Hp):List V->List Dt->Prop
 | nil:bH K H [] []
 | cons {v:V} {d:Dt} {vs:List V} {ds:List Dt}:Rep K H v d->bH K H vs ds->bH K H (v::vs) (d::ds)
inductive cU (K:W.Frag)(H:Hp):List (Key×V)->List (Key×Dt)->Prop
 | nil:cU K H [] []
 | cons {k:Key} {v:V} {d:Dt} {vs:List (Key×V)} {ds:List (Key×Dt)}:Rep K H v d->cU K H vs ds->cU K H ((k,v)::vs) ((k,d)::ds)
inductive bg (K:W.Frag)(H:Hp):List (Str×V)->List (Str×Dt)->Prop
 | nil:bg K H [] []
 | cons {k:Str} {v:V} {d:Dt} {vs:List (Str×V)} {ds:List (Str×Dt)}:Rep K H v d->bg K H vs ds->bg K H ((k,v)::vs) ((k,d)::ds)
end
theorem il {H H':Hp}{a:Addr}{u:HO}(e:aF H H')(h:Rd H a u):Rd H' a u:=by
 rcases h with h | ⟨o,h⟩ | ⟨tg,o,kvs,h,z⟩ | ⟨o,h⟩
 . exact .inl (e _ _ h)
 . exact .inr (.inl ⟨o,e _ _ h⟩)
 . exact .inr (.inr (.inl ⟨tg,o,kvs,e _ _ h,z⟩))
 . exact .inr (.inr (.inr ⟨o,e _ _ h⟩))
theorem de {K:W.Frag}{H H':Hp}{a:Addr}{xs:List V}(e:aF H H')(h:Cy K H a xs):Cy K H' a xs:=by
 rcases h with h | h
 . exact .inl (e _ _ h)
 . exact .inr h
mutual
theorem Rep.mono {K:W.Frag}{H H':Hp}(e:aF H H'):∀ {v:V} {d:Dt},Rep K H v d->Rep K H' v d
 | _,_,.cS=>.cS
 | _,_,.bl b=>.bl b
 | _,_,.int i=>.int i
 | _,_,.str x=>.str x
 | _,_,.tup h r=>.tup (de e h) (bH.mono e r)
 | _,_,.lst h r=>.lst (e _ _ h) (bH.mono e r)
 | _,_,.o9 h=>.o9 (e.seq h)
 | _,_,.eX h r=>.eX (e _ _ h) (cU.mono e r)
 | _,_,.obj h r=>.obj (il e h) (bg.mono e r)
 | _,_,.ty n=>.ty n
 | _,_,.cls C=>.cls C
 | _,_,.xo h r=>.xo (e _ _ h) r
 | _,_,.qo h r=>.qo (e _ _ h) (cU.mono e r)
 | _,_,.Cz h q g r=>.Cz (e _ _ h) q (e _ _ g) (bg.mono e r)
 | _,_,.dW h r=>.dW (e _ _ h) (cU.mono e r)
 | _,_,.memo h1 h2 h3 h4=>.memo h1 (e _ _ h2) (h3.imp id fun z=>e _ _ z) (h4.mono e)
 | _,_,.dU h1 h2 h3 h4=>.dU h1 (h2.mono e) (h3.imp id fun z=>e _ _ z) (h4.mono e)
 | _,_,.uH h=>.uH fun j p f z=>(h j p f z).mono e
 | _,_,.vB h1 h2 h3=>.vB h1 (il e h2) (bg.mono e h3)
 | _,_,.i4 h=>.i4 (h.st fun b u q _=>e b u q)
 | _,_,.mh h=>.mh (e _ _ h)
theorem bH.mono {K:W.Frag}{H H':Hp}(e:aF H H'):∀ {v:List V} {d:List Dt},bH K H v d->bH K H' v d
 | _,_,.nil=>.nil
 | _,_,.cons h r=>.cons (Rep.mono e h) (bH.mono e r)
theorem cU.mono {K:W.Frag}{H H':Hp}(e:aF H H'):∀ {v:List (Key×V)} {d:List (Key×Dt)},cU K H v d->cU K H' v d
 | _,_,.nil=>.nil
 | _,_,.cons h r=>.cons (Rep.mono e h) (cU.mono e r)
theorem bg.mono {K:W.Frag}{H H':Hp}(e:aF H H'):∀ {v:List (Str×V)} {d:List (Str×Dt)},bg K H v d->bg K H' v d
 | _,_,.nil=>.nil
 | _,_,.cons h r=>.cons (Rep.mono e h) (bg.mono e r)
end
theorem bH.length {K:W.Frag}{H:Hp}:∀ {v:List V} {d:List Dt},bH K H v d->v.length=d.length
 | _,_,.nil=>rfl
 | _,_,.cons _ r=>congrArg (·+1) (bH.length r)
theorem bH.get {K:W.Frag}{H:Hp}:∀ {v:List V} {d:List Dt} {i:Nat} {x:Dt},bH K H v d->d[i]?=some x->∃ y,v[i]?=some y/\Rep K H y x
 | _,_,_,_,.nil,e=>by simp at e
 | _,_,0,_,.cons h _,e=>by simp at e;subst e;exact⟨_,rfl,h⟩
 | _,_,i+1,x,.cons _ r,e=>by
   obtain⟨y,h1,h2⟩:=bH.get (i:=i) (x:=x) r (by simpa using e)
   exact⟨y,by simpa using h1,h2⟩
theorem bH.get' {K:W.Frag}{H:Hp}{v:List V}{d:List Dt}{i:Nat}{y:V}(r:bH K H v d)(e:v[i]?=some y):∃ x,d[i]?=some x/\Rep K H y x:=by
 have hi:i < v.length:=(aaj.mp e).1
 have W5:i < d.length:=by rw[<- r.length];exact hi
 obtain⟨z,h1,h2⟩:=r.get (k3 W5)
 rw[e] at h1;cases h1
 exact⟨_,k3 W5,h2⟩
theorem bH.append {K:W.Frag}{H:Hp}:∀ {v:List V} {d:List Dt} {v':List V} {d':List Dt},bH K H v d->bH K H v' d'->bH K H (v ++ v') (d ++ d')
 | _,_,_,_,.nil,s=>s
 | _,_,_,_,.cons h r,s=>.cons h (bH.append r s)
theorem bH.take {K:W.Frag}{H:Hp}:∀ {v:List V} {d:List Dt} (n:Nat),bH K H v d->bH K H (v.take n) (d.take n)
 | _,_,0,_=>.nil
 | _,_,_+1,.nil=>.nil
 | _,_,n+1,.cons h r=>.cons h (bH.take n r)
theorem bH.set {K:W.Frag}{H:Hp}{y:V}{x:Dt}(q:Rep K H y x):∀ {v:List V} {d:List Dt} (n:Nat),bH K H v d->bH K H (v.set n y) (d.set n x)
 | _,_,_,.nil=>.nil
 | _,_,0,.cons _ r=>.cons q r
 | _,_,n+1,.cons h r=>.cons h (bH.set q n r)
theorem bg.lookup {K:W.Frag}{H:Hp}{f:Str}:∀ {v:List (Str×V)} {d:List (Str×Dt)} {x:Dt},bg K H v d->d.lookup f=some x->∃ y,v.lookup f=some y/\Rep K H y x
 | _,_,_,.nil,e=>by simp at e
 | (k,v)::r,(_,d)::s,x,.cons h t,e=>by
   rw[aaT] at e ⊢
   cases q:(f == k) with
   | true=>rw[q] at e;cases e;exact⟨v,rfl,h⟩
   | false=>rw[q] at e;exact bg.lookup t e
theorem bg.none_of {K:W.Frag}{H:Hp}{f:Str}:∀ {v:List (Str×V)} {d:List (Str×Dt)},bg K H v d->d.lookup f=none->v.lookup f=none
 | _,_,.nil,_=>rfl
 | (k,v)::r,(_,d)::s,.cons h t,e=>by
   rw[aaT] at e ⊢
   cases q:(f == k) with
   | true=>rw[q] at e;cases e
   | false=>rw[q] at e;exact bg.none_of t e
theorem bg.length {K:W.Frag}{H:Hp}:∀ {v:List (Str×V)} {d:List (Str×Dt)},bg K H v d->v.length=d.length
 | _,_,.nil=>rfl
 | _,_,.cons _ r=>congrArg (·+1) (bg.length r)
theorem cU.length {K:W.Frag}{H:Hp}:∀ {v:List (Key×V)} {d:List (Key×Dt)},cU K H v d->v.length=d.length
 | _,_,.nil=>rfl
 | _,_,.cons _ r=>congrArg (·+1) (cU.length r)
structure bx (Hf H aJ H':Hp):Prop where
 big:aF H H'
 bG:aF Hf aJ
 sub:aF aJ H'
 new:∀ a o,aJ a=some o->(∃ o,Hf a=some o)\/H a=Option.none\/Kept o
theorem bx.refl {Hf H:Hp}(s:aF Hf H):bx Hf H Hf H:=⟨aF.refl _,aF.refl _,s,fun a o h=>.inl ⟨o,h⟩⟩
theorem bx.trans {Hf H Hf1 H1 bX H2:Hp}(a:bx Hf H Hf1 H1)(b:bx Hf1 H1 bX H2):bx Hf H bX H2:=
 ⟨a.big.trans b.big,a.bG.trans b.bG,b.sub,fun x o h=>by
   rcases b.new x o h with⟨o',h'⟩ | h' | h'
   . have e:=b.bG _ _ h'
     rw[h] at e;cases e
     exact a.new x o h'
   . exact .inr (.inl (a.big.free h'))
   . exact .inr (.inr h')⟩
theorem bx.zi {Hf H aJ H':Hp}(g:bx Hf H aJ H'){a:Addr}{u o:HO}(h:H a=some u)(nk:¬ Kept u)(q:aJ a=some o):∃ o,Hf a=some o:=by
 rcases g.new a o q with z | z | z
 . exact z
 . rw[h] at z;cases z
 . have e:=g.big _ _ h
   rw[g.sub _ _ q] at e;cases e
   exact absurd z nk
theorem bQ {H:Hp}{p:Addr}{o:HO}(n:H p=Option.none):aF H (upd H p o):=fun b u e=>by
 rw[aj (av e n)];exact e
theorem c9 {Hf H:Hp}{p:Addr}{o:HO}(s:aF Hf H):aF (upd Hf p o) (upd H p o):=fun b u e=>by
 by_cases hb:b=p
 . subst hb;rw[ak] at e ⊢;exact e
 . rw[aj hb] at e ⊢;exact s _ _ e
theorem ym {Hf H:Hp}{p:Addr}{o:HO}(s:aF Hf H)(n:Hf p=Option.none):aF Hf (upd H p o):=fun b u e=>by
 rw[aj (av e n)];exact s _ _ e
theorem bx.alloc {Hf H:Hp}{p:Addr}{o:HO}(s:aF Hf H)(n:H p=Option.none):bx Hf H (upd Hf p o) (upd H p o):=
 ⟨bQ n,bQ (s.free n),c9 s,fun a u h=>by
   by_cases hb:a=p
   . subst hb;exact .inr (.inl n)
   . rw[aj hb] at h;exact .inl ⟨u,h⟩⟩
theorem bx.fJ {Hf H:Hp}{p:Addr}{o:HO}(s:aF Hf H)(n:H p=Option.none):bx Hf H Hf (upd H p o):=
 ⟨bQ n,aF.refl _,ym s (s.free n),fun a u h=>.inl ⟨u,h⟩⟩
inductive Own where
 | lst (ds:List Dt)
 | eX (kds:List (Key×Dt))
 | obj (C:Addr) (fs:List (Str×Dt))
 | Be (x:Addr) (C:Addr) (fs:List (Str×Dt))
 | sj (C:Addr) (fs:List (Str×Dt)) (gs:List (Nat->List (Key×FD))) (nm:List Str) (n:Nat)
 | zj (x:Addr) (C:Addr) (fs:List (Str×Dt)) (gs:List (Nat->List (Key×FD))) (nm:List Str) (n:Nat)
 | mh (OK:List (List Key×Int))
set_option genInjectivity true in
inductive Slot where
 | br
 | val (d:Dt)
 | own (o:Own)
def hZ (K:W.Frag)(Hf H:Hp)(a:Addr):Own->Prop
 | .lst ds=>∃ vs,H a=some (.lst vs)/\bH K Hf vs ds
 | .eX kds=>∃ kvs,H a=some (.dK kvs)/\cU K Hf kvs kds
 | .obj C ds=>∃ dx fs,H a=some (.ins C dx fs)/\bg K Hf fs ds
 | .Be x C ds=>a=x/\∃ dx fs,H a=some (.ins C dx fs)/\bg K Hf fs ds
 | .sj C ds gs nm n=>∃ dx fs b ls,(ls:km).map (·.2)=gs/\H a=some (.ins C dx fs)/\bg K Hf fs (tP ds nm b ls n)
 | .zj x C ds gs nm n=>a=x/\∃ dx fs b ls,(ls:km).map (·.2)=gs/\H a=some (.ins C dx fs)/\bg K Hf fs (tP ds nm b ls n)
 | .mh OK=>H a=some (.dT (OK.map fun k=>(k.1,V.int k.2)))
theorem hZ.UK {K:W.Frag}{Hf H:Hp}{a:Addr}:∀ {o:Own},hZ K Hf H a o->∃ u,H a=some u/\¬ Kept u
 | .lst _,⟨_,h,_⟩=>⟨_,h,fun z=>z⟩
 | .eX _,⟨_,h,_⟩=>⟨_,h,fun z=>z⟩
 | .obj _ _,⟨_,_,h,_⟩=>⟨_,h,fun z=>z⟩
 | .Be _ _ _,⟨_,_,_,h,_⟩=>⟨_,h,fun z=>z⟩
 | .sj _ _ _ _ _,⟨_,_,_,_,_,h,_⟩=>⟨_,h,fun z=>z⟩
 | .zj _ _ _ _ _ _,⟨_,_,_,_,_,_,h,_⟩=>⟨_,h,fun z=>z⟩
 | .mh _,h=>⟨_,h,fun z=>z⟩
theorem hZ.some {K:W.Frag}{Hf H:Hp}{a:Addr}:∀ {o:Own},hZ K Hf H a o->∃ u,H a=some u
 | .lst _,⟨_,h,_⟩=>⟨_,h⟩
 | .eX _,⟨_,h,_⟩=>⟨_,h⟩
 | .obj _ _,⟨_,_,h,_⟩=>⟨_,h⟩
 | .Be _ _ _,⟨_,_,_,h,_⟩=>⟨_,h⟩
 | .sj _ _ _ _ _,⟨_,_,_,_,_,h,_⟩=>⟨_,h⟩
 | .zj _ _ _ _ _ _,⟨_,_,_,_,_,_,h,_⟩=>⟨_,h⟩
 | .mh _,h=>⟨_,h⟩
theorem hZ.grow {K:W.Frag}{Hf H aJ H':Hp}{a:Addr}(e:H' a=H a)(f:aF Hf aJ):∀ {o:Own},hZ K Hf H a o->hZ K aJ H' a o
 | .lst _,⟨vs,h,r⟩=>⟨vs,by rw[e];exact h,r.mono f⟩
 | .eX _,⟨vs,h,r⟩=>⟨vs,by rw[e];exact h,r.mono f⟩
 | .obj _ _,⟨dx,fs,h,r⟩=>⟨dx,fs,by rw[e];exact h,r.mono f⟩
 | .Be _ _ _,⟨q,dx,fs,h,r⟩=>⟨q,dx,fs,by rw[e];exact h,r.mono f⟩
 | .sj _ _ _ _ _,⟨dx,fs,b,ls,q,h,r⟩=>⟨dx,fs,b,ls,q,by rw[e];exact h,r.mono f⟩
 | .zj _ _ _ _ _ _,⟨q0,dx,fs,b,ls,q,h,r⟩=>⟨q0,dx,fs,b,ls,q,by rw[e];exact h,r.mono f⟩
 | .mh OK,h=>(show H' a=Option.some (HO.dT (OK.map fun k=>(k.1,V.int k.2))) from by rw[e];exact h)
structure Gr where
 Hf:Hp
 H:Hp
structure dX (K:W.Frag)(G:Gr)(st:L2.St)(Hf H:Hp)(dl:List Slot):Prop where
 gr:bx G.Hf G.H Hf H
 len:st.length=dl.length
 val:∀ (i:Nat) d,dl[i]?=some (.val d)->∃ v,st[i]?=some (some v)/\Rep K Hf v d
 own:∀ (i:Nat) o,dl[i]?=some (.own o)->∃ a,st[i]?=some (some (.ref a))/\Hf a=Option.none/\G.H a=Option.none/\hZ K Hf H a o
 Gi:∀ (i j:Nat) o o' a,dl[i]?=some (.own o)->dl[j]?=some (.own o')->st[i]?=some (some (.ref a))->st[j]?=some (some (.ref a))->i=j
section
variable {K:W.Frag}{G:Gr}{st:L2.St}{Hf H aJ H':Hp}{dl dl':List Slot}
theorem dX.sub (S:dX K G st Hf H dl):aF Hf H:=S.gr.sub
theorem dX.grow (S:dX K G st Hf H dl)(g:bx Hf H aJ H'):dX K G st aJ H' dl:=by
 refine⟨S.gr.trans g,S.len,fun i d h=>let ⟨v,h1,h2⟩:=S.val i d h;⟨v,h1,h2.mono g.bG⟩,fun i o h=>?_,S.Gi⟩
 obtain⟨a,h1,h2,h3,h4⟩:=S.own i o h
 obtain⟨u,hu,nk⟩:=h4.UK
 refine⟨a,h1,?_,h3,h4.grow (by rw[hu];exact g.big _ _ hu) g.bG⟩
 cases q:aJ a with
 | none=>rfl
 | some u'=>
   obtain⟨o',z⟩:=g.zi hu nk q
   rw[h2] at z;cases z
theorem dX.set (S:dX K G st Hf H dl){i:Nat}{v:V}{d:Dt}(r:Rep K Hf v d):dX K G (st.set i (some v)) Hf H (dl.set i (.val d)):=by
 have ln:=S.len
 refine⟨S.gr,by simp[S.len],fun j x h=>?_,fun j o h=>?_,fun j k o o' a h1 h2 h3 h4=>?_⟩
 . by_cases e:i=j
   . subst e
     by_cases hl:i < dl.length
     . rw[aak hl] at h;cases h
       exact⟨v,aak (by omega),r⟩
     . rw[aaF (by simp;omega)] at h;cases h
   . rw[aal e] at h ⊢;exact S.val j x h
 . by_cases e:i=j
   . subst e
     by_cases hl:i < dl.length
     . rw[aak hl] at h;cases h
     . rw[aaF (by simp;omega)] at h;cases h
   . rw[aal e] at h ⊢;exact S.own j o h
 . have nj:i≠j:=fun e=>by
     subst e
     by_cases hl:i < dl.length
     . rw[aak hl] at h1;cases h1
     . rw[aaF (by simp;omega)] at h1;cases h1
   have nk:i≠k:=fun e=>by
     subst e
     by_cases hl:i < dl.length
     . rw[aak hl] at h2;cases h2
     . rw[aaF (by simp;omega)] at h2;cases h2
   rw[aal nj] at h1 h3
   rw[aal nk] at h2 h4
   exact S.Gi j k o o' a h1 h2 h3 h4
theorem dX.Gj (S:dX K G st Hf H dl){i:Nat}{p:Addr}{o:HO}{w w':Own}(hi:dl[i]?=some (.own w))(hp:st[i]?=some (some (.ref p)))(r:hZ K Hf (upd H p o) p w'):dX K G st Hf (upd H p o) (dl.set i (.own w')):=by
 have ln:=S.len
 obtain⟨p',q1,q2,q3,q4⟩:=S.own i w hi
 rw[hp] at q1;cases q1
 have hl:i < dl.length:=(aaj.mp hi).1
 have g:bx G.Hf G.H Hf (upd H p o):=⟨fun b u e=>by rw[aj (av e q3)];exact S.gr.big _ _ e,S.gr.bG,ym S.sub q2,S.gr.new⟩
 refine⟨g,by simp[S.len],fun j x h=>?_,fun j o' h=>?_,fun j k o1 o2 a h1 h2 h3 h4=>?_⟩
 . by_cases e:i=j
   . subst e;rw[aak hl] at h;cases h
   . rw[aal e] at h;exact S.val j x h
 . by_cases e:i=j
   . subst e;rw[aak hl] at h;cases h
     exact⟨p,hp,q2,q3,r⟩
   . rw[aal e] at h
     obtain⟨a,z1,z2,z3,z4⟩:=S.own j o' h
     have:a≠p:=fun q=>by subst q;exact e (S.Gi i j _ _ _ hi h hp z1)
     exact⟨a,z1,z2,z3,z4.grow (aj this) (aF.refl _)⟩
 . have tr:∀ (j:Nat) o',(dl.set i (.own w'))[j]?=some (.own o')->∃ QD,dl[j]?=some (.own QD):=fun j o' h=>by
     by_cases e:i=j
     . subst e;exact⟨_,hi⟩
     . rw[aal e] at h;exact⟨_,h⟩
   obtain⟨_,t1⟩:=tr j o1 h1
   obtain⟨_,t2⟩:=tr k o2 h2
   exact S.Gi j k _ _ a t1 t2 h3 h4
def Le (dl dl':List Slot):Prop:=dl.length=dl'.length/\∀ (i:Nat) s,dl[i]?=some s->s≠.br->dl'[i]?=some s
theorem Le.refl (dl:List Slot):Le dl dl:=⟨rfl,fun _ _ h _=>h⟩
theorem dX.weak (S:dX K G st Hf H dl')(l:Le dl dl'):dX K G st Hf H dl:=
 ⟨S.gr,by rw[S.len,l.1],fun i d h=>S.val i d (l.2 i _ h (by intro z;cases z)),fun i o h=>S.own i o (l.2 i _ h (by intro z;cases z)),
  fun i j o o' a h1 h2=>S.Gi i j o o' a (l.2 i _ h1 (by intro z;cases z)) (l.2 j _ h2 (by intro z;cases z))⟩
def UL:List Slot->List Slot->Prop
 | [],[]=>True
 | .br::r,_::s=>UL r s
 | x::r,y::s=>x=y/\UL r s
 | _,_=>False
theorem Le.of:∀ {dl dl':List Slot},UL dl dl'->Le dl dl'
 | [],[],_=>Le.refl _
 | .br::r,y::s,h=>by
   have q:=Le.of (dl:=r) (dl':=s) h
   refine⟨congrArg (·+1) q.1,fun i x e n=>?_⟩
   cases i with
   | zero=>simp at e;exact absurd e.symm n
   | succ i=>exact q.2 i x (by simpa using e) n
 | .val d::r,y::s,h=>by
   obtain⟨h1,h2⟩:=(show Slot.val d=y/\UL r s from h)
   subst h1
   have q:=Le.of h2
   refine⟨congrArg (·+1) q.1,fun i x e n=>?_⟩
   cases i with
   | zero=>exact e
   | succ i=>exact q.2 i x (by simpa using e) n
 | .own d::r,y::s,h=>by
   obtain⟨h1,h2⟩:=(show Slot.own d=y/\UL r s from h)
   subst h1
   have q:=Le.of h2
   refine⟨congrArg (·+1) q.1,fun i x e n=>?_⟩
   cases i with
   | zero=>exact e
   | succ i=>exact q.2 i x (by simpa using e) n
end
def tD (K:PySem.W.Frag)(G:Gr)(dl:List Slot)(d:Dt):TE:=fun st H Q=>∃ Hf,dX K G st Hf H dl/\∀ v aJ H',bx Hf H aJ H'->Rep K aJ v d->Q v H'
def QE (K:PySem.W.Frag)(G:Gr)(dl:List Slot)(ds:List Dt):TA:=fun st H Q=>∃ Hf,dX K G st Hf H dl/\∀ vs aJ H',bx Hf H aJ H'->bH K aJ vs ds->Q vs H'
def UM (K:PySem.W.Frag)(G:Gr)(dl:List Slot)(b:Bool):TT:=fun st H Q=>∃ Hf,dX K G st Hf H dl/\∀ aJ H',bx Hf H aJ H'->Q b H'
abbrev EE (X:Cx)(G:Gr)(dl:List Slot)(e:Expr)(d:Dt):Prop:=PE X e (tD X.K G dl d)
abbrev EA (X:Cx)(G:Gr)(dl:List Slot)(es:List Expr)(ds:List Dt):Prop:=PA X es (QE X.K G dl ds)
abbrev EB (X:Cx)(G:Gr)(dl:List Slot)(e:Expr)(b:Bool):Prop:=PT X e (UM X.K G dl b)
def ExcAt (K:PySem.W.Frag)(Hf:Hp)(od:Option Addr)(fs:List (Str×Dt)):Prop:=match od with
 | none=>fs=[]
 | some dx=>∃ fv,Hf dx=some (.xd fv)/\bg K Hf fv fs
inductive Out where
 | nx (dl:List Slot)
 | rt (d:Dt)
 | ro (w:Own)
 | bk (dl:List Slot)
 | ct (dl:List Slot)
 | ex (c:Value) (fs:List (Str×Dt))
 | raw (R:L2.St->Hp->Prop)
def xD (K:W.Frag)(G:Gr)(E:XK)(D:Ends)(Hf:Hp):Out->Prop
 | .nx dl=>∀ st aJ H,aF Hf aJ->dX K G st aJ H dl->D.nx st H
 | .bk dl=>∀ st aJ H,aF Hf aJ->dX K G st aJ H dl->D.bk st H
 | .ct dl=>∀ st aJ H,aF Hf aJ->dX K G st aJ H dl->D.ct st H
 | .rt d=>∀ v aJ H,bx G.Hf G.H aJ H->Rep K aJ v d->D.rt v H
 | .ro o=>∀ p aJ H,bx G.Hf G.H aJ H->G.H p=none->aJ p=none->hZ K aJ H p o->D.rt (.ref p) H
 | .ex c fs=>∀ od aJ H,bx G.Hf G.H aJ H->ExcAt K aJ od fs->E c od H
 | .raw R=>∀ st H,R st H->D.nx st H
theorem xD.mono {K:W.Frag}{G:Gr}{E:XK}{D:Ends}{Hf Hf1:Hp}(s:aF Hf Hf1):∀ {o:Out},xD K G E D Hf o->xD K G E D Hf1 o
 | .nx _,k=>fun st aJ H s' S=>k st aJ H (s.trans s') S
 | .bk _,k=>fun st aJ H s' S=>k st aJ H (s.trans s') S
 | .ct _,k=>fun st aJ H s' S=>k st aJ H (s.trans s') S
 | .rt _,k=>k
 | .ro _,k=>k
 | .ex _ _,k=>k
 | .raw _,k=>k
def tO (K:W.Frag)(G:Gr)(E:XK)(dl:List Slot)(o:Out):TS:=fun D st H=>∃ Hf,dX K G st Hf H dl/\xD K G E D Hf o
abbrev ES (X:Cx)(G:Gr)(E:XK)(dl:List Slot)(s:Stmt)(o:Out):Prop:=PS X s (tO X.K G E dl o)
abbrev m8 (X:Cx)(G:Gr)(E:XK)(dl:List Slot)(s:List Stmt)(o:Out):Prop:=CF X s (tO X.K G E dl o)
theorem gL {X:Cx}{e:Expr}{t t':TE}(h:PE X e t)(i:∀ st H Q,t' st H Q->t st H Q):PE X e t':=fun pins s st H Q I q=>h pins s st H Q I (i st H Q q)
theorem UN {X:Cx}{e:Expr}{t t':TT}(h:PT X e t)(i:∀ st H Q,t' st H Q->t st H Q):PT X e t':=fun pins s st H Q I q=>h pins s st H Q I (i st H Q q)
theorem paI {X:Cx}{e:List Expr}{t t':TA}(h:PA X e t)(i:∀ st H Q,t' st H Q->t st H Q):PA X e t':=fun pos pins s st H Q I q=>h pos pins s st H Q I (i st H Q q)
theorem sk {X:Cx}{e:Stmt}{t t':TS}(h:PS X e t)(i:∀ D st H,t' D st H->t D st H):PS X e t':=fun pins s st H D I q=>h pins s st H D I (i D st H q)
theorem zk {X:Cx}{e:List Stmt}{t t':TS}(h:CF X e t)(i:∀ D st H,t' D st H->t D st H):CF X e t':=fun pins s st H D I q=>h pins s st H D I (i D st H q)
section
variable {X:Cx}{G:Gr}{dl:List Slot}{a b e:Expr}{i j:Int}{d d1 d2:Dt}{pos:Pos}{x y:Str}{u v:Bool}
theorem aa (n:Nat){x:Str}{pos:Pos}(hd:dl[n]?=some (.val d):=by rfl)(hN:X.N[n]?=some x:=by rfl)(hv:vo X.env.scope x:=by first | exact aaK rfl | exact aaD (aaK rfl) | exact aaD (aaD rfl))(hb:(x == ("__debug__":Str))=false:=by decide)(mz:(x == ("__classdict__":Str))=false:=by decide):EE X G dl (.Name x pos) d:=
 gL (jC hN hv hb mz) fun st H Q zq=>Bn zq fun Hf zq=>have S:=zq.1;have k:=zq.2;let ⟨v,h1,h2⟩:=S.val n d hd;⟨v,h1,k v Hf H (.refl S.sub) h2⟩
theorem ai {z:Int}{j pos}:EE X G dl (.Constant (.int z) j pos) (.int z):=gL PV fun st H Q zq=>Bn zq fun Hf zq=>have S:=zq.1;have k:=zq.2;k _ Hf H (.refl S.sub) (.int z)
theorem UO {z:Bool}{j pos}:EE X G dl (.Constant (.bool z) j pos) (.bl z):=gL T7 fun st H Q zq=>Bn zq fun Hf zq=>have S:=zq.1;have k:=zq.2;k _ Hf H (.refl S.sub) (.bl z)
theorem aO {z:Str}{j pos}:EE X G dl (.Constant (.str z) j pos) (.str z):=gL PX fun st H Q zq=>Bn zq fun Hf zq=>have S:=zq.1;have k:=zq.2;k _ Hf H (.refl S.sub) (.str z)
def CA (K:W.Frag)(r:R2)(d1 d2 d:Dt):Prop:=∀ v w Hf H Q,aF Hf H->Rep K Hf v d1->Rep K Hf w d2->(∀ u aJ H',bx Hf H aJ H'->Rep K aJ u d->Q u H')->r v w H Q
theorem vC {r:R2}(h:CA X.K r d1 d2 d):∀ st H Q,tD X.K G dl d st H Q->Ui r (tD X.K G dl d1) (tD X.K G dl d2) st H Q:=fun st H Q zq=>Bn zq fun Hf zq=>have S:=zq.1;have k:=zq.2;
 ⟨Hf,S,fun v Hf1 H1 g1 r1=>⟨Hf1,S.grow g1,fun w bX H2 g2 r2=>h v w bX H2 Q g2.sub (r1.mono g2.bG) r2 fun u jA H3 g3 r3=>k u jA H3 ((g1.trans g2).trans g3) r3⟩⟩
theorem vD {op:Operator}{r:R2}(ho:oi X (binaryOp op) r)(h:CA X.K r d1 d2 d)(ha:EE X G dl a d1)(hb:EE X G dl b d2):EE X G dl (.BinOp a op b pos) d:=gL (OA ho ha hb) (vC h)
theorem vE {op:CmpOp}{r:R2}(ho:oi X (compareOp op) r)(h:CA X.K r d1 d2 d)(hm:behindInMarks op b=false)(ha:EE X G dl a d1)(hb:EE X G dl b d2):EE X G dl (.Compare a [op] [b] pos) d:=gL (L5 ho ha hb hm) (vC h)
theorem lF {op:CmpOp}{r:R2}(ho:oi X (compareOp op) r)(h:CA X.K r d1 d2 (.bl u))(hm:behindInMarks op b=false)(ha:EE X G dl a d1)(hb:EE X G dl b d2):EB X G dl (.Compare a [op] [b] pos) u:=
 UN (L6 ho ha hb hm) fun st H Q zq=>Bn zq fun Hf zq=>have S:=zq.1;have k:=zq.2;vC h st H _ ⟨Hf,S,fun v aJ H' g r=>by cases r;exact⟨u,rfl,k aJ H' g⟩⟩
theorem oE {K:W.Frag}{g:Int->Int->V}{g':Int->Int->Dt}(h:∀ K H i j,Rep K H (g i j) (g' i j)):CA K (LY g) (.int i) (.int j) (g' i j):=fun v w Hf H Q s r1 r2 k=>by
 cases r1;cases r2;exact⟨i,j,rfl,rfl,k _ Hf H (.refl s) (h _ _ _ _)⟩
theorem Mp {K:W.Frag}{C:Int->Int->Prop}{g:Int->Int->V}{g':Int->Int->Dt}(h:∀ K H i j,Rep K H (g i j) (g' i j))(hc:C i j):CA K (rI C g) (.int i) (.int j) (g' i j):=fun v w Hf H Q s r1 r2 k=>by
 cases r1;cases r2;exact⟨i,j,rfl,rfl,hc,k _ Hf H (.refl s) (h _ _ _ _)⟩
theorem aL (ha:EE X G dl a (.int i))(hb:EE X G dl b (.int j)):EE X G dl (.BinOp a .Add b pos) (.int (i+j)):=vD Qe (oE (g':=fun i j=>.int (i+j)) fun _ _ _ _=>.int _) ha hb
theorem gO (ha:EE X G dl a (.int i))(hb:EE X G dl b (.int j)):EE X G dl (.BinOp a .Sub b pos) (.int (i - j)):=vD Qf (oE (g':=fun i j=>.int (i - j)) fun _ _ _ _=>.int _) ha hb
theorem Mq:oi X (binaryOp .Mult) (rI IntMulOk fun i j=>.int (i * j)):=W0 fun _ _ _ _ _ _ _ hc q=>mul_int q hc
theorem fK (ha:EE X G dl a (.int i))(hb:EE X G dl b (.int j))(hc:IntMulOk i j):EE X G dl (.BinOp a .Mult b pos) (.int (i * j)):=vD Mq (Mp (g':=fun i j=>.int (i * j)) (fun _ _ _ _=>.int _) hc) ha hb
theorem Ih:oi X (binaryOp .FloorDiv) (rI (fun _ j=>0 < j/\j.natAbs.log2 < 9000) fun i j=>.int (i / j)):=W0 fun i j _ _ _ _ _ hc q=>by
 refine floordiv_int (abi hc.1) ?_ (.inl (PyProof.noPylong_of_log2 hc.2))
 rw[Int.fdiv_eq_ediv_of_nonneg _ (Int.le_of_lt hc.1)]
 exact q
theorem i7 (ha:EE X G dl a (.int i))(hb:EE X G dl b (.int j))(hc:0 < j/\j.natAbs.log2 < 9000):EE X G dl (.BinOp a .FloorDiv b pos) (.int (i / j)):=vD Ih (Mp (g':=fun i j=>.int (i / j)) (fun _ _ _ _=>.int _) hc) ha hb
theorem cJ (ha:EE X G dl a (.int i))(hb:EE X G dl b (.int j))(hc:0 < j):EE X G dl (.BinOp a .Mod b pos) (.int (i % j)):=vD Qg (Mp (g':=fun i j=>.int (i % j)) (fun _ _ _ _=>.int _) hc) ha hb
theorem Ii (ha:EE X G dl a (.int i))(hb:EE X G dl b (.int j))(hc:Ul i j):EE X G dl (.BinOp a .Pow b pos) (.int (i ^ j.toNat)):=vD Qh (Mp (g':=fun i j=>.int (i ^ j.toNat)) (fun _ _ _ _=>.int _) hc) ha hb
theorem QF {K:W.Frag}(h:x.length+y.length<=sizeLine):CA K (fun a b H Q=>∃ i j,a=.str i/\b=.str j/\i.length+j.length<=sizeLine/\Q (.str (i ++ j)) H) (.str x) (.str y) (.str (x ++ y)):=fun v w Hf H Q s r1 r2 k=>by
 cases r1;cases r2;exact⟨x,y,rfl,rfl,h,k _ Hf H (.refl s) (.str _)⟩
theorem QG (ha:EE X G dl a (.str x))(hb:EE X G dl b (.str y))(h:x.length+y.length<=sizeLine):EE X G dl (.BinOp a .Add b pos) (.str (x ++ y)):=vD CJ (QF h) ha hb
theorem iQ (ha:EE X G dl a (.int i)):EE X G dl (.UnaryOp .USub a pos) (.int (-i)):=
 gL (Uj Qi ha) fun st H Q zq=>Bn zq fun Hf zq=>have S:=zq.1;have k:=zq.2;⟨Hf,S,fun v Hf1 H1 g1 r1=>by cases r1;exact⟨i,rfl,k _ Hf1 H1 g1 (.int _)⟩⟩
theorem UP (ha:EE X G dl a (.int i))(hb:EE X G dl b (.int j)):EE X G dl (.Compare a [.Gt] [b] pos) (.bl (decide (j < i))):=vE OD (oE (g':=fun i j=>.bl (decide (j < i))) fun _ _ _ _=>.bl _) (ko _) ha hb
theorem vF (h:EE X G dl e (.bl u))(he:∀ whole,isTrue e X.env whole=(do let v <- whole;standAt e.pos;holding [v] (truthy v)):=by intro _;rfl):EB X G dl e u:=
 UN (PZ h he) fun st H Q zq=>Bn zq fun Hf zq=>have S:=zq.1;have k:=zq.2;⟨Hf,S,fun v Hf1 H1 g1 r1=>by cases r1;exact⟨u,rfl,k Hf1 H1 g1⟩⟩
end
section
variable {X:Cx}{G:Gr}{E:XK}{dl dl1 TF:List Slot}{a b c e:Expr}{es:List Expr}{i j:Int}{d d1:Dt}{ds:List Dt}{pos:Pos}{o o':Out}{x:Str}{u v:Bool}{rest:List Expr}{sts Gk:List Stmt}{s:Stmt}
theorem CW:PE X e fun _ _ _=>False:=fun _ _ _ _ _ _ h=>h.elim
theorem pw_nev:PW X e fun _ _ _=>False:=fun _ _ _ _ _ _ _ h=>h.elim
abbrev EW (X:Cx)(G:Gr)(dl:List Slot)(e:Expr)(b:Bool):Prop:=PW X e (UM X.K G dl b)
theorem W6 {e:Expr}{t t':TT}(h:PW X e t)(i:∀ st H Q,t' st H Q->t st H Q):PW X e t':=fun wh pins s st H Q I q=>h wh pins s st H Q I (i st H Q q)
theorem zl (ha:EB X G dl a u):EW X G dl (.BoolOp .And [a] pos) u:=pw_and1 ha
theorem qp (ha:EB X G dl a u):EW X G dl (.BoolOp .Or [a] pos) u:=pw_or1 ha
theorem vG (ha:EB X G dl a u)(hb:u=true->EW X G dl (.BoolOp .And (b::rest) pos) v):EW X G dl (.BoolOp .And (a::b::rest) pos) (u && v):=by
 cases u with
 | true=>exact W6 (pw_and ha (hb rfl)) fun st H Q zq=>Bn zq fun Hf zq=>have S:=zq.1;have k:=zq.2;⟨Hf,S,fun Hf1 H1 g1=>zh ⟨Hf1,S.grow g1,fun bX H2 g2=>k bX H2 (g1.trans g2)⟩⟩
 | false=>exact W6 (pw_and ha pw_nev) fun st H Q zq=>Bn zq fun Hf zq=>have S:=zq.1;have k:=zq.2;⟨Hf,S,fun Hf1 H1 g1=>zg (k Hf1 H1 g1)⟩
theorem qW (ha:EB X G dl a u)(hb:u=false->EW X G dl (.BoolOp .Or (b::rest) pos) v):EW X G dl (.BoolOp .Or (a::b::rest) pos) (u || v):=by
 cases u with
 | false=>exact W6 (pw_or ha (hb rfl)) fun st H Q zq=>Bn zq fun Hf zq=>have S:=zq.1;have k:=zq.2;⟨Hf,S,fun Hf1 H1 g1=>zg ⟨Hf1,S.grow g1,fun bX H2 g2=>k bX H2 (g1.trans g2)⟩⟩
 | true=>exact W6 (pw_or ha pw_nev) fun st H Q zq=>Bn zq fun Hf zq=>have S:=zq.1;have k:=zq.2;⟨Hf,S,fun Hf1 H1 g1=>zh (k Hf1 H1 g1)⟩
theorem vH (h:EW X G dl e u):EB X G dl e u:=h.pt
theorem sq (ha:EB X G dl a u):EB X G dl (.UnaryOp .Not a pos) (!u):=UN (P0 ha) fun st H Q zq=>Bn zq fun Hf zq=>have S:=zq.1;have k:=zq.2;⟨Hf,S,fun Hf1 H1 g1=>k Hf1 H1 g1⟩
theorem qX (ha:EE X G dl a (.bl u)):EE X G dl (.BoolOp .And [a] pos) (.bl u):=P1 ha
theorem vI (ha:EE X G dl a (.bl u))(hb:u=true->EE X G dl (.BoolOp .And (b::rest) pos) (.bl v)):EE X G dl (.BoolOp .And (a::b::rest) pos) (.bl (u && v)):=by
 cases u with
 | true=>exact gL (HD ha (hb rfl)) fun st H Q zq=>Bn zq fun Hf zq=>have S:=zq.1;have k:=zq.2;⟨Hf,S,fun w Hf1 H1 g1 r1=>by cases r1;exact⟨true,rfl,zh ⟨Hf1,S.grow g1,fun w bX H2 g2 r2=>k w bX H2 (g1.trans g2) r2⟩⟩⟩
 | false=>exact gL (HD ha CW) fun st H Q zq=>Bn zq fun Hf zq=>have S:=zq.1;have k:=zq.2;⟨Hf,S,fun w Hf1 H1 g1 r1=>by cases r1;exact⟨false,rfl,zg (k _ Hf1 H1 g1 (.bl _))⟩⟩
theorem QH (ha:EE X G dl a (.bl u)):EE X G dl (.UnaryOp .Not a pos) (.bl (!u)):=gL (P2 ha) fun st H Q zq=>Bn zq fun Hf zq=>have S:=zq.1;have k:=zq.2;⟨Hf,S,fun w Hf1 H1 g1 r1=>by cases r1;exact⟨u,rfl,k _ Hf1 H1 g1 (.bl _)⟩⟩
theorem aQ (h:EB X G dl e u)(q:u=v):EB X G dl e v:=by subst q;exact h
theorem aK (h:EE X G dl e d)(q:d=d1):EE X G dl e d1:=by subst q;exact h
theorem QI (hc:EB X G dl c u)(ha:u=true->EE X G dl a d)(hb:u=false->EE X G dl b d):EE X G dl (.IfExp c a b pos) d:=by
 cases u with
 | true=>exact gL (AU hc (ha rfl) CW) fun st H Q zq=>Bn zq fun Hf zq=>have S:=zq.1;have k:=zq.2;⟨Hf,S,fun Hf1 H1 g1=>zh ⟨Hf1,S.grow g1,fun w bX H2 g2 r2=>k w bX H2 (g1.trans g2) r2⟩⟩
 | false=>exact gL (AU hc CW (hb rfl)) fun st H Q zq=>Bn zq fun Hf zq=>have S:=zq.1;have k:=zq.2;⟨Hf,S,fun Hf1 H1 g1=>zg ⟨Hf1,S.grow g1,fun w bX H2 g2 r2=>k w bX H2 (g1.trans g2) r2⟩⟩
theorem ah:EA X G dl [] []:=paI ow fun st H Q zq=>Bn zq fun Hf zq=>have S:=zq.1;have k:=zq.2;k [] Hf H (.refl S.sub) .nil
theorem ae (ha:EE X G dl e d)(hr:EA X G dl es ds)(hs:starEach (e::es) X.env=(false,eval e X.env)::starEach es X.env:=by rfl):EA X G dl (e::es) (d::ds):=
 paI (lU ha hr hs) fun st H Q zq=>Bn zq fun Hf zq=>have S:=zq.1;have k:=zq.2;⟨Hf,S,fun v Hf1 H1 g1 r1=>⟨Hf1,S.grow g1,fun vs bX H2 g2 r2=>k _ bX H2 (g1.trans g2) (.cons (r1.mono g2.bG) r2)⟩⟩
theorem aS {x1}(h:EA X G dl es ds)(hl:ds.length<=sizeLine:=by decide):EE X G dl (.Tuple es x1 pos) (.tup ds):=
 gL (Qk h) fun st H Q zq=>Bn zq fun Hf zq=>have S:=zq.1;have k:=zq.2;⟨Hf,S,fun vs Hf1 H1 g1 r1=>⟨by rw[r1.length];exact hl,fun p hp=>k _ (upd Hf1 p (.tup vs)) _ (g1.trans (.alloc g1.sub hp)) (.tup (.of ak) (r1.mono (bQ (g1.sub.free hp))))⟩⟩
theorem Ij (h:EA X G dl es ds)(hl:ds.length<=sizeLine:=by decide):EE X G dl (.List es pos) (.lst ds):=
 gL (vx h) fun st H Q zq=>Bn zq fun Hf zq=>have S:=zq.1;have k:=zq.2;⟨Hf,S,fun vs Hf1 H1 g1 r1=>⟨by rw[r1.length];exact hl,fun p hp=>k _ (upd Hf1 p (.lst vs)) _ (g1.trans (.alloc g1.sub hp)) (.lst ak (r1.mono (bQ (g1.sub.free hp))))⟩⟩
theorem bH.oy {K:W.Frag}{H:Hp}{vs:List V}{ds:List Dt}{i:Int}{d:Dt}(r:bH K H vs ds)(h:L2.oy ds i=some d):∃ v,L2.oy vs i=some v/\Rep K H v d:=by
 unfold L2.oy at h ⊢
 rw[r.length]
 cases q:CQ ds.length i with
 | none=>rw[q] at h;cases h
 | some n=>
   rw[q] at h
   exact r.get h
theorem aC (ha:EE X G dl a (.tup ds))(hb:EE X G dl b (.int i))(h:oy ds i=some d)(hs:kL b:=by intro _ _;rfl):EE X G dl (.Subscript a b pos) d:=
 gL (vy Qo ha hb hs) (vC fun v w Hf H Q s r1 r2 k=>by
   cases r1 with
   | tup q r=>
     cases r2
     obtain⟨v,h1,h2⟩:=r.oy h
     exact⟨_,_,i,v,rfl,rfl,de s q,h1,k v Hf H (.refl s) h2⟩)
theorem zm (ha:EE X G dl a (.lst ds))(hb:EE X G dl b (.int i))(h:oy ds i=some d)(hs:kL b:=by intro _ _;rfl):EE X G dl (.Subscript a b pos) d:=
 gL (vy yZ ha hb hs) (vC fun v w Hf H Q s r1 r2 k=>by
   cases r1 with
   | lst q r=>
     cases r2
     obtain⟨v,h1,h2⟩:=r.oy h
     exact⟨_,_,i,v,rfl,rfl,.of (s _ _ q),h1,k v Hf H (.refl s) h2⟩)
theorem su {ns:List Int}{z:Int}(ha:EE X G dl a (.o9 ns))(hb:EE X G dl b (.int i))(h:oy ns i=some z)(hs:kL b:=by intro _ _;rfl):EE X G dl (.Subscript a b pos) (.int z):=
 gL (vy yZ ha hb hs) (vC fun v w Hf H Q s r1 r2 k=>by
   cases r1 with
   | o9 q=>
     cases r2
     have h':L2.oy (ns.map V.int) i=some (.int z):=by
       unfold L2.oy at h ⊢
       rw[k5]
       cases q2:CQ ns.length i with
       | none=>rw[q2] at h;cases h
       | some n=>
         rw[q2] at h
         show(ns.map V.int)[n]?=_
         rw[aab,show ns[n]?=some z from h];rfl
     exact⟨_,_,i,_,rfl,rfl,s.seq q,h',k _ Hf H (.refl s) (.int z)⟩)
theorem QJ {z:Nat}(ha:EE X G dl a (.str x))(hb:EE X G dl b (.int i))(h:oy x.cps.toList i=some z)(hl:x.length<=sizeLine)(hs:kL b:=by intro _ _;rfl):EE X G dl (.Subscript a b pos) (.str ⟨#[z]⟩):=
 gL (vy Qp ha hb hs) (vC fun v w Hf H Q s r1 r2 k=>by
   cases r1;cases r2
   exact⟨x,i,z,rfl,rfl,hl,h,k _ Hf H (.refl s) (.str _)⟩)
theorem aT:m8 X G E dl [] (.nx dl):=zk LX fun D st H zq=>Bn zq fun Hf zq=>have S:=zq.1;have k:=zq.2;k st Hf H (aF.refl _) S
theorem ag (h1:ES X G E dl s (.nx dl1))(h2:m8 X G E dl1 sts o):m8 X G E dl (s::sts) o:=
 zk (om h1 h2) fun D st H zq=>Bn zq fun Hf zq=>have S:=zq.1;have k:=zq.2;⟨Hf,S,fun jD aJ H' s' S'=>⟨aJ,S',k.mono s'⟩⟩
theorem ao (h1:ES X G E dl s o):m8 X G E dl [s] o:=mZ h1
theorem xD.stop {K:W.Frag}{D D':Ends}{Hf:Hp}(h:(∀ dl,o≠.nx dl)/\∀ R,o≠.raw R)(hr:D'.rt=D.rt)(hb:D'.bk=D.bk)(hc:D'.ct=D.ct)(k:xD K G E D Hf o):xD K G E D' Hf o:=by
 cases o with
 | nx dl=>exact absurd rfl (h.1 dl)
 | raw R=>exact absurd rfl (h.2 R)
 | rt d=>show ∀ v Hf H,_->_->D'.rt v H;rw[hr];exact k
 | ro d=>show ∀ v Hf H,_->_->_->_->D'.rt _ H;rw[hr];exact k
 | bk d=>show ∀ v Hf H,_->_->D'.bk v H;rw[hb];exact k
 | ct d=>show ∀ v Hf H,_->_->D'.ct v H;rw[hc];exact k
 | ex c fs=>exact k
theorem i8 (h1:ES X G E dl s o)(h:(∀ dl,o≠.nx dl)/\(∀ R,o≠.raw R):=by exact⟨(fun _ z=>nomatch z),(fun _ z=>nomatch z)⟩):m8 X G E dl (s::sts) o:=
 zk (om h1 (rZ (sts:=sts))) fun D st H zq=>Bn zq fun Hf zq=>have S:=zq.1;have k:=zq.2;⟨Hf,S,xD.stop (D:=D) h rfl rfl rfl k⟩
theorem Il (h1:m8 X G E dl sts (.nx TF))(l:Le dl1 TF):m8 X G E dl sts (.nx dl1):=zk h1 fun D st H zq=>Bn zq fun Hf zq=>have S:=zq.1;have k:=zq.2;⟨Hf,S,fun jD aJ H' s' S'=>k jD aJ H' s' (S'.weak l)⟩
theorem Ei (h1:m8 X G E dl1 sts o)(l:Le dl1 dl):m8 X G E dl sts o:=zk h1 fun D st H zq=>Bn zq fun Hf zq=>have S:=zq.1;have k:=zq.2;⟨Hf,S.weak l,k⟩
theorem aI (hc:EB X G dl c u)(h1:u=true->m8 X G E dl sts o)(h2:u=false->m8 X G E dl Gk o):ES X G E dl (.If c sts Gk pos) o:=by
 cases u with
 | true=>exact sk (Oy hc (h1 rfl) (rZ (sts:=Gk))) fun D st H zq=>Bn zq fun Hf zq=>have S:=zq.1;have k:=zq.2;⟨Hf,S,fun Hf1 H1 g1=>zh ⟨Hf1,S.grow g1,k.mono g1.bG⟩⟩
 | false=>exact sk (Oy hc (rZ (sts:=sts)) (h2 rfl)) fun D st H zq=>Bn zq fun Hf zq=>have S:=zq.1;have k:=zq.2;⟨Hf,S,fun Hf1 H1 g1=>zg ⟨Hf1,S.grow g1,k.mono g1.bG⟩⟩
theorem aA (h:EE X G dl e d):ES X G E dl (.Return (some e) pos) (.rt d):=sk (CG h) fun D st H zq=>Bn zq fun Hf zq=>have S:=zq.1;have k:=zq.2;⟨Hf,S,fun v Hf1 H1 g1 r1=>k v Hf1 H1 (S.gr.trans g1) r1⟩
theorem lX (h:EE X G dl e d)(hs:swapsWith e none pos.line X.env=pure false:=by rfl):ES X G E dl (.Expr e pos) (.nx dl):=
 sk (lS h hs) fun D st H zq=>Bn zq fun Hf zq=>have S:=zq.1;have k:=zq.2;⟨Hf,S,fun v Hf1 H1 g1 r1=>k st Hf1 H1 g1.bG (S.grow g1)⟩
theorem au (n:Nat){x:Str}{pos':Pos}(hN:X.N.Nodup)(he:EE X G dl e d)(hi:X.N[n]?=some x:=by rfl)(hx:Loc X.env.scope x:=by first | exact aaK rfl | exact aaD rfl)(hs:swapsWith e (some (.Name x pos')) pos.line X.env=pure false:=by rfl)(hf:X.fn x=true\/X.env.scope.names.lookup x=some .local:=by first | exact .inl rfl | exact .inr rfl | assumption):ES X G E dl (.Assign [.Name x pos'] e pos) (.nx (dl.set n (.val d))):=
 sk (CH hN hi hx he hs hf) fun D st H zq=>Bn zq fun Hf zq=>have S:=zq.1;have k:=zq.2;⟨Hf,S,fun v Hf1 H1 g1 r1=>k _ Hf1 H1 g1.bG ((S.grow g1).set r1)⟩
inductive qb (X:Cx)(G:Gr)(E:XK)(body:List Stmt)(S:Nat->List Slot)(pre:Nat->List Slot)(n m:Nat):Out->Prop
 | all (h:m=n):qb X G E body S pre n m (.nx (S n))
 | rt {d:Dt} (h:m < n) (hb:m8 X G E (pre m) body (.rt d)):qb X G E body S pre n m (.rt d)
 | ro {d:Own} (h:m < n) (hb:m8 X G E (pre m) body (.ro d)):qb X G E body S pre n m (.ro d)
 | bk {dl':List Slot} (h:m < n) (hb:m8 X G E (pre m) body (.bk dl')):qb X G E body S pre n m (.nx dl')
 | ex {c:Value} {fs:List (Str×Dt)} (h:m < n) (hb:m8 X G E (pre m) body (.ex c fs)):qb X G E body S pre n m (.ex c fs)
inductive Goes (X:Cx)(G:Gr)(E:XK)(body:List Stmt)(pre post:List Slot):Prop
 | nx {dl':List Slot} (hb:m8 X G E pre body (.nx dl')) (l:Le post dl')
 | ct {dl':List Slot} (hb:m8 X G E pre body (.ct dl')) (l:Le post dl')
def Im (X:Cx)(G:Gr)(E:XK)(body:List Stmt):TS:=fun D st H=>∃ pre o,m8 X G E pre body o/\tO X.K G E pre o D st H
theorem qY {body:List Stmt}:CF X body (Im X G E body):=fun pins s st H D J ⟨pre,o,h,q⟩=>h pins s st H D J q
theorem pk {body:List Stmt}{pre post:List Slot}{D:Ends}{st:L2.St}{Hf H:Hp}(g:Goes X G E body pre post)(S:dX X.K G st Hf H pre)(hn:∀ st aJ H,aF Hf aJ->dX X.K G st aJ H post->D.nx st H)(hc:∀ st aJ H,aF Hf aJ->dX X.K G st aJ H post->D.ct st H):Im X G E body D st H:=by
 cases g with
 | nx hb l=>exact⟨_,_,hb,Hf,S,fun jD aJ H' s' S'=>hn jD aJ H' s' (S'.weak l)⟩
 | ct hb l=>exact⟨_,_,hb,Hf,S,fun jD aJ H' s' S'=>hc jD aJ H' s' (S'.weak l)⟩
theorem sv {body:List Stmt}{S pre:Nat->List Slot}{n m:Nat}{D D':Ends}{st:L2.St}{Hf H:Hp}(e:qb X G E body S pre n m o)(hm:m < n)(S':dX X.K G st Hf H (pre m))(k:xD X.K G E D Hf o)(hr:D'.rt=D.rt)(QK:D'.bk=D.nx):Im X G E body D' st H:=by
 cases e with
 | all h=>omega
 | rt h hb=>exact⟨_,_,hb,Hf,S',by show ∀ v Hf H,_->_->D'.rt v H;rw[hr];exact k⟩
 | ro h hb=>exact⟨_,_,hb,Hf,S',by show ∀ v Hf H,_->_->_->_->D'.rt _ H;rw[hr];exact k⟩
 | bk h hb=>exact⟨_,_,hb,Hf,S',by show ∀ v Hf H,_->_->D'.bk v H;rw[QK];exact k⟩
 | ex h hb=>exact⟨_,_,hb,Hf,S',k⟩
theorem Io (nN:Nat){x:Str}{px:Pos}{body:List Stmt}{lo:Int}{n m:Nat}(S:Nat->List Slot)(hN:X.N.Nodup)(qZ:X.calm=true)(hp:PassesOwn (model X.prog X.w) X.A X.env X.xe){wi:TI}{iter:Expr}(hI:PI X (.Name x px) iter wi)(hw:∀ st Hf H R,dX X.K G st Hf H dl->(∀ aJ H',bx Hf H aJ H'->R (FX lo n) H')->wi st H R)(h0:Le (S 0) dl)(W7:m<=n)(hb:∀ k,k < m->Goes X G E body ((S k).set nN (.val (.int (lo+k)))) (S (k+1)))(he:qb X G E body S (fun k=>(S k).set nN (.val (.int (lo+k)))) n m o)(hi:X.N[nN]?=some x:=by rfl)(hx:Loc X.env.scope x:=by first | exact aaK rfl | exact aaD rfl)(hf:X.fn x=true\/X.env.scope.names.lookup x=some .local:=by first | exact .inl rfl | exact .inr rfl | assumption)(hs:∀ x,foldedSetIterable iter X.env x=pure x:=by intro _;rfl):ES X G E dl (.For (.Name x px) iter body [] pos) o:=by
 refine sk (yW hp qZ hI (bC hN hi hx hf) (qY (G:=G) (E:=E)) hs) fun D st H ⟨Hf,S0,k⟩=>hw st Hf H _ S0 fun aJ H' g=>?_
 refine F0 (lo:=lo) (n:=n) (fun j st H=>j<=m/\∃ Hf1,aF Hf Hf1/\dX X.K G st Hf1 H (S j)) ⟨aaW _,aJ,g.bG,(S0.grow g).weak h0⟩ (fun j st H hj ⟨hjm,Hf1,s1,Sj⟩=>?_) (fun st H ⟨hnm,Hf1,s1,Sn⟩=>?_)
 . have Sp:dX X.K G (st.set nN (some (.int (lo+j)))) Hf1 H ((S j).set nN (.val (.int (lo+j)))):=Sj.set (.int _)
   by_cases dn:j < m
   . exact pk (hb j dn) Sp (fun st bX H s2 S'=>⟨dn,bX,s1.trans s2,S'⟩) (fun st bX H s2 S'=>⟨dn,bX,s1.trans s2,S'⟩)
   . have e:j=m:=by omega
     subst e
     exact sv he hj Sp (k.mono s1) rfl rfl
 . have e:m=n:=by omega
   subst e
   cases he with
   | all _=>exact k st Hf1 H s1 Sn
   | rt h _=>omega
   | ro h _=>omega
   | bk h _=>omega
   | ex h _=>omega
theorem gm (nN:Nat){x:Str}{p px pc:Pos}{body:List Stmt}{n:Int}{m:Nat}(S:Nat->List Slot)(hN:X.N.Nodup)(qZ:X.calm=true)(hp:PassesOwn (model X.prog X.w) X.A X.env X.xe)(Mr:X.mg "range"=none)(ha:EA X G dl [a] [.int n])(hn:-(2 ^ 62)<=n/\n < 2 ^ 62)(h0:Le (S 0) dl)(W7:m<=n.toNat)(hb:∀ k:Nat,k < m->Goes X G E body ((S k).set nN (.val (.int k))) (S (k+1)))(he:qb X G E body S (fun k=>(S k).set nN (.val (.int k))) n.toNat m o)(hg:Gl X "range":=by rfl)(hi:X.N[nN]?=some x:=by rfl)(hx:Loc X.env.scope x:=by first | exact aaK rfl | exact aaD rfl)(hf:X.fn x=true\/X.env.scope.names.lookup x=some .local:=by first | exact .inl rfl | exact .inr rfl | assumption)(Hn:starEach [a] X.env=[(false,eval a X.env)]:=by rfl)(hs:∀ z,foldedSetIterable (.Call (.Name "range" p) [a] [] pc) X.env z=pure z:=by intro _;rfl):ES X G E dl (.For (.Name x px) (.Call (.Name "range" p) [a] [] pc) body [] pos) o:=by
 have ez:∀ k:Nat,(0:Int)+k=k:=fun k=>Int.zero_add _
 have eS:(fun k:Nat=>(S k).set nN (.val (.int ((0:Int)+k))))=fun k:Nat=>(S k).set nN (.val (.int k)):=by funext k;rw[ez]
 refine Io nN (lo:=0) (n:=n.toNat) (m:=m) S hN qZ hp (mB hg Mr ha Hn) (fun st Hf H R S0 h=>⟨Hf,S0,fun vs Hf1 H1 g1 r1=>?_⟩) h0 W7 (fun k hk=>by rw[ez];exact hb k hk) (by rw[eS];exact he) hi hx hf hs
 cases r1 with
 | cons r t=>cases t;cases r;exact⟨n,rfl,hn.1,hn.2,h Hf1 H1 g1⟩
theorem Ej (nN:Nat){x:Str}{px:Pos}{iter:Expr}{body:List Stmt}{xs:List Dt}{m:Nat}(S:Nat->List Slot)(hN:X.N.Nodup)(qZ:X.calm=true)(hp:PassesOwn (model X.prog X.w) X.A X.env X.xe)(hl:EE X G dl iter (.lst xs))(h0:Le (S 0) dl)(W7:m<=xs.length)(hb:∀ (k:Nat) (z:Dt),k < m->xs[k]?=some z->Goes X G E body ((S k).set nN (.val z)) (S (k+1)))(he:qb X G E body S (fun k=>(S k).set nN (.val (xs.getD k .cS))) xs.length m o)(hi:X.N[nN]?=some x:=by rfl)(hx:Loc X.env.scope x:=by first | exact aaK rfl | exact aaD rfl)(hf:X.fn x=true\/X.env.scope.names.lookup x=some .local:=by first | exact .inl rfl | exact .inr rfl | assumption)(hs:∀ z,foldedSetIterable iter X.env z=pure z:=by intro _;rfl):ES X G E dl (.For (.Name x px) iter body [] pos) o:=by
 refine sk (yW hp qZ (ik hl) (bC hN hi hx hf) (qY (G:=G) (E:=E)) hs) fun D st H ⟨Hf,S0,k⟩=>⟨Hf,S0,fun v aJ H' g r=>?_⟩
 cases r with
 | @lst a vs _ q r=>
   have hlen:=r.length
   refine⟨a,rfl,⟨vs,.of (g.sub _ _ q)⟩,AZ (xs:=vs) (fun j st H=>j<=m/\∃ Hf1,aF aJ Hf1/\dX X.K G st Hf1 H (S j)) ⟨aaW _,aJ,aF.refl _,(S0.grow g).weak h0⟩ ?_ ?_ ?_⟩
   . rintro j st H _ ⟨_,Hf1,s1,Sj⟩
     exact .of (Sj.sub _ _ (s1 _ _ q))
   . rintro j v st H hv ⟨hjm,Hf1,s1,Sj⟩
     obtain⟨z,hz,rz⟩:=r.get' hv
     have hj:j < xs.length:=(aaj.mp hz).1
     have Sp:dX X.K G (st.set nN (some v)) Hf1 H ((S j).set nN (.val z)):=Sj.set (rz.mono s1)
     by_cases dn:j < m
     . exact pk (hb j z dn hz) Sp (fun st bX H s2 S'=>⟨dn,bX,s1.trans s2,S'⟩) (fun st bX H s2 S'=>⟨dn,bX,s1.trans s2,S'⟩)
     . have e:j=m:=by omega
       subst e
       have ez:xs.getD j .cS=z:=by rw[YO,hz];rfl
       exact sv he hj (by show dX _ _ _ _ _ ((S j).set nN (.val (xs.getD j .cS)));rw[ez];exact Sp) (k.mono (g.bG.trans s1)) rfl rfl
   . rintro st H ⟨hnm,Hf1,s1,Sn⟩
     have e:m=xs.length:=by omega
     subst e
     rw[hlen] at Sn
     cases he with
     | all _=>exact k st Hf1 H (g.bG.trans s1) Sn
     | rt h _=>omega
     | ro h _=>omega
     | bk h _=>omega
     | ex h _=>omega
inductive Res where
 | ret (d:Dt)
 | own (w:Own)
 | exc (c:Value) (fs:List (Str×Dt))
def UQ (K:W.Frag)(Hf H:Hp)(Q:VK)(E:XK):Res->Prop
 | .ret d=>∀ v aJ H',bx Hf H aJ H'->Rep K aJ v d->Q v H'
 | .own w=>∀ p aJ H',bx Hf H aJ H'->H p=none->aJ p=none->hZ K aJ H' p w->Q (.ref p) H'
 | .exc c fs=>∀ od aJ H',bx Hf H aJ H'->ExcAt K aJ od fs->E c od H'
def Ek (K:W.Frag)(n:Nat)(R:List Dt->Res->Prop):Sp:=fun vs H Q E=>∃ Hf ds r,aF Hf H/\bH K Hf vs ds/\ds.length=n/\R ds r/\UQ K Hf H Q E r
def CY (CX:sd):Prop:=∀ outer H s e s',CX outer H s E0 e s'->False
theorem ax:CY CX0:=fun _ _ _ _ _ h=>h
theorem CY.passes {CX:sd}(n:CY CX):Passes CX X E0:=fun _ _ _ _ _ _ _ h=>(n _ _ _ _ _ h).elim
noncomputable def slots (N:List Str)(ds:List Dt):List Slot:=ds.map Slot.val ++ aan (N.length - ds.length) .br
theorem yn {K:W.Frag}{N:List Str}{Hf H:Hp}{vs:List V}{ds:List Dt}(s:aF Hf H)(r:bH K Hf vs ds):dX K ⟨Hf,H⟩ (start N vs) Hf H (slots N ds):=by
 have hl:=r.length
 have yS:∀ (i:Nat) o,(slots N ds)[i]?≠some (.own o):=fun i o h=>by
   unfold slots at h
   by_cases hi:i < ds.length
   . rw[aaC (by simpa using hi),aab] at h
     cases e:ds[i]? with
     | none=>rw[e] at h;cases h
     | some a=>rw[e] at h;cases h
   . rw[aaE (by simpa using hi),aaV] at h
     split at h <;> cases h
 refine⟨.refl s,?_,fun i d h=>?_,fun i o h=>absurd h (yS i o),fun i j o o' a h=>absurd h (yS i o)⟩
 . unfold L2.start slots
   simp[hl]
 . unfold slots at h
   by_cases hi:i < ds.length
   . rw[aaC (by simpa using hi),aab] at h
     cases e:ds[i]? with
     | none=>rw[e] at h;cases h
     | some a=>
       rw[e] at h;cases h
       obtain⟨v,h1,h2⟩:=r.get e
       refine⟨v,?_,h2⟩
       unfold L2.start
       rw[aaC (by simp;omega),aab,h1];rfl
   . rw[aaE (by simpa using hi),aaV] at h
     split at h <;> cases h
inductive Comes:Out->Res->Prop
 | rt (d:Dt):Comes (.rt d) (.ret d)
 | ro (d:Own):Comes (.ro d) (.own d)
 | nx (dl:List Slot):Comes (.nx dl) (.ret .cS)
 | kn {dl:List Slot} {d:Dt} (h:∀ K G st Hf H,dX K G st Hf H dl->Rep K Hf .cS d):Comes (.nx dl) (.ret d)
 | ex (c:Value) (fs:List (Str×Dt)):Comes (.ex c fs) (.exc c fs)
theorem Comes.ends {K:W.Frag}{Hf H:Hp}{Q:VK}{o:Out}{r:Res}(h:Comes o r)(k:UQ K Hf H Q E r):xD K ⟨Hf,H⟩ E { nx:=fun _ H'=>Q .cS H',rt:=Q} Hf o:=by
 cases h with
 | rt d=>exact k
 | ro d=>exact k
 | nx dl=>exact fun st aJ H' s' S=>k _ aJ H' S.gr .cS
 | kn h=>exact fun st aJ H' s' S=>k _ aJ H' S.gr (h _ _ _ _ _ S)
 | ex c fs=>exact k
theorem hV {P:Program}{w:World}{K:W.Frag}{mg:Str->Option Value}{base:Heap}{CX:sd}{x qual:Str}{st:Stmt}{f:Addr}{fd:FuncData}{N ps:List Str}{k n:Nat}{R:List Dt->Res->Prop}(F:TB K x qual st f fd)(S:aq N ps (af st))(hn:ps.length=n)(qR:∀ (bo:Value) (A:Around) (outer:List Env) (s:Shared) (H:Hp) (E:XK) (G:Gr) (ds:List Dt) (r:Res),eZ k (A.deeper (envOfC qual (af st) s.heap.objs.size f bo))->ds.length=n->R ds r->∃ o,Comes o r/\m8 (A1 CX P w K mg base N qual (af st) f bo A outer s H E) G E (slots N ds) (aE st) o):ke P w K mg base CX (k+1) f fd ps (Ek K n R):=by
 obtain⟨oc,od,kV,doc,pm,an,bo,ct,yj,rfl,lk,mz⟩:=F.ex
 refine HS lk mz S (fun vs H Q E ⟨Hf,ds,r,s,rp,hl,_⟩=>by rw[rp.length,hl,hn]) fun A outer s H vs Q E hr ⟨Hf,ds,r,sm,rp,hl,hR,hk⟩=>?_
 obtain⟨o,hc,hb⟩:=qR bo A outer s H E ⟨Hf,H⟩ ds r hr hl hR
 exact⟨_,hb,Hf,yn sm rp,hc.ends hk⟩
section
variable {CX:sd}{k n:Nat}{f C:Addr}{fd:FuncData}{ps:List Str}{R:List Dt->Res->Prop}{m:Str}{p apos:Pos}{ob:Expr}{dvs:List Dt}{vds:List V}{Ho:List Value}{fs:List (Str×Dt)}
theorem Ms (F:ke X.prog X.w X.K X.mg X.base CX k f fd ps (Ek X.K n R))(nx:CY CX)(hr:eZ k X.A)(hm:X.mg x=some (.ref f))(hk:W.keepIn X.K (.ref f)=true)(hb:Binds X.K fd ps Ho)(hd:Vals vds Ho)(Gm:∀ H,bH X.K H vds dvs)(ha:EA X G dl (e::es) ds)(hl:(ds ++ dvs).length=n)(h:R (ds ++ dvs) (.ret d))(hg:Gl X x:=by rfl)(mW:(x == ("__debug__":Str))=false:=by decide)(he:starEach (e::es) X.env=(false,eval e X.env)::starEach es X.env:=by rfl)(o6:(backTo pos (starEach es X.env)).any (·.1)=false:=by rfl):EE X G dl (.Call (.Name x p) (e::es) [] pos) d:=
 gL (D7 (E:=E0) F hr hg hm hk hb hd nx.passes ha mW he o6) fun st H Q zq=>Bn zq fun Hf zq=>have S:=zq.1;have k:=zq.2;⟨Hf,S,fun vs Hf1 H1 g1 r1=>⟨Hf1,ds ++ dvs,.ret d,g1.sub,r1.append (Gm _),hl,h,fun v bX H2 g2 r2=>k v bX H2 (g1.trans g2) r2⟩⟩
theorem El {pl:Sem Bool}(he:EE X G dl ob (.obj C fs))(c:uG X.K C)(hm:Meth X.K C m f)(F:ke X.prog X.w X.K X.mg X.base CX k f fd ps (Ek X.K n R))(nx:CY CX)(hr:eZ k X.A)(hb:Binds X.K fd ps Ho)(hd:Vals vds Ho)(Gm:∀ H,bH X.K H vds dvs)
   (ha:EA X G dl (e::es) ds) (hl:(.obj C fs::(ds ++ dvs)).length=n) (h:R (.obj C fs::(ds ++ dvs)) (.ret d)) (uI:fs.lookup m=none)
   (mV:starEach (e::es) X.env=(false,eval e X.env)::starEach es X.env:=by rfl) (o6:(backTo pos (starEach es X.env)).any (·.1)=false:=by rfl)
   (ht:eval (.Call (.Attribute ob m apos) (e::es) [] pos) X.env=(do
     let ov <- eval ob X.env
     standAt apos.atName
     let (f,first) <- holding [ov] (getMethod ov m pl)
     callWith pos f first (backTo pos (starEach (e::es) X.env)) (backToKw pos (keywordEach [] X.env))):=by rfl):EE X G dl (.Call (.Attribute ob m apos) (e::es) [] pos) d:=
 gL (D8 (pl:=pl) (E:=E0) he c hm F hr hb hd nx.passes ha mV o6 ht) fun st H Q zq=>Bn zq fun Hf zq=>have S:=zq.1;have k:=zq.2;⟨Hf,S,fun v Hf1 H1 g1 r1=>by
   cases r1 with
   | @obj a _ dx fv _ q r=>
     exact⟨a,dx,fv,rfl,il g1.sub q,r.none_of uI,Hf1,S.grow g1,fun vs bX H2 g2 r2=>⟨bX,_,.ret d,g2.sub,.cons (.obj (il g2.bG q) (r.mono g2.bG)) (r2.append (Gm _)),hl,h,fun v jA H3 g3 r3=>k v jA H3 ((g1.trans g2).trans g3) r3⟩⟩⟩
theorem Bf {pl:Sem Bool}(he:EE X G dl ob (.obj C fs))(c:uG X.K C)(hm:Meth X.K C m f)(F:ke X.prog X.w X.K X.mg X.base CX k f fd ps (Ek X.K n R))(nx:CY CX)(hr:eZ k X.A)(hb:Binds X.K fd ps Ho)(hd:Vals vds Ho)(Gm:∀ H,bH X.K H vds dvs)
   (hl:(Dt.obj C fs::dvs).length=n) (h:R (.obj C fs::dvs) (.ret d)) (uI:fs.lookup m=none)
   (ht:eval (.Call (.Attribute ob m apos) [] [] pos) X.env=(do
     let ov <- eval ob X.env
     standAt apos.atName
     let (f,first) <- holding [ov] (getMethod ov m pl)
     callWith pos f first (backTo pos (starEach [] X.env)) (backToKw pos (keywordEach [] X.env))):=by rfl):EE X G dl (.Call (.Attribute ob m apos) [] [] pos) d:=
 gL (HQ (pl:=pl) (E:=E0) he c hm F hr hb hd nx.passes ht) fun st H Q zq=>Bn zq fun Hf zq=>have S:=zq.1;have k:=zq.2;⟨Hf,S,fun v Hf1 H1 g1 r1=>by
   cases r1 with
   | @obj a _ dx fv _ q r=>
     exact⟨a,dx,fv,rfl,il g1.sub q,r.none_of uI,Hf1,_,.ret d,g1.sub,.cons (.obj q r) (Gm _),hl,h,fun v jA H3 g3 r3=>k v jA H3 (g1.trans g3) r3⟩⟩
end
end
section
variable {X:Cx}{G:Gr}{dl:List Slot}{a b c e:Expr}{i j:Int}{d d1 d2:Dt}{ds:List Dt}{pos p:Pos}{o:Out}{x y f:Str}{u v:Bool}{s:Stmt}{C:Addr}{fs:List (Str×Dt)}
theorem Em {T:String}(hm:X.mg x=none)(hv:bootBuiltins x=some (.type T))(hg:Gl X x:=by rfl)(hn:x≠"__name__":=by decide)(hd:(x == ("__debug__":Str))=false:=by decide):EE X G dl (.Name x pos) (.ty T):=
 gL (LW (v:=.ty T) hg hm hv rfl hn hd) fun st H Q zq=>Bn zq fun Hf zq=>have S:=zq.1;have k:=zq.2;k _ Hf H (.refl S.sub) (.ty T)
theorem jP {w:V}{z:Value}(hm:X.mg x=some z)(r:RelV w z)(hr:∀ H,Rep X.K H w d)(hg:Gl X x:=by rfl)(hd:(x == ("__debug__":Str))=false:=by decide):EE X G dl (.Name x pos) d:=
 gL (LV hg hm r hd) fun st H Q zq=>Bn zq fun Hf zq=>have S:=zq.1;have k:=zq.2;k _ Hf H (.refl S.sub) (hr _)
theorem boot_int:bootBuiltins "int"=some (.type "int"):=by decide +kernel
theorem boot_bool:bootBuiltins "bool"=some (.type "bool"):=by decide +kernel
theorem boot_tuple:bootBuiltins "tuple"=some (.type "tuple"):=by decide +kernel
theorem boot_list:bootBuiltins "list"=some (.type "list"):=by decide +kernel
theorem boot_dict:bootBuiltins "dict"=some (.type "dict"):=by decide +kernel
structure QL (K:W.Frag)(C:Addr):Prop where
 makes:W.makesIn K C=true
 init:W.findIn K (.ref C) "__init__"=some (some (.builtin "object.__init__"))
 kp:W.keepIn K (.ref C)=true
theorem Gn {pins:List (Addr×Obj)}{st:L2.St}{H:Hp}{s:Shared}{Q:VK}(M:QL X.K C)(I:L2.Inv X pins st H s)(h:∀ x dx,H x=none->H dx=none->dx≠x->Q (.ref x) (upd (upd H dx (.own x)) x (.ins C dx []))):wpAny (model X.prog X.w) X.A (call (.ref C) []) (EP X pins st Q) X.xe s:=by
 have hq:=h (s.heap.objs.size+1) s.heap.objs.size (I.bu.fresh (abf _)) (I.bu.fresh (aaa _)) (aaw (abh _))
 have I2:=L2.Inv.made (C:=C) I
 refine wpAny_call (F5 (s:=s) I.mX M.makes M.init (fun self=>W.Looks.of_pure (W.oi_bind self)) ?_)
 obtain⟨hh,g,d,t,os⟩:=s
 have Y:=W.makes_of (M:=model X.prog X.w) I.mX M.makes
 have t1:W.Looks (model X.prog X.w) ((hh.push W.emptyDict).push (W.instObj C hh.objs.size)) (typeOf (.ref (hh.objs.size+1))) (.ref C):=by
   have e2:=aat (hh.push W.emptyDict) (o:=W.instObj C hh.objs.size) rfl
   rw[abc] at e2
   exact(W.Looks.ld e2).andThen .now
 have t2:W.Looks (model X.prog X.w) ((hh.push W.emptyDict).push (W.instObj C hh.objs.size)) (isInstance (.ref (hh.objs.size+1)) (.type "object")) true:=t1.andThen (Y.top.keeps fun b o e=>aag _ (aag _ e))
 refine codeAny_call_builtin W.oi_plain W.entry_oi (@W.check_slot (model X.prog X.w) _ _ _ "object.__init__" "object" "__init__" (.ref (hh.objs.size+1)) [] [] _ W.oi_kind W.oi_split t2 (W.oi_args (.ref (hh.objs.size+1))) ?_)
 rw[W.oi_run]
 exact wpAny_pure (And.intro rfl ⟨V.ref (hh.objs.size+1),_,I2,rfl,hq⟩)
theorem aH (he:EE X G dl e (.obj C fs))(c:uG X.K C)(n:bL X.K C f)(h:fs.lookup f=some d)(hb:attributeBase e f X.env (eval e X.env)=eval e X.env:=by rfl):EE X G dl (.Attribute e f pos) d:=
 gL (vv he hb) fun st H Q zq=>Bn zq fun Hf zq=>have S:=zq.1;have k:=zq.2;⟨Hf,S,fun v Hf1 H1 g1 r1=>by
   cases r1 with
   | @obj a _ dx fv _ q r=>
     obtain⟨y,h1,h2⟩:=r.lookup h
     exact⟨a,C,dx,fv,y,rfl,il g1.sub q,c,n,h1,k y Hf1 H1 g1 h2⟩⟩
theorem En (hm:X.mg "len"=none)(ha:EE X G dl a (.lst ds))(hg:Gl X "len":=by rfl)(he:starEach [a] X.env=[(false,eval a X.env)]:=by rfl):EE X G dl (.Call (.Name "len" p) [a] [] pos) (.int ds.length):=
 gL (fB m6 hg hm PySem.boot_len (ae ha ah he) (he:=he)) fun st H Q zq=>Bn zq fun Hf zq=>have S:=zq.1;have k:=zq.2;⟨Hf,S,fun vs Hf1 H1 g1 r1=>by
   cases r1 with
   | cons r t=>cases t;cases r with
     | @lst q vs _ z w=>exact⟨q,vs,rfl,.inl (.of (g1.sub _ _ z)),by rw[w.length];exact k _ Hf1 H1 g1 (.int _)⟩⟩
theorem zo {ns:List Int}(hm:X.mg "len"=none)(ha:EE X G dl a (.o9 ns))(hg:Gl X "len":=by rfl)(he:starEach [a] X.env=[(false,eval a X.env)]:=by rfl):EE X G dl (.Call (.Name "len" p) [a] [] pos) (.int ns.length):=
 gL (fB m6 hg hm PySem.boot_len (ae ha ah he) (he:=he)) fun st H Q zq=>Bn zq fun Hf zq=>have S:=zq.1;have k:=zq.2;⟨Hf,S,fun vs Hf1 H1 g1 r1=>by
   cases r1 with
   | cons r t=>cases t;cases r with
     | @o9 q _ z=>exact⟨q,_,rfl,.inl (g1.sub.seq z),by rw[k5];exact k _ Hf1 H1 g1 (.int _)⟩⟩
theorem Eo (hm:X.mg "len"=none)(ha:EE X G dl a (.tup ds))(hg:Gl X "len":=by rfl)(he:starEach [a] X.env=[(false,eval a X.env)]:=by rfl):EE X G dl (.Call (.Name "len" p) [a] [] pos) (.int ds.length):=
 gL (fB m6 hg hm PySem.boot_len (ae ha ah he) (he:=he)) fun st H Q zq=>Bn zq fun Hf zq=>have S:=zq.1;have k:=zq.2;⟨Hf,S,fun vs Hf1 H1 g1 r1=>by
   cases r1 with
   | cons r t=>cases t;cases r with
     | @tup q vs _ z w=>exact⟨q,vs,rfl,.inr (de g1.sub z),by rw[w.length];exact k _ Hf1 H1 g1 (.int _)⟩⟩
theorem uJ (hm:X.mg "len"=none)(ha:EE X G dl a (.str x))(hl:x.length<=sizeLine)(hg:Gl X "len":=by rfl)(he:starEach [a] X.env=[(false,eval a X.env)]:=by rfl):EE X G dl (.Call (.Name "len" p) [a] [] pos) (.int x.length):=
 gL (fB zc hg hm PySem.boot_len (ae ha ah he) (he:=he)) fun st H Q zq=>Bn zq fun Hf zq=>have S:=zq.1;have k:=zq.2;⟨Hf,S,fun vs Hf1 H1 g1 r1=>by
   cases r1 with
   | cons r t=>cases t;cases r;exact⟨x,rfl,hl,k _ Hf1 H1 g1 (.int _)⟩⟩
noncomputable def Yt:Dt->Value
 | .cS=>.type "NoneType"
 | .bl _=>.type "bool"
 | .int _=>.type "int"
 | .str _=>.type "str"
 | .tup _=>.type "tuple"
 | .lst _=>.type "list"
 | .o9 _=>.type "list"
 | .eX _=>.type "dict"
 | .obj C _=>.ref C
 | .ty _=>.type "type"
 | .cls _=>.type "type"
 | .xo C=>.ref C
 | .qo _=>.type "dict"
 | .Cz C _=>.ref C
 | .dW _=>.type "dict"
 | .memo _ _ _ _=>.type "list"
 | .dU _ _ _ _=>.type "list"
 | .uH _ _ _=>.type "NoneType"
 | .vB C _ _ _ _=>.ref C
 | _=>.type "object"
structure W8 (K:W.Frag)(C:Addr):Prop where
 cl:uG K C
 ha:W.findIn K (.ref C) "__class__"=some (some (.builtin "object.__class__"))
 hn:W.specialIn K (.builtin "object.__class__") "__get__"=some (some (.builtin "getset_descriptor.__get__"))
 Qj:W.takesIn K (.builtin "object.__class__")=some true
 hm:W.mroIn K C (.type "object")=some true
def QM (K:W.Frag):Dt->Prop
 | .obj C _=>W8 K C
 | .xo C=>TC K C
 | .Cz C _=>TC K C
 | .memo _ _ _ _=>False
 | .dU _ _ _ _=>False
 | .uH _ _ _=>False
 | .vB C _ _ _ _=>W8 K C
 | .i4 _=>False
 | .mh _=>False
 | .ty _=>False
 | .cls _=>False
 | _=>True
noncomputable def UR:Dt->Option Value
 | .ty n=>some (.type n)
 | .cls C=>some (.ref C)
 | _=>none
theorem Ip {pins:List (Addr×Obj)}{st:L2.St}{Hf H:Hp}{s:Shared}{Q:Value->Shared->Prop}{w:V}{z c:Value}{r:Bool}(I:L2.Inv X pins st H s)(sm:aF Hf H)(rp:Rep X.K Hf w d)(rx:RelV w z)(t:QM X.K d)(e:W.kitOne X.K (Yt d) c=some r)(h:∀ tk,Q (.bool r) { s with toks:=tk}):wpAny (model X.prog X.w) X.A (call (.builtin "isinstance") [z,c]) Q X.xe s:=by
 cases rp with
 | cS=>cases (show z=Value.none from rx);exact W.kia_one W.kitx_none I.mX True.intro e (fun z=>nomatch z) h
 | bl y=>cases (show z=Value.bool y from rx);exact W.kia_one W.kitx_bool I.mX True.intro e (fun z=>nomatch z) h
 | int i=>obtain⟨t,q⟩:=(show ∃ t,z=Value.int i t from rx);cases q;exact W.kia_one W.kitx_int I.mX True.intro e (fun z=>nomatch z) h
 | str y=>obtain⟨t,q⟩:=(show ∃ t,z=Value.str y t from rx);cases q;exact W.kia_one W.kitx_str I.mX True.intro e (fun z=>nomatch z) h
 | @tup a vs ds q rr=>
   cases (show z=Value.ref a from rx)
   obtain⟨aG,_,⟨o,h1,h2,_⟩,_⟩:=I.tuple (de sm q)
   exact W.kia_one W.kitx_tuple I.mX ⟨o,h1,h2⟩ e (fun z=>nomatch z) h
 | @lst a vs ds q rr=>
   cases (show z=Value.ref a from rx)
   obtain⟨aG,_,⟨o,n,h1,h2,_⟩,_⟩:=I.list (.of (sm _ _ q))
   exact W.kia_one W.kitx_list I.mX ⟨o,h1,h2⟩ e (fun z=>nomatch z) h
 | @o9 a ns q=>
   cases (show z=Value.ref a from rx)
   obtain⟨aG,_,⟨o,n,h1,h2,_⟩,_⟩:=I.list (sm.seq q)
   exact W.kia_one W.kitx_list I.mX ⟨o,h1,h2⟩ e (fun z=>nomatch z) h
 | @eX a kvs kds q rr=>
   cases (show z=Value.ref a from rx)
   exact r8 (x:=.ref a) I rfl (.dK (sm _ _ q)) e h
 | @obj a C dx fv fs q rr=>
   cases (show z=Value.ref a from rx)
   have t:W8 X.K C:=t
   exact r8 (x:=.ref a) I rfl (.ins (il sm q) t.cl t.ha t.hn t.Qj t.hm) e h
 | ty n=>exact t.elim
 | cls C=>exact t.elim
 | @xo a C ph q hp=>
   cases (show z=Value.ref a from rx)
   have t:TC X.K C:=t
   have ok:aP X.prog X.w H s.heap a (.ext ph):=I.bu a _ (sm _ _ q)
   exact W.kia_one (Bd t) I.mX (hp _ ok.1) e (fun z=>nomatch z) h
 | @qo a ob kvs kds q rr=>
   cases (show z=Value.ref a from rx)
   obtain⟨_,_,vs,_,D⟩:=tN (kvs:=kvs) I.bu (.inr (.inl ⟨ob,sm _ _ q⟩))
   exact W.kia_one W.kitx_dict I.mX D.typeIs e (fun z=>nomatch z) h
 | @Cz a C dx ph fv fs q hp g rr=>
   cases (show z=Value.ref a from rx)
   have t:TC X.K C:=t
   have ok:aP X.prog X.w H s.heap a (.ext ph):=I.bu a _ (sm _ _ q)
   exact W.kia_one (Bd t) I.mX (hp _ ok.1).of e (fun z=>nomatch z) h
 | @dW a tg ob kvs kds q rr=>
   cases (show z=Value.ref a from rx)
   obtain⟨_,_,vs,_,D⟩:=tN (kvs:=kvs) I.bu (.inr (.inr (.inl ⟨tg,ob,kvs,sm _ _ q,rfl⟩)))
   exact W.kia_one W.kitx_dict I.mX D.typeIs e (fun z=>nomatch z) h
 | memo=>exact t.elim
 | dU=>exact t.elim
 | i4=>exact t.elim
 | mh=>exact t.elim
 | uH=>exact t.elim
 | @vB a _ C dx fv fs gs nm n ls _ q rr=>
   cases (show z=Value.ref a from rx)
   have t:W8 X.K C:=t
   exact r8 (x:=.ref a) I rfl (.ins (il sm q) t.cl t.ha t.hn t.Qj t.hm) e h
theorem boot_isinstance:bootBuiltins "isinstance"=some (.builtin "isinstance"):=by decide +kernel
def Yu (K:W.Frag)(d d2:Dt)(r:Bool):List V->Hp->VK->Prop:=fun xs H Q=>∃ Hf w c,xs=[w,c]/\aF Hf H/\Rep K Hf w d/\Rep K Hf c d2/\Q (.bl r) H
theorem Iq {r:Bool}{z:Value}(hc:UR d2=some z)(t:QM X.K d)(h:W.kitOne X.K (Yt d) z=some r):ka X (.builtin "isinstance") (Yu X.K d d2 r):=by
 intro pins s st H xs us Q I rv ⟨Hf,w,c,e,sm,r1,r2,q⟩
 subst e
 cases rv with
 | cons q1 t1=>
   cases t1 with
   | cons q2 t2=>
     cases t2
     rename_i ud uc
     have ez:uc=z:=by
       cases r2 with
       | ty n=>cases hc;exact q2
       | cls C=>cases hc;exact q2
       | _=>cases hc
     subst ez
     exact Ip I sm r1 q1 t h fun tk=>⟨.bl r,H,I.tok _,rfl,q⟩
theorem zp {r:Bool}{z:Value}(hm:X.mg "isinstance"=none)(ha:EE X G dl a d)(hb:EE X G dl b d2)(hc:UR d2=some z)(t:QM X.K d)(h:W.kitOne X.K (Yt d) z=some r)(hg:Gl X "isinstance":=by rfl)(he:starEach [a,b] X.env=(false,eval a X.env)::starEach [b] X.env:=by rfl)(QN:starEach [b] X.env=[(false,eval b X.env)]:=by rfl)(o6:(backTo pos (starEach [b] X.env)).any (·.1)=false:=by rfl):EE X G dl (.Call (.Name "isinstance" p) [a,b] [] pos) (.bl r):=
 gL (fB (Iq hc t h) hg hm boot_isinstance (ae ha (ae hb ah QN) he) (by decide) (by decide) he o6) fun st H Q zq=>Bn zq fun Hf zq=>have S:=zq.1;have k:=zq.2;⟨Hf,S,fun vs Hf1 H1 g1 r1=>by
   cases r1 with
   | cons r1 t1=>cases t1 with
     | cons r2 t2=>cases t2;exact⟨Hf1,_,_,rfl,g1.sub,r1,r2,k _ Hf1 H1 g1 (.bl _)⟩⟩
mutual
noncomputable def pd:Dt->PyData
 | .cS=>.none
 | .bl b=>.bool b
 | .int i=>.int i
 | .str x=>.str x
 | .tup ds=>.tuple (Gp ds)
 | .lst ds=>.list (Gp ds)
 | .o9 _=>.none
 | .eX _=>.none
 | .obj _ _=>.none
 | .ty _=>.none
 | .cls _=>.none
 | .xo _=>.none
 | .qo _=>.none
 | .Cz _ _=>.none
 | .dW _=>.none
 | .memo _ _ _ _=>.none
 | .dU _ _ _ _=>.none
 | .uH _ _ _=>.none
 | .vB _ _ _ _ _=>.none
 | .i4 _=>.none
 | .mh _=>.none
noncomputable def Gp:List Dt->List PyData
 | []=>[]
 | d::r=>pd d::Gp r
end
mutual
noncomputable def plain:Dt->Bool
 | .tup ds=>mi ds
 | .lst ds=>mi ds
 | .o9 _=>false
 | .eX _=>false
 | .obj _ _=>false
 | .ty _=>false
 | .cls _=>false
 | .xo _=>false
 | .qo _=>false
 | .Cz _ _=>false
 | .dW _=>false
 | .memo _ _ _ _=>false
 | .dU _ _ _ _=>false
 | .uH _ _ _=>false
 | .vB _ _ _ _ _=>false
 | .i4 _=>false
 | .mh _=>false
 | .cS=>true
 | .bl _=>true
 | .int _=>true
 | .str _=>true
noncomputable def mi:List Dt->Bool
 | []=>true
 | d::r=>plain d && mi r
end
section
variable {pins:List (Addr×Obj)}{st:L2.St}{Hf H:Hp}{s:Shared}
mutual
theorem vJ (I:L2.Inv X pins st H s)(sm:aF Hf H):∀ {w:V} {d:Dt} {z:Value},Rep X.K Hf w d->plain d=true->RelV w z->∃ as,Reads s.heap z (pd d) as
 | _,_,z,.cS,_,r=>by cases (show z=Value.none from r);exact⟨_,.none⟩
 | _,_,z,.bl b,_,r=>by cases (show z=Value.bool b from r);exact⟨_,.bool b⟩
 | _,_,z,.int i,_,r=>by obtain⟨t,q⟩:=(show ∃ t,z=Value.int i t from r);cases q;exact⟨_,.int i t⟩
 | _,_,z,.str x,_,r=>by obtain⟨t,q⟩:=(show ∃ t,z=Value.str x t from r);cases q;exact⟨_,.str x t⟩
 | _,_,z,@Rep.tup _ _ a vs ds q rr,h,r=>by
   cases (show z=Value.ref a from r)
   obtain⟨aG,rv,⟨o,h1,h2,n,h3⟩,_⟩:=I.tuple (de sm q)
   obtain⟨as,ra⟩:=sx I sm rr (by rw[plain] at h;exact h) rv
   refine⟨as,?_⟩
   rw[pd]
   exact .tuple h1 h2 h3 (by simpa using ra)
 | _,_,z,@Rep.lst _ _ a vs ds q rr,h,r=>by
   cases (show z=Value.ref a from r)
   obtain⟨aG,rv,⟨o,n,h1,h2,_,h3⟩,_⟩:=I.list (.of (sm _ _ q))
   obtain⟨as,ra⟩:=sx I sm rr (by rw[plain] at h;exact h) rv
   refine⟨a::as,?_⟩
   rw[pd]
   exact .list h1 h2 h3 (by simpa using ra)
 | _,_,_,.eX _ _,h,_=>by rw[plain] at h;cases h
 | _,_,_,.o9 _,h,_=>by rw[plain] at h;cases h
 | _,_,_,.obj _ _,h,_=>by rw[plain] at h;cases h
 | _,_,_,.ty _,h,_=>by rw[plain] at h;cases h
 | _,_,_,.cls _,h,_=>by rw[plain] at h;cases h
 | _,_,_,.xo _ _,h,_=>by rw[plain] at h;cases h
 | _,_,_,.qo _ _,h,_=>by rw[plain] at h;cases h
 | _,_,_,.Cz _ _ _ _,h,_=>by rw[plain] at h;cases h
 | _,_,_,.dW _ _,h,_=>by rw[plain] at h;cases h
 | _,_,_,.memo _ _ _ _,h,_=>by rw[plain] at h;cases h
 | _,_,_,.dU _ _ _ _,h,_=>by rw[plain] at h;cases h
 | _,_,_,.uH _,h,_=>by rw[plain] at h;cases h
 | _,_,_,.vB _ _ _,h,_=>by rw[plain] at h;cases h
 | _,_,_,.i4 _,h,_=>by rw[plain] at h;cases h
 | _,_,_,.mh _,h,_=>by rw[plain] at h;cases h
theorem sx (I:L2.Inv X pins st H s)(sm:aF Hf H):∀ {vs:List V} {ds:List Dt} {zs:List Value},bH X.K Hf vs ds->mi ds=true->Vals vs zs->∃ as,ReadsAll s.heap zs (Gp ds) as
 | _,_,_,.nil,_,.nil=>⟨[],by rw[Gp];exact .nil⟩
 | _,_,_,.cons r t,h,.cons q w=>by
   rw[mi,aaS] at h
   obtain⟨as,h1⟩:=vJ I sm r h.1 q
   obtain⟨bs,h2⟩:=sx I sm t h.2 w
   exact⟨as ++ bs,by rw[Gp];exact .cons h1 h2⟩
end
end
def OL (d:Dt):Prop:=plain d=true/\SeqAt.shaped (pd d)=true
def US (K:PySem.W.Frag)(d1 d2:Dt)(g:Bool->Bool):R2:=fun x y H Q=>∃ Hf,aF Hf H/\Rep K Hf x d1/\Rep K Hf y d2/\OL d1/\OL d2/\Q (.bl (g (PyData.eqv (pd d1) (pd d2)))) H
theorem QO (hu:X.A.units+64 < cLine):oi X (compareOp .NotEq) (US X.K d1 d2 (!·)):=by
 intro pins s st H x y v w Q I rx ry ⟨Hf,sm,r1,r2,o1,o2,q⟩
 obtain⟨as,h1⟩:=vJ I sm r1 o1.1 rx
 obtain⟨bs,h2⟩:=vJ I sm r2 o2.1 ry
 exact ne_dataH h1 h2 o1.2 o2.2 hu ⟨.bl _,H,I,rfl,q⟩
theorem QP {K:W.Frag}{g:Bool->Bool}(o1:OL d1)(o2:OL d2):CA K (US K d1 d2 g) d1 d2 (.bl (g (PyData.eqv (pd d1) (pd d2)))):=fun v w Hf H Q s r1 r2 k=>⟨Hf,s,r1,r2,o1,o2,k _ Hf H (.refl s) (.bl _)⟩
mutual
theorem eqv_refl:∀ d:Dt,plain d=true->PyData.eqv (pd d) (pd d)=true
 | .cS,_=>by simp[pd,PyData.eqv]
 | .bl b,_=>by simp[pd,PyData.eqv]
 | .int i,_=>by simp[pd,PyData.eqv]
 | .str x,_=>by simp[pd,PyData.eqv]
 | .tup ds,h=>by rw[plain] at h;rw[pd,PyData.eqv];exact sy ds h
 | .lst ds,h=>by rw[plain] at h;rw[pd,PyData.eqv];exact sy ds h
 | .eX _,h=>by rw[plain] at h;cases h
 | .o9 _,h=>by rw[plain] at h;cases h
 | .obj _ _,h=>by rw[plain] at h;cases h
 | .ty _,h=>by rw[plain] at h;cases h
 | .cls _,h=>by rw[plain] at h;cases h
 | .xo _,h=>by rw[plain] at h;cases h
 | .qo _,h=>by rw[plain] at h;cases h
 | .Cz _ _,h=>by rw[plain] at h;cases h
 | .dW _,h=>by rw[plain] at h;cases h
 | .memo _ _ _ _,h=>by rw[plain] at h;cases h
 | .dU _ _ _ _,h=>by rw[plain] at h;cases h
 | .uH _ _ _,h=>by rw[plain] at h;cases h
 | .vB _ _ _ _ _,h=>by rw[plain] at h;cases h
theorem sy:∀ ds:List Dt,mi ds=true->PyData.eqvAll (Gp ds) (Gp ds)=true
 | [],_=>by simp[Gp,PyData.eqvAll]
 | d::r,h=>by
   rw[mi,aaS] at h
   rw[Gp,PyData.eqvAll,eqv_refl d h.1,sy r h.2];rfl
end
theorem Ep (hr:X.A.units+64 < cLine)(ha:EE X G dl a d1)(hb:EE X G dl b d2)(o1:OL d1)(o2:OL d2)(hu:(!PyData.eqv (pd d1) (pd d2))=u):EB X G dl (.Compare a [.NotEq] [b] pos) u:=by
 subst hu;exact lF (QO hr) (QP (g:=(!·)) o1 o2) (ko _) ha hb
theorem yo (ha:EE X G dl a (.int i))(hb:EE X G dl b (.int j)):EB X G dl (.Compare a [.Lt] [b] pos) (decide (i < j)):=lF OC (oE (g':=fun i j=>.bl (decide (i < j))) fun _ _ _ _=>.bl _) (ko _) ha hb
theorem tQ (ha:EE X G dl a (.int i))(hb:EE X G dl b (.int j)):EB X G dl (.Compare a [.LtE] [b] pos) (decide (i<=j)):=lF D6 (oE (g':=fun i j=>.bl (decide (i<=j))) fun _ _ _ _=>.bl _) (ko _) ha hb
theorem tR (ha:EE X G dl a (.int i))(hb:EE X G dl b (.int j)):EB X G dl (.Compare a [.Gt] [b] pos) (decide (j < i)):=lF OD (oE (g':=fun i j=>.bl (decide (j < i))) fun _ _ _ _=>.bl _) (ko _) ha hb
theorem Er (ha:EE X G dl a (.int i))(hb:EE X G dl b (.int j)):EB X G dl (.Compare a [.GtE] [b] pos) (decide (j<=i)):=lF Um (oE (g':=fun i j=>.bl (decide (j<=i))) fun _ _ _ _=>.bl _) (ko _) ha hb
theorem sA {K:W.Frag}{w1 w2:V}{g:Bool->Bool}(h1:∀ H w,Rep K H w d1->w=w1)(h2:∀ H w,Rep K H w d2->w=w2)(hs:L3 w1 w2=true):CA K (fun x y H Q=>L3 x y=true/\Q (.bl (g (decide (x=y)))) H) d1 d2 (.bl (g (decide (w1=w2)))):=fun v w Hf H Q s r1 r2 k=>by
 cases h1 _ _ r1;cases h2 _ _ r2;exact⟨hs,k _ Hf H (.refl s) (.bl _)⟩
theorem o4 (i j:Int):decide (V.int i=V.int j)=decide (i=j):=by simp
theorem o5 (i j:Str):decide (V.str i=V.str j)=decide (i=j):=by simp
theorem QQ (ha:EE X G dl a (.int i))(hb:EE X G dl b (.int j)):EE X G dl (.Compare a [.Eq] [b] pos) (.bl (decide (i=j))):=by
 rw[<- o4];exact vE D5 (sA (g:=id) (fun _ _ r=>by cases r;rfl) (fun _ _ r=>by cases r;rfl) rfl) (ko _) ha hb
theorem kr (ha:EE X G dl a (.int i))(hb:EE X G dl b (.int j)):EB X G dl (.Compare a [.Eq] [b] pos) (decide (i=j)):=by
 rw[<- o4];exact lF D5 (sA (g:=id) (fun _ _ r=>by cases r;rfl) (fun _ _ r=>by cases r;rfl) rfl) (ko _) ha hb
theorem Ir (ha:EE X G dl a (.int i))(hb:EE X G dl b (.int j)):EB X G dl (.Compare a [.NotEq] [b] pos) (!decide (i=j)):=by
 rw[<- o4];exact lF OB (sA (g:=(!·)) (fun _ _ r=>by cases r;rfl) (fun _ _ r=>by cases r;rfl) rfl) (ko _) ha hb
theorem QR (ha:EE X G dl a (.str x))(hb:EE X G dl b (.str y)):EE X G dl (.Compare a [.Eq] [b] pos) (.bl (decide (x=y))):=by
 rw[<- o5];exact vE D5 (sA (g:=id) (fun _ _ r=>by cases r;rfl) (fun _ _ r=>by cases r;rfl) rfl) (ko _) ha hb
theorem cK (ha:EE X G dl a (.str x))(hb:EE X G dl b (.str y)):EB X G dl (.Compare a [.Eq] [b] pos) (decide (x=y)):=by
 rw[<- o5];exact lF D5 (sA (g:=id) (fun _ _ r=>by cases r;rfl) (fun _ _ r=>by cases r;rfl) rfl) (ko _) ha hb
theorem Iu (ha:EE X G dl a (.str x))(hb:EE X G dl b (.str y)):EB X G dl (.Compare a [.NotEq] [b] pos) (!decide (x=y)):=by
 rw[<- o5];exact lF OB (sA (g:=(!·)) (fun _ _ r=>by cases r;rfl) (fun _ _ r=>by cases r;rfl) rfl) (ko _) ha hb
end
structure GF (P:Program)(w:World)(K:W.Frag)(mg:Str->Option Value)(base:Heap)(CX:sd)(k:Nat)(x:Str)(n:Nat)(R:List Dt->Res->Prop):Prop where
 ex:∃ f fd ps,ke P w K mg base CX k f fd ps (Ek K n R)/\mg x=some (.ref f)/\W.keepIn K (.ref f)=true/\Binds K fd ps []
structure MF (P:Program)(w:World)(K:W.Frag)(mg:Str->Option Value)(base:Heap)(CX:sd)(k:Nat)(C:Addr)(m:Str)(n:Nat)(R:List Dt->Res->Prop):Prop where
 cl:uG K C
 ex:∃ f fd ps,ke P w K mg base CX k f fd ps (Ek K n R)/\Meth K C m f/\Binds K fd ps []
section
variable {X:Cx}{G:Gr}{dl:List Slot}{e:Expr}{es:List Expr}{d:Dt}{ds:List Dt}{pos p apos:Pos}{x m:Str}{C:Addr}{fs:List (Str×Dt)}{CX:sd}{k k' n:Nat}{R:List Dt->Res->Prop}{ob:Expr}
theorem aW (F:GF X.prog X.w X.K X.mg X.base CX k x n R)(nx:CY CX)(hr:eZ k' X.A)(ha:EA X G dl (e::es) ds)(h:R ds (.ret d))(Bg:k<=k':=by decide)(hl:ds.length=n:=by rfl)(hg:Gl X x:=by rfl)(mW:(x == ("__debug__":Str))=false:=by decide)(he:starEach (e::es) X.env=(false,eval e X.env)::starEach es X.env:=by rfl)(o6:(backTo pos (starEach es X.env)).any (·.1)=false:=by rfl):EE X G dl (.Call (.Name x p) (e::es) [] pos) d:=by
 obtain⟨f,fd,ps,F,hm,hk,hb⟩:=F.ex
 refine Ms (dvs:=[]) (vds:=[]) F nx (hr.mono Bg) hm hk hb .nil (fun _=>.nil) ha (by rw[aa3];exact hl) (by rw[aa3];exact h) hg mW he o6
theorem bb {pl:Sem Bool}(he:EE X G dl ob (.obj C fs))(F:MF X.prog X.w X.K X.mg X.base CX k C m n R)(nx:CY CX)(hr:eZ k' X.A)(ha:EA X G dl (e::es) ds)(h:R (.obj C fs::ds) (.ret d))(Bg:k<=k':=by decide)(hl:(Dt.obj C fs::ds).length=n:=by rfl)(uI:fs.lookup m=none:=by rfl)
   (mV:starEach (e::es) X.env=(false,eval e X.env)::starEach es X.env:=by rfl) (o6:(backTo pos (starEach es X.env)).any (·.1)=false:=by rfl)
   (ht:eval (.Call (.Attribute ob m apos) (e::es) [] pos) X.env=(do
     let ov <- eval ob X.env
     standAt apos.atName
     let (f,first) <- holding [ov] (getMethod ov m pl)
     callWith pos f first (backTo pos (starEach (e::es) X.env)) (backToKw pos (keywordEach [] X.env))):=by rfl):EE X G dl (.Call (.Attribute ob m apos) (e::es) [] pos) d:=by
 obtain⟨f,fd,ps,Fo,hm,hb⟩:=F.ex
 refine El (dvs:=[]) (vds:=[]) (pl:=pl) he F.cl hm Fo nx (hr.mono Bg) hb .nil (fun _=>.nil) ha (by rw[aa3];exact hl) (by rw[aa3];exact h) uI mV o6 ht
theorem dq {pl:Sem Bool}(he:EE X G dl ob (.obj C fs))(F:MF X.prog X.w X.K X.mg X.base CX k C m n R)(nx:CY CX)(hr:eZ k' X.A)(h:R [.obj C fs] (.ret d))(Bg:k<=k':=by decide)(hl:[Dt.obj C fs].length=n:=by rfl)(uI:fs.lookup m=none:=by rfl)
   (ht:eval (.Call (.Attribute ob m apos) [] [] pos) X.env=(do
     let ov <- eval ob X.env
     standAt apos.atName
     let (f,first) <- holding [ov] (getMethod ov m pl)
     callWith pos f first (backTo pos (starEach [] X.env)) (backToKw pos (keywordEach [] X.env))):=by rfl):EE X G dl (.Call (.Attribute ob m apos) [] [] pos) d:=by
 obtain⟨f,fd,ps,Fo,hm,hb⟩:=F.ex
 refine Bf (dvs:=[]) (vds:=[]) (pl:=pl) he F.cl hm Fo nx (hr.mono Bg) hb .nil (fun _=>.nil) hl h uI ht
end
noncomputable def bmV:List Value:=[.type "ValueError",.type "Exception",.type "BaseException",.type "object"]
structure ExC (K:W.Frag)(C:Addr):Prop where
 ex:W.excIn K C bmV "ValueError.__new__"=true
def xE:Value->Shared->Prop:=fun _ _=>False
theorem Mt {P:Program}{w:World}{A:Around}{R:Result->Shared->Prop}{s:Shared}{elt tg iter:Expr}{sc:Scope}{pos:Pos}{it acc:Value}{env:Env}(J:Nat->Shared->Prop)
   (turn:∀ n s,J n s->wpAny (model P w) A (pyNext it) (fun r s1=>match r with
     | none=>R (.ok .next) s1
     | some v=>wpAny (model P w) A (letOwnedTupleGo tg it v) (fun _ s2=>wpAny (model P w) A (assign tg env v) (fun _ s3=>wpAny (model P w) A (eval elt env) (fun x s4=>
         wpAny (model P w) A (call (.builtin "list.append") [acc,x]) (fun _ s5=>∃ m,m < n/\J m s5) xE s4) xE s3) xE s2) xE s1) xE s)
   (n:Nat) (h:J n s):codeAny (model P w) A (.compLoop (.ListComp elt [⟨tg,iter,[],0⟩] sc pos) 0 it acc env) R s:=by
 have off:∀ {B:Value->Shared->Prop} (x:Value) (s':Shared),xE x s'->B x s':=fun _ _ z=>z.elim
 refine codeAny_loop rfl J (fun n s hJ=>?_) n h
 show wpAny _ A ((compTurn (.ListComp elt [⟨tg,iter,[],0⟩] sc pos) 0 it acc env).onRaise (fun x=>(do noteFrame x env;theTreesLotGoes x))) _ _ s
 refine wpAny_noted ?_
 rw[compTurn_list1]
 refine wpAny_bind (wpAny_standAt (wpAny_bind (wpAny_mono (turn n s hJ) (fun r s1 h1=>?_) off)))
 cases r with
 | none=>exact wpAny_pure h1
 | some v=>
   refine wpAny_bind (wpAny_mono h1 (fun _ s2 h2=>wpAny_bind (wpAny_mono h2 (fun _ s3 h3=>wpAny_bind (wpAny_bind ?_)) off)) off)
   exact wpAny_mono h3 (fun x s4 h4=>wpAny_bind (wpAny_mono h4 (fun _ s5 h5=>wpAny_pure (wpAny_pure ⟨rfl,h5⟩)) off)) off
noncomputable def zr (cells:List (Str×Addr)):List (Str×NameKind)->List (Str×Addr)->List (Str×Addr)
 | [],cs=>cs
 | (n,k)::r,cs=>if k == .free then zr cells r ((n,(cells.lookup n).getD 0)::cs) else zr cells r cs
noncomputable def lQ (sc:Scope)(env:Env):List (Str×Addr):=zr env.cells sc.names []
theorem zt {env:Env}:∀ (l:List (Str×NameKind)) (cs:List (Str×Addr)),(∀ y∈l,y.2=.free->∃ c,env.cells.lookup y.1=some c) ->
   (forIn l cs fun(x:Str×NameKind) r=>(if x.2 == .free then (do let c <- cellOf env x.1;pure (ForInStep.yield ((x.1,c)::r))) else pure (ForInStep.yield r):Sem _))=pure (zr env.cells l cs)
 | [],cs,_=>rfl
 | (n,k)::l,cs,h=>by
   have hr:∀ y∈l,y.2=.free->∃ c,env.cells.lookup y.1=some c:=fun y hy=>h y (aaJ _ hy)
   rw[List.forIn_cons,zr]
   by_cases hk:(k == NameKind.free)=true
   . obtain⟨c,hc⟩:=h (n,k) aa1 (by simpa using hk)
     have hc:env.cells.lookup n=some c:=hc
     simp only[hk,if_true,cellOf,hc,pure_bind,Option.getD_some]
     exact zt l _ hr
   . simp only[hk,if_false,pure_bind]
     exact zt l _ hr
theorem zu {sc:Scope}{env:Env}(h:∀ y∈sc.names,y.2=.free->∃ c,env.cells.lookup y.1=some c):closureFor sc env=pure (lQ sc env):=by
 unfold closureFor lQ
 have:=zt (env:=env) sc.names [] h
 simp only[bind_pure]
 refine Eq.trans ?_ this
 congr 1
theorem q8 {cells:List (Str×Addr)}{y:Str}{c:Addr}:∀ (l:List (Str×NameKind)) (cs:List (Str×Addr)),(zr cells l cs).lookup y=some c->((y,NameKind.free)∈l/\(cells.lookup y).getD 0=c)\/cs.lookup y=some c
 | [],cs,h=>.inr h
 | (n,k)::l,cs,h=>by
   rw[zr] at h
   by_cases hk:(k == NameKind.free)=true
   . rw[if_pos hk] at h
     have TH:k=.free:=by simpa using hk
     subst TH
     rcases q8 l _ h with⟨h1,h2⟩ | h1
     . exact .inl ⟨aaJ _ h1,h2⟩
     . rw[aaT] at h1
       cases q:(y == n) with
       | true=>
         rw[q] at h1
         have e:y=n:=by simpa using q
         subst e
         exact .inl ⟨aa1,Option.some.inj h1⟩
       | false=>rw[q] at h1;exact .inr h1
   . rw[if_neg hk] at h
     rcases q8 l _ h with⟨h1,h2⟩ | h1
     . exact .inl ⟨aaJ _ h1,h2⟩
     . exact .inr h1
theorem kf {cells:List (Str×Addr)}{y:Str}:∀ (l:List (Str×NameKind)) (cs:List (Str×Addr)),((y,NameKind.free)∈l\/∃ c,cs.lookup y=some c)->∃ c,(zr cells l cs).lookup y=some c
 | [],cs,h=>by
   rcases h with h | h
   . cases h
   . exact h
 | (n,k)::l,cs,h=>by
   rw[zr]
   by_cases hk:(k == NameKind.free)=true
   . rw[if_pos hk]
     refine kf l _ ?_
     rcases h with h | ⟨c,h⟩
     . rcases aaH.mp h with h | h
       . cases h;exact .inr ⟨_,by rw[aaT,show(y == y)=true by simp]⟩
       . exact .inl h
     . refine .inr ?_
       rw[aaT]
       cases q:(y == n) with
       | true=>exact⟨_,rfl⟩
       | false=>exact⟨c,h⟩
   . rw[if_neg hk]
     refine kf l _ ?_
     rcases h with h | h
     . rcases aaH.mp h with h | h
       . cases h;exact absurd rfl hk
       . exact .inl h
     . exact .inr h
theorem fY {env:Env}{y:Str}{k:NameKind}:∀ {names:List (Str×NameKind)},(names.map fun(n,k)=>if (k == NameKind.free && env.scope.kind == .function && env.kindOf n == some .cell) then (n,NameKind.cell) else (n,k)).lookup y=some k->∃ k',(y,k')∈names/\(k=k'\/k'=.free)
 | [],h=>by simp at h
 | (n,kk)::r,h=>by
   rw[aau,aaT] at h
   by_cases hc:(kk == NameKind.free && env.scope.kind == .function && env.kindOf n == some .cell)=true
   . simp only[hc,if_true] at h
     cases q:(y == n) with
     | true=>
       have e:y=n:=by simpa using q
       subst e
       have:kk=.free:=by
         have:=hc;simp at this;exact this.1.1
       exact⟨kk,aa1,.inr this⟩
     | false=>
       rw[q] at h
       obtain⟨k',h1,h2⟩:=fY h
       exact⟨k',aaJ _ h1,h2⟩
   . simp only[hc,aa2,if_false] at h
     cases q:(y == n) with
     | true=>
       have e:y=n:=by simpa using q
       subst e
       rw[q] at h
       exact⟨kk,aa1,.inl (Option.some.inj h).symm⟩
     | false=>
       rw[q] at h
       obtain⟨k',h1,h2⟩:=fY h
       exact⟨k',aaJ _ h1,h2⟩
theorem m9 {env:Env}{y:Str}:∀ {names:List (Str×NameKind)},names.lookup y=some .free->(names.map fun(n,k)=>if (k == NameKind.free && env.scope.kind == .function && env.kindOf n == some .cell) then (n,NameKind.cell) else (n,k)).lookup y=some .cell \/
   (names.map fun(n,k)=>if (k == NameKind.free && env.scope.kind == .function && env.kindOf n == some .cell) then (n,NameKind.cell) else (n,k)).lookup y=some .free
 | [],h=>by simp at h
 | (n,kk)::r,h=>by
   rw[aau,aaT]
   rw[aaT] at h
   cases q:(y == n) with
   | true=>
     rw[q] at h
     have:kk=.free:=Option.some.inj h
     subst this
     by_cases hc:(NameKind.free == NameKind.free && env.scope.kind == .function && env.kindOf n == some .cell)=true
     . left;simp only[hc,if_true];simp[q]
     . right;simp only[hc,aa2,if_false];simp[q]
   | false=>
     rw[q] at h
     have ih:=m9 (env:=env) h
     by_cases hc:(kk == NameKind.free && env.scope.kind == .function && env.kindOf n == some .cell)=true
     . simp only[hc,if_true,q];exact ih
     . simp only[hc,aa2,if_false,q];exact ih
structure ia (X:Cx)(N:List Str)(ix:List Nat)(x:Str)(sc:Scope):Prop where
 nd:N.Nodup
 nm:N=x::ix.map (fun j=>X.N.getD j "")
 kind:sc.kind=.function
 vK:∀ y∈sc.names,y.2≠.cell
 names:∀ y∈sc.names,y.2=.local->sc.names.lookup y.1=some .local
 hx:sc.names.lookup x=some .local
 fr:∀ y∈sc.names,y.2=.free->X.env.kindOf y.1=some .cell\/X.env.kindOf y.1=some .free
 UT:∀ j∈ix,∃ y,X.N[j]?=some y/\sc.names.lookup y=some .free
noncomputable def bc (X:Cx)(N:List Str)(sc:Scope)(C:Addr)(fp:List Addr)(s:Shared)(H:Hp):Cx:=
 { X with N:=N,s₀:=s,H₀:=H,env:=compEnvC sc (lQ sc X.env) C X.env,outer:=X.stack,stack:=X.stack,ex:=fp,fn:=fun _=>false,pn:=[],xe:=xE}
noncomputable def frees (ix:List Nat)(st:L2.St):L2.St:=ix.map fun j=>(st[j]?).join
section
variable {X:Cx}{N:List Str}{ix:List Nat}{x:Str}{sc:Scope}{pins:List (Addr×Obj)}{st:L2.St}{H H':Hp}{s s':Shared}{C D:Addr}{fp:List Addr}{h1:Heap}
theorem Iv (B:ia X N ix x sc)(ok:X.Ok):closureFor sc X.env=pure (lQ sc X.env):=zu fun y hy hk=>ok.has y.1 (B.fr y hy hk)
theorem vL (B:ia X N ix x sc)(ok:X.Ok){y:Str}{c:Addr}(h:(lQ sc X.env).lookup y=some c):X.env.cells.lookup y=some c/\(y,NameKind.free)∈sc.names:=by
 rcases q8 _ _ h with⟨h1,h2⟩ | h1
 . obtain⟨c',h3⟩:=ok.has y (B.fr _ h1 rfl)
   rw[h3] at h2
   cases h2
   exact⟨h3,h1⟩
 . cases h1
theorem zv (B:ia X N ix x sc)(I:L2.Inv X pins st H s)(hC:s.heap.objs.size<=C)(hf:∀ b∈fp,lE X pins H b)(dn:∀ b∈fp,b < s.heap.objs.size):(bc X N sc C fp s H).Ok where
 mod:=I.ok.mod
 kind:=B.kind
 glob:=I.ok.glob
 blt:=I.ok.blt
 above:=hC
 inj:=fun y z c h1 h2=>I.ok.inj y z c (vL B I.ok h1).1 (vL B I.ok h2).1
 has:=fun y hy=>by
   have hy:(relabel sc X.env).names.lookup y=some .cell\/(relabel sc X.env).names.lookup y=some .free:=hy
   have:(y,NameKind.free)∈sc.names:=by
     rcases hy with hy | hy
     . obtain⟨k',h1,h2⟩:=fY hy
       rcases h2 with h2 | h2
       . subst h2;exact absurd rfl (B.vK _ h1)
       . subst h2;exact h1
     . obtain⟨k',h1,h2⟩:=fY hy
       rcases h2 with h2 | h2 <;> subst h2 <;> exact h1
   exact kf _ _ (.inl this)
 Tv:=fun y c h=>by cases h
 hd:=I.ok.hd
 frames:=I.ok.frames
 T3:=.inl rfl
 LR:=fun b hb=>⟨aaw (aaq (dn b hb) hC),fun y c h=>(hf b hb).2.2.2.2.1 y c (vL B I.ok h).1⟩
 bs:=I.bs
 DY:=aaA I.ok.DY I.sz
 AQ:=fun b o e hb=>by
   rcases (hf b hb).2.2.2.1 with z | z
   . exact I.ok.AQ b o e z
   . exact absurd (aaq (aap e) (aaA I.ok.DY z)) (aa8 _)
 AR:=fun b hb z=>by
   rcases aaH.mp (I.vp b z) with z | z
   . exact(hf b hb).2.1 z
   . exact(hf b hb).2.2.1 z
 rY:=I.stack
 Ov:=I.uD
theorem Gq (B:ia X N ix x sc)(I:L2.Inv X pins st H s)(hf:∀ b∈fp,lE X pins H b)(dn:∀ b∈fp,b < s.heap.objs.size)(hC:C=s.heap.objs.size+1)(k:∀ b o,s.heap.get? b=some o->h1.get? b=some o)(hn:h1.Ns C fun _=>none)(hD:h1.get? s.heap.objs.size=some { cls:=.type "list",data:=.seq ([]:List Value).toArray 0}){t':Nat}:L2.Inv (bc X N sc C fp s H) [] (none::frees ix st) (upd H s.heap.objs.size (.lst [])) { s with heap:=h1,toks:=t'}:=by
 have OM:s.heap.objs.size<=C:=by rw[hC];exact abf _
 have fr:∀ a,s.heap.objs.size<=a->H a=none:=fun a ha=>I.bu.fresh ha
 have ok:=zv B I OM hf dn
 have Cv:∀ y c,(lQ sc X.env).lookup y=some c->H c=none/\c < s.heap.objs.size/\∃ v,s.heap.IsCell c v:=fun y c h=>by
   have h:=(vL B I.ok h).1
   obtain⟨v,q⟩:=I.cell y c h
   exact⟨I.p8 y c h,q.lt,v,q⟩
 refine⟨ok,rfl,I.bare,Un.laid k (aaa _) (fr _ (aaa _)),⟨_,hn,fun i y v e1 e2 e3=>?_⟩,fun y c h=>?_,?_,fun y c h=>?_,fun p hp=>absurd (show p∈([]:List (Addr×Obj)) from hp) (by simp),?_,?_⟩
 . have e1:N[i]?=some y:=e1
   cases i with
   | zero=>cases e2
   | succ i=>
     rw[B.nm,aa5,aab] at e1
     rw[aa5] at e2
     unfold frees at e2
     rw[aab] at e2
     cases q:ix[i]? with
     | none=>rw[q] at e1;cases e1
     | some j=>
       rw[q] at e1 e2
       obtain⟨y',LD,Iw⟩:=B.UT j (abj q)
       have Mu:=PySem.mem_of_lookup Iw
       have ey:y=y':=by
         have e1:X.N.getD j ""=y:=Option.some.inj e1
         rw[YO,LD] at e1
         exact e1.symm
       subst ey
       have e2:(st[j]?).join=some v:=Option.some.inj e2
       have UU:st[j]?=some (some v):=by
         cases q2:st[j]? with
         | none=>rw[q2] at e2;cases e2
         | some z=>rw[q2] at e2;rw[show z=some v from e2]
       have kd:=B.fr _ Mu rfl
       have UW:vo X.env.scope y:=by
         rcases kd with z | z
         . exact .inr (.inl z)
         . exact .inr (.inr z)
       obtain⟨m,_,hl⟩:=I.loc
       obtain⟨u,r,l⟩:=hl j y v LD UU UW
       refine⟨u,r,.inr ?_⟩
       rcases l with⟨z,_⟩ | ⟨_,c,hc,ic⟩
       . rcases kd with z' | z' <;> rw[z] at z' <;> cases z'
       . obtain⟨c',Cw⟩:=kf (cells:=X.env.cells) sc.names [] (.inl Mu)
         have:=(vL B I.ok Cw).1
         rw[hc] at this;cases this
         obtain⟨oc,D1,hd⟩:=ic
         refine⟨?_,c,Cw,oc,k _ _ D1,hd⟩
         rcases e3 with e3 | e3 | e3
         . have e3:(relabel sc X.env).names.lookup y=some .local:=e3
           rcases m9 (env:=X.env) Iw with z | z
           . exact absurd (e3.symm.trans z) (by decide)
           . exact absurd (e3.symm.trans z) (by decide)
         . exact .inl e3
         . exact .inr e3
 . obtain⟨_,_,v,oc,D1,hd⟩:=Cv y c h
   exact⟨v,oc,k _ _ D1,hd⟩
 . show upd H s.heap.objs.size (.lst []) C=none
   rw[aj (by rw[hC];exact abx _)]
   exact fr _ OM
 . show upd H s.heap.objs.size (.lst []) c=none
   obtain⟨q1,q2,_⟩:=Cv y c h
   rw[aj (aaw q2)]
   exact q1
 . exact I.bu.laid k (aaa _) ⟨aaW _,[],0,.nil,hD⟩
 . show(none::frees ix st).length=N.length
   rw[B.nm]
   unfold frees
   simp
def QS (te:TE)(fs:L2.St)(J:It)(D:Addr)(Q:List V->Hp->Prop)(H:Hp):Prop:=
 ∃ W:Nat->Nat->List V->Hp->Prop,(∃ m,W 0 m [] (upd H D (.lst [])))/\∀ i m ys H1,W i m ys H1 ->
   (J.stop i H1/\Q ys H1)\/(J.go i H1/\ys.length < sizeLine/\∀ v H2,J.HF i H1 v H2->te (some v::fs) H2 fun y H3=>H3 D=some (.lst ys)/\∃ m',m' < m/\W (i+1) m' (ys ++ [y]) (upd H3 D (.lst (ys ++ [y]))))
theorem Es {elt iter:Expr}{px pos:Pos}{te:TE}{J:It}{it:Addr}{tn:Nat->Heap->Prop}{Q:Addr->List V->Hp->Prop}{RR:Value->Addr->Result->Shared->Prop}{E:Value->Shared->Prop}(hc:X.calm=true)(B:ia X N ix x sc)(i9:∀ C fp s H,PE (bc X N sc C fp s H) elt te)(I:L2.Inv X pins st H s)(T:Turn X.prog X.w X.K (.Name x px) J fp it tn)(h0:tn 0 s.heap)(hf:∀ b∈fp,lE X pins H b)(hq:∀ D,H D=none->QS te (frees ix st) J D (Q D) H)(UX:∀ D C ys H' s',L2.Inv X pins st H' s'->(∃ m,s'.heap.Ns C m)->lE X pins H' C->Q D ys H'->RR (.ref D) C (.ok .next) s'):wpAny (model X.prog X.w) X.A (newList []) (fun acc s3=>wpAny (model X.prog X.w) X.A (newFunctionEnv sc X.env.globals (lQ sc X.env) [] X.env.qual none .none (some X.env)) (fun Bh s4=>codeAny (model X.prog X.w) X.A (.compStart (.ListComp elt [⟨.Name x px,iter,[],0⟩] sc pos) 0 (.ref it) acc { Bh with scope:=relabel sc X.env}) (RR acc Bh.locals) s4) E s3) E s:=by
 have dn:∀ b∈fp,b < s.heap.objs.size:=fun b hb=>by
   obtain⟨o,e,_⟩:=T.obj _ _ h0 b hb
   exact aap e
 refine wpAny_newObj_type (wpAny_newFunctionEnv B.vK (fun y hy=>absurd hy (by simp)) (fun h1 Hm CZ=>?_) B.kind)
 dsimp only at Hm CZ ⊢
 generalize hG:s.heap.push { cls:=.type "list",dict:=none,data:=.seq ([]:List Value).toArray}=g at Hm CZ ⊢
 have hC:g.objs.size=s.heap.objs.size+1:=by rw[<- hG,abc]
 have W9:s.heap.objs.size≠g.objs.size:=by rw[hC];exact aaw (abh _)
 have old:∀ b o,s.heap.get? b=some o->h1.get? b=some o:=fun b o e=>
   CZ.extBut b o (by rw[hC];exact aaw (abI (aap e))) (aag _ (hG ▸ aag _ e))
 have Iy:h1.get? s.heap.objs.size=some { cls:=.type "list",data:=.seq ([]:List Value).toArray 0}:=CZ.extBut _ _ W9 (aag _ (hG ▸ aat _ rfl))
 have hD:H s.heap.objs.size=none:=I.bu.fresh (aaa _)
 obtain⟨W,⟨m0,w0⟩,turn⟩:=hq _ hD
 have I0:=Gq (t':=s.toks+([]:List (Str×Value)).length) B I hf dn hC old (by simpa using Hm) Iy
 have ON:tn 0 h1:=T.keep _ _ _ h0 fun b _ o e=>old b o e
 have oF:s.heap.objs.size<=g.objs.size:=by rw[hC];exact abf _
 have qm:∀ {H':Hp},(∀ b∈fp,H' b=none)->∀ b∈fp,lE (bc X N sc g.objs.size fp s H) [] H' b:=fun {H'} hn b hb=>
   ⟨hn b hb,((zv B I oF hf dn).LR b hb).1,(zv B I oF hf dn).AR b hb,.inl hb,((zv B I oF hf dn).LR b hb).2,fun p hp=>absurd (show p∈([]:List (Addr×Obj)) from hp) (by simp)⟩
 have hN:(bc X N sc g.objs.size fp s H).N[0]?=some x:=by
   show N[0]?=some x
   rw[B.nm];rfl
 have Et:(bc X N sc g.objs.size fp s H).env.scope.names.lookup x=some .local:=lookup_relabel_local B.hx
 have loop:∀ s3:Shared,s3={ s with heap:=h1,toks:=s.toks+([]:List (Str×Value)).length} ->
     codeAny (model X.prog X.w) X.A (.compLoop (.ListComp elt [⟨.Name x px,iter,[],0⟩] sc pos) 0 (.ref it) (.ref s.heap.objs.size) (compEnvC sc (lQ sc X.env) g.objs.size X.env)) (RR (.ref s.heap.objs.size) g.objs.size) s3:=by
   rintro s3 rfl
   refine Mt (fun n s'=>∃ i ys σ H',L2.Inv (bc X N sc g.objs.size fp s H) [] (σ::frees ix st) H' s'/\tn i s'.heap/\(∀ b∈fp,H' b=none)/\W i n ys H') ?_ m0
     ⟨0,[],none,_,I0,ON,fun b hb=>?_,w0⟩
   . rintro n s5 ⟨i,ys,σ,H5,I5,Hl,LA,w5⟩
     rcases turn i n ys H5 w5 with⟨stop,qn⟩ | ⟨go,hz,step⟩
     . refine bW (T.done (bc X N sc g.objs.size fp s H) rfl rfl rfl hc i [] s5 _ H5 xE I5 (qm LA) Hl stop) fun r s6 ⟨hr,I6⟩=>?_
       subst hr
       refine UX _ _ ys H5 s6 ?_ ?_ (I.t6 oF I6.free) qn
       . exact I.HC I6.os I6.base I6.bu I6.bare fun b hb=>⟨(hf b hb).2.2.2.1,(hf b hb).2.1,(hf b hb).2.2.2.2.1,(hf b hb).2.2.2.2.2⟩
       . obtain⟨m,hm,_⟩:=I6.loc
         exact⟨m,hm⟩
     . refine bW (T.item (bc X N sc g.objs.size fp s H) rfl rfl rfl hc i [] s5 _ H5 xE I5 (qm LA) Hl go) fun r s6 ⟨u,hr,h6⟩=>?_
       subst hr
       refine bW h6 fun _ s7 ⟨v,H7,I7,r7,y7,Iz,UY⟩=>?_
       have UZ:=I7.pinned (qm UY) (T.obj _ _ Iz)
       refine bW (bC (X:=bc X N sc g.objs.size fp s H) (pos:=px) B.nd hN (.inl Et) (.inr Et) _ s7 _ H7 v u (fun σ' H'=>σ'=some v::frees ix st/\H'=H7) UZ r7 ⟨rfl,rfl⟩) fun _ s8 h8=>?_
       obtain⟨σ8,H8,I8,rfl,rfl⟩:=h8
       refine bW (i9 g.objs.size fp s H _ s8 _ H8 _ I8 (step v H8 y7)) fun z s9 ⟨y,H9,I9,r9,U0,m',hm,w9⟩=>?_
       refine bW (o7 _ s9 _ H9 (.ref s.heap.objs.size) [y] (.ref s.heap.objs.size) [z] (fun _ H'=>H'=upd H9 s.heap.objs.size (.lst (ys ++ [y]))) I9 rfl (.cons r9 .nil) ⟨_,ys,y,rfl,rfl,U0,hz,rfl⟩) fun _ s10 U1=>?_
       obtain⟨_,H10,IA,_,rfl⟩:=U1
       refine⟨m',hm,i+1,ys ++ [y],some v,_,IA.j9 (pins:=[]),T.keep _ _ _ Iz fun b hb o e=>(IA.pin (b,o) (aaz _ (aaz _ (fX hb e)))).1,fun b hb=>?_,w9⟩
       obtain⟨o,e,d⟩:=T.obj _ _ Iz b hb
       exact(IA.pin (b,o) (aaz _ (aaz _ (fX hb e)))).2.1
   . rw[aj (aaw (dn b hb))]
     exact(hf b hb).1
 exact codeAny_compStart_list (loop _ rfl) (T.self _ 0 _ _ _ ON (loop _ rfl))
end
def Xa (K:PySem.W.Frag)(G:Gr)(dl:List Slot)(o:Own):TE:=fun st H Q=>∃ Hf,dX K G st Hf H dl/\∀ p aJ H',bx Hf H aJ H'->H p=none->aJ p=none->hZ K aJ H' p o->Q (.ref p) H'
abbrev EO (X:Cx)(G:Gr)(dl:List Slot)(e:Expr)(o:Own):Prop:=PE X e (Xa X.K G dl o)
noncomputable def U2:Own->Dt
 | .lst ds=>.lst ds
 | .eX k=>.eX k
 | .obj C fs=>.obj C fs
 | .Be _ C fs=>.obj C fs
 | .sj C fs gs nm n=>.vB C fs gs nm n
 | .zj _ C fs gs nm n=>.vB C fs gs nm n
 | .mh k=>.mh k
section
variable {K:W.Frag}{G:Gr}{st:L2.St}{Hf H aJ H':Hp}{dl:List Slot}{p:Addr}{w:Own}{u:HO}
theorem IB (g:bx Hf H aJ H')(n:H p=none)(n':aJ p=none)(e:H' p=some u):bx Hf H (upd aJ p u) H':=
 ⟨g.big,g.bG.trans (bQ n'),fun b o h=>by
   by_cases hb:b=p
   . subst hb;rw[ak] at h;cases h;exact e
   . rw[aj hb] at h;exact g.sub _ _ h,fun a o h=>by
   by_cases hb:a=p
   . subst hb;exact .inr (.inl n)
   . rw[aj hb] at h;exact g.new a o h⟩
theorem Eu (r:hZ K Hf H p w)(n:Hf p=none):∃ u,H p=some u/\Rep K (upd Hf p u) (.ref p) (U2 w):=by
 cases w with
 | lst ds=>obtain⟨vs,h,r⟩:=r;exact⟨_,h,.lst ak (r.mono (bQ n))⟩
 | eX ds=>obtain⟨vs,h,r⟩:=r;exact⟨_,h,.eX ak (r.mono (bQ n))⟩
 | obj C ds=>obtain⟨dx,fs,h,r⟩:=r;exact⟨_,h,.obj (.of ak) (r.mono (bQ n))⟩
 | Be x C ds=>obtain⟨_,dx,fs,h,r⟩:=r;exact⟨_,h,.obj (.of ak) (r.mono (bQ n))⟩
 | sj C ds gs nm k=>obtain⟨dx,fs,b,ls,q,h,r⟩:=r;exact⟨_,h,.vB q (.of ak) (r.mono (bQ n))⟩
 | zj x C ds gs nm k=>obtain⟨_,dx,fs,b,ls,q,h,r⟩:=r;exact⟨_,h,.vB q (.of ak) (r.mono (bQ n))⟩
 | mh ks=>exact⟨_,r,.mh ak⟩
theorem dX.Mv (S:dX K G st Hf H dl)(g:bx Hf H aJ H'){i:Nat}(n:H p=none)(n':aJ p=none)(r:hZ K aJ H' p w):dX K G (st.set i (some (.ref p))) aJ H' (dl.set i (.own w)):=by
 have ln:=S.len
 have S':=S.grow g
 have pn:∀ (j:Nat) (o':Own) (a:Addr),dl[j]?=some (Slot.own o')->st[j]?=some (some (V.ref a))->a≠p:=fun j o' a h1 h2=>by
   obtain⟨b,q1,_,_,q4⟩:=S.own j o' h1
   rw[h2] at q1;cases q1
   obtain⟨u,hu⟩:=q4.some
   exact av hu n
 refine⟨S'.gr,by simp[S.len],fun j x h=>?_,fun j o' h=>?_,fun j k o1 o2 a h1 h2 h3 h4=>?_⟩
 . by_cases e:i=j
   . subst e
     by_cases hl:i < dl.length
     . rw[aak hl] at h;cases h
     . rw[aaF (by simp;omega)] at h;cases h
   . rw[aal e] at h ⊢;exact S'.val j x h
 . by_cases e:i=j
   . subst e
     by_cases hl:i < dl.length
     . rw[aak hl] at h;cases h
       exact⟨p,aak (by omega),n',S.gr.big.free n,r⟩
     . rw[aaF (by simp;omega)] at h;cases h
   . rw[aal e] at h ⊢
     exact S'.own j o' h
 . by_cases ej:i=j
   . by_cases ek:i=k
     . omega
     . subst ej
       rw[aal ek] at h2 h4
       by_cases hl:i < st.length
       . rw[aak hl] at h3;cases h3
         exact absurd rfl (pn k o2 _ h2 h4)
       . rw[aaF (by simp;omega)] at h3;cases h3
   . rw[aal ej] at h1 h3
     by_cases ek:i=k
     . subst ek
       by_cases hl:i < st.length
       . rw[aak hl] at h4;cases h4
         exact absurd rfl (pn j o1 _ h1 h3)
       . rw[aaF (by simp;omega)] at h4;cases h4
     . rw[aal ek] at h2 h4
       exact S.Gi j k o1 o2 a h1 h2 h3 h4
theorem dX.bG (S:dX K G st Hf H dl){i:Nat}(hd:dl[i]?=some (.own w)):∃ aJ,aF Hf aJ/\dX K G st aJ H (dl.set i (.val (U2 w))):=by
 have ln:=S.len
 obtain⟨p,h1,h2,h3,h4⟩:=S.own i w hd
 obtain⟨u,hu,rp⟩:=Eu h4 h2
 have hl:i < dl.length:=(aaj.mp hd).1
 have sm:aF Hf (upd Hf p u):=bQ h2
 refine⟨upd Hf p u,sm,⟨S.gr.big,S.gr.bG.trans sm,fun b o h=>?_,fun a o h=>?_⟩,by simp[S.len],fun j x h=>?_,fun j o' h=>?_,fun j k o1 o2 a q1 q2 q3 q4=>?_⟩
 . by_cases hb:b=p
   . subst hb;rw[ak] at h;cases h;exact hu
   . rw[aj hb] at h;exact S.gr.sub _ _ h
 . by_cases hb:a=p
   . subst hb;exact .inr (.inl h3)
   . rw[aj hb] at h;exact S.gr.new a o h
 . by_cases e:i=j
   . subst e
     rw[aak hl] at h;cases h
     exact⟨_,h1,rp⟩
   . rw[aal e] at h
     obtain⟨v,z1,z2⟩:=S.val j x h
     exact⟨v,z1,z2.mono sm⟩
 . by_cases e:i=j
   . subst e;rw[aak hl] at h;cases h
   . rw[aal e] at h
     obtain⟨a,z1,z2,z3,z4⟩:=S.own j o' h
     have ne:a≠p:=fun q=>by subst q;exact e (S.Gi i j _ _ _ hd h h1 z1)
     exact⟨a,z1,by rw[aj ne];exact z2,z3,z4.grow rfl sm⟩
 . have tr:∀ (j:Nat) o',(dl.set i (.val (U2 w)))[j]?=some (.own o')->dl[j]?=some (.own o'):=fun j o' h=>by
     by_cases e:i=j
     . subst e;rw[aak hl] at h;cases h
     . rw[aal e] at h;exact h
   exact S.Gi j k _ _ a (tr _ _ q1) (tr _ _ q2) q3 q4
end
section
variable {X:Cx}{G:Gr}{E:XK}{dl:List Slot}{a b e:Expr}{i:Int}{d:Dt}{ds:List Dt}{pos p:Pos}{o:Out}{x:Str}{u v:Bool}{sts:List Stmt}{C:Addr}{w:Own}{fs:List (Str×Dt)}
theorem Mw (h:EO X G dl e w):EE X G dl e (U2 w):=gL h fun st H Q zq=>Bn zq fun Hf zq=>have S:=zq.1;have k:=zq.2;⟨Hf,S,fun p aJ H' g n n' r=>by
 obtain⟨u,hu,rp⟩:=Eu r n'
 exact k _ _ H' (IB g n n' hu) rp⟩
theorem q9 (h:EO X G dl e (.lst ds)):EE X G dl e (.lst ds):=Mw h
theorem U3 (h:EO X G dl e (.obj C fs)):EE X G dl e (.obj C fs):=Mw h
theorem Ew {w':Own}(h:EO X G dl e w)(q:w=w'):EO X G dl e w':=by subst q;exact h
theorem jQ (n:Nat){x:Str}{pos':Pos}(hN:X.N.Nodup)(he:EO X G dl e w)(hi:X.N[n]?=some x:=by rfl)(hx:Loc X.env.scope x:=by first | exact aaK rfl | exact aaD rfl)(hs:swapsWith e (some (.Name x pos')) pos.line X.env=pure false:=by rfl)(hf:X.fn x=true\/X.env.scope.names.lookup x=some .local:=by first | exact .inl rfl | exact .inr rfl | assumption):ES X G E dl (.Assign [.Name x pos'] e pos) (.nx (dl.set n (.own w))):=
 sk (CH hN hi hx he hs hf) fun D st H zq=>Bn zq fun Hf zq=>have S:=zq.1;have k:=zq.2;⟨Hf,S,fun p Hf1 H1 g1 n1 n2 r1=>k _ Hf1 H1 g1.bG (S.Mv g1 n1 n2 r1)⟩
theorem lY (h:EO X G dl e w):ES X G E dl (.Return (some e) pos) (.ro w):=sk (CG h) fun D st H zq=>Bn zq fun Hf zq=>have S:=zq.1;have k:=zq.2;⟨Hf,S,fun p Hf1 H1 g1 n1 n2 r1=>k p Hf1 H1 (S.gr.trans g1) (S.gr.big.free n1) n2 r1⟩
theorem Mx (n:Nat)(hd:dl[n]?=some (.own w):=by rfl)(hN:X.N[n]?=some x:=by rfl)(hv:vo X.env.scope x:=by first | exact aaK rfl | exact aaD (aaK rfl) | exact aaD (aaD rfl))(hb:(x == ("__debug__":Str))=false:=by decide)(mz:(x == ("__classdict__":Str))=false:=by decide):ES X G E dl (.Return (some (.Name x p)) pos) (.ro w):=
 sk (CG (jC hN hv hb mz)) fun D st H zq=>Bn zq fun Hf zq=>have S:=zq.1;have k:=zq.2;by
   obtain⟨q,h1,h2,h3,h4⟩:=S.own n w hd
   exact⟨_,h1,k q Hf H S.gr h3 h2 h4⟩
theorem qr (i:Nat)(h:m8 X G E (dl.set i (.val (U2 w))) sts o)(hd:dl[i]?=some (.own w):=by rfl):m8 X G E dl sts o:=zk h fun D st H zq=>Bn zq fun Hf zq=>have S:=zq.1;have k:=zq.2;by
 obtain⟨aJ,sm,S'⟩:=S.bG hd
 exact⟨aJ,S',k.mono sm⟩
def tOv (K:W.Frag)(G:Gr)(dl:List Slot)(n:Nat)(w:Own):TE:=fun st H Q=>∃ Hf a,dX K G st Hf H dl/\st[n]?=some (some (.ref a))/\Hf a=none/\hZ K Hf H a w/\Q (.ref a) H
theorem vM (n:Nat)(hd:dl[n]?=some (.own w))(hN:X.N[n]?=some x)(hv:vo X.env.scope x)(hb:(x == ("__debug__":Str))=false)(mz:(x == ("__classdict__":Str))=false):PE X (.Name x p) (tOv X.K G dl n w):=
 gL (jC hN hv hb mz) fun st H Q ⟨Hf,a,S,h1,_,_,q⟩=>⟨_,h1,q⟩
theorem sC (n:Nat)(hb:EE X G dl b (.int i))(h:oy ds i=some d)(hd:dl[n]?=some (.own (.lst ds)):=by rfl)(hN:X.N[n]?=some x:=by rfl)(hv:vo X.env.scope x:=by first | exact aaK rfl | exact aaD (aaK rfl) | exact aaD (aaD rfl))(mW:(x == ("__debug__":Str))=false:=by decide)(mz:(x == ("__classdict__":Str))=false:=by decide)(hs:kL b:=by intro _ _;rfl):EE X G dl (.Subscript (.Name x p) b pos) d:=
 gL (vy yZ (vM (p:=p) n hd hN hv mW mz) hb hs) fun st H Q zq=>Bn zq fun Hf zq=>have S:=zq.1;have k:=zq.2;by
   obtain⟨q,h1,h2,h3,h4⟩:=S.own n _ hd
   refine⟨Hf,q,S,h1,h2,h4,Hf,S,fun z Hf1 H1 g1 r1=>?_⟩
   cases r1
   obtain⟨vs,hq,rp⟩:=h4
   obtain⟨v,hv1,hv2⟩:=rp.oy h
   exact⟨q,vs,i,v,rfl,rfl,.of (g1.big _ _ hq),hv1,k v Hf1 H1 g1 (hv2.mono g1.bG)⟩
theorem mE (n:Nat){m:Nat}{ps pn:Pos}(he:EE X G dl e d)(hb:EE X G dl b (.int i))(h:CQ ds.length i=some m)(hd:dl[n]?=some (.own (.lst ds)):=by rfl)(hN:X.N[n]?=some x:=by rfl)
   (hv:vo X.env.scope x:=by first | exact aaK rfl | exact aaD (aaK rfl) | exact aaD (aaD rfl)) (mW:(x == ("__debug__":Str))=false:=by decide) (mz:(x == ("__classdict__":Str))=false:=by decide)
   (ha:∀ v,assign (.Subscript (.Name x pn) b ps) X.env v=(do
     let ov <- holding [v] (eval (.Name x pn) X.env)
     let iv <- holding [v,ov] (eval b X.env)
     standAt ps
     holding [v,ov,iv] (setItem ov iv v)
     release [v,ov,iv] []):=by intro _;rfl)
   (hs:swapsWithSole [.Subscript (.Name x pn) b ps] e pos.line X.env=pure false:=by rfl) (hw:swappedStores [.Subscript (.Name x pn) b ps] e X.env=pure none:=by rfl)
   (h1:(assignEach [.Subscript (.Name x pn) b ps] X.env).map (·.2)=[assign (.Subscript (.Name x pn) b ps) X.env]:=by rfl) :
   ES X G E dl (.Assign [.Subscript (.Name x pn) b ps] e pos) (.nx (dl.set n (.own (.lst (ds.set m d))))):=
 sk (yV he (P9 (vM (p:=pn) n hd hN hv mW mz) hb set_list ha) hs hw h1) fun D st H zq=>Bn zq fun Hf zq=>have S:=zq.1;have k:=zq.2;⟨Hf,S,fun v Hf1 H1 g1 r1=>by
   have S1:=S.grow g1
   obtain⟨q,z1,z2,z3,z4⟩:=S1.own n _ hd
   refine⟨Hf1,q,S1,z1,z2,z4,Hf1,S1,fun iv bX H2 g2 r2=>?_⟩
   cases r2
   have S2:=S1.grow g2
   obtain⟨q',y1,y2,y3,vs,hq,rp⟩:=S2.own n _ hd
   rw[z1] at y1;cases y1
   refine⟨q,vs,i,m,rfl,rfl,hq,by rw[rp.length];exact h,?_⟩
   exact k st bX _ (g1.bG.trans g2.bG) (S2.Gj hd z1 ⟨_,ak,rp.set (r1.mono g2.bG) m⟩)⟩
end
section
variable {X:Cx}{G:Gr}{E:XK}{dl:List Slot}{a b e:Expr}{es:List Expr}{i j:Int}{d d1 d2:Dt}{ds:List Dt}{pos p apos bM:Pos}{x:Str}{v:Bool}{s:Stmt}
theorem qt (h:EA X G dl es ds)(hl:ds.length<=sizeLine:=by decide):EO X G dl (.List es pos) (.lst ds):=
 gL (vx h) fun st H Q zq=>Bn zq fun Hf zq=>have S:=zq.1;have k:=zq.2;⟨Hf,S,fun vs Hf1 H1 g1 r1=>⟨by rw[r1.length];exact hl,fun p hp=>k p Hf1 _ (g1.trans (.fJ g1.sub hp)) (g1.big.free hp) (g1.sub.free hp) ⟨vs,ak,r1⟩⟩⟩
theorem U4 {op:Operator}{r:R2}(ho:oi X (binaryOp op) r)(ha:EE X G dl a d1)(hb:EE X G dl b d2)(h:∀ v z Hf H Q,aF Hf H->Rep X.K Hf v d1->Rep X.K Hf z d2->(∀ p vs,H p=none->bH X.K Hf vs ds->Q (.ref p) (upd H p (.lst vs)))->r v z H Q):EO X G dl (.BinOp a op b pos) (.lst ds):=
 gL (OA ho ha hb) fun st H Q zq=>Bn zq fun Hf zq=>have S:=zq.1;have k:=zq.2;⟨Hf,S,fun v Hf1 H1 g1 r1=>⟨Hf1,S.grow g1,fun z bX H2 g2 r2=>h v z bX H2 Q g2.sub (r1.mono g2.bG) r2 fun p vs hp rv=>
   k p bX _ ((g1.trans g2).trans (.fJ g2.sub hp)) ((g1.trans g2).big.free hp) (g2.sub.free hp) ⟨vs,ak,rv⟩⟩⟩
theorem Bi {K:W.Frag}{H:Hp}{vs:List V}{ds:List Dt}(r:bH K H vs ds):∀ n:Nat,bH K H (aan n vs).flatten (aan n ds).flatten
 | 0=>.nil
 | n+1=>by
   rw[abd,abd,aa4,aa4]
   exact r.append (Bi r n)
theorem IC (ha:EE X G dl a (.lst ds))(hb:EE X G dl b (.int i))(h1:-(2 ^ 63)<=i)(h2:i < 2 ^ 63)(hl:ds.length * i.toNat<=sizeLine):EO X G dl (.BinOp a .Mult b pos) (.lst (aan i.toNat ds).flatten):=
 U4 Qv ha hb fun v z Hf H Q s r1 r2 k=>by
   cases r1 with
   | lst q1 r1=>cases r2;exact⟨_,i,_,rfl,rfl,s _ _ q1,h1,h2,by rw[r1.length];exact hl,fun p hp=>k p _ hp (Bi r1 _)⟩
theorem My (hm:X.mg "list"=none)(ha:EE X G dl a (.lst ds))(hg:Gl X "list":=by rfl)(he:starEach [a] X.env=[(false,eval a X.env)]:=by rfl):EO X G dl (.Call (.Name "list" p) [a] [] pos) (.lst ds):=
 gL (mC zd hg hm boot_list (ae ha ah he) (he:=he)) fun st H Q zq=>Bn zq fun Hf zq=>have S:=zq.1;have k:=zq.2;⟨Hf,S,fun vs Hf1 H1 g1 r1=>by
   cases r1 with
   | cons r t=>cases t;cases r with
     | @lst q vs _ z r=>exact⟨q,vs,rfl,.inl (.of (g1.sub _ _ z)),fun l hl=>k l Hf1 _ (g1.trans (.fJ g1.sub hl)) (g1.big.free hl) (g1.sub.free hl) ⟨vs,ak,r⟩⟩⟩
theorem Gs:bootBuiltins "max"=some (.builtin "max"):=by decide +kernel
theorem Gu:bootBuiltins "min"=some (.builtin "min"):=by decide +kernel
theorem QT (hm:X.mg "max"=none)(hc:X.calm=true)(ha:EA X G dl [a,b] [.int i,.int j])(hg:Gl X "max":=by rfl)(he:starEach [a,b] X.env=(false,eval a X.env)::starEach [b] X.env:=by rfl)(o6:(backTo pos (starEach [b] X.env)).any (·.1)=false:=by rfl) :
   EE X G dl (.Call (.Name "max" p) [a,b] [] pos) (.int (if j > i then j else i)):=
 gL (fB (F1 hc) hg hm Gs ha (by decide) (by decide) he o6) fun st H Q zq=>Bn zq fun Hf zq=>have S:=zq.1;have k:=zq.2;⟨Hf,S,fun vs Hf1 H1 g1 r1=>by
   cases r1 with
   | cons r1 t1=>cases t1 with
     | cons r2 t2=>cases t2;cases r1;cases r2;exact⟨i,j,rfl,k _ Hf1 H1 g1 (.int _)⟩⟩
theorem ID (hm:X.mg "min"=none)(hc:X.calm=true)(ha:EA X G dl [a,b] [.int i,.int j])(hg:Gl X "min":=by rfl)(he:starEach [a,b] X.env=(false,eval a X.env)::starEach [b] X.env:=by rfl)(o6:(backTo pos (starEach [b] X.env)).any (·.1)=false:=by rfl) :
   EE X G dl (.Call (.Name "min" p) [a,b] [] pos) (.int (if j < i then j else i)):=
 gL (fB (F2 hc) hg hm Gu ha (by decide) (by decide) he o6) fun st H Q zq=>Bn zq fun Hf zq=>have S:=zq.1;have k:=zq.2;⟨Hf,S,fun vs Hf1 H1 g1 r1=>by
   cases r1 with
   | cons r1 t1=>cases t1 with
     | cons r2 t2=>cases t2;cases r1;cases r2;exact⟨i,j,rfl,k _ Hf1 H1 g1 (.int _)⟩⟩
theorem sD (n:Nat){pn:Pos}(he:EE X G dl e d)(hl:ds.length < sizeLine)(hd:dl[n]?=some (.own (.lst ds)):=by rfl)(hN:X.N[n]?=some x:=by rfl)(hv:vo X.env.scope x:=by first | exact aaK rfl | exact aaD (aaK rfl) | exact aaD (aaD rfl))
   (mW:(x == ("__debug__":Str))=false:=by decide) (mz:(x == ("__classdict__":Str))=false:=by decide)
   (i5:attributeBase (.Name x pn) "append" X.env (eval (.Name x pn) X.env)=eval (.Name x pn) X.env:=by rfl)
   (se:((backTo bM (starEach [e] X.env)).all (fun x=>!x.1) && (backToKw bM (keywordEach [] X.env)).all (fun x=>x.1.isSome) && decide ([e].length+([]:List Keyword).length+(if ([]:List Keyword).isEmpty then 0 else 1) < 30))=true:=by rfl)
   (i6:(apos.endLine == bM.line)=true:=by rfl) (mV:starEach [e] X.env=(false,eval e X.env)::starEach [] X.env:=by rfl) (hs:swapsWith (.Call (.Attribute (.Name x pn) "append" apos) [e] [] bM) none pos.line X.env=pure false:=by rfl) :
   ES X G E dl (.Expr (.Call (.Attribute (.Name x pn) "append" apos) [e] [] bM) pos) (.nx (dl.set n (.own (.lst (ds ++ [d]))))):=
 sk (lS (tL PySem.F.plainAttrs_list PySem.F.slot_list_append PySem.F.type_list_append o7 (vM (p:=pn) n hd hN hv mW mz) (ae he ah mV) i5 se i6 mV rfl) hs) fun D st H zq=>Bn zq fun Hf zq=>have S:=zq.1;have k:=zq.2;by
   obtain⟨q,z1,z2,z3,vs,hq,rp⟩:=S.own n _ hd
   refine⟨Hf,q,S,z1,z2,⟨vs,hq,rp⟩,.inl ⟨rfl,vs,.of hq⟩,Hf,S,fun us Hf1 H1 g1 r1=>?_⟩
   cases r1 with
   | cons r1 t1=>
     cases t1
     refine⟨q,vs,_,rfl,rfl,g1.big _ _ hq,by rw[rp.length];exact hl,?_⟩
     exact k st Hf1 _ g1.bG ((S.grow g1).Gj hd z1 ⟨_,ak,(rp.mono g1.bG).append (.cons r1 .nil)⟩)
theorem pq {K:W.Frag}{H:Hp}:∀ {vs:List V} {xs:List Str},bH K H vs (xs.map Dt.str)->vs=xs.map V.str
 | _,[],.nil=>rfl
 | _,x::xs,.cons r t=>by cases r;rw[pq t];rfl
end
noncomputable def Bj:Option Slot->Slot
 | some (.val d)=>.val d
 | _=>.br
theorem yp {o:Option Slot}{w:Own}(h:Bj o=.own w):False:=by
 unfold Bj at h
 split at h <;> cases h
theorem yq {o:Option Slot}{d:Dt}(h:Bj o=.val d):o=some (.val d):=by
 unfold Bj at h
 split at h
 . cases h;rfl
 . cases h
noncomputable def jB (dl:List Slot)(ix:List Nat):List Slot:=ix.map fun j=>Bj dl[j]?
section
variable {K:W.Frag}{G:Gr}{st:L2.St}{Hf H Hf1 H1:Hp}{dl:List Slot}{ix:List Nat}
theorem Mz (S:dX K G st Hf H dl)(s1:aF Hf Hf1)(sb:aF Hf1 H1){v:V}{d:Dt}(r:Rep K Hf1 v d):dX K ⟨Hf1,H1⟩ (some v::frees ix st) Hf1 H1 (.val d::jB dl ix):=by
 have no:∀ (i:Nat) o,(Slot.val d::jB dl ix)[i]?≠some (.own o):=fun i o h=>by
   cases i with
   | zero=>cases h
   | succ i=>
     rw[aa5] at h
     unfold jB at h
     rw[aab] at h
     cases q:ix[i]? with
     | none=>rw[q] at h;cases h
     | some j=>
       rw[q] at h
       exact yp (Option.some.inj h)
 refine⟨.refl sb,by simp[frees,jB],fun i x h=>?_,fun i o h=>absurd h (no i o),fun i j o o' a h=>absurd h (no i o)⟩
 cases i with
 | zero=>cases h;exact⟨v,rfl,r⟩
 | succ i=>
   rw[aa5] at h ⊢
   unfold jB at h
   unfold frees
   rw[aab] at h ⊢
   cases q:ix[i]? with
   | none=>rw[q] at h;cases h
   | some j=>
     rw[q] at h
     have hd:=yq (Option.some.inj h)
     obtain⟨v',z1,z2⟩:=S.val j x hd
     exact⟨v',by rw[Option.map_some,z1];rfl,z2.mono s1⟩
end
section
variable {X:Cx}{G:Gr}{E:XK}{dl:List Slot}{a b elt iter:Expr}{i j:Int}{ys:List Dt}{zs:Nat->Dt}{pos p px py rb:Pos}{o:Out}{x y:Str}{N:List Str}{ix:List Nat}{sc:Scope}{n:Nat}
def IE (X:Cx)(N:List Str)(sc:Scope)(dl:List Slot)(ix:List Nat)(elt:Expr)(n:Nat)(zs:Nat->Dt)(ys:List Dt):Prop:=
 ∀ k,k < n->∀ C fp s H G',EE (bc X N sc C fp s H) G' (.val (zs k)::jB dl ix) elt (ys.getD k .cS)
def QU (K:W.Frag)(dl:List Slot)(ix:List Nat)(n:Nat)(zs:Nat->Dt)(ys:List Dt):TE:=fun st H Q=>∃ k G',k < n/\tD K G' (.val (zs k)::jB dl ix) (ys.getD k .cS) st H Q
theorem IF (h:IE X N sc dl ix elt n zs ys):∀ C fp s H,PE (bc X N sc C fp s H) elt (QU X.K dl ix n zs ys):=fun C fp s H pins s' st H' Q I ⟨k,G',hk,q⟩=>h k hk C fp s H G' pins s' st H' Q I q
theorem IG {st:L2.St}{Hf H:Hp}{J:It}{Q:VK}(S:dX X.K G st Hf H dl)(TJ:ys.length=n)(hn:n<=sizeLine)(go:∀ Hf1 H1,bx Hf H Hf1 H1->∀ i,(i < n->J.go i H1/\∀ v H2,J.HF i H1 v H2->H2=H1/\Rep X.K Hf1 v (zs i))/\(i=n->J.stop i H1))(k:∀ p aJ H',bx Hf H aJ H'->H p=none->aJ p=none->hZ X.K aJ H' p (.lst ys)->Q (.ref p) H'):∀ D,H D=none->QS (QU X.K dl ix n zs ys) (frees ix st) J D (fun _ H'=>Q (.ref D) H') H:=by
 intro D hD
 refine⟨fun i m vs H1=>m=n - i/\i<=n/\∃ Hf1,bx Hf H Hf1 H1/\Hf1 D=none/\H1 D=some (.lst vs)/\bH X.K Hf1 vs (ys.take i),⟨n,rfl,aaW _,Hf,.fJ S.sub hD,S.sub.free hD,ak,.nil⟩,?_⟩
 rintro i m vs H1 ⟨rfl,hi,Hf1,g1,U5,TK,rp⟩
 have hlen:=rp.length
 rw[aay] at hlen
 by_cases dn:i < n
 . obtain⟨U6,hy⟩:=(go Hf1 H1 g1 i).1 dn
   refine .inr ⟨U6,by omega,fun v H2 y=>?_⟩
   obtain⟨e,rv⟩:=hy v H2 y
   subst e
   refine⟨i,⟨Hf1,H2⟩,dn,Hf1,Mz S g1.bG g1.sub rv,fun z bX H3 g2 r2=>?_⟩
   have hD3:H3 D=some (.lst vs):=g2.big _ _ TK
   have hD4:bX D=none:=by
     cases q:bX D with
     | none=>rfl
     | some u=>
       obtain⟨o,z⟩:=g2.zi TK (fun z=>z) q
       rw[U5] at z;cases z
   have g:=g1.trans g2
   refine⟨hD3,n - (i+1),by omega,rfl,dn,bX,⟨fun a o h=>?_,g.bG,fun a o h=>?_,g.new⟩,hD4,ak,?_⟩
   . rw[aj (av h hD)];exact g.big _ _ h
   . rw[aj (av h hD4)];exact g2.sub _ _ h
   . have:ys.take (i+1)=ys.take i ++ [ys.getD i .cS]:=by
       rw[aaY,YO,k3 (by omega)];rfl
     rw[this]
     exact(rp.mono g2.bG).append (.cons r2 .nil)
 . have e:i=n:=by omega
   subst e
   refine .inl ⟨(go Hf1 H1 g1 i).2 rfl,k D Hf1 H1 g1 hD U5 ⟨vs,TK,?_⟩⟩
   rw[abm (by omega)] at rp
   exact rp
def Yv (wi:TI)(ix:List Nat)(te:TE):TE:=fun st H Q=>wi st H fun J H1=>∀ D,H1 D=none->QS te (frees ix st) J D (fun _ H'=>Q (.ref D) H') H1
theorem U7 {wi:TI}{te:TE}(hc:X.calm=true)(B:ia X N ix x sc)(hi:PI X (.Name x px) iter wi)(i9:∀ C fp s H,PE (bc X N sc C fp s H) elt te)(hs:∀ z,foldedSetIterable iter X.env z=pure z):PE X (.ListComp elt [⟨.Name x px,iter,[],0⟩] sc pos) (Yv wi ix te):=by
 intro pins s st H Q I h
 rw[eval_ListComp]
 refine wpAny_comprehension_free (use:=none) rfl hs (Iv B I.ok) B.kind B.names (bW (hi pins s st H _ I h) fun v s1 h1=>bW h1 fun Oz s2 h2=>?_)
 obtain⟨it,fp,tn,J,H2,e,I2,T,D3,f2,hq⟩:=h2
 subst e
 refine Es (RR:=fun acc C=>compPost (model X.prog X.w) X.A X.xe none (EP X pins st Q) acc C) hc B i9 I2 T D3 f2 hq ?_
 intro D C ws H' s' I' ⟨m,hn⟩ mF q
 exact⟨m,hn,fun h' IH=>⟨.ref D,H',I'.turned (t':=s'.toks) (it:=C) (fun b o hb e=>(IH.2 b hb).trans e) mF.1 mF.2.1 mF.2.2.2.1 mF.2.2.2.2.1 mF.2.2.2.2.2,rfl,q⟩⟩
theorem U8 {wi:TI}{te:TE}{nN:Nat}(hc:X.calm=true)(B:ia X N ix x sc)(hi:PI X (.Name x px) iter wi)(i9:∀ C fp s H,PE (bc X N sc C fp s H) elt te)(hs:∀ z,foldedSetIterable iter X.env z=pure z)(II:swapsWith (.ListComp elt [⟨.Name x px,iter,[],0⟩] sc pos) (some (.Name y py)) rb.line X.env=pure true)(hN:X.N.Nodup)(hy:X.N[nN]?=some y)(hl:Loc X.env.scope y)(hf:X.fn y=true\/X.env.scope.names.lookup y=some .local):PS X (.Assign [.Name y py] (.ListComp elt [⟨.Name x px,iter,[],0⟩] sc pos) rb) (fun D st H=>Yv wi ix te st H fun v H'=>D.nx (st.set nN (some v)) H'):=by
 intro pins s st H D0 I h
 rw[exec_Assign_Name_used _ _ _ _ II]
 refine wpAny_bind (wpAny_standAt (wpAny_bind ?_))
 show wpAny _ X.A (do let _ <- comprehension (.ListComp elt [⟨.Name x px,iter,[],0⟩] sc pos) sc X.env _ (newList []) false (eval iter X.env) (some (assign (.Name y py) X.env))) _ _ s
 refine wpAny_bind (wpAny_mono (wpAny_comprehension_free (use:=some (assign (.Name y py) X.env)) (Q:=fun _ s'=>SP X pins D0 .next s') rfl hs (Iv B I.ok) B.kind B.names (bW (hi pins s st H _ I h) fun v s1 h1=>bW h1 fun Oz s2 h2=>?_)) (fun _ s' hq=>wpAny_pure (wpAny_pure hq)) fun _ _ z=>z)
 obtain⟨it,fp,tn,J,H2,e,I2,T,D3,f2,hq⟩:=h2
 subst e
 refine Es (RR:=fun acc C=>compPost (model X.prog X.w) X.A X.xe (some (assign (.Name y py) X.env)) (fun _ s'=>SP X pins D0 .next s') acc C) hc B i9 I2 T D3 f2 hq ?_
 intro D C ws H' s' I' ⟨m,hn⟩ mF q
 refine wpAny_assign_Name (o3 I' hN hy hl (v:=.ref D) rfl (fun Ma U9 ⟨ad,CZ,ha⟩=>?_) hf)
 have ne:C≠ad:=by
   rcases ha with z | z
   . rw[z];exact mF.2.1
   . exact Ne.symm (mF.2.2.2.2.1 _ _ z)
 exact⟨m,hn.sameBut CZ ne,fun h' IH=>⟨_,H',U9.turned (t':=Ma.toks) (it:=C) (fun b o hb e=>(IH.2 b hb).trans e) mF.1 mF.2.1 mF.2.2.2.1 mF.2.2.2.2.1 mF.2.2.2.2.2,q⟩⟩
def IJ (X:Cx)(G:Gr)(dl:List Slot)(n:Nat)(zs:Nat->Dt)(wi:TI):Prop:=∀ st H (R:It->Hp->Prop),(∃ Hf,dX X.K G st Hf H dl/\∀ J IK H0,bx Hf H IK H0 ->
 (∀ Hf1 H1,bx IK H0 Hf1 H1->∀ i,(i < n->J.go i H1/\∀ v H2,J.HF i H1 v H2->H2=H1/\Rep X.K Hf1 v (zs i))/\(i=n->J.stop i H1))->R J H0)->wi st H R
theorem vN (hn:-(2 ^ 62)<=j/\j < 2 ^ 62):IJ X G dl j.toNat (fun k=>.int k) (HI (QE X.K G dl [.int j])):=fun st H R zq=>Bn zq fun Hf zq=>have S:=zq.1;have k:=zq.2;⟨Hf,S,fun vs Hf1 H1 g1 r1=>by
 cases r1 with
 | cons r t=>
   cases t;cases r
   refine⟨j,rfl,hn.1,hn.2,k _ Hf1 H1 g1 fun bX H2 g2 i=>⟨fun hi=>⟨hi,fun v H3 hy=>?_⟩,fun hi=>by rw[hi];exact aaa _⟩⟩
   obtain⟨e1,e2⟩:=hy
   subst e2
   rw[Int.zero_add]
   exact⟨e1,.int _⟩⟩
theorem Bk {wi:TI}(hs:IJ X G dl n zs wi)(TJ:ys.length=n)(hn:n<=sizeLine):∀ st H Q,Xa X.K G dl (.lst ys) st H Q->Yv wi ix (QU X.K dl ix n zs ys) st H Q:=fun st H Q zq=>Bn zq fun Hf zq=>have S:=zq.1;have k:=zq.2;
 hs st H _ ⟨Hf,S,fun J IK H0 g0 src=>IG (S.grow g0) TJ hn src fun p aJ H' g n1 n2 r=>k p aJ H' (g0.trans g) (g0.big.free n1) n2 r⟩
theorem Va {wi:TI}(hc:X.calm=true)(B:ia X N ix x sc)(hi:PI X (.Name x px) iter wi)(sE:IJ X G dl n zs wi)(i9:IE X N sc dl ix elt n zs ys)(TJ:ys.length=n)(hn:n<=sizeLine)(hs:∀ z,foldedSetIterable iter X.env z=pure z:=by intro _;rfl):EO X G dl (.ListComp elt [⟨.Name x px,iter,[],0⟩] sc pos) (.lst ys):=gL (U7 hc B hi (IF i9) hs) (Bk sE TJ hn)
theorem OO (nN:Nat){wi:TI}(hc:X.calm=true)(hN:X.N.Nodup)(B:ia X N ix x sc)(hi:PI X (.Name x px) iter wi)(sE:IJ X G dl n zs wi)(i9:IE X N sc dl ix elt n zs ys)(TJ:ys.length=n)(hn:n<=sizeLine)(hs:∀ z,foldedSetIterable iter X.env z=pure z:=by intro _;rfl)(II:swapsWith (.ListComp elt [⟨.Name x px,iter,[],0⟩] sc pos) (some (.Name y py)) rb.line X.env=pure true:=by rfl)(hy:X.N[nN]?=some y:=by rfl)(hl:Loc X.env.scope y:=by first | exact aaK rfl | exact aaD rfl)(hf:X.fn y=true\/X.env.scope.names.lookup y=some .local:=by first | exact .inl rfl | exact .inr rfl | assumption):ES X G E dl (.Assign [.Name y py] (.ListComp elt [⟨.Name x px,iter,[],0⟩] sc pos) rb) (.nx (dl.set nN (.own (.lst ys)))):=
 sk (U8 hc B hi (IF i9) hs II hN hy hl hf) fun D st H zq=>Bn zq fun Hf zq=>have S:=zq.1;have k:=zq.2;Bk sE TJ hn st H _ ⟨Hf,S,fun p aJ H' g n1 n2 r=>k _ aJ H' g.bG (S.Mv g n1 n2 r)⟩
end
theorem C0 {α:Type}{us:List α}{d:α}(h:(us ++ [d]).length=2):∃ a,us=[a]:=by
 match us,h with
 | [a],_=>exact⟨a,rfl⟩
 | [],h=>simp at h
 | _::_::r,h=>simp at h
theorem zw {α:Type}{us:List α}(h:(us ++ []).length=2):∃ a b,us=[a,b]:=by
 rw[aa3] at h
 match us,h with
 | [a,b],_=>exact⟨a,b,rfl⟩
structure Bl (K:W.Frag)(x qual:Str)(st:Stmt)(f:Addr)(fd:FuncData):Prop where
 ex:∃ (oc:Value) (od:Option Addr) (dV kV doc pm:Value) (an:Option Addr) (bo ct:Value) (yj:Array (Option Value)),
   fd=W.fnOf x qual (cg st) (aE st) (af st) dV kV doc pm an bo ct/\K.lookup f=some ⟨oc,od,.func fd,yj⟩/\W.codeIn K bo qual=true
theorem rg {K:W.Frag}{x qual:Str}{st:Stmt}{f:Addr}{oc:Value}{od an:Option Addr}{yj:Array (Option Value)}{dV kV doc pm bo ct:Value}(l:K.lookup f=some ⟨oc,od,.func (W.fnOf x qual (cg st) (aE st) (af st) dV kV doc pm an bo ct),yj⟩)(c:W.codeIn K bo qual=true):Bl K x qual st f (W.fnOf x qual (cg st) (aE st) (af st) dV kV doc pm an bo ct):=⟨⟨oc,od,dV,kV,doc,pm,an,bo,ct,yj,rfl,l,c⟩⟩
section
variable {P:Program}{w:World}{K:W.Frag}{mg:Str->Option Value}{base:Heap}{CX:sd}{x qual:Str}{st:Stmt}{f:Addr}{fd:FuncData}{N ps:List Str}{k n:Nat}
theorem Xb {R:List Dt->Res->Prop}(F:Bl K x qual st f fd)(S:aq N ps (af st))(hn:ps.length=n)(qR:∀ (bo:Value) (A:Around) (outer:List Env) (s:Shared) (H:Hp) (E:XK) (G:Gr) (ds:List Dt) (r:Res),eZ k (A.deeper (envOfC qual (af st) s.heap.objs.size f bo))->ds.length=n->R ds r->∃ o,Comes o r/\m8 (A1 CX P w K mg base N qual (af st) f bo A outer s H E) G E (slots N ds) (aE st) o):ke P w K mg base CX (k+1) f fd ps (Ek K n R):=by
 obtain⟨oc,od,dV,kV,doc,pm,an,bo,ct,yj,rfl,lk,mz⟩:=F.ex
 refine HS lk mz S (fun vs H Q E ⟨Hf,ds,r,s,rp,hl,_⟩=>by rw[rp.length,hl,hn]) fun A outer s H vs Q E hr ⟨Hf,ds,r,sm,rp,hl,hR,hk⟩=>?_
 obtain⟨o,hc,hb⟩:=qR bo A outer s H E ⟨Hf,H⟩ ds r hr hl hR
 exact⟨_,hb,Hf,yn sm rp,hc.ends hk⟩
def Yw (K:W.Frag)(C:Addr)(Hf H:Hp)(x:Addr)(Q:VK)(E:XK):Res->Prop
 | .own w=>((∃ fs,w=.obj C fs)\/∃ fs gs nm n,w=.sj C fs gs nm n)/\∀ aJ H',bx Hf H aJ H'->aJ x=none->hZ K aJ H' x w->Q .cS H'
 | .exc c fs=>∀ od aJ H',bx Hf H aJ H'->ExcAt K aJ od fs->E c od H'
 | .ret _=>False
def spI (K:W.Frag)(C:Addr)(n:Nat)(R:List Dt->Res->Prop):Sp:=fun vs H Q E=>∃ Hf H1 x dx args ds r,vs=.ref x::args/\H=upd H1 x (.ins C dx [])/\H1 x=none/\aF Hf H1/\bH K Hf args ds/\ds.length+1=n/\R ds r/\Yw K C Hf H1 x Q E r
inductive zx (C x:Addr):Out->Res->Prop
 | nx {dl:List Slot} {fs:List (Str×Dt)} (h:dl[0]?=some (.own (.Be x C fs))):zx C x (.nx dl) (.own (.obj C fs))
 | ex (c:Value) (fs:List (Str×Dt)):zx C x (.ex c fs) (.exc c fs)
 | Yx {dl:List Slot} {fs:List (Str×Dt)} {gs:List (Nat->List (Key×FD))} {nm:List Str} {n:Nat} (h:dl[0]?=some (.own (.zj x C fs gs nm n))):zx C x (.nx dl) (.own (.sj C fs gs nm n))
noncomputable def sF (N:List Str)(x C:Addr)(ds:List Dt):List Slot:=.own (.Be x C [])::(ds.map Slot.val ++ aan (N.length - (ds.length+1)) .br)
theorem C1 {Hf H:Hp}{vs:List V}{ds:List Dt}{x dx C:Addr}(s:aF Hf H)(n:H x=none)(r:bH K Hf vs ds):dX K ⟨Hf,H⟩ (start N (.ref x::vs)) Hf (upd H x (.ins C dx [])) (sF N x C ds):=by
 have hl:=r.length
 have es:start N (V.ref x::vs)=some (.ref x)::(vs.map some ++ aan (N.length - (vs.length+1)) none):=by
   unfold L2.start
   simp
 have yS:∀ (i:Nat) o,(sF N x C ds)[i+1]?≠some (.own o):=fun i o h=>by
   unfold sF at h
   rw[aa5] at h
   by_cases hi:i < ds.length
   . rw[aaC (by simpa using hi),aab] at h
     cases e:ds[i]? with
     | none=>rw[e] at h;cases h
     | some a=>rw[e] at h;cases h
   . rw[aaE (by simpa using hi),aaV] at h
     split at h <;> cases h
 rw[es]
 refine⟨.fJ s n,?_,fun i d h=>?_,fun i o h=>?_,fun i j o o' a h h' _ _=>?_⟩
 . unfold sF
   simp[hl]
 . cases i with
   | zero=>cases h
   | succ i=>
     unfold sF at h
     rw[aa5] at h ⊢
     by_cases hi:i < ds.length
     . rw[aaC (by simpa using hi),aab] at h
       cases e:ds[i]? with
       | none=>rw[e] at h;cases h
       | some a=>
         rw[e] at h;cases h
         obtain⟨v,h1,h2⟩:=r.get e
         refine⟨v,?_,h2⟩
         rw[aaC (by simp;omega),aab,h1];rfl
     . rw[aaE (by simpa using hi),aaV] at h
       split at h <;> cases h
 . cases i with
   | zero=>
     cases h
     exact⟨x,rfl,s.free n,n,rfl,dx,[],ak,.nil⟩
   | succ i=>exact absurd h (yS i o)
 . cases i with
   | zero=>cases j with
     | zero=>rfl
     | succ j=>exact absurd h' (yS j _)
   | succ i=>exact absurd h (yS i _)
theorem Xc {C:Addr}{R:List Dt->Res->Prop}(F:Bl K x qual st f fd)(S:aq N ps (af st))(hn:ps.length=n)(qR:∀ (bo:Value) (A:Around) (outer:List Env) (s:Shared) (H:Hp) (E:XK) (G:Gr) (z:Addr) (ds:List Dt) (r:Res),eZ k (A.deeper (envOfC qual (af st) s.heap.objs.size f bo))->ds.length+1=n->R ds r->∃ o,zx C z o r/\m8 (A1 CX P w K mg base N qual (af st) f bo A outer s H E) G E (sF N z C ds) (aE st) o):ke P w K mg base CX (k+1) f fd ps (spI K C n R):=by
 obtain⟨oc,od,dV,kV,doc,pm,an,bo,ct,yj,rfl,lk,mz⟩:=F.ex
 refine HS lk mz S (fun vs H Q E ⟨Hf,H1,z,dx,args,ds,r,e,_,_,_,rp,hl,_⟩=>by rw[e,aaN,rp.length,hl,hn]) fun A outer s H vs Q E hr ⟨Hf,H1,z,dx,args,ds,r,e1,e2,hz,sm,rp,hl,hR,hk⟩=>?_
 subst e1 e2
 obtain⟨o,hc,hb⟩:=qR bo A outer s _ E ⟨Hf,H1⟩ z ds r hr hl hR
 refine⟨_,hb,Hf,C1 sm hz rp,?_⟩
 cases hc with
 | nx h=>
   obtain⟨_,kk⟩:=hk
   intro jD aJ H' s' S'
   obtain⟨a,_,q2,_,q4⟩:=S'.own 0 _ h
   obtain⟨rfl,dx',fs',q5,q6⟩:=q4
   exact kk aJ H' S'.gr q2 ⟨dx',fs',q5,q6⟩
 | Yx h=>
   obtain⟨_,kk⟩:=hk
   intro jD aJ H' s' S'
   obtain⟨a,_,q2,_,q4⟩:=S'.own 0 _ h
   obtain⟨rfl,q5⟩:=q4
   exact kk aJ H' S'.gr q2 q5
 | ex c fs=>exact hk
end
noncomputable def putD (f:Str)(v:Dt):List (Str×Dt)->List (Str×Dt)
 | []=>[(f,v)]
 | (g,x)::r=>if g=f then (g,v)::r else (g,x)::putD f v r
theorem bg.put {K:W.Frag}{H:Hp}{f:Str}{v:V}{d:Dt}(q:Rep K H v d):∀ {vs:List (Str×V)} {ds:List (Str×Dt)},bg K H vs ds->bg K H (fA f v vs) (putD f d ds)
 | _,_,.nil=>.cons q .nil
 | (k,x)::vs,(_,y)::ds,.cons h r=>by
   unfold fA putD
   by_cases e:k=f
   . rw[if_pos e,if_pos e];exact .cons q r
   . rw[if_neg e,if_neg e];exact .cons h (bg.put q r)
section
variable {X:Cx}{G:Gr}{E:XK}{dl:List Slot}{e c:Expr}{es:List Expr}{d:Dt}{ds:List Dt}{pos p apos:Pos}{x m:Str}{C z:Addr}{fs:List (Str×Dt)}{CX:sd}{k k' n:Nat}{R:List Dt->Res->Prop}{ob:Expr}{wo:Own}{dvs:List Dt}{body:List Stmt}
theorem ky {fn:Str}{pn:Pos}(he:EE X G dl e d)(cl:uG X.K C)(na:bL X.K C fn)(hd:dl[0]?=some (.own (.Be z C fs)):=by rfl)(hl:Nat.ble fs.length 999=true:=by rfl)(hN:X.N[0]?=some x:=by rfl)(hv:vo X.env.scope x:=by first | exact aaK rfl | exact aaD (aaK rfl) | exact aaD (aaD rfl))(mW:(x == ("__debug__":Str))=false:=by decide)(mz:(x == ("__classdict__":Str))=false:=by decide)(hs:swapsWith e (some (.Attribute (.Name x pn) fn apos)) pos.line X.env=pure false:=by rfl):ES X G E dl (.Assign [.Attribute (.Name x pn) fn apos] e pos) (.nx (dl.set 0 (.own (.Be z C (putD fn d fs))))):=
 sk (vw (vM (p:=pn) 0 hd hN hv mW mz) he hs) fun D st H zq=>Bn zq fun Hf zq=>have S:=zq.1;have k:=zq.2;⟨Hf,S,fun v Hf1 H1 g1 r1=>by
   have S1:=S.grow g1
   obtain⟨a,q1,q2,q3,q4⟩:=S1.own 0 _ hd
   obtain⟨e1,dx,fv,q5,q6⟩:=id q4
   refine⟨Hf1,a,S1,q1,q2,q4,a,C,dx,fv,rfl,q5,cl,na,by rw[q6.length];exact Nat.lt_succ_of_le (aaM hl),?_⟩
   exact k st Hf1 _ g1.bG (S1.Gj hd q1 ⟨e1,dx,_,ak,q6.put r1⟩)⟩
structure TL (P:Program)(w:World)(K:W.Frag)(mg:Str->Option Value)(base:Heap)(CX:sd)(k:Nat)(x:Str)(C:Addr)(n:Nat)(R:List Dt->Res->Prop):Prop where
 ex:∃ f fd ps,ke P w K mg base CX k f fd ps (spI K C n R)/\L2.Mk K C f/\mg x=some (.ref C)/\Binds K fd ps []
theorem uK (F:TL X.prog X.w X.K X.mg X.base CX k x C n R)(nx:CY CX)(hr:eZ k' X.A)(ha:EA X G dl (e::es) ds)(h:R ds (.own (.obj C fs)))(Bg:k+1<=k':=by decide)(hl:ds.length+1=n:=by rfl)(hg:Gl X x:=by rfl)(mW:(x == ("__debug__":Str))=false:=by decide)(he:starEach (e::es) X.env=(false,eval e X.env)::starEach es X.env:=by rfl)(o6:(backTo pos (starEach es X.env)).any (·.1)=false:=by rfl):EO X G dl (.Call (.Name x p) (e::es) [] pos) (.obj C fs):=by
 obtain⟨f,fd,ps,Fo,M,hm,hb⟩:=F.ex
 refine gL (D9 (E:=E0) M Fo (hr.mono Bg) hg hm hb .nil nx.passes ha mW he o6) fun st H Q zq=>Bn zq fun Hf zq=>have S:=zq.1;have kk:=zq.2;⟨Hf,S,fun vs Hf1 H1 g1 r1 y dx hy Vb ne=>?_⟩
 have UB:(upd H1 dx (.own y)) y=none:=by rw[aj (Ne.symm ne)];exact hy
 have g2:bx Hf1 H1 Hf1 (upd H1 dx (.own y)):=.fJ g1.sub Vb
 refine⟨Hf1,upd H1 dx (.own y),y,dx,vs ++ [],ds,.own (.obj C fs),rfl,rfl,UB,g2.sub,by rw[aa3];exact r1,hl,h,.inl ⟨fs,rfl⟩,fun aJ H' g n1 r=>⟨rfl,?_⟩⟩
 exact kk y aJ H' ((g1.trans g2).trans g) (g1.big.free hy) n1 r
theorem Bm {gs:List (Nat->List (Key×FD))}{nm:List Str}{j:Nat}(F:TL X.prog X.w X.K X.mg X.base CX k x C n R)(nx:CY CX)(hr:eZ k' X.A)(ha:EA X G dl (e::es) ds)(h:R ds (.own (.sj C fs gs nm j)))(Bg:k+1<=k':=by decide)(hl:ds.length+1=n:=by rfl)(hg:Gl X x:=by rfl)(mW:(x == ("__debug__":Str))=false:=by decide)(he:starEach (e::es) X.env=(false,eval e X.env)::starEach es X.env:=by rfl)(o6:(backTo pos (starEach es X.env)).any (·.1)=false:=by rfl):EO X G dl (.Call (.Name x p) (e::es) [] pos) (.sj C fs gs nm j):=by
 obtain⟨f,fd,ps,Fo,M,hm,hb⟩:=F.ex
 refine gL (D9 (E:=E0) M Fo (hr.mono Bg) hg hm hb .nil nx.passes ha mW he o6) fun st H Q zq=>Bn zq fun Hf zq=>have S:=zq.1;have kk:=zq.2;⟨Hf,S,fun vs Hf1 H1 g1 r1 y dx hy Vb ne=>?_⟩
 have UB:(upd H1 dx (.own y)) y=none:=by rw[aj (Ne.symm ne)];exact hy
 have g2:bx Hf1 H1 Hf1 (upd H1 dx (.own y)):=.fJ g1.sub Vb
 refine⟨Hf1,upd H1 dx (.own y),y,dx,vs ++ [],ds,.own (.sj C fs gs nm j),rfl,rfl,UB,g2.sub,by rw[aa3];exact r1,hl,h,.inr ⟨fs,gs,nm,j,rfl⟩,fun aJ H' g n1 r=>⟨rfl,?_⟩⟩
 exact kk y aJ H' ((g1.trans g2).trans g) (g1.big.free hy) n1 r
theorem Bo (F:GF X.prog X.w X.K X.mg X.base CX k x n R)(nx:CY CX)(hr:eZ k' X.A)(ha:EA X G dl (e::es) ds)(h:R ds (.own wo))(Bg:k<=k':=by decide)(hl:ds.length=n:=by rfl)(hg:Gl X x:=by rfl)(mW:(x == ("__debug__":Str))=false:=by decide)(he:starEach (e::es) X.env=(false,eval e X.env)::starEach es X.env:=by rfl)(o6:(backTo pos (starEach es X.env)).any (·.1)=false:=by rfl):EO X G dl (.Call (.Name x p) (e::es) [] pos) wo:=by
 obtain⟨f,fd,ps,F,hm,hk,hb⟩:=F.ex
 exact gL (D7 (E:=E0) F (hr.mono Bg) hg hm hk hb .nil nx.passes ha mW he o6) fun st H Q zq=>Bn zq fun Hf zq=>have S:=zq.1;have k:=zq.2;⟨Hf,S,fun vs Hf1 H1 g1 r1=>⟨Hf1,ds,.own wo,g1.sub,by rw[aa3];exact r1,hl,h,fun p bX H2 g2 n1 n2 r2=>k p bX H2 (g1.trans g2) (g1.big.free n1) n2 r2⟩⟩
structure MA (P:Program)(w:World)(K:W.Frag)(mg:Str->Option Value)(base:Heap)(CX:sd)(k:Nat)(C:Addr)(m:Str)(n:Nat)(dvs:List Dt)(R:List Dt->Res->Prop):Prop where
 cl:uG K C
 ex:∃ f fd ps Ho vds,ke P w K mg base CX k f fd ps (Ek K n R)/\Meth K C m f/\Binds K fd ps Ho/\Vals vds Ho/\∀ H,bH K H vds dvs
theorem MB {P:Program}{w:World}{K:W.Frag}{mg:Str->Option Value}{base:Heap}(F:MF P w K mg base CX k C m n R):MA P w K mg base CX k C m n [] R:=by
 obtain⟨f,fd,ps,Fo,hm,hb⟩:=F.ex
 exact⟨F.cl,f,fd,ps,[],[],Fo,hm,hb,.nil,fun _=>.nil⟩
theorem yr {pl:Sem Bool}(he:EE X G dl ob (.obj C fs))(F:MA X.prog X.w X.K X.mg X.base CX k C m n dvs R)(nx:CY CX)(hr:eZ k' X.A)(ha:EA X G dl (e::es) ds)(h:R (.obj C fs::(ds ++ dvs)) (.own wo))(Bg:k<=k':=by decide)(hl:(Dt.obj C fs::(ds ++ dvs)).length=n:=by rfl)(uI:fs.lookup m=none:=by rfl)
   (mV:starEach (e::es) X.env=(false,eval e X.env)::starEach es X.env:=by rfl) (o6:(backTo pos (starEach es X.env)).any (·.1)=false:=by rfl)
   (ht:eval (.Call (.Attribute ob m apos) (e::es) [] pos) X.env=(do
     let ov <- eval ob X.env
     standAt apos.atName
     let (f,first) <- holding [ov] (getMethod ov m pl)
     callWith pos f first (backTo pos (starEach (e::es) X.env)) (backToKw pos (keywordEach [] X.env))):=by rfl):EO X G dl (.Call (.Attribute ob m apos) (e::es) [] pos) wo:=by
 obtain⟨f,fd,ps,Ho,vds,Fo,hm,hb,hd,Gm⟩:=F.ex
 exact gL (D8 (pl:=pl) (E:=E0) he F.cl hm Fo (hr.mono Bg) hb hd nx.passes ha mV o6 ht) fun st H Q zq=>Bn zq fun Hf zq=>have S:=zq.1;have k:=zq.2;⟨Hf,S,fun v Hf1 H1 g1 r1=>by
   cases r1 with
   | @obj a _ dx fv _ q r=>
     exact⟨a,dx,fv,rfl,il g1.sub q,r.none_of uI,Hf1,S.grow g1,fun vs bX H2 g2 r2=>⟨bX,_,.own wo,g2.sub,.cons (.obj (il g2.bG q) (r.mono g2.bG)) (r2.append (Gm _)),hl,h,fun p jA H3 g3 n1 n2 r3=>k p jA H3 ((g1.trans g2).trans g3) ((g1.trans g2).big.free n1) n2 r3⟩⟩⟩
theorem C3 {pl:Sem Bool}(he:EE X G dl ob (.obj C fs))(F:MA X.prog X.w X.K X.mg X.base CX k C m n dvs R)(nx:CY CX)(hr:eZ k' X.A)(ha:EA X G dl (e::es) ds)(h:R (.obj C fs::(ds ++ dvs)) (.ret d))(Bg:k<=k':=by decide)(hl:(Dt.obj C fs::(ds ++ dvs)).length=n:=by rfl)(uI:fs.lookup m=none:=by rfl)
   (mV:starEach (e::es) X.env=(false,eval e X.env)::starEach es X.env:=by rfl) (o6:(backTo pos (starEach es X.env)).any (·.1)=false:=by rfl)
   (ht:eval (.Call (.Attribute ob m apos) (e::es) [] pos) X.env=(do
     let ov <- eval ob X.env
     standAt apos.atName
     let (f,first) <- holding [ov] (getMethod ov m pl)
     callWith pos f first (backTo pos (starEach (e::es) X.env)) (backToKw pos (keywordEach [] X.env))):=by rfl):EE X G dl (.Call (.Attribute ob m apos) (e::es) [] pos) d:=by
 obtain⟨f,fd,ps,Ho,vds,Fo,hm,hb,hd,Gm⟩:=F.ex
 exact El (pl:=pl) he F.cl hm Fo nx (hr.mono Bg) hb hd Gm ha hl h uI mV o6 ht
theorem Ex {pl:Sem Bool}(he:EE X G dl ob (.obj C fs))(F:MA X.prog X.w X.K X.mg X.base CX k C m n dvs R)(nx:CY CX)(hr:eZ k' X.A)(h:R (.obj C fs::dvs) (.ret d))(Bg:k<=k':=by decide)(hl:(Dt.obj C fs::dvs).length=n:=by rfl)(uI:fs.lookup m=none:=by rfl)
   (ht:eval (.Call (.Attribute ob m apos) [] [] pos) X.env=(do
     let ov <- eval ob X.env
     standAt apos.atName
     let (f,first) <- holding [ov] (getMethod ov m pl)
     callWith pos f first (backTo pos (starEach [] X.env)) (backToKw pos (keywordEach [] X.env))):=by rfl):EE X G dl (.Call (.Attribute ob m apos) [] [] pos) d:=by
 obtain⟨f,fd,ps,Ho,vds,Fo,hm,hb,hd,Gm⟩:=F.ex
 exact Bf (pl:=pl) he F.cl hm Fo nx (hr.mono Bg) hb hd Gm hl h uI ht
def Vc (X:Cx)(G:Gr)(c:Expr):TT:=fun st H Q=>∃ dl b,EB X G dl c b/\UM X.K G dl b st H Q
theorem MC:PT X c (Vc X G c):=fun pins s st H Q I ⟨dl,b,h,q⟩=>h pins s st H Q I q
theorem IL (S:Nat->List Slot)(n:Nat)(hp:PassesOwn (model X.prog X.w) X.A X.env X.xe)(h0:Le (S 0) dl)(hc:∀ k,k < n->EB X G (S k) c true)(hn:EB X G (S n) c false)(hb:∀ k,k < n->Goes X G E body (S k) (S (k+1))):ES X G E dl (.While c body [] pos) (.nx (S n)):=by
 refine sk (AX hp (MC (G:=G)) (qY (G:=G) (E:=E))) fun D st H ⟨Hf,S0,k⟩=>?_
 refine⟨fun m st H=>∃ i,m=n - i/\i<=n/\∃ Hf1,aF Hf Hf1/\dX X.K G st Hf1 H (S i),⟨n,0,rfl,aaW _,Hf,aF.refl _,S0.weak h0⟩,?_⟩
 rintro m Xd H1 ⟨i,rfl,hi,Hf1,s1,S1⟩
 by_cases dn:i < n
 . refine⟨S i,true,hc i dn,Hf1,S1,fun bX H2 g2=>zh ⟨fun jD H'=>∃ jA,aF Hf jA/\dX X.K G jD jA H' (S (i+1)),fun jD H' h'=>⟨n - (i+1),by omega,i+1,rfl,dn,h'⟩,?_⟩⟩
   exact pk (hb i dn) (S1.grow g2) (fun WZ jA H3 s3 S3=>⟨jA,(s1.trans g2.bG).trans s3,S3⟩) (fun WZ jA H3 s3 S3=>⟨jA,(s1.trans g2.bG).trans s3,S3⟩)
 . have e:i=n:=by omega
   subst e
   exact⟨S i,false,hn,Hf1,S1,fun bX H2 g2=>zg (k _ bX H2 (s1.trans g2.bG) (S1.grow g2))⟩
end
noncomputable def vO (sc Bp:Scope)(XN N:List Str)(ix:List Nat)(x:Str):Bool:=
 decide N.Nodup && (decide (N=x::ix.map (fun j=>XN.getD j "")) && (decide (sc.kind=.function) && (sc.names.all (fun y=>decide (y.2≠.cell)) && (sc.names.all (fun y=>decide (y.2=.local->sc.names.lookup y.1=some .local)) && (decide (sc.names.lookup x=some .local) &&
   (sc.names.all (fun y=>decide (y.2=.free->Bp.names.lookup y.1=some .cell\/Bp.names.lookup y.1=some .free)) && ix.all (fun j=>decide (sc.names.lookup (XN.getD j "")=some .free) && decide (j < XN.length))))))))
theorem C4 {X:Cx}{sc Bp:Scope}{XN N:List Str}{ix:List Nat}{x:Str}(h:vO sc Bp XN N ix x=true)(e1:X.env.scope=Bp:=by rfl)(e2:X.N=XN:=by rfl):ia X N ix x sc:=by
 subst e1 e2
 unfold vO at h
 simp only[aaS,abO,decide_eq_true_eq] at h
 obtain⟨h1,h2,h3,h4,h5,h6,h7,h8⟩:=h
 refine⟨h1,h2,h3,h4,h5,h6,h7,fun j hj=>?_⟩
 obtain⟨q1,q2⟩:=h8 j hj
 refine⟨X.N.getD j "",?_,q1⟩
 rw[YO,k3 q2];rfl
noncomputable def eLc:Expr->Scope
 | .ListComp _ _ sc _=>sc
 | .Call _ (.ListComp _ _ sc _::_) _ _=>sc
 | _=>{ kind:=.function,names:=[],isGenerator:=false,isCoroutine:=false}
noncomputable def OP:Stmt->Scope
 | .Assign _ e _=>eLc e
 | .Return (some e) _=>eLc e
 | _=>{ kind:=.function,names:=[],isGenerator:=false,isCoroutine:=false}
theorem vP (k:Str):∀ xs:List Str,Uy (.str k) (xs.map V.str)=decide (k∈xs)
 | []=>by simp[Uy]
 | x::xs=>by
   have ih:=vP k xs
   unfold Uy at ih ⊢
   rw[aau,abC,ih]
   by_cases e:x=k
   . subst e;simp[LC]
   . have:¬ (k=x):=fun z=>e z.symm
     simp[LC,e,this]
theorem yt (xs:List Str):(xs.map V.str).all qS=true:=by
 induction xs with
 | nil=>rfl
 | cons x xs ih=>rw[aau,abP,ih];rfl
section
variable {X:Cx}{G:Gr}{dl:List Slot}{a b:Expr}{pos:Pos}{k:Str}{xs:List Str}
theorem OQ {neg:Bool}:CA X.K (W2 X.K neg) (.str k) (.tup (xs.map .str)) (.bl (if neg then !decide (k∈xs) else decide (k∈xs))):=fun v w Hf H Q s r1 r2 kk=>by
 cases r1
 cases r2 with
 | @tup q vs _ hq rp=>
   have ev:=pq rp
   subst ev
   refine⟨q,_,rfl,.inr (de s hq),rfl,yt xs,?_⟩
   rw[vP]
   exact kk _ Hf H (.refl s) (.bl _)
theorem C5 (ha:EE X G dl a (.str k))(hb:EE X G dl b (.tup (xs.map .str)))(hm:behindInMarks .In b=false:=by rfl):EB X G dl (.Compare a [.In] [b] pos) (decide (k∈xs)):=lF yk (OQ (neg:=false)) hm ha hb
theorem Ey (ha:EE X G dl a (.str k))(hb:EE X G dl b (.tup (xs.map .str)))(hm:behindInMarks .NotIn b=false:=by rfl):EB X G dl (.Compare a [.NotIn] [b] pos) (!decide (k∈xs)):=lF qU (OQ (neg:=true)) hm ha hb
end
theorem Bq {P:Program}{w:World}{A:Around}{R:Result->Shared->Prop}{s:Shared}{elt tg iter:Expr}{ifs:List Expr}{sc:Scope}{pos:Pos}{it acc:Value}{env:Env}(J:Nat->Shared->Prop)
   (turn:∀ n s,J n s->wpAny (model P w) A (pyNext it) (fun r s1=>match r with
     | none=>R (.ok .next) s1
     | some v=>wpAny (model P w) A (letOwnedTupleGo tg it v) (fun _ s2=>wpAny (model P w) A (assign tg env v) (fun _ s3=>
         wpAny (model P w) A (forIn ifs true fun c r=>if r=true then do let ok <- isTrue c env (eval c env);pure (ForInStep.yield ok) else pure (ForInStep.yield r)) (fun ok Yy=>
         if ok=true then wpAny (model P w) A (eval elt env) (fun x s4=>wpAny (model P w) A (call (.builtin "list.append") [acc,x]) (fun _ s5=>∃ m,m < n/\J m s5) xE s4) xE Yy
         else ∃ m,m < n/\J m Yy) xE s3) xE s2) xE s1) xE s)
   (n:Nat) (h:J n s):codeAny (model P w) A (.compLoop (.ListComp elt [⟨tg,iter,ifs,0⟩] sc pos) 0 it acc env) R s:=by
 have off:∀ {B:Value->Shared->Prop} (x:Value) (s':Shared),xE x s'->B x s':=fun _ _ z=>z.elim
 refine codeAny_loop rfl J (fun n s hJ=>?_) n h
 show wpAny _ A ((compTurn (.ListComp elt [⟨tg,iter,ifs,0⟩] sc pos) 0 it acc env).onRaise (fun x=>(do noteFrame x env;theTreesLotGoes x))) _ _ s
 refine wpAny_noted ?_
 rw[compTurn_list]
 refine wpAny_bind (wpAny_standAt (wpAny_bind (wpAny_mono (turn n s hJ) (fun r s1 h1=>?_) off)))
 cases r with
 | none=>exact wpAny_pure h1
 | some v=>
   refine wpAny_bind (wpAny_mono h1 (fun _ s2 h2=>wpAny_bind (wpAny_mono h2 (fun _ s3 h3=>wpAny_bind (wpAny_mono h3 (fun ok Yy h3'=>?_) off)) off)) off)
   cases ok with
   | false=>exact wpAny_pure ⟨rfl,h3'⟩
   | true=>exact wpAny_bind (wpAny_bind (wpAny_mono h3' (fun x s4 h4=>wpAny_bind (wpAny_mono h4 (fun _ s5 h5=>wpAny_pure (wpAny_pure ⟨rfl,h5⟩)) off)) off))
structure ua (X:Cx)(N tn:List Str)(ix:List Nat)(sc:Scope):Prop where
 nd:N.Nodup
 nm:N=tn ++ ix.map (fun j=>X.N.getD j "")
 kind:sc.kind=.function
 vK:∀ y∈sc.names,y.2≠.cell
 names:∀ y∈sc.names,y.2=.local->sc.names.lookup y.1=some .local
 hx:∀ x∈tn,sc.names.lookup x=some .local
 fr:∀ y∈sc.names,y.2=.free->X.env.kindOf y.1=some .cell\/X.env.kindOf y.1=some .free
 UT:∀ j∈ix,∃ y,X.N[j]?=some y/\sc.names.lookup y=some .free
section
variable {X:Cx}{N tn:List Str}{ix:List Nat}{sc:Scope}{pins:List (Addr×Obj)}{st:L2.St}{H H':Hp}{s s':Shared}{C D:Addr}{fp:List Addr}{h1:Heap}
theorem Ez (B:ua X N tn ix sc)(ok:X.Ok):closureFor sc X.env=pure (lQ sc X.env):=zu fun y hy hk=>ok.has y.1 (B.fr y hy hk)
theorem rh (B:ua X N tn ix sc)(ok:X.Ok){y:Str}{c:Addr}(h:(lQ sc X.env).lookup y=some c):X.env.cells.lookup y=some c/\(y,NameKind.free)∈sc.names:=by
 rcases q8 _ _ h with⟨h1,h2⟩ | h1
 . obtain⟨c',h3⟩:=ok.has y (B.fr _ h1 rfl)
   rw[h3] at h2
   cases h2
   exact⟨h3,h1⟩
 . cases h1
theorem uL (B:ua X N tn ix sc)(I:L2.Inv X pins st H s)(hC:s.heap.objs.size<=C)(hf:∀ b∈fp,lE X pins H b)(dn:∀ b∈fp,b < s.heap.objs.size):(bc X N sc C fp s H).Ok where
 mod:=I.ok.mod
 kind:=B.kind
 glob:=I.ok.glob
 blt:=I.ok.blt
 above:=hC
 inj:=fun y z c h1 h2=>I.ok.inj y z c (rh B I.ok h1).1 (rh B I.ok h2).1
 has:=fun y hy=>by
   have hy:(relabel sc X.env).names.lookup y=some .cell\/(relabel sc X.env).names.lookup y=some .free:=hy
   have:(y,NameKind.free)∈sc.names:=by
     rcases hy with hy | hy
     . obtain⟨k',h1,h2⟩:=fY hy
       rcases h2 with h2 | h2
       . subst h2;exact absurd rfl (B.vK _ h1)
       . subst h2;exact h1
     . obtain⟨k',h1,h2⟩:=fY hy
       rcases h2 with h2 | h2 <;> subst h2 <;> exact h1
   exact kf _ _ (.inl this)
 Tv:=fun y c h=>by cases h
 hd:=I.ok.hd
 frames:=I.ok.frames
 T3:=.inl rfl
 LR:=fun b hb=>⟨aaw (aaq (dn b hb) hC),fun y c h=>(hf b hb).2.2.2.2.1 y c (rh B I.ok h).1⟩
 bs:=I.bs
 DY:=aaA I.ok.DY I.sz
 AQ:=fun b o e hb=>by
   rcases (hf b hb).2.2.2.1 with z | z
   . exact I.ok.AQ b o e z
   . exact absurd (aaq (aap e) (aaA I.ok.DY z)) (aa8 _)
 AR:=fun b hb z=>by
   rcases aaH.mp (I.vp b z) with z | z
   . exact(hf b hb).2.1 z
   . exact(hf b hb).2.2.1 z
 rY:=I.stack
 Ov:=I.uD
theorem C6 (B:ua X N tn ix sc)(I:L2.Inv X pins st H s)(hf:∀ b∈fp,lE X pins H b)(dn:∀ b∈fp,b < s.heap.objs.size)(hC:C=s.heap.objs.size+1)(k:∀ b o,s.heap.get? b=some o->h1.get? b=some o)(hn:h1.Ns C fun _=>none)(hD:h1.get? s.heap.objs.size=some { cls:=.type "list",data:=.seq ([]:List Value).toArray 0}){t':Nat}:L2.Inv (bc X N sc C fp s H) [] (aan tn.length none ++ frees ix st) (upd H s.heap.objs.size (.lst [])) { s with heap:=h1,toks:=t'}:=by
 have OM:s.heap.objs.size<=C:=by rw[hC];exact abf _
 have fr:∀ a,s.heap.objs.size<=a->H a=none:=fun a ha=>I.bu.fresh ha
 have ok:=uL B I OM hf dn
 have Cv:∀ y c,(lQ sc X.env).lookup y=some c->H c=none/\c < s.heap.objs.size/\∃ v,s.heap.IsCell c v:=fun y c h=>by
   have h:=(rh B I.ok h).1
   obtain⟨v,q⟩:=I.cell y c h
   exact⟨I.p8 y c h,q.lt,v,q⟩
 refine⟨ok,rfl,I.bare,Un.laid k (aaa _) (fr _ (aaa _)),⟨_,hn,fun i y v e1 e2 e3=>?_⟩,fun y c h=>?_,?_,fun y c h=>?_,fun p hp=>absurd (show p∈([]:List (Addr×Obj)) from hp) (by simp),?_,?_⟩
 . have e1:N[i]?=some y:=e1
   by_cases hi:i < tn.length
   . rw[aaC (by simpa using hi),aaV,if_pos hi] at e2
     cases e2
   . have hi:tn.length<=i:=abN hi
     rw[B.nm,aaE hi,aab] at e1
     rw[aaE (by simpa using hi),List.length_replicate] at e2
     unfold frees at e2
     rw[aab] at e2
     cases q:ix[i - tn.length]? with
     | none=>rw[q] at e1;cases e1
     | some j=>
       rw[q] at e1 e2
       obtain⟨y',LD,Iw⟩:=B.UT j (abj q)
       have Mu:=PySem.mem_of_lookup Iw
       have ey:y=y':=by
         have e1:X.N.getD j ""=y:=Option.some.inj e1
         rw[YO,LD] at e1
         exact e1.symm
       subst ey
       have e2:(st[j]?).join=some v:=Option.some.inj e2
       have UU:st[j]?=some (some v):=by
         cases q2:st[j]? with
         | none=>rw[q2] at e2;cases e2
         | some z=>rw[q2] at e2;rw[show z=some v from e2]
       have kd:=B.fr _ Mu rfl
       have UW:vo X.env.scope y:=by
         rcases kd with z | z
         . exact .inr (.inl z)
         . exact .inr (.inr z)
       obtain⟨m,_,hl⟩:=I.loc
       obtain⟨u,r,l⟩:=hl j y v LD UU UW
       refine⟨u,r,.inr ?_⟩
       rcases l with⟨z,_⟩ | ⟨_,c,hc,ic⟩
       . rcases kd with z' | z' <;> rw[z] at z' <;> cases z'
       . obtain⟨c',Cw⟩:=kf (cells:=X.env.cells) sc.names [] (.inl Mu)
         have:=(rh B I.ok Cw).1
         rw[hc] at this;cases this
         obtain⟨oc,D1,hd⟩:=ic
         refine⟨?_,c,Cw,oc,k _ _ D1,hd⟩
         rcases e3 with e3 | e3 | e3
         . have e3:(relabel sc X.env).names.lookup y=some .local:=e3
           rcases m9 (env:=X.env) Iw with z | z
           . exact absurd (e3.symm.trans z) (by decide)
           . exact absurd (e3.symm.trans z) (by decide)
         . exact .inl e3
         . exact .inr e3
 . obtain⟨_,_,v,oc,D1,hd⟩:=Cv y c h
   exact⟨v,oc,k _ _ D1,hd⟩
 . show upd H s.heap.objs.size (.lst []) C=none
   rw[aj (by rw[hC];exact abx _)]
   exact fr _ OM
 . show upd H s.heap.objs.size (.lst []) c=none
   obtain⟨q1,q2,_⟩:=Cv y c h
   rw[aj (aaw q2)]
   exact q1
 . exact I.bu.laid k (aaa _) ⟨aaW _,[],0,.nil,hD⟩
 . show(aan tn.length none ++ frees ix st).length=N.length
   rw[B.nm]
   unfold frees
   simp
def MD (X:Cx)(ifs:List Expr)(tt:TT):Prop:=∀ (pins:List (Addr×Obj)) (s:Shared) (st:L2.St) (H:Hp) (Q:Bool->Hp->Prop),L2.Inv X pins st H s->tt st H Q ->
 wpAny (model X.prog X.w) X.A (forIn ifs true fun c r=>if r=true then do let ok <- isTrue c X.env (eval c X.env);pure (ForInStep.yield ok) else pure (ForInStep.yield r)) (fun b s'=>∃ H',L2.Inv X pins st H' s'/\Q b H') X.xe s
theorem EC {c:Expr}{tt:TT}(h:PT X c tt):MD X [c] tt:=fun pins s st H Q I q=>wpAny_tests_one (bW (h pins s st H _ I q) fun b s' z=>z)
def ED (nt:Nat)(g:TG)(tt:TT)(te:TE)(fs:L2.St)(J:It)(D:Addr)(Q:List V->Hp->Prop)(H:Hp):Prop:=
 ∃ W:Nat->Nat->List V->Hp->Prop,(∃ m,W 0 m [] (upd H D (.lst [])))/\∀ i m ys H1,W i m ys H1 ->
   (J.stop i H1/\Q ys H1)\/(J.go i H1/\ys.length < sizeLine/\∀ σ:L2.St,σ.length=nt->∀ v H2,J.HF i H1 v H2->g v (σ ++ fs) H2 fun σ2 H3=>∃ σ':L2.St,σ2=σ' ++ fs/\σ'.length=nt /\
     tt σ2 H3 fun b H4=>if b=true then te σ2 H4 fun y H5=>H5 D=some (.lst ys)/\∃ m',m' < m/\W (i+1) m' (ys ++ [y]) (upd H5 D (.lst (ys ++ [y]))) else ∃ m',m' < m/\W (i+1) m' ys H4)
theorem Br {elt iter tg:Expr}{ifs:List Expr}{pos:Pos}{g:TG}{tt:TT}{te:TE}{J:It}{it:Addr}{tj:Nat->Heap->Prop}{Q:Addr->List V->Hp->Prop}{RR:Value->Addr->Result->Shared->Prop}{E:Value->Shared->Prop}(hc:X.calm=true)(B:ua X N tn ix sc)(hg:∀ C fp s H,PG (bc X N sc C fp s H) tg g)(ht:∀ C fp s H,MD (bc X N sc C fp s H) ifs tt)(i9:∀ C fp s H,PE (bc X N sc C fp s H) elt te)(I:L2.Inv X pins st H s)(T:Turn X.prog X.w X.K tg J fp it tj)(h0:tj 0 s.heap)(hf:∀ b∈fp,lE X pins H b)(hq:∀ D,H D=none->ED tn.length g tt te (frees ix st) J D (Q D) H)(UX:∀ D C ys H' s',L2.Inv X pins st H' s'->(∃ m,s'.heap.Ns C m)->lE X pins H' C->Q D ys H'->RR (.ref D) C (.ok .next) s'):wpAny (model X.prog X.w) X.A (newList []) (fun acc s3=>wpAny (model X.prog X.w) X.A (newFunctionEnv sc X.env.globals (lQ sc X.env) [] X.env.qual none .none (some X.env)) (fun Bh s4=>codeAny (model X.prog X.w) X.A (.compStart (.ListComp elt [⟨tg,iter,ifs,0⟩] sc pos) 0 (.ref it) acc { Bh with scope:=relabel sc X.env}) (RR acc Bh.locals) s4) E s3) E s:=by
 have dn:∀ b∈fp,b < s.heap.objs.size:=fun b hb=>by
   obtain⟨o,e,_⟩:=T.obj _ _ h0 b hb
   exact aap e
 refine wpAny_newObj_type (wpAny_newFunctionEnv B.vK (fun y hy=>absurd hy (by simp)) (fun h1 Hm CZ=>?_) B.kind)
 dsimp only at Hm CZ ⊢
 generalize hG:s.heap.push { cls:=.type "list",dict:=none,data:=.seq ([]:List Value).toArray}=g' at Hm CZ ⊢
 have hC:g'.objs.size=s.heap.objs.size+1:=by rw[<- hG,abc]
 have W9:s.heap.objs.size≠g'.objs.size:=by rw[hC];exact aaw (abh _)
 have old:∀ b o,s.heap.get? b=some o->h1.get? b=some o:=fun b o e=>
   CZ.extBut b o (by rw[hC];exact aaw (abI (aap e))) (aag _ (hG ▸ aag _ e))
 have Iy:h1.get? s.heap.objs.size=some { cls:=.type "list",data:=.seq ([]:List Value).toArray 0}:=CZ.extBut _ _ W9 (aag _ (hG ▸ aat _ rfl))
 have hD:H s.heap.objs.size=none:=I.bu.fresh (aaa _)
 obtain⟨W,⟨m0,w0⟩,turn⟩:=hq _ hD
 have I0:=C6 (t':=s.toks+([]:List (Str×Value)).length) B I hf dn hC old (by simpa using Hm) Iy
 have ON:tj 0 h1:=T.keep _ _ _ h0 fun b _ o e=>old b o e
 have oF:s.heap.objs.size<=g'.objs.size:=by rw[hC];exact abf _
 have qm:∀ {H':Hp},(∀ b∈fp,H' b=none)->∀ b∈fp,lE (bc X N sc g'.objs.size fp s H) [] H' b:=fun {H'} hn b hb=>
   ⟨hn b hb,((uL B I oF hf dn).LR b hb).1,(uL B I oF hf dn).AR b hb,.inl hb,((uL B I oF hf dn).LR b hb).2,fun p hp=>absurd (show p∈([]:List (Addr×Obj)) from hp) (by simp)⟩
 have loop:∀ s3:Shared,s3={ s with heap:=h1,toks:=s.toks+([]:List (Str×Value)).length} ->
     codeAny (model X.prog X.w) X.A (.compLoop (.ListComp elt [⟨tg,iter,ifs,0⟩] sc pos) 0 (.ref it) (.ref s.heap.objs.size) (compEnvC sc (lQ sc X.env) g'.objs.size X.env)) (RR (.ref s.heap.objs.size) g'.objs.size) s3:=by
   rintro s3 rfl
   refine Bq (fun n s'=>∃ i ys σ H',σ.length=tn.length/\L2.Inv (bc X N sc g'.objs.size fp s H) [] (σ ++ frees ix st) H' s'/\tj i s'.heap/\(∀ b∈fp,H' b=none)/\W i n ys H') ?_ m0
     ⟨0,[],aan tn.length none,_,by simp,I0,ON,fun b hb=>?_,w0⟩
   . rintro n s5 ⟨i,ys,σ,H5,hσ,I5,Hl,LA,w5⟩
     rcases turn i n ys H5 w5 with⟨stop,qn⟩ | ⟨go,hz,step⟩
     . refine bW (T.done (bc X N sc g'.objs.size fp s H) rfl rfl rfl hc i [] s5 _ H5 xE I5 (qm LA) Hl stop) fun r s6 ⟨hr,I6⟩=>?_
       subst hr
       refine UX _ _ ys H5 s6 ?_ ?_ (I.t6 oF I6.free) qn
       . exact I.HC I6.os I6.base I6.bu I6.bare fun b hb=>⟨(hf b hb).2.2.2.1,(hf b hb).2.1,(hf b hb).2.2.2.2.1,(hf b hb).2.2.2.2.2⟩
       . obtain⟨m,hm,_⟩:=I6.loc
         exact⟨m,hm⟩
     . refine bW (T.item (bc X N sc g'.objs.size fp s H) rfl rfl rfl hc i [] s5 _ H5 xE I5 (qm LA) Hl go) fun r s6 ⟨u,hr,h6⟩=>?_
       subst hr
       refine bW h6 fun _ s7 ⟨v,H7,I7,r7,y7,Iz,UY⟩=>?_
       have UZ:=I7.pinned (qm UY) (T.obj _ _ Iz)
       refine bW (hg g'.objs.size fp s H _ s7 _ H7 v u _ UZ r7 (step σ hσ v H7 y7)) fun _ s8 h8=>?_
       obtain⟨σ8,H8,I8,σ',e8,Vd,h8⟩:=h8
       subst e8
       have pinned:∀ {σ9:L2.St} {H9:Hp} {s9:Shared},L2.Inv (bc X N sc g'.objs.size fp s H) ([] ++ r0 fp s7.heap) σ9 H9 s9->tj (i+1) s9.heap/\∀ b∈fp,H9 b=none:=fun {σ9 H9 s9} I9=>by
         refine⟨T.keep _ _ _ Iz fun b hb o e=>(I9.pin (b,o) (aaz _ (aaz _ (fX hb e)))).1,fun b hb=>?_⟩
         obtain⟨o,e,d⟩:=T.obj _ _ Iz b hb
         exact(I9.pin (b,o) (aaz _ (aaz _ (fX hb e)))).2.1
       refine bW (ht g'.objs.size fp s H _ s8 _ H8 _ I8 h8) fun ok Yz ME=>?_
       obtain⟨YA,MG,ME⟩:=ME
       cases ok with
       | false=>
         obtain⟨m',hm,w8⟩:=ME
         exact⟨m',hm,i+1,ys,σ',_,Vd,MG.j9 (pins:=[]),(pinned MG).1,(pinned MG).2,w8⟩
       | true=>
         refine bW (i9 g'.objs.size fp s H _ Yz _ YA _ MG ME) fun z s9 ⟨y,H9,I9,r9,U0,m',hm,w9⟩=>?_
         refine bW (o7 _ s9 _ H9 (.ref s.heap.objs.size) [y] (.ref s.heap.objs.size) [z] (fun _ H'=>H'=upd H9 s.heap.objs.size (.lst (ys ++ [y]))) I9 rfl (.cons r9 .nil) ⟨_,ys,y,rfl,rfl,U0,hz,rfl⟩) fun _ s10 U1=>?_
         obtain⟨_,H10,IA,_,rfl⟩:=U1
         exact⟨m',hm,i+1,ys ++ [y],σ',_,Vd,IA.j9 (pins:=[]),(pinned IA).1,(pinned IA).2,w9⟩
   . rw[aj (aaw (dn b hb))]
     exact(hf b hb).1
 exact codeAny_compStart_list (loop _ rfl) (T.self _ 0 _ _ _ ON (loop _ rfl))
end
section
variable {K:W.Frag}{G:Gr}{st:L2.St}{Hf H Hf1 H1:Hp}{dl:List Slot}{ix:List Nat}
structure Ve (K:W.Frag)(Hf:Hp)(σ:L2.St)(sl:List Slot):Prop where
 len:σ.length=sl.length
 val:∀ (i:Nat) d,sl[i]?=some (.val d)->∃ v,σ[i]?=some (some v)/\Rep K Hf v d
 no:∀ (i:Nat) o,sl[i]?≠some (.own o)
theorem Ve.mono {σ:L2.St}{sl:List Slot}(h:Ve K Hf σ sl)(s:aF Hf Hf1):Ve K Hf1 σ sl:=⟨h.len,fun i d e=>let ⟨v,h1,h2⟩:=h.val i d e;⟨v,h1,h2.mono s⟩,h.no⟩
theorem Bs {σ:L2.St}{sl:List Slot}(S:dX K G st Hf H dl)(s1:aF Hf Hf1)(sb:aF Hf1 H1)(r:Ve K Hf1 σ sl):dX K ⟨Hf1,H1⟩ (σ ++ frees ix st) Hf1 H1 (sl ++ jB dl ix):=by
 have no:∀ (i:Nat) o,(sl ++ jB dl ix)[i]?≠some (.own o):=fun i o h=>by
   by_cases hi:i < sl.length
   . rw[aaC hi] at h
     exact r.no i o h
   . rw[aaE (abN hi)] at h
     unfold jB at h
     rw[aab] at h
     cases q:ix[i - sl.length]? with
     | none=>rw[q] at h;cases h
     | some j=>
       rw[q] at h
       exact yp (Option.some.inj h)
 refine⟨.refl sb,by simp[frees,jB,r.len],fun i x h=>?_,fun i o h=>absurd h (no i o),fun i j o o' a h=>absurd h (no i o)⟩
 by_cases hi:i < sl.length
 . rw[aaC hi] at h
   rw[aaC (by rw[r.len];exact hi)]
   exact r.val i x h
 . have hi:=abN hi
   rw[aaE hi] at h
   rw[aaE (by rw[r.len];exact hi),r.len]
   unfold jB at h
   unfold frees
   rw[aab] at h ⊢
   cases q:ix[i - sl.length]? with
   | none=>rw[q] at h;cases h
   | some j=>
     rw[q] at h
     have hd:=yq (Option.some.inj h)
     obtain⟨v',z1,z2⟩:=S.val j x hd
     exact⟨v',by rw[Option.map_some,z1];rfl,z2.mono s1⟩
def OR (K:W.Frag)(nt:Nat)(g:TG)(z:Dt)(sl:List Slot):Prop:=∀ (σ fs:L2.St) (Hf H:Hp) (v:V) (Q:L2.St->Hp->Prop),σ.length=nt->aF Hf H->Rep K Hf v z ->
 (∀ σ':L2.St,σ'.length=nt->Ve K Hf σ' sl->Q (σ' ++ fs) H)->g v (σ ++ fs) H Q
theorem bY {z:Dt}:OR K 1 (p9 0) z [.val z]:=fun σ fs Hf H v Q hl s r k=>by
 cases σ with
 | nil=>cases hl
 | cons a σ=>
   have:σ=[]:=aaZ (by simpa using hl)
   subst this
   refine k [some v] rfl ⟨rfl,fun i d h=>?_,fun i o h=>?_⟩
   . cases i with
     | zero=>cases h;exact⟨v,rfl,r⟩
     | succ i=>cases h
   . cases i with
     | zero=>cases h
     | succ i=>cases h
abbrev OS (K:W.Frag):TG:=P8 K 2 (AW (p9 0) (AW (p9 1) P7))
theorem EF {a b:Dt}:OR K 2 (OS K) (.tup [a,b]) [.val a,.val b]:=fun σ fs Hf H v Q hl s r k=>by
 cases σ with
 | nil=>cases hl
 | cons x σ=>cases σ with
   | nil=>cases hl
   | cons y σ=>
     have:σ=[]:=aaZ (by simpa using hl)
     subst this
     cases r with
     | @tup q vs _ hq rp=>
       cases rp with
       | cons r1 t1=>cases t1 with
         | cons r2 t2=>
           cases t2
           refine⟨q,_,rfl,de s hq,rfl,_,_,rfl,_,_,rfl,rfl,k [some _,some _] rfl ⟨rfl,fun i d h=>?_,fun i o h=>?_⟩⟩
           . cases i with
             | zero=>cases h;exact⟨_,rfl,r1⟩
             | succ i=>cases i with
               | zero=>cases h;exact⟨_,rfl,r2⟩
               | succ i=>cases h
           . cases i with
             | zero=>cases h
             | succ i=>cases i with
               | zero=>cases h
               | succ i=>cases h
end
section
variable {X:Cx}{G:Gr}{E:XK}{dl:List Slot}{a b c elt iter tg:Expr}{ifs:List Expr}{i j:Int}{pos p px py rb:Pos}{o:Out}{x y:Str}{N tn:List Str}{ix:List Nat}{sc:Scope}{n:Nat}
def qu (X:Cx)(G:Gr)(dl:List Slot)(zs:List Dt)(wi:TI):Prop:=∀ st H (R:It->Hp->Prop),(∃ Hf,dX X.K G st Hf H dl/\∀ J IK H0,bx Hf H IK H0 ->
 (∀ Hf1 H1,aF IK Hf1->aF Hf1 H1->∀ i,(∀ z,zs[i]?=some z->J.go i H1/\∀ v H2,J.HF i H1 v H2->∃ bX,bx Hf1 H1 bX H2/\Rep X.K bX v z)/\(i=zs.length->J.stop i H1))->R J H0)->wi st H R
theorem gq {xs:List Dt}:qu X G dl xs (HG X.K (tD X.K G dl (.lst xs))):=fun st H R zq=>Bn zq fun Hf zq=>have S:=zq.1;have k:=zq.2;⟨Hf,S,fun v Hf1 H1 g1 r1=>by
 cases r1 with
 | @lst q vs _ hq rp=>
   have hl:=rp.length
   refine⟨q,rfl,⟨vs,.of (g1.sub _ _ hq)⟩,k _ Hf1 H1 g1 fun bX H2 s1 s2 i=>⟨fun z hz=>?_,fun hi=>⟨vs,.of (s2 _ _ (s1 _ _ hq)),by omega⟩⟩⟩
   obtain⟨u,z1,z2⟩:=rp.get hz
   have hs:mY X.K H2 q vs:=.of (s2 _ _ (s1 _ _ hq))
   refine⟨⟨vs,u,hs,z1⟩,fun v H3 hy=>?_⟩
   obtain⟨e1,e2⟩:=hy
   have e2:=e2 vs hs
   rw[z1] at e2;cases e2
   subst e1
   exact⟨bX,.refl s2,z2.mono s1⟩⟩
theorem Bt {lo:Int}{n:Nat}{Hf1 H1 bX H2:Hp}(s2:aF bX H2)(i:Nat):(∀ z,((aam n).map fun(k:Nat)=>Dt.int (lo+k))[i]?=some z->(FX lo n).go i H2/\∀ v H3,(FX lo n).HF i H2 v H3->∃ jA,bx bX H2 jA H3/\Rep X.K jA v z)/\(i=((aam n).map fun(k:Nat)=>Dt.int (lo+k)).length->(FX lo n).stop i H2):=by
 refine⟨fun z hz=>?_,fun e=>(by have:i=n:=(by simpa using e);exact Nat.le_of_eq this.symm)⟩
 have hi:i < n:=by
   have:=(aaj.mp hz).1
   simpa using this
 rw[aab,aaL hi] at hz
 cases hz
 refine⟨hi,fun v H3 hy=>?_⟩
 obtain⟨e1,e2⟩:=hy
 subst e1 e2
 exact⟨bX,.refl s2,.int _⟩
theorem tS (hn:-(2 ^ 62)<=j/\j < 2 ^ 62):qu X G dl ((aam j.toNat).map fun(k:Nat)=>.int k) (HI (QE X.K G dl [.int j])):=fun st H R zq=>Bn zq fun Hf zq=>have S:=zq.1;have k:=zq.2;⟨Hf,S,fun vs Hf1 H1 g1 r1=>by
 cases r1 with
 | cons r t=>
   cases t;cases r
   refine⟨j,rfl,hn.1,hn.2,k _ Hf1 H1 g1 fun bX H2 s1 s2 i=>?_⟩
   have h:=Bt (X:=X) (lo:=0) (n:=j.toNat) (Hf1:=Hf1) (H1:=H1) s2 i
   simp only[Int.zero_add] at h
   exact h⟩
variable {α:Type}{as:List α}{z f:α->Dt}{sl:α->List Slot}{keep:α->Bool}{g:TG}{wi:TI}
def MH (K:W.Frag)(dl:List Slot)(ix:List Nat)(as:List α)(sl:α->List Slot)(keep:α->Bool):TT:=fun st H Q=>∃ a G',a∈as/\UM K G' (sl a ++ jB dl ix) (keep a) st H Q
def MI (K:W.Frag)(dl:List Slot)(ix:List Nat)(as:List α)(sl:α->List Slot)(keep:α->Bool)(f:α->Dt):TE:=fun st H Q=>∃ a G',a∈as/\keep a=true/\tD K G' (sl a ++ jB dl ix) (f a) st H Q
inductive Bu (X:Cx)(N:List Str)(sc:Scope)(dl:List Slot)(ix:List Nat)(as:List α)(sl:α->List Slot)(keep:α->Bool):List Expr->Prop
 | nil:(∀ a∈as,keep a=true)->Bu X N sc dl ix as sl keep []
 | one {c:Expr}:(∀ a∈as,∀ C fp s H G',EB (bc X N sc C fp s H) G' (sl a ++ jB dl ix) c (keep a))->Bu X N sc dl ix as sl keep [c]
theorem IM (h:Bu X N sc dl ix as sl keep ifs):∀ C fp s H,MD (bc X N sc C fp s H) ifs (MH X.K dl ix as sl keep):=fun C fp s H=>by
 cases h with
 | nil h=>exact fun pins s' st H' Q I ⟨a,G',ha,Hf,S,k⟩=>wpAny_tests_nil ⟨H',I,by have:=k Hf H' (.refl S.sub);rw[h a ha] at this;exact this⟩
 | one h=>exact EC fun pins s' st H' Q I ⟨a,G',ha,q⟩=>h a ha C fp s H G' pins s' st H' Q I q
def QV (X:Cx)(N:List Str)(sc:Scope)(dl:List Slot)(ix:List Nat)(as:List α)(sl:α->List Slot)(keep:α->Bool)(f:α->Dt)(elt:Expr):Prop:=∀ a∈as,keep a=true->∀ C fp s H G',EE (bc X N sc C fp s H) G' (sl a ++ jB dl ix) elt (f a)
theorem IP (h:QV X N sc dl ix as sl keep f elt):∀ C fp s H,PE (bc X N sc C fp s H) elt (MI X.K dl ix as sl keep f):=fun C fp s H pins s' st H' Q I ⟨a,G',ha,hk,q⟩=>h a ha hk C fp s H G' pins s' st H' Q I q
theorem Gv {nt:Nat}{st:L2.St}{Hf H:Hp}{J:It}{Q:VK}(S:dX X.K G st Hf H dl)(hn:as.length<=sizeLine)(Gw:∀ a∈as,OR X.K nt g (z a) (sl a))(go:∀ Hf1 H1,bx Hf H Hf1 H1->∀ i,(∀ y,(as.map z)[i]?=some y->J.go i H1/\∀ v H2,J.HF i H1 v H2->∃ bX,bx Hf1 H1 bX H2/\Rep X.K bX v y)/\(i=(as.map z).length->J.stop i H1))(k:∀ p aJ H',bx Hf H aJ H'->H p=none->aJ p=none->hZ X.K aJ H' p (.lst ((as.filter keep).map f))->Q (.ref p) H'):∀ D,H D=none->ED nt g (MH X.K dl ix as sl keep) (MI X.K dl ix as sl keep f) (frees ix st) J D (fun _ H'=>Q (.ref D) H') H:=by
 intro D hD
 refine⟨fun i m vs H1=>m=as.length - i/\i<=as.length/\∃ Hf1,bx Hf H Hf1 H1/\Hf1 D=none/\H1 D=some (.lst vs)/\bH X.K Hf1 vs (((as.take i).filter keep).map f),⟨as.length,rfl,aaW _,Hf,.fJ S.sub hD,S.sub.free hD,ak,.nil⟩,?_⟩
 rintro i m vs H1 ⟨rfl,hi,Hf1,g1,U5,TK,rp⟩
 have hlen:=rp.length
 rw[k5] at hlen
 have YB:((as.take i).filter keep).length<=i:=aaA (List.length_filter_le _ _) (by rw[aay];omega)
 have C7:∀ {YC Ha Xe Hb:Hp},bx YC Ha Xe Hb->YC D=none->Ha D=some (.lst vs)->Xe D=none/\Hb D=some (.lst vs):=fun {YC Ha Xe Hb} gg e1 e2=>by
   refine⟨?_,gg.big _ _ e2⟩
   cases q:Xe D with
   | none=>rfl
   | some u=>
     obtain⟨o,z⟩:=gg.zi e2 (fun z=>z) q
     rw[e1] at z;cases z
 by_cases dn:i < as.length
 . have qv:as[i]∈as:=aaP dn
   have et:as.take (i+1)=as.take i ++ [as[i]]:=by rw[aaY,k3 dn];rfl
   obtain⟨U6,hy⟩:=(go Hf1 H1 g1 i).1 (z as[i]) (by rw[aab,k3 dn];rfl)
   refine .inr ⟨U6,by omega,fun σ hσ v H2 y=>?_⟩
   obtain⟨bX,g2,rv⟩:=hy v H2 y
   obtain⟨d2,d2'⟩:=C7 g2 U5 TK
   refine Gw as[i] qv σ _ bX H2 v _ hσ g2.sub rv fun σ' hl' tv=>⟨σ',rfl,hl',as[i],⟨bX,H2⟩,qv,bX,Bs S (g1.bG.trans g2.bG) g2.sub tv,fun jA H3 g3=>?_⟩
   obtain⟨d3,d3'⟩:=C7 g3 d2 d2'
   cases hk:keep as[i] with
   | false=>
     refine⟨as.length - (i+1),by omega,rfl,dn,jA,(g1.trans g2).trans g3,d3,d3',?_⟩
     rw[et,List.filter_append,abE (by simp[hk]),List.filter_nil,aa3]
     exact rp.mono (g2.bG.trans g3.bG)
   | true=>
     refine⟨as[i],⟨jA,H3⟩,qv,hk,jA,Bs S ((g1.bG.trans g2.bG).trans g3.bG) g3.sub (tv.mono g3.bG),fun y Hq H4 g4 r4=>?_⟩
     obtain⟨d4,d4'⟩:=C7 g4 d3 d3'
     have gg:=((g1.trans g2).trans g3).trans g4
     refine⟨d4',as.length - (i+1),by omega,rfl,dn,Hq,⟨fun a o h=>?_,gg.bG,fun a o h=>?_,gg.new⟩,d4,ak,?_⟩
     . rw[aj (av h hD)];exact gg.big _ _ h
     . rw[aj (av h d4)];exact g4.sub _ _ h
     . rw[et,List.filter_append,abF (by simpa using hk),List.filter_nil,aa6]
       exact(rp.mono ((g2.bG.trans g3.bG).trans g4.bG)).append (.cons r4 .nil)
 . have e:i=as.length:=by omega
   subst e
   refine .inl ⟨(go Hf1 H1 g1 _).2 (by simp),k D Hf1 H1 g1 hD U5 ⟨vs,TK,?_⟩⟩
   rw[abb] at rp
   exact rp
def IQ (wi:TI)(nt:Nat)(ix:List Nat)(g:TG)(tt:TT)(te:TE):TE:=fun st H Q=>wi st H fun J H1=>∀ D,H1 D=none->ED nt g tt te (frees ix st) J D (fun _ H'=>Q (.ref D) H') H1
theorem QW {tt:TT}{te:TE}(hc:X.calm=true)(B:ua X N tn ix sc)(hi:PI X tg iter wi)(hg:∀ C fp s H,PG (bc X N sc C fp s H) tg g)(ht:∀ C fp s H,MD (bc X N sc C fp s H) ifs tt)(i9:∀ C fp s H,PE (bc X N sc C fp s H) elt te)(hs:∀ z,foldedSetIterable iter X.env z=pure z):PE X (.ListComp elt [⟨tg,iter,ifs,0⟩] sc pos) (IQ wi tn.length ix g tt te):=by
 intro pins s st H Q I h
 rw[eval_ListComp]
 refine wpAny_comprehension_free (use:=none) rfl hs (Ez B I.ok) B.kind B.names (bW (hi pins s st H _ I h) fun v s1 h1=>bW h1 fun Oz s2 h2=>?_)
 obtain⟨it,fp,tj,J,H2,e,I2,T,D3,f2,hq⟩:=h2
 subst e
 refine Br (RR:=fun acc C=>compPost (model X.prog X.w) X.A X.xe none (EP X pins st Q) acc C) hc B hg ht i9 I2 T D3 f2 hq ?_
 intro D C ws H' s' I' ⟨m,hn⟩ mF q
 exact⟨m,hn,fun h' IH=>⟨.ref D,H',I'.turned (t':=s'.toks) (it:=C) (fun b o hb e=>(IH.2 b hb).trans e) mF.1 mF.2.1 mF.2.2.2.1 mF.2.2.2.2.1 mF.2.2.2.2.2,rfl,q⟩⟩
theorem QX {tt:TT}{te:TE}{nN:Nat}(hc:X.calm=true)(B:ua X N tn ix sc)(hi:PI X tg iter wi)(hg:∀ C fp s H,PG (bc X N sc C fp s H) tg g)(ht:∀ C fp s H,MD (bc X N sc C fp s H) ifs tt)(i9:∀ C fp s H,PE (bc X N sc C fp s H) elt te)(hs:∀ z,foldedSetIterable iter X.env z=pure z)(II:swapsWith (.ListComp elt [⟨tg,iter,ifs,0⟩] sc pos) (some (.Name y py)) rb.line X.env=pure true)(hN:X.N.Nodup)(hy:X.N[nN]?=some y)(hl:Loc X.env.scope y)(hf:X.fn y=true\/X.env.scope.names.lookup y=some .local):PS X (.Assign [.Name y py] (.ListComp elt [⟨tg,iter,ifs,0⟩] sc pos) rb) (fun D st H=>IQ wi tn.length ix g tt te st H fun v H'=>D.nx (st.set nN (some v)) H'):=by
 intro pins s st H D0 I h
 rw[exec_Assign_Name_used _ _ _ _ II]
 refine wpAny_bind (wpAny_standAt (wpAny_bind ?_))
 show wpAny _ X.A (do let _ <- comprehension (.ListComp elt [⟨tg,iter,ifs,0⟩] sc pos) sc X.env _ (newList []) false (eval iter X.env) (some (assign (.Name y py) X.env))) _ _ s
 refine wpAny_bind (wpAny_mono (wpAny_comprehension_free (use:=some (assign (.Name y py) X.env)) (Q:=fun _ s'=>SP X pins D0 .next s') rfl hs (Ez B I.ok) B.kind B.names (bW (hi pins s st H _ I h) fun v s1 h1=>bW h1 fun Oz s2 h2=>?_)) (fun _ s' hq=>wpAny_pure (wpAny_pure hq)) fun _ _ z=>z)
 obtain⟨it,fp,tj,J,H2,e,I2,T,D3,f2,hq⟩:=h2
 subst e
 refine Br (RR:=fun acc C=>compPost (model X.prog X.w) X.A X.xe (some (assign (.Name y py) X.env)) (fun _ s'=>SP X pins D0 .next s') acc C) hc B hg ht i9 I2 T D3 f2 hq ?_
 intro D C ws H' s' I' ⟨m,hn⟩ mF q
 refine wpAny_assign_Name (o3 I' hN hy hl (v:=.ref D) rfl (fun Ma U9 ⟨ad,CZ,ha⟩=>?_) hf)
 have ne:C≠ad:=by
   rcases ha with z | z
   . rw[z];exact mF.2.1
   . exact Ne.symm (mF.2.2.2.2.1 _ _ z)
 exact⟨m,hn.sameBut CZ ne,fun h' IH=>⟨_,H',U9.turned (t':=Ma.toks) (it:=C) (fun b o hb e=>(IH.2 b hb).trans e) mF.1 mF.2.1 mF.2.2.2.1 mF.2.2.2.2.1 mF.2.2.2.2.2,q⟩⟩
theorem pv (hs:qu X G dl (as.map z) wi)(Gw:∀ a∈as,OR X.K n g (z a) (sl a))(hn:as.length<=sizeLine):∀ st H Q,Xa X.K G dl (.lst ((as.filter keep).map f)) st H Q->IQ wi n ix g (MH X.K dl ix as sl keep) (MI X.K dl ix as sl keep f) st H Q:=fun st H Q zq=>Bn zq fun Hf zq=>have S:=zq.1;have k:=zq.2;
 hs st H _ ⟨Hf,S,fun J IK H0 g0 src=>Gv (S.grow g0) hn Gw (fun Hf1 H1 g1 i=>src Hf1 H1 g1.bG g1.sub i) fun p aJ H' g n1 n2 r=>k p aJ H' (g0.trans g) (g0.big.free n1) n2 r⟩
theorem eh (as:List α)(z f:α->Dt)(sl:α->List Slot)(keep:α->Bool)(hc:X.calm=true)(B:ua X N tn ix sc)(hi:PI X tg iter wi)(hg:∀ C fp s H,PG (bc X N sc C fp s H) tg g)(sE:qu X G dl (as.map z) wi)(Gw:∀ a∈as,OR X.K tn.length g (z a) (sl a))(C8:Bu X N sc dl ix as sl keep ifs)(i9:QV X N sc dl ix as sl keep f elt)(hn:as.length<=sizeLine)(hs:∀ z,foldedSetIterable iter X.env z=pure z:=by intro _;rfl):EO X G dl (.ListComp elt [⟨tg,iter,ifs,0⟩] sc pos) (.lst ((as.filter keep).map f)):=gL (QW hc B hi hg (IM C8) (IP i9) hs) (pv sE Gw hn)
theorem IS (nN:Nat)(as:List α)(z f:α->Dt)(sl:α->List Slot)(keep:α->Bool)(hc:X.calm=true)(hN:X.N.Nodup)(B:ua X N tn ix sc)(hi:PI X tg iter wi)(hg:∀ C fp s H,PG (bc X N sc C fp s H) tg g)(sE:qu X G dl (as.map z) wi)(Gw:∀ a∈as,OR X.K tn.length g (z a) (sl a))(C8:Bu X N sc dl ix as sl keep ifs)(i9:QV X N sc dl ix as sl keep f elt)(hn:as.length<=sizeLine)(hs:∀ z,foldedSetIterable iter X.env z=pure z:=by intro _;rfl)(II:swapsWith (.ListComp elt [⟨tg,iter,ifs,0⟩] sc pos) (some (.Name y py)) rb.line X.env=pure true:=by rfl)(hy:X.N[nN]?=some y:=by rfl)(hl:Loc X.env.scope y:=by first | exact aaK rfl | exact aaD rfl)(hf:X.fn y=true\/X.env.scope.names.lookup y=some .local:=by first | exact .inl rfl | exact .inr rfl | assumption):ES X G E dl (.Assign [.Name y py] (.ListComp elt [⟨tg,iter,ifs,0⟩] sc pos) rb) (.nx (dl.set nN (.own (.lst ((as.filter keep).map f))))):=
 sk (QX hc B hi hg (IM C8) (IP i9) hs II hN hy hl hf) fun D st H zq=>Bn zq fun Hf zq=>have S:=zq.1;have k:=zq.2;pv sE Gw hn st H _ ⟨Hf,S,fun p aJ H' g n1 n2 r=>k _ aJ H' g.bG (S.Mv g n1 n2 r)⟩
def YD (K:W.Frag)(g:TG)(z:Dt)(up:List Slot->List Slot):Prop:=∀ (G:Gr) (st:L2.St) (Hf H:Hp) (v:V) (dl:List Slot) (Q:L2.St->Hp->Prop),dX K G st Hf H dl->Rep K Hf v z->(∀ jD,dX K G jD Hf H (up dl)->Q jD H)->g v st H Q
theorem rj {K:W.Frag}{n:Nat}{z:Dt}:YD K (p9 n) z (fun dl=>dl.set n (.val z)):=fun G st Hf H v dl Q S r k=>k _ (S.set r)
theorem EG {K:W.Frag}{n m:Nat}{z1 z2:Dt}:YD K (P8 K 2 (AW (p9 n) (AW (p9 m) P7))) (.tup [z1,z2]) (fun dl=>(dl.set n (.val z1)).set m (.val z2)):=fun G st Hf H v dl Q S r k=>by
 cases r with
 | @tup q vs _ hq rp=>
   cases rp with
   | cons r1 t1=>cases t1 with
     | cons r2 t2=>
       cases t2
       exact⟨q,_,rfl,de S.sub hq,rfl,_,_,rfl,_,_,rfl,rfl,k _ ((S.set r1).set r2)⟩
theorem nh {body:List Stmt}{m:Nat}(as:List α)(z:α->Dt)(up:α->List Slot->List Slot)(S:Nat->List Slot)(qZ:X.calm=true)(hp:PassesOwn (model X.prog X.w) X.A X.env X.xe)(hI:PI X tg iter wi)(sE:qu X G dl (as.map z) wi)(hg:PG X tg g)(Gw:∀ a∈as,YD X.K g (z a) (up a))(h0:Le (S 0) dl)(W7:m<=as.length)(hb:∀ (k:Nat) (a:α),k < m->as[k]?=some a->Goes X G E body (up a (S k)) (S (k+1)))(he:qb X G E body S (fun k=>(as[k]?).elim (S k) fun a=>up a (S k)) as.length m o)(hs:∀ z,foldedSetIterable iter X.env z=pure z:=by intro _;rfl):ES X G E dl (.For tg iter body [] pos) o:=by
 refine sk (yW hp qZ hI hg (qY (G:=G) (E:=E)) hs) fun D st H ⟨Hf,S0,k⟩=>sE st H _ ⟨Hf,S0,fun J IK H0 g0 src=>?_⟩
 refine⟨fun i q st H=>q=as.length - i/\i<=m/\∃ Hf1,aF IK Hf1/\dX X.K G st Hf1 H (S i),⟨as.length,rfl,aaW _,IK,aF.refl _,(S0.grow g0).weak h0⟩,?_⟩
 rintro i q Xd H1 ⟨rfl,him,Hf1,s1,S1⟩
 have sr:=src Hf1 H1 s1 S1.sub i
 by_cases dn:i < as.length
 . have hz:as[i]?=some as[i]:=k3 dn
   obtain⟨U6,hy⟩:=sr.1 (z as[i]) (by rw[aab,hz];rfl)
   refine .inr ⟨U6,fun jD H'=>i < m/\∃ bX,aF IK bX/\dX X.K G jD bX H' (S (i+1)),fun jD H' ⟨h1,h2⟩=>⟨as.length - (i+1),by omega,rfl,by omega,h2⟩,fun x H' y=>?_⟩
   obtain⟨bX,g2,rv⟩:=hy x H' y
   refine Gw as[i] (aaP dn) G Xd bX H' x (S i) _ (S1.grow g2) rv fun D3 S2=>?_
   by_cases QY:i < m
   . exact pk (hb i as[i] QY hz) S2 (fun st jA H s3 S'=>⟨QY,jA,(s1.trans g2.bG).trans s3,S'⟩) (fun st jA H s3 S'=>⟨QY,jA,(s1.trans g2.bG).trans s3,S'⟩)
   . have e:i=m:=by omega
     subst e
     refine sv he dn ?_ (k.mono ((g0.bG.trans s1).trans g2.bG)) rfl rfl
     show dX _ _ _ _ _ ((as[i]?).elim (S i) fun a=>up a (S i))
     rw[hz];exact S2
 . have e:i=as.length:=by omega
   subst e
   have e2:m=as.length:=by omega
   subst e2
   refine .inl ⟨sr.2 (by simp),?_⟩
   cases he with
   | all _=>exact k Xd Hf1 H1 (g0.bG.trans s1) S1
   | rt h _=>omega
   | ro h _=>omega
   | bk h _=>omega
   | ex h _=>omega
theorem bR (B:ua X N tn ix sc)(h:tn=[x]):∀ C fp s H,PG (bc X N sc C fp s H) (.Name x px) (p9 0):=fun C fp s H=>by
 have hN:(bc X N sc C fp s H).N[0]?=some x:=by
   show N[0]?=some x
   rw[B.nm,h];rfl
 have Et:(bc X N sc C fp s H).env.scope.names.lookup x=some .local:=lookup_relabel_local (B.hx x (by rw[h];simp))
 exact bC (X:=bc X N sc C fp s H) B.nd hN (.inl Et) (.inr Et)
theorem Bv {k:Nat}(hc:X.calm=true)(B:ua X N tn ix sc)(h:tn=[x,y]):∀ C fp s H,PG (bc X N sc C fp s H) (.Tuple [.Name x px,.Name y py] k p) (OS X.K):=fun C fp s H=>by
 have h0:(bc X N sc C fp s H).N[0]?=some x:=by
   show N[0]?=some x
   rw[B.nm,h];rfl
 have h1:(bc X N sc C fp s H).N[1]?=some y:=by
   show N[1]?=some y
   rw[B.nm,h];rfl
 have Et:(bc X N sc C fp s H).env.scope.names.lookup x=some .local:=lookup_relabel_local (B.hx x (by rw[h];simp))
 have Iw:(bc X N sc C fp s H).env.scope.names.lookup y=some .local:=lookup_relabel_local (B.hx y (by rw[h];simp))
 exact ql (X:=bc X N sc C fp s H) hc (cQ (bC B.nd h0 (.inl Et) (.inr Et)) (cQ (bC B.nd h1 (.inl Iw) (.inr Iw)) m5 rfl) rfl) rfl rfl
end
noncomputable def gM (sc Bp:Scope)(XN N tn:List Str)(ix:List Nat):Bool:=
 decide N.Nodup && (decide (N=tn ++ ix.map (fun j=>XN.getD j "")) && (decide (sc.kind=.function) && (sc.names.all (fun y=>decide (y.2≠.cell)) && (sc.names.all (fun y=>decide (y.2=.local->sc.names.lookup y.1=some .local)) && (tn.all (fun x=>decide (sc.names.lookup x=some .local)) &&
   (sc.names.all (fun y=>decide (y.2=.free->Bp.names.lookup y.1=some .cell\/Bp.names.lookup y.1=some .free)) && ix.all (fun j=>decide (sc.names.lookup (XN.getD j "")=some .free) && decide (j < XN.length))))))))
theorem bD {X:Cx}{sc Bp:Scope}{XN N tn:List Str}{ix:List Nat}(h:gM sc Bp XN N tn ix=true)(e1:X.env.scope=Bp:=by rfl)(e2:X.N=XN:=by rfl):ua X N tn ix sc:=by
 subst e1 e2
 unfold gM at h
 simp only[aaS,abO,decide_eq_true_eq] at h
 obtain⟨h1,h2,h3,h4,h5,h6,h7,h8⟩:=h
 refine⟨h1,h2,h3,h4,h5,h6,h7,fun j hj=>?_⟩
 obtain⟨q1,q2⟩:=h8 j hj
 refine⟨X.N.getD j "",?_,q1⟩
 rw[YO,k3 q2];rfl
section
variable {X:Cx}{G:Gr}{E:XK}{dl:List Slot}{a b:Expr}{d1 d2:Dt}{pos:Pos}{x y:Str}
theorem IT (n1 n2:Nat){px py pt Qb:Pos}{kt k2}(hN:X.N.Nodup)(hc:X.calm=true)(ha:EA X G dl [a,b] [d1,d2])(hi:X.N[n1]?=some x:=by rfl)(hj:X.N[n2]?=some y:=by rfl)(Ug:n1≠n2:=by decide)(hx:X.env.scope.names.lookup x=some .local:=by rfl)(hy:X.env.scope.names.lookup y=some .local:=by rfl)(hw:swappedStores [.Tuple [.Name x px,.Name y py] kt pt] (.Tuple [a,b] k2 Qb) X.env=pure (some [x,y]):=by rfl)(hs:swapsWithSole [.Tuple [.Name x px,.Name y py] kt pt] (.Tuple [a,b] k2 Qb) pos.line X.env=pure false:=by rfl):ES X G E dl (.Assign [.Tuple [.Name x px,.Name y py] kt pt] (.Tuple [a,b] k2 Qb) pos) (.nx ((dl.set n1 (.val d1)).set n2 (.val d2))):=
 sk (Qa hc hN hi hj Ug hx hy ha hw hs) fun D st H zq=>Bn zq fun Hf zq=>have S:=zq.1;have k:=zq.2;⟨Hf,S,fun vs Hf1 H1 g1 r1=>by
   cases r1 with
   | cons r1 t1=>cases t1 with
     | cons r2 t2=>
       cases t2
       exact⟨_,_,rfl,k _ Hf1 H1 g1.bG (((S.grow g1).set r1).set r2)⟩⟩
end
section
variable {X:Cx}{G:Gr}{E:XK}{dl:List Slot}{e:Expr}{d1 d2:Dt}{pos:Pos}
theorem uM (n1 n2:Nat){a b:Str}{pa pb tp:Pos}{cx:Nat}(hN:X.N.Nodup)(hc:X.calm=true)(he:EE X G dl e (.tup [d1,d2]))(Vf:X.N[n1]?=some a:=by rfl)(Vg:X.N[n2]?=some b:=by rfl)(Vh:Loc X.env.scope a:=by first | exact aaK rfl | exact aaD rfl)(QC:Loc X.env.scope b:=by first | exact aaK rfl | exact aaD rfl)(Vi:X.fn a=true\/X.env.scope.names.lookup a=some .local:=by first | exact .inl rfl | exact .inr rfl)(Vj:X.fn b=true\/X.env.scope.names.lookup b=some .local:=by first | exact .inl rfl | exact .inr rfl)(hn:(assignEach [.Name a pa,.Name b pb] X.env).length=2:=by rfl)(mV:(assignEach [.Name a pa,.Name b pb] X.env).findIdx? (·.1)=none:=by rfl)(q1:(assignEach [.Name a pa,.Name b pb] X.env).map (·.2)=assign (.Name a pa) X.env::(assignEach [.Name b pb] X.env).map (·.2):=by rfl)(q2:(assignEach [.Name b pb] X.env).map (·.2)=assign (.Name b pb) X.env::(assignEach [] X.env).map (·.2):=by rfl)(hs:swapsWithSole [.Tuple [.Name a pa,.Name b pb] cx tp] e pos.line X.env=pure false:=by rfl)(hw:swappedStores [.Tuple [.Name a pa,.Name b pb] cx tp] e X.env=pure none:=by rfl)(h1:(assignEach [.Tuple [.Name a pa,.Name b pb] cx tp] X.env).map (·.2)=[assign (.Tuple [.Name a pa,.Name b pb] cx tp) X.env]:=by rfl):ES X G E dl (.Assign [.Tuple [.Name a pa,.Name b pb] cx tp] e pos) (.nx ((dl.set n1 (.val d1)).set n2 (.val d2))):=
 sk (yV he (ql hc (cQ (bC (pos:=pa) hN Vf Vh Vi) (cQ (bC (pos:=pb) hN Vg QC Vj) m5 q2) q1) hn mV) hs hw h1) fun D st H zq=>Bn zq fun Hf zq=>have S:=zq.1;have k:=zq.2;⟨Hf,S,fun v Hf1 H1 g1 r1=>by
   cases r1 with
   | @tup q vs _ hq rp=>
     cases rp with
     | cons r1 t1=>cases t1 with
       | cons r2 t2=>
         cases t2
         exact⟨q,_,rfl,de g1.sub hq,rfl,_,_,rfl,_,_,rfl,rfl,k _ Hf1 H1 g1.bG (((S.grow g1).set r1).set r2)⟩⟩
end
section
variable {X:Cx}{pins:List (Addr×Obj)}{σ:List (Option V)}{H:Hp}{s:Shared}{h':Heap}
theorem Bw {ch:List Addr}{a:Addr}{o:HO}{t':Nat}(I:L2.Inv X pins σ H s)(AH:∀ b∈ch,lE X pins H b)(k:∀ b u,b ∉ ch->s.heap.get? b=some u->h'.get? b=some u)(hp:s.heap.objs.size<=a)(new:aP X.prog X.w (upd H a o) h' a o):L2.Inv X pins σ (upd H a o) { s with heap:=h',toks:=t'}:=by
 have hn:=I.bu.fresh hp
 have T5:∀ b u,H b=some u->b ∉ ch:=fun b u e z=>by rw[(AH b z).1] at e;cases e
 have nea:∀ b o,s.heap.get? b=some o->b≠a:=fun b o e=>aaw (aaq (aap e) hp)
 refine I.step (g':=s.gens) (d':=s.drawn) (ch:=ch) (fun b hb=>⟨(AH b hb).2.2.2.1,(AH b hb).2.1,(AH b hb).2.2.2.2.1,(AH b hb).2.2.2.2.2⟩) (fun b o _ _ hc e _=>k b o hc e) (fun b o _ _ hc e _=>⟨o.slots,k b o hc e⟩) (fun b o _ e n=>by rw[aj (nea b o e)];exact n)
   (fun b o hc e=>⟨o,k b o hc e⟩) (fun b xs e=>by rw[aj (av e hn)];exact e) (fun b o u e=>by rw[aj (av e hn)];exact e) (fun b ps e=>⟨#[],by rw[aj (av e hn),e];simp⟩) (fun m hm=>?_) (fun b u e=>?_) I.bare
 . obtain⟨o,es,ep,ho,r⟩:=hm
   exact⟨o,es,ep,k _ o (fun z=>(AH _ z).2.1 rfl) ho,r⟩
 . by_cases hb:b=a
   . subst hb;rw[ak] at e;cases e;exact new
   . rw[aj hb] at e
     refine(I.bu b u e).yR (fun c v hc q=>k c v ?_ q) (fun c q=>by rw[aj (av q hn)];exact q) (fun c xs q=>by rw[aj (av q hn)];exact q) (.of fun c u q=>by rw[aj (av q hn)];exact q)
     rcases hc with z | z | z
     . rw[z];exact T5 b u e
     . exact T5 c _ z
     . exact fun z'=>by rw[(AH c z').1] at z;exact z
end
noncomputable def Ite (K:PySem.W.Frag)(a:Addr):It:=
 ⟨fun i H=>∃ xs x,mY K H a xs/\xs[i]?=some x,fun i H v H'=>∃ p x,v=.ref p/\H p=none/\H'=upd H p (.tup [.int i,x])/\∀ xs,mY K H a xs->xs[i]?=some x,fun i H=>∃ xs,mY K H a xs/\xs.length<=i⟩
theorem Gx {P:Program}{w:World}{K:W.Frag}{elts:List Expr}{kt:Nat}{yX:Pos}(a e it:Addr)(TM:e≠it):Turn P w K (.Tuple elts kt yX) (Ite K a) [e,it] e (fun i h=>(∃ old,IsEnum h e it i old)/\h.IsListIter it a i) where
 mem:=by simp
 obj:=fun i h st b hb=>by
   obtain⟨⟨old,he⟩,o,e2,c,d⟩:=st
   rcases aaH.mp hb with rfl | hb
   . exact⟨_,he,fun v z=>by cases z⟩
   . have:b=it:=by simpa using hb
     subst this
     exact⟨o,e2,fun v z=>by rw[d] at z;cases z⟩
 keep:=fun i h h' st k=>by
   obtain⟨⟨old,he⟩,hit⟩:=st
   exact⟨⟨old,k e (by simp) _ he⟩,hit.at fun o x=>k it (by simp) o x⟩
 item:=by
   intro X hP hw hK hc i pins s σ H E I hf st hg
   subst hP hw hK
   obtain⟨xs,x,hq,hx⟩:=hg
   obtain⟨aG,rv,p,hz⟩:=I.list hq
   obtain⟨u,hu,ru⟩:=rv.get hx
   obtain⟨⟨old,he⟩,hit⟩:=st
   have Vk:e < s.heap.objs.size:=aap he
   have Xf:it < s.heap.objs.size:=by obtain⟨_,z,_⟩:=hit;exact aap z
   refine wpAny_pyNext_enum_item he hit p.isList (x:=u) (by simpa using hu) TM fun h1 ho QZ hT hsz hk=>?_
   refine⟨_,rfl,wpAny_letOwnedTupleGo_enum ho fun h2 QN ye=>?_⟩
   have YE:h2.get? s.heap.objs.size=some { cls:=.type "tuple",data:=.seq #[.int i s.toks,u]}:=(ye.2 _ (abG Vk)).trans hT
   have k2:∀ b o,b ∉ [e,it]->s.heap.get? b=some o->h2.get? b=some o:=fun b o hb q=>(ye.2 b fun z=>hb (by simp[z])).trans (hk b o (fun z=>hb (by simp[z])) (fun z=>hb (by simp[z])) q)
   have hp:H s.heap.objs.size=none:=I.bu.fresh (aaa _)
   have I2:L2.Inv X pins σ (upd H s.heap.objs.size (.tup [.int i,x])) { s with heap:=h2,toks:=s.toks+1}:=Bw I hf k2 (aaa _) ⟨aaM rfl,[.int i s.toks,u],.cons ⟨_,rfl⟩ (.cons ru .nil),_,YE,rfl,_,rfl⟩
   refine⟨.ref s.heap.objs.size,_,I2,rfl,⟨_,x,rfl,hp,rfl,fun ys hy=>by rw[I.AV hy hq];exact hx⟩,⟨⟨u,by simpa using QN⟩,QZ.at fun o z=>(ye.2 it (Ne.symm TM)).trans z⟩,fun b hb=>?_⟩
   have:b≠s.heap.objs.size:=by
     rcases aaH.mp hb with rfl | hb
     . exact aaw Vk
     . have:b=it:=by simpa using hb
       subst this
       exact aaw Xf
   rw[aj this]
   exact(hf b hb).1
 done:=by
   intro X hP hw hK hc i pins s σ H E I hf st hg
   subst hP hw hK
   obtain⟨xs,hq,hx⟩:=hg
   obtain⟨aG,rv,p,hz⟩:=I.list hq
   obtain⟨⟨old,he⟩,hit⟩:=st
   obtain⟨f0,f1,f2,f3,f4,f5⟩:=hf it (by simp)
   have hl:=rv.length
   exact wpAny_pyNext_enum_end (I.ok.hd hc) he hit p.isList (by simp;omega) fun h' eb=>⟨rfl,I.turned (t':=s.toks) (fun b o hb q=>eb b o hb q) f0 f1 f3 f4 f5⟩
 self:=fun _ i s Q E st h=>by
   obtain⟨⟨old,he⟩,_⟩:=st
   exact wpAny_pyIter_enum he h
theorem boot_enumerate:bootBuiltins "enumerate"=some (.type "enumerate"):=by decide +kernel
section
variable {X:Cx}{G:Gr}{dl:List Slot}{a:Expr}{xs:List Dt}{p pos:Pos}
def OT (K:W.Frag)(ta:TA):TI:=fun σ H R=>ta σ H fun vs H1=>∃ a,vs=[.ref a]/\(∃ xs,mY K H1 a xs)/\R (Ite K a) H1
theorem MJ {elts:List Expr}{kt:Nat}{yX:Pos}{ta:TA}(hg:Gl X "enumerate")(hm:X.mg "enumerate"=none)(ha:PA X [a] ta)(hs:starEach [a] X.env=[(false,eval a X.env)]:=by rfl):PI X (.Tuple elts kt yX) (.Call (.Name "enumerate" p) [a] [] pos) (OT X.K ta):=by
 intro pins s σ H R I h
 refine Call_ (oj I hg hm boot_enumerate (PyProof.Rows.callWith_type1 (bW (ha pos pins s σ H _ I h) fun us s1 ⟨vs,H1,I1,r1,q1⟩=>?_) hs rfl))
 obtain⟨l,e,⟨xs,hq⟩,q⟩:=q1
 subst e
 cases r1 with
 | cons r rr=>
   cases rr
   cases r
   obtain⟨aG,rv,pl,hz⟩:=I1.list hq
   refine call_enumerate_list pl.isList fun h' he hit hsz k=>wpAny_pyIter_enum he ?_
   have I2:L2.Inv X pins σ H1 { s1 with heap:=h'}:=I1.kept (t':=s1.toks) k
   refine⟨s1.heap.objs.size+1,[s1.heap.objs.size+1,s1.heap.objs.size],_,_,H1,rfl,I2,Gx l _ s1.heap.objs.size (abx _),⟨⟨_,he⟩,hit⟩,fun b hb=>?_,q⟩
   have QK:s1.heap.objs.size<=b:=by
     rcases aaH.mp hb with rfl | hb
     . exact abf _
     . have:b=s1.heap.objs.size:=by simpa using hb
       rw[this];exact aaa _
   exact I1.t6 QK (I1.bu.fresh QK)
noncomputable def tT (xs:List Dt):List Dt:=(aam xs.length).map fun(k:Nat)=>.tup [.int k,xs.getD k .cS]
theorem Gy:qu X G dl (tT xs) (OT X.K (QE X.K G dl [.lst xs])):=fun st H R zq=>Bn zq fun Hf zq=>have S:=zq.1;have k:=zq.2;⟨Hf,S,fun vs Hf1 H1 g1 r1=>by
 cases r1 with
 | cons r t=>
   cases t
   cases r with
   | @lst q vs _ hq rp=>
     have hl:=rp.length
     refine⟨q,rfl,⟨vs,.of (g1.sub _ _ hq)⟩,k _ Hf1 H1 g1 fun bX H2 s1 s2 i=>⟨fun z hz=>?_,fun hi=>⟨vs,.of (s2 _ _ (s1 _ _ hq)),by unfold tT at hi;rw[k5,aaI] at hi;omega⟩⟩⟩
     have hi:i < xs.length:=by
       have:=(aaj.mp hz).1
       unfold tT at this
       simpa using this
     unfold tT at hz
     rw[aab,aaL hi] at hz
     cases hz
     have hx:xs[i]?=some (xs.getD i .cS):=by rw[YO,k3 hi];rfl
     obtain⟨u,z1,z2⟩:=rp.get hx
     have hs:mY X.K H2 q vs:=.of (s2 _ _ (s1 _ _ hq))
     refine⟨⟨vs,u,hs,z1⟩,fun v H3 hy=>?_⟩
     obtain⟨pt,x,rfl,hn,rfl,e2⟩:=hy
     have e2:=e2 vs hs
     rw[z1] at e2;cases e2
     have g3:bx bX H2 (upd bX pt (.tup [.int i,u])) (upd H2 pt (.tup [.int i,u])):=.alloc s2 hn
     exact⟨_,g3,.tup (.inl ak) (.cons (.int _) (.cons ((z2.mono s1).mono g3.bG) .nil))⟩⟩
end
section
noncomputable def noOwn:List Slot->Bool
 | []=>true
 | .own _::_=>false
 | _::r=>noOwn r
theorem aY:∀ {dl:List Slot},noOwn dl=true->∀ (j:Nat) o,dl[j]?≠some (.own o)
 | [],_,j,o,h=>by simp at h
 | .val d::r,q,0,o,h=>by simp at h
 | .br::r,q,0,o,h=>by simp at h
 | .val d::r,q,j+1,o,h=>aY (dl:=r) q j o (by simpa using h)
 | .br::r,q,j+1,o,h=>aY (dl:=r) q j o (by simpa using h)
end
section
variable {X:Cx}{G:Gr}{dl:List Slot}{e:Expr}{x:Str}{i j:Int}{pos p2:Pos}{lo hi:Option Expr}{l u:Option Int}
theorem Q0:Yb X (fun x lo hi H Q=>∃ z:Str,x=.str z/\z.length<=sizeLine/\Q (.str (Txt.slice z lo hi)) H):=by
 intro pins s σ H x v vl vu lo hi sl Q I rx hs pl pu h
 obtain⟨z,rfl,hz,q⟩:=h
 obtain⟨t,rfl⟩:=(show ∃ t,v=Value.str z t from rx)
 obtain⟨o,h1,h2,h3⟩:=hs
 refine⟨"str",_,F.slot_str_getitem.lookup,typeIs_str _ _ _,?_⟩
 cases pl with
 | none=>
   cases pu with
   | none=>exact wpAny_getItem_str_slice (l:=none) (u:=none) (st:=none) ⟨o,h1,h2,h3⟩ rfl (post_val_or_str ⟨aaA (Txt.slice_le z _ _) hz,fun t' k=>⟨.str (Txt.slice z _ _),H,I.tok _,⟨t',rfl⟩,q⟩⟩)
   | int j uj=>exact wpAny_getItem_str_slice (l:=none) (u:=some (j,uj)) (st:=none) ⟨o,h1,h2,h3⟩ rfl (post_val_or_str ⟨aaA (Txt.slice_le z _ _) hz,fun t' k=>⟨.str (Txt.slice z _ _),H,I.tok _,⟨t',rfl⟩,q⟩⟩)
 | int i ui=>
   cases pu with
   | none=>exact wpAny_getItem_str_slice (l:=some (i,ui)) (u:=none) (st:=none) ⟨o,h1,h2,h3⟩ rfl (post_val_or_str ⟨aaA (Txt.slice_le z _ _) hz,fun t' k=>⟨.str (Txt.slice z _ _),H,I.tok _,⟨t',rfl⟩,q⟩⟩)
   | int j uj=>exact wpAny_getItem_str_slice (l:=some (i,ui)) (u:=some (j,uj)) (st:=none) ⟨o,h1,h2,h3⟩ rfl (post_val_or_str ⟨aaA (Txt.slice_le z _ _) hz,fun t' k=>⟨.str (Txt.slice z _ _),H,I.tok _,⟨t',rfl⟩,q⟩⟩)
def YF (K:W.Frag)(G:Gr)(dl:List Slot)(o:Option Int):TO:=fun st H Q=>∃ Hf,dX K G st Hf H dl/\∀ aJ H',bx Hf H aJ H'->Q o H'
abbrev Xg (X:Cx)(G:Gr)(dl:List Slot)(e:Option Expr)(o:Option Int):Prop:=PO X e (YF X.K G dl o)
theorem poI {e:Option Expr}{t t':TO}(h:PO X e t)(i:∀ st H Q,t' st H Q->t st H Q):PO X e t':=fun pins s st H Q I q=>h pins s st H Q I (i st H Q q)
theorem IU:Xg X G dl none none:=poI Ea fun st H Q zq=>Bn zq fun Hf zq=>have S:=zq.1;have k:=zq.2;k Hf H (.refl S.sub)
theorem EH (h:EE X G dl e (.int i)):Xg X G dl (some e) (some i):=poI (Eb h) fun st H Q zq=>Bn zq fun Hf zq=>have S:=zq.1;have k:=zq.2;⟨Hf,S,fun v Hf1 H1 g1 r1=>by cases r1;exact⟨i,rfl,k Hf1 H1 g1⟩⟩
theorem IV (he:EE X G dl e (.str x))(hl:Xg X G dl lo l)(hu:Xg X G dl hi u)(hx:x.length<=sizeLine):EE X G dl (.Subscript e (.Slice lo hi none p2) pos) (.str (Txt.slice x l u)):=
 gL (A4 Q0 he hl hu) fun st H Q zq=>Bn zq fun Hf zq=>have S:=zq.1;have k:=zq.2;⟨Hf,S,fun v Hf1 H1 g1 r1=>⟨Hf1,S.grow g1,fun bX H2 g2=>⟨bX,(S.grow g1).grow g2,fun jA H3 g3=>by
   cases r1
   exact⟨x,rfl,hx,k _ jA H3 ((g1.trans g2).trans g3) (.str _)⟩⟩⟩⟩
end
noncomputable def Itx (x:Str):It:=⟨fun i H=>∃ c,x.cps[i]?=some c,fun i H v H'=>H'=H/\∃ c,x.cps[i]?=some c/\v=.str ⟨#[c]⟩,fun i H=>x.cps[i]?=none⟩
theorem IW {P:Program}{w:World}{K:W.Frag}{tg:Expr}(x:Str)(t:Tok)(it:Addr):Turn P w K tg (Itx x) [it] it (fun i h=>h.IsStrIter it "str_ascii_iterator" x t i) where
 mem:=by simp
 obj:=fun i h st b hb=>by
   have e:b=it:=by simpa using hb
   subst e
   obtain⟨o,e,c,d⟩:=st
   exact⟨o,e,fun v z=>by rw[d] at z;cases z⟩
 keep:=fun i h h' st k=>let ⟨o,e,c,d⟩:=st;⟨o,k it (by simp) o e,c,d⟩
 item:=by
   intro X hP hw hK hc i pins s σ H E I hf st hg
   subst hP hw hK
   obtain⟨c,hx⟩:=hg
   obtain⟨f0,f1,f2,f3,f4,f5⟩:=hf it (by simp)
   refine wpAny_pyNext_ascii_item st hx fun h' jD sb=>?_
   have I1:L2.Inv X pins σ H { s with heap:=h',toks:=s.toks+1}:=I.turned (t':=s.toks+1) (fun b o hb e=>(sb.2 b hb).trans e) f0 f1 f3 f4 f5
   obtain⟨o,e,cc,d⟩:=id jD
   exact⟨_,rfl,AY (s:={ s with heap:=h',toks:=s.toks+1}) e cc d (by decide) ⟨.str ⟨#[c]⟩,H,I1,⟨_,rfl⟩,⟨rfl,c,hx,rfl⟩,jD,fun b hb=>(hf b hb).1⟩⟩
 done:=by
   intro X hP hw hK hc i pins s σ H E I hf st hg
   subst hP hw hK
   obtain⟨f0,f1,f2,f3,f4,f5⟩:=hf it (by simp)
   exact wpAny_pyNext_ascii_end (I.ok.hd hc) st hg fun h' eb=>⟨rfl,I.turned (t':=s.toks) (fun b o hb e=>eb b o hb e) f0 f1 f3 f4 f5⟩
 self:=fun _ _ _ _ _ st h=>wpAny_pyIter_striter_ascii st h
noncomputable def kz (x:Str):Bool:=x.cps.all (· < 128)
noncomputable def signs (x:Str):List Dt:=x.cps.toList.map fun c=>.str ⟨#[c]⟩
section
variable {X:Cx}{G:Gr}{dl:List Slot}{a b c e:Expr}{x y z:Str}{pos:Pos}{i j k:Int}{u v:Bool}
def Vl (ta:TE):TI:=fun σ H R=>ta σ H fun v H1=>∃ x,v=.str x/\kz x=true/\R (Itx x) H1
theorem fZ {tg:Expr}{ta:TE}(ha:PE X a ta):PI X tg a (Vl ta):=by
 intro pins s σ H R I h
 refine bW (ha pins s σ H _ I h) fun v s1 ⟨w,H1,I1,r1,q1⟩=>?_
 obtain⟨x,e,hx,q⟩:=q1
 subst e
 obtain⟨t,rfl⟩:=(show ∃ t,v=Value.str x t from r1)
 refine wpAny_pyIter_ascii hx ?_
 refine⟨s1.heap.objs.size,[s1.heap.objs.size],_,_,H1,rfl,I1.kept (t':=s1.toks) fun b o e=>aag _ e,IW x t _,⟨_,aat _ rfl,rfl,rfl⟩,fun b hb=>?_,q⟩
 have e:b=s1.heap.objs.size:=by simpa using hb
 subst e
 exact I1.t6 (aaa _) (I1.bu.fresh (aaa _))
theorem signs_get (x:Str)(i:Nat):(signs x)[i]?=(x.cps[i]?).map fun c=>.str ⟨#[c]⟩:=by
 unfold signs
 rw[aab,abM]
theorem pz (x:Str):(signs x).length=x.length:=by
 unfold signs
 rw[k5,abq];rfl
theorem cE (hx:kz x=true):qu X G dl (signs x) (Vl (tD X.K G dl (.str x))):=fun st H R zq=>Bn zq fun Hf zq=>have S:=zq.1;have k:=zq.2;⟨Hf,S,fun v Hf1 H1 g1 r1=>by
 cases r1
 refine⟨x,rfl,hx,k _ Hf1 H1 g1 fun bX H2 s1 s2 i=>⟨fun z hz=>?_,fun hi=>?_⟩⟩
 . rw[signs_get] at hz
   cases q:x.cps[i]? with
   | none=>rw[q] at hz;cases hz
   | some c=>
     rw[q] at hz
     cases hz
     refine⟨⟨c,q⟩,fun v H3 ⟨e1,c',e2,e3⟩=>?_⟩
     rw[q] at e2;cases e2
     subst e1 e3
     exact⟨bX,.refl s2,.str _⟩
 . show x.cps[i]?=none
   rw[hi,pz]
   exact Array.getElem?_size_le (aaa _)⟩
theorem yu:oi X (compareOp .LtE) (fun x y H Q=>∃ i j,x=.str i/\y=.str j/\Q (.bl (!decide (j.cps.toList < i.cps.toList))) H):=by
 intro pins s σ H x y v u Q I rx ry h
 obtain⟨i,j,rfl,rfl,q⟩:=h
 obtain⟨t,rfl⟩:=rx
 obtain⟨t',rfl⟩:=ry
 exact P.le_str (bK I q rfl)
noncomputable def Q1 (x y:Str):Bool:=!decide (y.cps.toList < x.cps.toList)
theorem IY {K:W.Frag}:CA K (fun x y H Q=>∃ i j,x=.str i/\y=.str j/\Q (.bl (!decide (j.cps.toList < i.cps.toList))) H) (.str x) (.str y) (.bl (Q1 x y)):=fun v w Hf H Q s r1 r2 k=>by
 cases r1;cases r2;exact⟨x,y,rfl,rfl,k _ Hf H (.refl s) (.bl _)⟩
variable {d1 d2 d3:Dt}
theorem Bx {op CI:CmpOp}{r r':R2}(ho:oi X (compareOp op) r)(CD:oi X (compareOp CI) r')(h1:CA X.K r d1 d2 (.bl u))(h2:CA X.K r' d2 d3 (.bl v))(ha:EE X G dl a d1)(hb:EE X G dl b d2)(hc:EE X G dl c d3)(hm:lastMarks [op,CI] [b,c]=false:=by with_unfolding_all rfl):EE X G dl (.Compare a [op,CI] [b,c] pos) (.bl (u && v)):=
 gL (HL ho CD ha hb hc hm) fun st H Q zq=>Bn zq fun Hf zq=>have S:=zq.1;have k:=zq.2;⟨Hf,S,fun x Hf1 H1 g1 r1=>⟨Hf1,S.grow g1,fun y bX H2 g2 r2=>h1 x y bX H2 _ g2.sub (r1.mono g2.bG) r2 fun z jA H3 g3 r3=>by
   cases r3
   refine⟨u,rfl,?_⟩
   cases u with
   | false=>exact zg (k _ jA H3 ((g1.trans g2).trans g3) (.bl _))
   | true=>exact zh ⟨jA,((S.grow g1).grow g2).grow g3,fun w Hq H4 g4 r4=>h2 y w Hq H4 Q g4.sub (r2.mono (g3.bG.trans g4.bG)) r4 fun q uN H5 g5 r5=>k q uN H5 ((((g1.trans g2).trans g3).trans g4).trans g5) r5⟩⟩⟩
theorem IZ (ha:EE X G dl a (.str x))(hb:EE X G dl b (.str y))(hc:EE X G dl c (.str z))(hm:lastMarks [.LtE,.LtE] [b,c]=false:=by with_unfolding_all rfl):EE X G dl (.Compare a [.LtE,.LtE] [b,c] pos) (.bl (Q1 x y && Q1 y z)):=Bx yu yu IY IY ha hb hc hm
theorem Ja (ha:EE X G dl a (.int i))(hb:EE X G dl b (.int j))(hc:EE X G dl c (.int k))(hm:lastMarks [.LtE,.LtE] [b,c]=false:=by with_unfolding_all rfl):EE X G dl (.Compare a [.LtE,.LtE] [b,c] pos) (.bl (decide (i<=j) && decide (j<=k))):=
 Bx D6 D6 (oE (g':=fun i j=>.bl (decide (i<=j))) fun _ _ _ _=>.bl _) (oE (g':=fun i j=>.bl (decide (i<=j))) fun _ _ _ _=>.bl _) ha hb hc hm
end
section
variable {X:Cx}{G:Gr}{dl:List Slot}{a b e:Expr}{pos p apos bM:Pos}{k x:Str}{xs:List Str}{bs:List Bool}{ns:List Int}{hi:Option Expr}{l u:Option Int}
theorem Jb {neg:Bool}:CA X.K (W2 X.K neg) (.str k) (.lst (xs.map .str)) (.bl (if neg then !decide (k∈xs) else decide (k∈xs))):=fun v w Hf H Q s r1 r2 kk=>by
 cases r1
 cases r2 with
 | @lst q vs _ hq rp=>
   have ev:=pq rp
   subst ev
   refine⟨q,_,rfl,.inl (.of (s _ _ hq)),rfl,yt xs,?_⟩
   rw[vP]
   exact kk _ Hf H (.refl s) (.bl _)
theorem Q2 (ha:EE X G dl a (.str k))(hb:EE X G dl b (.lst (xs.map .str)))(hm:behindInMarks .In b=false:=by rfl):EE X G dl (.Compare a [.In] [b] pos) (.bl (decide (k∈xs))):=vE yk (Jb (neg:=false)) hm ha hb
theorem MK (ha:EE X G dl a (.str k))(hb:EE X G dl b (.lst (xs.map .str)))(hm:behindInMarks .NotIn b=false:=by rfl):EE X G dl (.Compare a [.NotIn] [b] pos) (.bl (!decide (k∈xs))):=vE qU (Jb (neg:=true)) hm ha hb
theorem range_all (bs:List Bool):(aam bs.length).all (fun i=>bs.getD i true)=bs.all id:=by
 induction bs with
 | nil=>rfl
 | cons b r ih=>
   rw[aaN,List.range_succ_eq_map,abP,List.all_map,abP]
   show(b && (aam r.length).all (fun i=>r.getD i true))=(b && r.all id)
   rw[ih]
theorem Gz (hc:X.calm=true):ka X (.builtin "all") (fun xs H Q=>∃ (p:Addr) (bs:List Bool),xs=[.ref p]/\mY X.K H p (bs.map V.bl)/\Q (.bl (bs.all id)) H):=by
 intro pins s σ H xs us Q I r h
 obtain⟨p,bs,rfl,hq,q⟩:=h
 obtain⟨u,rfl,rx⟩:=vals1 r
 cases rx
 obtain⟨aG,rv,pl,hz⟩:=I.list hq
 have hlen:=rv.length
 rw[k5] at hlen
 obtain⟨o,n,ho,_⟩:=id pl
 have hp:p < s.heap.objs.size:=aap ho
 refine call_all_walk (wpAny_pyIter_list pl.isList ?_)
 refine⟨s.heap.objs.size,_,_,_,_,_,fun i=>bs.getD i true,rfl,Walks.list (A:=X.A.in1) (I.ok.hd hc) s.heap.objs.size p (aaw hp) aG.toArray,⟨⟨_,aat _ rfl,rfl,rfl⟩,?_⟩,fun i v s' Q' E' hv hQ=>?_,fun h' tk hk=>?_⟩
 . exact pl.isList.at fun o e=>aag _ e
 . have hv:aG[i]?=some v:=by simpa using hv
   have hi:i < aG.length:=(aaj.mp hv).1
   have Vm:i < bs.length:=by omega
   obtain⟨u',h1,h2⟩:=rv.get (i:=i) (x:=V.bl bs[i]) (by rw[aab,k3 Vm];rfl)
   rw[hv] at h1;cases h1
   cases h2
   have e:bs.getD i true=bs[i]:=by rw[YO,k3 Vm];rfl
   have hQ:Q' (bs.getD i true) s':=hQ
   rw[e] at hQ
   exact wpAny_truthy_bool hQ
 . have ea:(aam aG.toArray.size).all (fun i=>bs.getD i true)=bs.all id:=by rw[aar,<- hlen];exact range_all bs
   rw[ea]
   refine⟨.bl _,H,I.kept (t':=tk) fun b o e=>hk b o (fun hm=>?_) (aag _ e),rfl,q⟩
   have:b=s.heap.objs.size:=by simpa using hm
   subst this
   exact aa8 _ (aap e)
theorem boot_all:bootBuiltins "all"=some (.builtin "all"):=by decide +kernel
theorem By {K:W.Frag}{H:Hp}:∀ {bs:List Bool} {vs:List V},bH K H vs (bs.map Dt.bl)->vs=bs.map V.bl
 | [],_,.nil=>rfl
 | b::r,_,.cons h t=>by cases h;rw[By t];rfl
theorem Q3 (hm:X.mg "all"=none)(hc:X.calm=true)(ha:EE X G dl a (.lst (bs.map .bl)))(hg:Gl X "all":=by rfl)(he:starEach [a] X.env=[(false,eval a X.env)]:=by rfl):EE X G dl (.Call (.Name "all" p) [a] [] pos) (.bl (bs.all id)):=
 gL (fB (Gz hc) hg hm boot_all (ae ha ah he) (by decide) (by decide) he rfl) fun st H Q zq=>Bn zq fun Hf zq=>have S:=zq.1;have k:=zq.2;⟨Hf,S,fun vs Hf1 H1 g1 r1=>by
   cases r1 with
   | cons r t=>cases t;cases r with
     | @lst q vs _ z r=>
       have ev:=By r
       subst ev
       exact⟨q,bs,rfl,.of (g1.sub _ _ z),k _ Hf1 H1 g1 (.bl _)⟩⟩
theorem sG (ns:List Int):∀ k,k<=ns.length->preSum (fun i=>ns.getD i 0) k=(ns.take k).sum
 | 0,_=>by simp[preSum]
 | k+1,h=>by
   have hk:k < ns.length:=h
   rw[preSum,sG ns k (aa7 hk),aaY,k3 hk,List.sum_append,YO,k3 hk]
   simp
theorem GA (hc:X.calm=true):ka X (.builtin "sum") (fun xs H Q=>∃ (p:Addr) (ns:List Int),xs=[.ref p]/\mY X.K H p (ns.map V.int)/\Q (.int ns.sum) H):=by
 intro pins s σ H xs us Q I r h
 obtain⟨p,ns,rfl,hq,q⟩:=h
 obtain⟨u,rfl,rx⟩:=vals1 r
 cases rx
 obtain⟨aG,rv,pl,hz⟩:=I.list hq
 have hlen:=rv.length
 rw[k5] at hlen
 obtain⟨o,n,ho,_⟩:=id pl
 have hp:p < s.heap.objs.size:=aap ho
 refine call_sum_walkAnyS (wpAny_pyIter_list pl.isList ?_)
 refine⟨s.heap.objs.size,_,_,_,_,_,_,fun i=>ns.getD i 0,rfl,(Walks.list (A:=X.A.in1) (I.ok.hd hc) s.heap.objs.size p (aaw hp) aG.toArray).toS,⟨⟨_,aat _ rfl,rfl,rfl⟩,?_⟩,fun b hb=>?_,fun i v hv=>?_,fun s' t' hm=>?_⟩
 . exact pl.isList.at fun o e=>aag _ e
 . have hsz:(s.heap.push { cls:=.type "list_iterator",data:=.fields #[.ref p,.int 0 0]}).objs.size=s.heap.objs.size+1:=abc ..
   show b < (s.heap.push { cls:=.type "list_iterator",data:=.fields #[.ref p,.int 0 0]}).objs.size
   rw[hsz]
   rcases aaH.mp hb with e | hb
   . rw[e];exact abh _
   . have:b=p:=by simpa using hb
     rw[this];exact abI hp
 . have hv:aG[i]?=some v:=by simpa using hv
   have hi:i < aG.length:=(aaj.mp hv).1
   have Vm:i < ns.length:=by omega
   obtain⟨u',h1,h2⟩:=rv.get (i:=i) (x:=V.int ns[i]) (by rw[aab,k3 Vm];rfl)
   rw[hv] at h1;cases h1
   obtain⟨t,rfl⟩:=h2
   refine⟨t,?_⟩
   show _=Value.int (ns.getD i 0) t
   rw[YO,k3 Vm];rfl
 . have ea:preSum (fun i=>ns.getD i 0) aG.toArray.size=ns.sum:=by
     rw[aar,<- hlen,sG ns _ (aaa _),abb]
   rw[ea]
   refine⟨.int _,H,?_,⟨t',rfl⟩,q⟩
   obtain⟨h',g',d',tk,X9⟩:=s'
   have e1:g'=s.gens:=hm.gens
   have e2:d'=s.drawn:=hm.drawn
   have e3:X9=s.os:=hm.os
   subst e1 e2 e3
   refine I.kept (t':=tk) fun b o e=>hm.heap b o (fun z=>?_) (aag _ e)
   have:b=s.heap.objs.size:=by simpa using z
   subst this
   exact aa8 _ (aap e)
theorem boot_sum:bootBuiltins "sum"=some (.builtin "sum"):=by decide +kernel
theorem ni {K:W.Frag}{H:Hp}:∀ {ns:List Int} {vs:List V},bH K H vs (ns.map Dt.int)->vs=ns.map V.int
 | [],_,.nil=>rfl
 | b::r,_,.cons h t=>by cases h;rw[ni t];rfl
theorem Jc (hm:X.mg "sum"=none)(hc:X.calm=true)(ha:EE X G dl a (.lst (ns.map .int)))(hg:Gl X "sum":=by rfl)(he:starEach [a] X.env=[(false,eval a X.env)]:=by rfl):EE X G dl (.Call (.Name "sum" p) [a] [] pos) (.int ns.sum):=
 gL (fB (GA hc) hg hm boot_sum (ae ha ah he) (by decide) (by decide) he rfl) fun st H Q zq=>Bn zq fun Hf zq=>have S:=zq.1;have k:=zq.2;⟨Hf,S,fun vs Hf1 H1 g1 r1=>by
   cases r1 with
   | cons r t=>cases t;cases r with
     | @lst q vs _ z r=>
       have ev:=ni r
       subst ev
       exact⟨q,ns,rfl,.of (g1.sub _ _ z),k _ Hf1 H1 g1 (.int _)⟩⟩
theorem yv:∀ {xs:List Str} {us:List Value},Vals (xs.map V.str) us->∃ l:List (Str×Tok),us=strValues l/\l.map (·.1)=xs
 | [],_,.nil=>⟨[],rfl,rfl⟩
 | x::r,_,.cons h t=>by
   obtain⟨tk,rfl⟩:=h
   obtain⟨l,rfl,e⟩:=yv t
   exact⟨(x,tk)::l,rfl,by rw[aau,e]⟩
theorem ML:Qn X "str.join" (fun x xs H Q=>∃ (z:Str) (p:Addr) (ys:List Str),x=.str z/\xs=[.ref p]/\mY X.K H p (ys.map V.str)/\JoinOk z ys=true/\Q (.str (Txt.join z ys)) H):=by
 intro pins s σ H x xs v us Q I rx rv ⟨z,p,ys,e1,e2,hq,bu,q⟩
 subst e1 e2
 obtain⟨t,rfl⟩:=(show ∃ t,v=Value.str z t from rx)
 obtain⟨u,rfl,ru⟩:=vals1 rv
 cases ru
 obtain⟨aG,r,pl,hz⟩:=I.list hq
 obtain⟨l,rfl,el⟩:=yv r
 exact SC.join pl.isList el bu fun t' k=>⟨.str (Txt.join z ys),H,I.tok _,⟨t',rfl⟩,q⟩
theorem MN (ha:EE X G dl a (.str x))(he:EE X G dl e (.lst (xs.map .str)))(bu:JoinOk x xs=true)(i5:attributeBase a "join" X.env (eval a X.env)=eval a X.env:=by rfl)
   (se:((backTo bM (starEach [e] X.env)).all (fun x=>!x.1) && (backToKw bM (keywordEach [] X.env)).all (fun x=>x.1.isSome) && decide ([e].length+([]:List Keyword).length+(if ([]:List Keyword).isEmpty then 0 else 1) < 30))=true:=by rfl)
   (i6:(apos.endLine == bM.line)=true:=by rfl) (mV:starEach [e] X.env=(false,eval e X.env)::starEach [] X.env:=by rfl):EE X G dl (.Call (.Attribute a "join" apos) [e] [] bM) (.str (Txt.join x xs)):=
 gL (tL PySem.F.plainAttrs_str PySem.F.slot_str_join PySem.F.type_str_join ML ha (ae he ah mV) i5 se i6 mV rfl) fun st H Q zq=>Bn zq fun Hf zq=>have S:=zq.1;have k:=zq.2;⟨Hf,S,fun v Hf1 H1 g1 r1=>by
   cases r1
   refine⟨rfl,Hf1,S.grow g1,fun us bX H2 g2 r2=>?_⟩
   cases r2 with
   | cons r2 t2=>cases t2;cases r2 with
     | @lst q vs _ hq rp=>
       have ev:=pq rp
       subst ev
       exact⟨x,q,xs,rfl,rfl,.of (g2.sub _ _ hq),bu,k _ bX H2 (g1.trans g2) (.str _)⟩⟩
end
noncomputable def mG (kds:List (Key×Dt))(k:Key):Option Dt:=(kds.find? fun kv=>decide (kv.1=k)).map (·.2)
theorem rm {p:Key×Dt}{r:List (Key×Dt)}{k:Key}(e:p.1=k):mG (p::r) k=some p.2:=by simp[mG,abl,e]
theorem oG {p:Key×Dt}{r:List (Key×Dt)}{k:Key}(e:¬ p.1=k):mG (p::r) k=mG r k:=by simp[mG,abl,e]
theorem cU.val {K:W.Frag}{H:Hp}{k:Key}:∀ {kvs:List (Key×V)} {kds:List (Key×Dt)} {d:Dt},cU K H kvs kds->mG kds k=some d->∃ v,oB kvs k=some v/\Rep K H v d
 | _,_,_,.nil,e=>by cases e
 | (k1,v1)::r,(_,d1)::s,d,.cons h t,e=>by
   by_cases q:k1=k
   . rw[rm (p:=(k1,d1)) q] at e;cases e
     exact⟨v1,oC (p:=(k1,v1)) q,h⟩
   . rw[oG (p:=(k1,d1)) q] at e
     obtain⟨v,z1,z2⟩:=cU.val t e
     exact⟨v,by rw[mD (p:=(k1,v1)) q];exact z1,z2⟩
theorem cU.Bz {K:W.Frag}{H:Hp}{k:Key}:∀ {kvs:List (Key×V)} {kds:List (Key×Dt)},cU K H kvs kds->(oB kvs k).isSome=(mG kds k).isSome
 | _,_,.nil=>rfl
 | (k1,v1)::r,(_,d1)::s,.cons h t=>by
   by_cases q:k1=k
   . rw[oC (p:=(k1,v1)) q,rm (p:=(k1,d1)) q];rfl
   . rw[mD (p:=(k1,v1)) q,oG (p:=(k1,d1)) q]
     exact cU.Bz t
theorem cU.snoc {K:W.Frag}{H:Hp}{k:Key}{v:V}{d:Dt}(q:Rep K H v d):∀ {kvs:List (Key×V)} {kds:List (Key×Dt)},cU K H kvs kds->cU K H (kvs ++ [(k,v)]) (kds ++ [(k,d)])
 | _,_,.nil=>.cons q .nil
 | _,_,.cons h t=>.cons h (cU.snoc q t)
theorem EI {kvs:List (Key×V)}{k:Key}{v:V}(h:(oB kvs k).isSome=false):putK kvs k v=kvs ++ [(k,v)]:=by
 unfold putK
 rw[qV,h]
 exact if_neg (by simp)
section
variable {X:Cx}{G:Gr}{E:XK}{dl:List Slot}{a b e i o:Expr}{d:Dt}{pos p:Pos}{k x:Str}{kds:List (Key×Dt)}
theorem MO (hu:X.A.units+1 < cLine)(ho:EE X G dl o (.eX kds))(hi:EE X G dl i (.str k))(h:mG kds (.inr k)=some d)(hs:Mi i):EE X G dl (.Subscript o i pos) d:=
 gL (Ef hu ho hi hs) fun st H Q zq=>Bn zq fun Hf zq=>have S:=zq.1;have kk:=zq.2;⟨Hf,S,fun v Hf1 H1 g1 r1=>⟨Hf1,S.grow g1,fun w bX H2 g2 r2=>by
   cases r2
   cases r1 with
   | @eX q kvs _ hq rp=>
     obtain⟨y,z1,z2⟩:=rp.val h
     have e:=t8.k (H:=H2) (k:=.inr k) (g2.big _ _ (g1.sub _ _ hq))
     rw[z1] at e
     exact⟨q,y,rfl,e,kk y bX H2 (g1.trans g2) (z2.mono g2.bG)⟩⟩⟩
theorem YG {neg:Bool}:∀ st H Q,tD X.K G dl (.bl (if neg then !(mG kds (.inr k)).isSome else (mG kds (.inr k)).isSome)) st H Q->(if neg then Ee (tD X.K G dl (.str k)) (tD X.K G dl (.eX kds)) else Ym (tD X.K G dl (.str k)) (tD X.K G dl (.eX kds))) st H Q:=fun st H Q zq=>Bn zq fun Hf zq=>have S:=zq.1;have kk:=zq.2;by
 cases neg with
 | false=>exact⟨Hf,S,fun v Hf1 H1 g1 r1=>⟨Hf1,S.grow g1,fun w bX H2 g2 r2=>by
     cases r1
     cases r2 with
     | @eX q kvs _ hq rp=>exact⟨q,_,rfl,t8.k (k:=.inr k) (g2.sub _ _ hq),by rw[rp.Bz];exact kk _ bX H2 (g1.trans g2) (.bl _)⟩⟩⟩
 | true=>exact⟨Hf,S,fun v Hf1 H1 g1 r1=>⟨Hf1,S.grow g1,fun w bX H2 g2 r2=>by
     cases r1
     cases r2 with
     | @eX q kvs _ hq rp=>exact⟨q,_,rfl,t8.k (k:=.inr k) (g2.sub _ _ hq),by rw[rp.Bz];exact kk _ bX H2 (g1.trans g2) (.bl _)⟩⟩⟩
theorem EJ (hu:X.A.units+1 < cLine)(hi:EE X G dl i (.str k))(ho:EE X G dl o (.eX kds))(hm:behindInMarks .NotIn o=false:=by rfl):EB X G dl (.Compare i [.NotIn] [o] pos) (!(mG kds (.inr k)).isSome):=
 UN (PY (Gf hu hi ho) hm) fun st H Q zq=>Bn zq fun Hf zq=>have S:=zq.1;have kk:=zq.2;YG (neg:=true) st H _ ⟨Hf,S,fun v aJ H' g r=>by cases r;exact⟨_,rfl,kk aJ H' g⟩⟩
theorem BA:bootBuiltins "tuple"=some (.type "tuple"):=by decide +kernel
theorem MP {ds:List Dt}(hm:X.mg "tuple"=none)(ha:EE X G dl a (.tup ds))(hg:Gl X "tuple":=by rfl)(he:starEach [a] X.env=[(false,eval a X.env)]:=by rfl):EE X G dl (.Call (.Name "tuple" p) [a] [] pos) (.tup ds):=
 gL (mC A6 hg hm BA (ae ha ah he) (he:=he)) fun st H Q zq=>Bn zq fun Hf zq=>have S:=zq.1;have k:=zq.2;⟨Hf,S,fun vs Hf1 H1 g1 r1=>by
   cases r1 with
   | cons r t=>cases t;cases r with
     | @tup q vs _ z r=>exact⟨q,vs,rfl,de g1.sub z,k _ Hf1 H1 g1 (.tup z r)⟩⟩
theorem EK:EO X G dl (.Dict [] [] pos) (.eX []):=gL Bb fun st H Q zq=>Bn zq fun Hf zq=>have S:=zq.1;have k:=zq.2;fun p hp=>k p Hf _ (.fJ S.sub hp) hp (S.sub.free hp) ⟨[],ak,.nil⟩
noncomputable def vQ (kds:List (Key×Dt))(k:Key)(v:Dt):List (Key×Dt):=
 if (mG kds k).isSome=true then kds.map (fun kv=>if kv.1=k then (kv.1,v) else kv) else kds ++ [(k,v)]
theorem cU.map_put {K:W.Frag}{H:Hp}{k:Key}{v:V}{d:Dt}(q:Rep K H v d):∀ {kvs:List (Key×V)} {kds:List (Key×Dt)},cU K H kvs kds ->
   cU K H (kvs.map fun kv=>if kv.1=k then (kv.1,v) else kv) (kds.map fun kv=>if kv.1=k then (kv.1,d) else kv)
 | _,_,.nil=>.nil
 | (k1,v1)::r,(_,d1)::s,.cons h t=>by
   rw[aau,aau]
   by_cases e:k1=k
   . rw[if_pos e,if_pos e];exact .cons q (cU.map_put q t)
   . rw[if_neg e,if_neg e];exact .cons h (cU.map_put q t)
theorem cU.put {K:W.Frag}{H:Hp}{k:Key}{v:V}{d:Dt}{kvs:List (Key×V)}{kds:List (Key×Dt)}(q:Rep K H v d)(r:cU K H kvs kds):cU K H (putK kvs k v) (vQ kds k d):=by
 unfold putK vQ
 rw[qV,r.Bz]
 by_cases h:(mG kds k).isSome=true
 . rw[if_pos h,if_pos h];exact cU.map_put q r
 . rw[if_neg h,if_neg h];exact cU.snoc q r
theorem EL (n:Nat){ps pn:Pos}(hu:X.A.units+1 < cLine)(he:EE X G dl e d)(hb:EE X G dl b (.str k))(hl:kds.length < sizeLine)(hd:dl[n]?=some (.own (.eX kds)):=by rfl)(hN:X.N[n]?=some x:=by rfl)(hv:vo X.env.scope x:=by first | exact aaK rfl | exact aaD (aaK rfl) | exact aaD (aaD rfl))(mW:(x == ("__debug__":Str))=false:=by decide)(mz:(x == ("__classdict__":Str))=false:=by decide)(hs:swapsWith e (some (.Subscript (.Name x pn) b ps)) pos.line X.env=pure false:=by rfl):ES X G E dl (.Assign [.Subscript (.Name x pn) b ps] e pos) (.nx (dl.set n (.own (.eX (vQ kds (.inr k) d))))):=
 sk (Eg hu (vM (p:=pn) n hd hN hv mW mz) hb he hs) fun D st H zq=>Bn zq fun Hf zq=>have S:=zq.1;have kk:=zq.2;⟨Hf,S,fun v Hf1 H1 g1 r1=>by
   have S1:=S.grow g1
   obtain⟨q,z1,z2,z3,z4⟩:=S1.own n _ hd
   refine⟨Hf1,q,S1,z1,z2,z4,Hf1,S1,fun iv bX H2 g2 r2=>?_⟩
   cases r2
   have S2:=S1.grow g2
   obtain⟨q',y1,y2,y3,kvs,y4,y5⟩:=S2.own n _ hd
   rw[z1] at y1;cases y1
   have hll:kvs.length < sizeLine:=by rw[y5.length];exact hl
   exact⟨q,_,rfl,Gb.k (k:=.inr k) y4 hll,kk st bX _ (g1.bG.trans g2.bG) (S2.Gj hd z1 ⟨_,ak,y5.put (r1.mono g2.bG)⟩)⟩⟩
noncomputable def qc (rows:List (Str×List Dt)):List (Key×Dt):=rows.map fun r=>(.inr r.1,.tup (.str r.1::r.2))
noncomputable def vR (r:Str×List Dt):Dt:=.tup (.str r.1::r.2)
theorem sH {k:Key}:∀ {kds:List (Key×Dt)},(∀ kv∈kds,kv.1≠k)->mG kds k=none
 | [],_=>rfl
 | kv::r,h=>by
   rw[oG (h kv (aa1 ..))]
   exact sH fun z hz=>h z (aaJ _ hz)
theorem Jd {rows:List (Str×List Dt)}(nd:(rows.map (·.1)).Nodup){j:Nat}(hj:j < rows.length):mG (qc (rows.take j)) (.inr rows[j].1)=none:=by
 refine sH fun kv YH=>?_
 obtain⟨r,hr,rfl⟩:=aaR.mp YH
 intro z
 have z:r.1=rows[j].1:=Sum.inr.inj z
 obtain⟨i,hi,e⟩:=aaX.mp hr
 have W5:i < j:=by
   rw[aay] at hi;omega
 rw[abv] at e
 have Ug:i < rows.length:=by omega
 have h:=aa0.mp nd i j (by rw[k5];exact Ug) (by rw[k5];exact hj) W5
 rw[aaQ,aaQ] at h
 exact h (by rw[e];exact z)
theorem C9 (rows:List (Str×List Dt)){j:Nat}(hj:j < rows.length):qc (rows.take (j+1))=qc (rows.take j) ++ [(.inr rows[j].1,vR rows[j])]:=by
 unfold qc
 rw[aaY,k3 hj,aa6];rfl
theorem bx.lG {Hf H aJ H':Hp}{a:Addr}{u:HO}(g:bx Hf H aJ H')(n:Hf a=none)(h:H a=some u)(nk:¬ Kept u:=by exact fun z=>z):aJ a=none:=by
 cases q:aJ a with
 | none=>rfl
 | some o=>
   obtain⟨o',z⟩:=g.zi h nk q
   rw[n] at z;cases z
theorem pA {K:W.Frag}{st:L2.St}{Hf H:Hp}{dlu:List Slot}{p:Addr}{o:HO}(S:dX K G st Hf H dlu)(uI:noOwn dlu=true)(fp:Hf p=none)(gp:G.H p=none):dX K G st Hf (upd H p o) dlu:=
 ⟨⟨fun b u e=>by rw[aj (av e gp)];exact S.gr.big _ _ e,S.gr.bG,fun b u e=>by rw[aj (av e fp)];exact S.sub _ _ e,S.gr.new⟩,S.len,S.val,fun j o h=>absurd h (aY uI j o),fun j _ o _ _ h=>absurd h (aY uI j o)⟩
theorem Je (nR nN:Nat){C z:Addr}{fs:List (Str×Dt)}{rows:List (Str×List Dt)}{f self rw_ rn:Str}{px pr pa pn p1 p3 p4 p5 p6 pi:Pos}{ie ve:Expr}{dlu:List Slot}(hu:X.A.units+1 < cLine)(hN:X.N.Nodup)(qZ:X.calm=true)(hp:PassesOwn (model X.prog X.w) X.A X.env X.xe)(cl:uG X.K C)(na:bL X.K C f)(hd:dl[0]?=some (.own (.Be z C fs)))(edl:dl.set 0 .br=dlu)(uI:noOwn dlu=true)(hr:dlu[nR]?=some (.val (.lst (rows.map vR))))(hn0:nN≠0)(hnR:nN≠nR)(hun:dlu[nN]?=some .br)(nd:(rows.map (·.1)).Nodup)(hlen:rows.length < sizeLine)(hi:∀ r:Str×List Dt,EE X G (dlu.set nN (.val (vR r))) ie (.str r.1))(hv:∀ r:Str×List Dt,EE X G (dlu.set nN (.val (vR r))) ve (vR r))(hl:Nat.ble fs.length 999=true:=by rfl)(TN:X.N[0]?=some self:=by rfl)(hNr:X.N[nR]?=some rn:=by rfl)(YI:X.N[nN]?=some rw_:=by rfl)(hvs:vo X.env.scope self:=by first | exact aaK rfl | exact aaD (aaK rfl) | exact aaD (aaD rfl))(hvr:vo X.env.scope rn:=by first | exact aaK rfl | exact aaD (aaK rfl) | exact aaD (aaD rfl))(mW:(self == ("__debug__":Str))=false:=by decide)(mz:(self == ("__classdict__":Str))=false:=by decide)(YJ:(rn == ("__debug__":Str))=false:=by decide)(YK:(rn == ("__classdict__":Str))=false:=by decide)(hx:Loc X.env.scope rw_:=by first | exact aaK rfl | exact aaD rfl)(hf:X.fn rw_=true\/X.env.scope.names.lookup rw_=some .local:=by first | exact .inl rfl | exact .inr rfl | assumption)(Hn:swapsWith (.Dict [] [] p1) (some (.Attribute (.Name self pn) f pa)) pos.line X.env=pure false:=by rfl)(ye:swapsWith ve (some (.Subscript (.Attribute (.Name self p3) f p4) ie p5)) p6.line X.env=pure false:=by rfl)(hb:attributeBase (.Name self p3) f X.env (eval (.Name self p3) X.env)=eval (.Name self p3) X.env:=by rfl)(hfs:∀ z,foldedSetIterable (.Name rn pr) X.env z=pure z:=by intro _;rfl):m8 X G E dl [.Assign [.Attribute (.Name self pn) f pa] (.Dict [] [] p1) pos,.For (.Name rw_ px) (.Name rn pr) [.Assign [.Subscript (.Attribute (.Name self p3) f p4) ie p5] ve p6] [] pi] (.nx (dlu.set 0 (.own (.Be z C (putD f (.eX (qc rows)) fs))))):=by
 have OU:∀ {p:Pos},PE X (.Name self p) fun st H Q=>∃ v,st[0]?=some (some v)/\Q v H:=fun {p}=>jC TN hvs mW mz
 have qR:=mZ (Eg (pos:=p6) (pos':=p5) hu (vv (pos:=p4) (OU (p:=p3)) hb) (fun pins s st H Q I (q:∃ r,tD X.K G (dlu.set nN (.val (vR r))) (.str r.1) st H Q)=>let ⟨r,q⟩:=q;hi r pins s st H Q I q) (fun pins s st H Q I (q:∃ r,tD X.K G (dlu.set nN (.val (vR r))) (vR r) st H Q)=>let ⟨r,q⟩:=q;hv r pins s st H Q I q) ye)
 refine zk (om (vw (pos:=pos) (pos':=pa) (OU (p:=pn)) Bb Hn) (mZ (yW hp qZ (ik (jC (pos:=pr) hNr hvr YJ YK)) (bC hN YI hx hf) qR hfs))) fun D st H zq=>Bn zq fun Hf zq=>have S:=zq.1;have k:=zq.2;?_
 obtain⟨a,sa,fa,ga,ea,dx,fv,ha,rf⟩:=S.own 0 _ hd
 intro p BB
 have Xh:a≠p:=av ha BB
 have fp:Hf p=none:=S.sub.free BB
 have gp:G.H p=none:=S.gr.big.free BB
 have Q4:(upd H p (.dK [])) a=some (.ins C dx fv):=by rw[aj Xh];exact ha
 refine⟨.ref a,sa,a,C,dx,fv,rfl,Q4,cl,na,by rw[rf.length];exact Nat.lt_succ_of_le (aaM hl),?_⟩
 have S0:dX X.K G st Hf H dlu:=by
   subst edl
   refine⟨S.gr,by simp[S.len],fun j d h=>?_,fun j o h=>absurd h (aY uI j o),fun j _ o _ _ h=>absurd h (aY uI j o)⟩
   by_cases e:0=j
   . subst e
     by_cases TQ:0 < dl.length
     . rw[aak TQ] at h;cases h
     . exact absurd (aaj.mp hd).1 TQ
   . rw[aal e] at h;exact S.val j d h
 have Su:dX X.K G st Hf (upd (upd H p (.dK [])) a (.ins C dx (fA f (.ref p) fv))) dlu:=pA (pA S0 uI fp gp) uI fa ga
 obtain⟨lv,LF,UA⟩:=Su.val nR _ hr
 cases UA with
 | @lst la vs _ hq rp=>
   have hvl:vs.length=rows.length:=by rw[rp.length,k5]
   refine⟨.ref la,LF,la,rfl,⟨vs,.of (Su.sub _ _ hq)⟩,AZ (xs:=vs) (fun j jD H'=>∃ aJ kvs,dX X.K G jD aJ H' dlu/\aF Hf aJ/\jD[0]?=some (some (.ref a))/\aJ a=none/\aJ p=none/\H' a=some (.ins C dx (fA f (.ref p) fv))/\H' p=some (.dK kvs)/\cU X.K aJ kvs (qc (rows.take j)))
     ⟨Hf,[],Su,aF.refl _,sa,fa,fp,ak,by rw[aj (Ne.symm Xh)];exact ak,by rw[List.take_zero];exact .nil⟩ ?_ ?_ ?_⟩
   . rintro j jD H' _ ⟨aJ,kvs,S',sm,_⟩
     exact .of (S'.sub _ _ (sm _ _ hq))
   . rintro j v jD H' OF ⟨aJ,kvs,S',sm,s0,YL,YM,Vn,Xi,rk⟩
     obtain⟨dz,hz,rz⟩:=rp.get' OF
     have hj:j < rows.length:=by
       have:=(aaj.mp OF).1
       omega
     rw[aab,k3 hj] at hz
     cases hz
     have Sp:dX X.K G (jD.set nN (some v)) aJ H' (dlu.set nN (.val (vR rows[j]))):=S'.set (rz.mono sm)
     have s0':(jD.set nN (some v))[0]?=some (some (.ref a)):=by rw[aal hn0];exact s0
     refine⟨rows[j],aJ,Sp,fun w Hf1 H1 g1 r1=>⟨.ref a,s0',a,C,dx,_,.ref p,rfl,.of (g1.big _ _ Vn),cl,na,by rw[oo,if_pos rfl],rows[j],Hf1,Sp.grow g1,fun y bX H2 g2 r2=>?_⟩⟩
     cases r2
     have g:=g1.trans g2
     have zf:H2 p=some (.dK kvs):=g.big _ _ Xi
     have LG:H2 a=some (.ins C dx (fA f (.ref p) fv)):=g.big _ _ Vn
     have Vo:bX p=none:=g.lG YM Xi
     have fa2:bX a=none:=g.lG YL Vn
     have Vp:=rk.mono g.bG
     have Vq:kvs.length < sizeLine:=by
       rw[rk.length]
       unfold qc
       rw[k5,aay];omega
     have Ga:(oB kvs (.inr rows[j].1)).isSome=false:=by rw[rk.Bz,Jd nd hj];rfl
     have Sw:dX X.K G (jD.set nN (some v)) bX H2 dlu:=(Sp.grow g).weak ⟨by simp,fun i s e n=>by
       by_cases hi:nN=i
       . subst hi;rw[hun] at e;cases e;exact absurd rfl n
       . rw[aal hi];exact e⟩
     refine⟨p,_,rfl,Gb.k (k:=.inr rows[j].1) zf Vq,bX,_,pA Sw uI Vo gp,sm.trans g.bG,s0',fa2,Vo,by rw[aj Xh];exact LG,ak,?_⟩
     rw[EI Ga,C9 rows hj]
     exact Vp.snoc (r1.mono g2.bG)
   . rintro jD H' ⟨aJ,kvs,S',sm,s0,YL,YM,Vn,Xi,rk⟩
     rw[hvl,abb] at rk
     have Vr:aF aJ (upd aJ p (.dK kvs)):=bQ YM
     have l0:0 < dlu.length:=by
       rw[<- S'.len]
       exact(aaj.mp s0).1
     refine k jD (upd aJ p (.dK kvs)) H' (sm.trans Vr) ⟨⟨S'.gr.big,S'.gr.bG.trans Vr,fun b u e=>?_,fun b u e=>?_⟩,by simp[S'.len],fun j d h=>?_,fun j o h=>?_,fun i j o o' q h1 h2 h3 h4=>?_⟩
     . by_cases hb:b=p
       . subst hb;rw[ak] at e;cases e;exact Xi
       . rw[aj hb] at e;exact S'.sub _ _ e
     . by_cases hb:b=p
       . subst hb;exact .inr (.inl gp)
       . rw[aj hb] at e;exact S'.gr.new b u e
     . by_cases e:0=j
       . subst e;rw[aak l0] at h;cases h
       . rw[aal e] at h
         obtain⟨v,z1,z2⟩:=S'.val j d h
         exact⟨v,z1,z2.mono Vr⟩
     . by_cases e:0=j
       . subst e
         rw[aak l0] at h;cases h
         exact⟨a,s0,by rw[aj Xh];exact YL,ga,ea,dx,_,Vn,(rf.mono (sm.trans Vr)).put (.eX ak (rk.mono Vr))⟩
       . rw[aal e] at h;exact absurd h (aY uI j o)
     . have z:∀ (i:Nat) o,(dlu.set 0 (.own (.Be z C (putD f (.eX (qc rows)) fs))))[i]?=some (.own o)->0=i:=fun i o h=>by
         by_cases e:0=i
         . exact e
         . rw[aal e] at h;exact absurd h (aY uI i o)
       rw[<- z i o h1,<- z j o' h2]
end
theorem EM:∀ {xs:List V} {us:List Value},xs.length=us.length->(∀ (j:Nat) x u,xs[j]?=some x->us[j]?=some u->RelV x u)->Vals xs us
 | [],[],_,_=>.nil
 | [],_::_,h,_=>by cases h
 | _::_,[],h,_=>by cases h
 | x::xs,u::us,h,f=>.cons (f 0 x u rfl rfl) (EM (Nat.succ.inj h) fun j a b h1 h2=>f (j+1) a b (by simpa using h1) (by simpa using h2))
theorem Jf:∀ {kvs:List (Key×V)} {vs:List (Key×Value)},KV kvs vs->∀ {j:Nat} {q:Key×Value},vs[j]?=some q->∃ p,kvs[j]?=some p/\p.1=q.1/\RelV p.2 q.2
 | _,_,.nil,j,q,h=>by simp at h
 | _,_,.cons r t,0,q,h=>by simp at h;subst h;exact⟨_,rfl,r⟩
 | _,_,.cons r t,j+1,q,h=>by
   obtain⟨p,h1,h2⟩:=Jf t (j:=j) (q:=q) (by simpa using h)
   exact⟨p,by simpa using h1,h2⟩
theorem Dc:∀ {kvs:List (Key×V)} {vs:List (Key×Value)},KV kvs vs->kvs.length=vs.length
 | _,_,.nil=>rfl
 | _,_,.cons r t=>congrArg (·+1) (Dc t)
section
variable {X:Cx}{G:Gr}{dl:List Slot}{a o:Expr}{kds:List (Key×Dt)}{pos p:Pos}
theorem Dd (hc:X.calm=true):ka X (.type "list") (fun xs H Q=>∃ (d:Addr) (kvs:List (Key×V)),xs=[.ref d]/\H d=some (.dK kvs)/\∀ l,H l=none->Q (.ref l) (upd H l (.lst (kvs.map fun kv=>kV kv.1)))):=by
 intro pins s σ H xs us Q I r h
 obtain⟨d,kvs,rfl,hq,q⟩:=h
 obtain⟨u,rfl,rx⟩:=vals1 r
 cases rx
 obtain⟨hz,lo,vs,kv,o,es,ep,ho,hr⟩:=I.bu d _ hq
 have hl:=Dc kv
 refine W.kdl_call (W.kdl_dict (knd:=cR X.prog X.w) (kvs:=vs) (ep:=ep) lo) (I.ok.hd hc) ⟨o,es,ho,hr⟩ (by omega) fun h' tk Vs c' kp e it=>?_
 refine⟨.ref s.heap.objs.size,_,I.laid (t':=tk) kp (aaa _) (show aP X.prog X.w _ h' _ (.lst _) from⟨by rw[k5];exact hz,Vs.toList,c',EM ?_ fun j x u h1 h2=>?_,e⟩),rfl,q _ (I.bu.fresh (aaa _))⟩
 . have e1:Vs.toList.length=vs.length:=by rw[abq];exact it.1
   rw[k5,e1,hl]
 . rw[abM] at h2
   obtain⟨k,y,z1,z2⟩:=it.2 j u h2
   obtain⟨p,z3,z4,_⟩:=Jf kv z1
   rw[aab,z3] at h1
   cases h1
   have z4:p.1=k:=z4
   show RelV (kV p.1) u
   rw[z4]
   rcases c7 z2 with⟨i,t,rfl,rfl⟩ | ⟨i,t,rfl,rfl⟩
   . exact⟨t,rfl⟩
   . exact⟨t,rfl⟩
noncomputable def kD:Key->Dt
 | .inl i=>.int i
 | .inr x=>.str x
theorem sI {K:W.Frag}{H:Hp}:∀ {kvs:List (Key×V)} {kds:List (Key×Dt)},cU K H kvs kds->bH K H (kvs.map fun kv=>kV kv.1) (kds.map fun kd=>kD kd.1)
 | _,_,.nil=>.nil
 | (.inl i,_)::_,_,.cons _ t=>.cons (.int i) (sI t)
 | (.inr i,_)::_,_,.cons _ t=>.cons (.str i) (sI t)
theorem Jg (hm:X.mg "list"=none)(hc:X.calm=true)(ha:EE X G dl a (.eX kds))(hg:Gl X "list":=by rfl)(he:starEach [a] X.env=[(false,eval a X.env)]:=by rfl):EO X G dl (.Call (.Name "list" p) [a] [] pos) (.lst (kds.map fun kd=>kD kd.1)):=
 gL (mC (Dd hc) hg hm boot_list (ae ha ah he) (he:=he)) fun st H Q zq=>Bn zq fun Hf zq=>have S:=zq.1;have k:=zq.2;⟨Hf,S,fun vs Hf1 H1 g1 r1=>by
   cases r1 with
   | cons r t=>cases t;cases r with
     | @eX q kvs _ z r=>exact⟨q,kvs,rfl,g1.sub _ _ z,fun l hl=>k l Hf1 _ (g1.trans (.fJ g1.sub hl)) (g1.big.free hl) (g1.sub.free hl) ⟨_,ak,sI r⟩⟩⟩
end
section
variable {X:Cx}{G:Gr}{dl:List Slot}{a:Expr}{pos p:Pos}{u:Bool}
theorem EN (hm:X.mg "int"=none)(ha:EE X G dl a (.bl u))(hg:Gl X "int":=by rfl)(he:starEach [a] X.env=[(false,eval a X.env)]:=by rfl):EE X G dl (.Call (.Name "int" p) [a] [] pos) (.int (if u then 1 else 0)):=
 gL (mC F3 hg hm boot_int (ae ha ah he) (he:=he)) fun st H Q zq=>Bn zq fun Hf zq=>have S:=zq.1;have k:=zq.2;⟨Hf,S,fun vs Hf1 H1 g1 r1=>by
   cases r1 with
   | cons r t=>cases t;cases r;exact .inr ⟨u,rfl,k _ Hf1 H1 g1 (.int _)⟩⟩
end
noncomputable def Vt (x:Str):It:=
 ⟨fun i H=>∃ c,x.cps[i]?=some c,fun i H v H'=>∃ p c,v=.ref p/\H p=none/\H'=upd H p (.tup [.int i,.str ⟨#[c]⟩])/\x.cps[i]?=some c,fun i H=>i=x.cps.size⟩
theorem De {P:Program}{w:World}{K:W.Frag}{elts:List Expr}{kt:Nat}{yX:Pos}(x:Str)(t:Tok)(e it:Addr)(TM:e≠it):Turn P w K (.Tuple elts kt yX) (Vt x) [e,it] e (fun i h=>(∃ old,IsEnum h e it i old)/\h.IsStrIter it "str_ascii_iterator" x t i) where
 mem:=by simp
 obj:=fun i h st b hb=>by
   obtain⟨⟨old,he⟩,o,e2,c,d⟩:=st
   rcases aaH.mp hb with rfl | hb
   . exact⟨_,he,fun v z=>by cases z⟩
   . have:b=it:=by simpa using hb
     subst this
     exact⟨o,e2,fun v z=>by rw[d] at z;cases z⟩
 keep:=fun i h h' st k=>by
   obtain⟨⟨old,he⟩,o,e2,r⟩:=st
   exact⟨⟨old,k e (by simp) _ he⟩,o,k it (by simp) o e2,r⟩
 item:=by
   intro X hP hw hK hc i pins s σ H E I hf st hg
   subst hP hw hK
   obtain⟨c,hx⟩:=hg
   obtain⟨⟨old,he⟩,hit⟩:=st
   have Vk:e < s.heap.objs.size:=aap he
   have Xf:it < s.heap.objs.size:=by obtain⟨_,z,_⟩:=hit;exact aap z
   have dn:i < x.cps.size:=(Array.getElem?_eq_some_iff.mp hx).1
   refine wpAny_pyNext_enum_itemD (Draws.strAscii (A:=X.A.in1) (I.ok.hd hc) it x t) he hit dn TM (by simpa using TM) fun u h1 tk hP ho QZ hT hsz hk=>?_
   obtain⟨c',u',Cw,rfl⟩:=hP
   rw[hx] at Cw;cases Cw
   refine⟨_,rfl,wpAny_letOwnedTupleGo_enum ho fun h2 QN ye=>?_⟩
   have YE:h2.get? s.heap.objs.size=some { cls:=.type "tuple",data:=.seq #[.int i tk,.str ⟨#[c]⟩ u']}:=(ye.2 _ (abG Vk)).trans hT
   have k2:∀ b o,b ∉ [e,it]->s.heap.get? b=some o->h2.get? b=some o:=fun b o hb q=>(ye.2 b fun z=>hb (by simp[z])).trans (hk b o (fun z=>hb (by simp[z])) (fun z=>hb (by simp[z])) q)
   have hp:H s.heap.objs.size=none:=I.bu.fresh (aaa _)
   have I2:L2.Inv X pins σ (upd H s.heap.objs.size (.tup [.int i,.str ⟨#[c]⟩])) { s with heap:=h2,toks:=tk+1}:=Bw I hf k2 (aaa _) ⟨aaM rfl,[.int i tk,.str ⟨#[c]⟩ u'],.cons ⟨_,rfl⟩ (.cons ⟨_,rfl⟩ .nil),_,YE,rfl,_,rfl⟩
   refine⟨.ref s.heap.objs.size,_,I2,rfl,⟨_,c,rfl,hp,rfl,hx⟩,⟨⟨_,by simpa using QN⟩,let ⟨o,z1,z2⟩:=QZ;⟨o,(ye.2 it (Ne.symm TM)).trans z1,z2⟩⟩,fun b hb=>?_⟩
   have:b≠s.heap.objs.size:=by
     rcases aaH.mp hb with rfl | hb
     . exact aaw Vk
     . have:b=it:=by simpa using hb
       subst this
       exact aaw Xf
   rw[aj this]
   exact(hf b hb).1
 done:=by
   intro X hP hw hK hc i pins s σ H E I hf st hg
   subst hP hw hK
   have hg:i=x.cps.size:=hg
   subst hg
   obtain⟨⟨old,he⟩,hit⟩:=st
   obtain⟨f0,f1,f2,f3,f4,f5⟩:=hf it (by simp)
   exact wpAny_pyNext_enum_endD (Draws.strAscii (A:=X.A.in1) (I.ok.hd hc) it x t) he hit fun h' eb=>⟨rfl,I.turned (t':=s.toks) (fun b o hb q=>eb b o hb q) f0 f1 f3 f4 f5⟩
 self:=fun _ i s Q E st h=>by
   obtain⟨⟨old,he⟩,_⟩:=st
   exact wpAny_pyIter_enum he h
section
variable {X:Cx}{G:Gr}{dl:List Slot}{a:Expr}{x:Str}{p pos:Pos}
def Jh (ta:TA):TI:=fun σ H R=>ta σ H fun vs H1=>∃ x,vs=[.str x]/\kz x=true/\R (Vt x) H1
theorem Ji {elts:List Expr}{kt:Nat}{yX:Pos}{ta:TA}(hg:Gl X "enumerate")(hm:X.mg "enumerate"=none)(ha:PA X [a] ta)(hs:starEach [a] X.env=[(false,eval a X.env)]:=by rfl):PI X (.Tuple elts kt yX) (.Call (.Name "enumerate" p) [a] [] pos) (Jh ta):=by
 intro pins s σ H R I h
 refine Call_ (oj I hg hm boot_enumerate (PyProof.Rows.callWith_type1 (bW (ha pos pins s σ H _ I h) fun us s1 ⟨vs,H1,I1,r1,q1⟩=>?_) hs rfl))
 obtain⟨x,e,Q5,q⟩:=q1
 subst e
 cases r1 with
 | cons r rr=>
   cases rr
   obtain⟨t,rfl⟩:=r
   refine call_enumerate_str fun h' he hit hsz k=>wpAny_pyIter_enum he ?_
   have Uz:strIterType x="str_ascii_iterator":=by unfold strIterType;rw[show x.cps.all (· < 128)=true from Q5];rfl
   rw[Uz] at hit
   have I2:L2.Inv X pins σ H1 { s1 with heap:=h'}:=I1.kept (t':=s1.toks) k
   refine⟨s1.heap.objs.size+1,[s1.heap.objs.size+1,s1.heap.objs.size],_,_,H1,rfl,I2,De x t _ s1.heap.objs.size (abx _),⟨⟨_,he⟩,hit⟩,fun b hb=>?_,q⟩
   have QK:s1.heap.objs.size<=b:=by
     rcases aaH.mp hb with rfl | hb
     . exact abf _
     . have:b=s1.heap.objs.size:=by simpa using hb
       rw[this];exact aaa _
   exact I1.t6 QK (I1.bu.fresh QK)
theorem Df (hx:kz x=true):qu X G dl (tT (Sg.signs x)) (Jh (QE X.K G dl [.str x])):=fun st H R zq=>Bn zq fun Hf zq=>have S:=zq.1;have k:=zq.2;⟨Hf,S,fun vs Hf1 H1 g1 r1=>by
 cases r1 with
 | cons r t=>
   cases t
   cases r
   refine⟨x,rfl,hx,k _ Hf1 H1 g1 fun bX H2 s1 s2 i=>⟨fun z hz=>?_,fun hi=>?_⟩⟩
   . have hi:i < (Sg.signs x).length:=by
       have:=(aaj.mp hz).1
       unfold tT at this
       simpa using this
     unfold tT at hz
     rw[aab,aaL hi] at hz
     cases hz
     have D2:(Sg.signs x)[i]?=some ((Sg.signs x).getD i .cS):=by rw[YO,k3 hi];rfl
     rw[signs_get] at D2
     cases q:x.cps[i]? with
     | none=>rw[q] at D2;cases D2
     | some c=>
       rw[q] at D2
       have D2:Dt.str ⟨#[c]⟩=(Sg.signs x).getD i .cS:=Option.some.inj D2
       refine⟨⟨c,q⟩,fun v H3 ⟨p,c',e1,e2,e3,e4⟩=>?_⟩
       rw[q] at e4;cases e4
       subst e1 e3
       show ∃ jA,bx bX H2 jA _/\Rep X.K jA (V.ref p) (Dt.tup [Dt.int i,(Sg.signs x).getD i Dt.cS])
       rw[<- D2]
       exact⟨upd bX p (.tup [.int i,.str ⟨#[c]⟩]),.alloc s2 e2,.tup (.of ak) (.cons (.int _) (.cons (.str _) .nil))⟩
   . show i=x.cps.size
     unfold tT at hi
     rw[k5,aaI,pz] at hi
     exact hi⟩
end
theorem Q6 {us:List Value}{d:Value}(h:(us ++ [d]).length=3):∃ a b,us=[a,b]:=by
 rw[aax] at h
 have h:us.length=2:=Nat.succ.inj h
 match us,h with
 | [a,b],_=>exact⟨a,b,rfl⟩
end Sg
namespace Sg
open PySem PySem.Spec PyProof.Rows L2
open Sem (wp)
structure YN (z tI tO j1 j2:Addr)(f1 f2:List Addr):Prop where
 tz:tI≠z
 oz:tO≠z
 az:j1≠z
 bz:j2≠z
 to:tI≠tO
 ta:tI≠j1
 tb:tI≠j2
 oa:tO≠j1
 ob:tO≠j2
 ab:j1≠j2
 z1:z ∉ f1
 o1:tO ∉ f1
 b1:j2 ∉ f1
 z2:z ∉ f2
 o2:tO ∉ f2
 a2:j1 ∉ f2
inductive ZS where
 | txt (x:Str) (t:Tok)
 | lst (l:Addr)
noncomputable def ZS.val:ZS->Value
 | .txt x t=>.str x t
 | .lst l=>.ref l
noncomputable def ZS.obj:ZS->Obj
 | .txt x t=>{ cls:=.type (strIterType x),data:=.fields #[.str x t,.int 0 0]}
 | .lst l=>{ cls:=.type "list_iterator",data:=.fields #[.ref l,.int 0 0]}
def ZS.ok (h:Heap):ZS->Prop
 | .txt x _=>kz x=true
 | .lst l=>∃ xs,h.IsList l xs
def ZS.at (it:Addr)(i:Nat)(h:Heap):ZS->Prop
 | .txt x t=>h.IsStrIter it "str_ascii_iterator" x t i
 | .lst l=>h.IsListIter it l i
noncomputable def ZS.v:ZS->V
 | .txt x _=>.str x
 | .lst l=>.ref l
section
inductive ZD:Dt->List Dt->Prop
 | lst (xs:List Dt):ZD (.lst xs) xs
 | str (x:Str):kz x=true->ZD (.str x) (Sg.signs x)
end
noncomputable def exO (C t:Addr)(od:Option Addr):Obj:={ cls:=.ref C,dict:=od,data:=.fields #[.ref t,.none,.none,.none,.bool false,.none]}
def ExB (h:Heap)(e C:Addr)(od:Option Addr):Prop:=∃ t:Addr,h.get? e=some (exO C t od)
section
variable {C:Addr}
structure StX (K:W.Frag)(C:Addr)(f:Str):Prop where
 sa:W.findIn K (.ref C) "__setattr__"=some (some (.builtin "object.__setattr__"))
 na:W.findIn K (.ref C) f=some none
 ob:W.mroIn K C (.type "object")=some true
 mr:∃ G,(W.clsIn K C).map (·.mro)=some [.ref C,.ref G,.type "ValueError",.type "Exception",.type "BaseException",.type "object"]
 hd:(W.clsIn K C).map (·.hasDict)=some true
end
noncomputable def Q7 (K:PySem.W.Frag)(C:Addr)(bmB:List Value)(nw:String)(fI:Addr):Bool:=match K.lookup C with
 | some ⟨.type "type",_,.cls cd,sl⟩=>(match cd.mro,sl.toList with
   | .ref D::tl,[_,_,_,_,some (.builtin n),_]=>D == C && (n == nw && (!cd.hasDel && (PySem.W.tailIn K bmB tl && (PySem.W.nsOkIn K cd.ns && (PySem.W.nsIn K cd.ns "__init__" == some (some (.ref fI)))))))
   | _,_=>false)
 | _=>false
structure XcI (K:W.Frag)(C fI:Addr):Prop where
 ex:Q7 K C bmV "ValueError.__new__" fI=true
 fn:W.typeIn K (.ref fI)=some (.type "function")
 kp:W.keepIn K (.ref C)=true
structure XcB (K:W.Frag)(G:Addr):Prop where
 sp:W.specialIn K (.ref G) "__getattribute__"=some (some (.builtin "type.__getattribute__"))
 rd:W.readsIn K G (.type "type")=true
 fc:W.findCls K (.ref G) (.type "type") "__init__"=some (.val (.builtin "ValueError.__init__"))
noncomputable abbrev xT (z C:Addr)(od:Option Addr):HO:=.ext fun h=>ExB h z C od
def spX (K:W.Frag)(C:Addr)(f:Str)(ok:Dt->Prop):Sp:=fun vs H Q E=>∃ Hf H1 z v d,vs=[.ref z,v]/\H=upd H1 z (xT z C none)/\H1 z=none/\aF Hf H1/\Rep K Hf v d/\ok d /\
 ∀ bX H2 dx,bx Hf H bX H2->H2 dx=none->dx≠z->Q .cS (upd (upd H2 dx (.xd [(f,v)])) z (xT z C (some dx)))
structure XF (P:Program)(w:World)(K:W.Frag)(mg:Str->Option Value)(base:Heap)(CX:sd)(k:Nat)(x:Str)(C:Addr)(f:Str)(ok:Dt->Prop):Prop where
 ex:∃ fI fd ps,ke P w K mg base CX k fI fd ps (spX K C f ok)/\XcI K C fI/\mg x=some (.ref C)/\Binds K fd ps []
section
variable {X:Cx}{G:Gr}{E:XK}{dl:List Slot}{e:Expr}{p pos apos bM:Pos}{x:Str}{ds LH:List Dt}
theorem GB (n:Nat){pn:Pos}(he:EE X G dl e (.lst LH))(hl:ds.length+LH.length<=sizeLine)(hd:dl[n]?=some (.own (.lst ds)):=by rfl)(hN:X.N[n]?=some x:=by rfl)(hv:vo X.env.scope x:=by first | exact aaK rfl | exact aaD (aaK rfl) | exact aaD (aaD rfl))
   (mW:(x == ("__debug__":Str))=false:=by decide) (mz:(x == ("__classdict__":Str))=false:=by decide)
   (i5:attributeBase (.Name x pn) "extend" X.env (eval (.Name x pn) X.env)=eval (.Name x pn) X.env:=by rfl)
   (se:((backTo bM (starEach [e] X.env)).all (fun x=>!x.1) && (backToKw bM (keywordEach [] X.env)).all (fun x=>x.1.isSome) && decide ([e].length+([]:List Keyword).length+(if ([]:List Keyword).isEmpty then 0 else 1) < 30))=true:=by rfl)
   (i6:(apos.endLine == bM.line)=true:=by rfl) (mV:starEach [e] X.env=(false,eval e X.env)::starEach [] X.env:=by rfl) (hs:swapsWith (.Call (.Attribute (.Name x pn) "extend" apos) [e] [] bM) none pos.line X.env=pure false:=by rfl) :
   ES X G E dl (.Expr (.Call (.Attribute (.Name x pn) "extend" apos) [e] [] bM) pos) (.nx (dl.set n (.own (.lst (ds ++ LH))))):=
 sk (lS (tL PySem.F.plainAttrs_list PySem.F.slot_list_extend PySem.F.type_list_extend F9 (vM (p:=pn) n hd hN hv mW mz) (ae he ah mV) i5 se i6 mV rfl) hs) fun D st H zq=>Bn zq fun Hf zq=>have S:=zq.1;have k:=zq.2;by
   obtain⟨q,z1,z2,z3,vs,hq,rp⟩:=S.own n _ hd
   refine⟨Hf,q,S,z1,z2,⟨vs,hq,rp⟩,.inl ⟨rfl,vs,.of hq⟩,Hf,S,fun us Hf1 H1 g1 r1=>?_⟩
   cases r1 with
   | cons r1 t1=>
     cases t1
     cases r1 with
     | @lst b zs _ hb rz=>
       refine⟨q,b,vs,zs,rfl,rfl,g1.big _ _ hq,g1.sub _ _ hb,by rw[rp.length,rz.length];exact hl,?_⟩
       exact k st Hf1 _ g1.bG ((S.grow g1).Gj hd z1 ⟨_,ak,(rp.mono g1.bG).append rz⟩)
end
mutual
noncomputable def YQ:Dt->Bool
 | .lst _=>false
 | .o9 _=>false
 | .tup ds=>Vu ds
 | .eX kds=>Vv kds
 | .obj _ fs=>Vw fs
 | .qo _=>false
 | .xo _=>false
 | .Cz _ _=>false
 | .dW _=>false
 | .memo _ _ _ _=>false
 | .dU _ _ _ _=>false
 | .uH _ _ _=>false
 | .vB _ _ _ _ _=>false
 | .mh _=>false
 | _=>true
noncomputable def Vu:List Dt->Bool
 | []=>true
 | d::r=>YQ d && Vu r
noncomputable def Vv:List (Key×Dt)->Bool
 | []=>true
 | (_,d)::r=>YQ d && Vv r
noncomputable def Vw:List (Str×Dt)->Bool
 | []=>true
 | (_,d)::r=>YQ d && Vw r
end
structure Vx (k:Nat)(A:Around):Prop where
 dp:A.depth+3 * k+5 < recursionLimit
 un:A.units+16 * k+200 < cLine
structure Vy (P:Program)(w:World)(K:W.Frag)(mg:Str->Option Value)(base:Heap)(CX:sd)(k:Nat)(f:Addr)(fd:FuncData)(ps:List Str)(sp:Sp):Prop where
 len:∀ vs H Q E,sp vs H Q E->vs.length=ps.length
 run:∀ (A:Around) (outer:List Env) (s:Shared) (H:Hp) (args:Args) (us:List Value) (vs:List V) (Q:VK) (E:XK),Vx k A->A0 P w K mg base A outer s H->BindsTo s fd args (ps.zip us)->Vals vs us->sp vs H Q E ->
   codeAny (model P w) A (.call (.ref f) args) (CR CX outer P w H s Q E) s
structure GFH (P:Program)(w:World)(K:W.Frag)(mg:Str->Option Value)(base:Heap)(CX:sd)(k:Nat)(x:Str)(n:Nat)(R:List Dt->Res->Prop):Prop where
 ex:∃ f fd ps,Vy P w K mg base CX k f fd ps (Ek K n R)/\mg x=some (.ref f)/\W.keepIn K (.ref f)=true/\Binds K fd ps []
theorem vS:typeLookup (.type "list") "keys"=pure none:=am_miss_of_fast (by decide +kernel)
theorem GC {prog:Program}{w:World}{A:Around}{E:Value->Shared->Prop}{s:Shared}{a:Addr}{o:Obj}{xs:Array Value}{k:Nat}{Q:Option Value->Shared->Prop}(hx:s.heap.get? a=some o)(hc:o.cls=.type "list")(Vz:o.data=.seq xs k)(hd:o.dict=none)(hA:A.handled=none)(h:∀ h' tk,(∀ b u,s.heap.get? b=some u->h'.get? b=some u)->Q none { s with heap:=h',toks:=tk}):wpAny (model prog w) A (getAttr? (.ref a) "keys") Q E s:=by
 obtain⟨c,dct,dat,sl⟩:=o
 simp only at hc Vz hd
 subst hc Vz hd
 obtain⟨hp,g,d,tk,os⟩:=s
 have hT:∀ tk',(⟨hp,g,d,tk',os⟩:Shared).TypeIs (.ref a) "list":=fun _=>⟨_,hx,rfl⟩
 have f1:=sub_AttributeError
 have f3:=F.slot_list_getattribute.lookup
 have f4:=F.slot_list_getattribute.bind (.ref a)
 have f5:=am_list_getattr_none
 unfold getAttr? getAttrBy? getAttrBy
 repeat (any_goals (first | assumption | exact hT _ | ((with_reducible show wpAny _ _ (call (Value.builtin "list.__getattribute__") _ _) _ _ _);refine call_meets F.slot_list_getattribute (hT _) am_entry_list_getattribute (F.args_list_getattribute_2 _ _) (meets_getattribute_miss_list a xs k sl "keys" _ vS (by decide +kernel)) ⟨hx,hA,fun h' tk' e D2=>?_⟩) | wp_step))
 obtain⟨t',u',he⟩:=D2.there
 show wpAny _ _ (getattributeRaised _ _ _ _ _ _ _) _ _ _
 unfold getattributeRaised
 repeat (any_goals (first | assumption | wp_step))
 exact h _ _ D2.keeps
theorem jR:plainId "dict.update.loop"=true:=by decide +kernel
theorem qd:entryFor table "dict.update.loop"=some Builtin.«dict.update.loop»:=entryFor_of_fast (by kernel_rfl)
inductive Hr (K:W.Frag)(H:Hp):List V->List (Key×V)->Prop
 | nil:Hr K H [] []
 | cons {t:Addr} {k:Key} {v:V} {xs:List V} {kvs:List (Key×V)}:Cy K H t [kV k,v]->Hr K H xs kvs->Hr K H (.ref t::xs) ((k,v)::kvs)
theorem Hr.length {K:W.Frag}{H:Hp}:∀ {xs:List V} {kvs:List (Key×V)},Hr K H xs kvs->xs.length=kvs.length
 | _,_,.nil=>rfl
 | _,_,.cons _ r=>congrArg (·+1) (Hr.length r)
theorem Hr.get {K:W.Frag}{H:Hp}:∀ {xs:List V} {kvs:List (Key×V)} {i:Nat} {kv:Key×V},Hr K H xs kvs->kvs[i]?=some kv->∃ t,xs[i]?=some (.ref t)/\Cy K H t [kV kv.1,kv.2]
 | _,_,_,_,.nil,e=>by simp at e
 | _,_,0,_,.cons h _,e=>by simp at e;subst e;exact⟨_,rfl,h⟩
 | _,_,i+1,_,.cons _ r,e=>by
   obtain⟨t,h1,h2⟩:=Hr.get (i:=i) r (by simpa using e)
   exact⟨t,by simpa using h1,h2⟩
theorem BC {kvs:List (Key×V)}{k:Key}(h:k ∉ kvs.map (·.1)):(oB kvs k).isSome=false:=by
 induction kvs with
 | nil=>rfl
 | cons p r ih=>
   have h1:¬ p.1=k:=fun e=>h (by simp[e])
   rw[mD h1]
   exact ih fun z=>h (by simp at z ⊢;exact .inr z)
section
variable {X:Cx}{pins:List (Addr×Obj)}{σ:L2.St}{H:Hp}{A:Around}{R:Result->Shared->Prop}{L d it:Addr}{xs:List V}{kvs:List (Key×V)}
theorem Jj (hA:A.handled=none)(hL:mY X.K H L xs)(hp:Hr X.K H xs kvs)(nd:(kvs.map (·.1)).Nodup)(hd:H d=none)(hf:lE X pins H it)(YR:d≠it)(hz:kvs.length<=sizeLine)(hR:∀ s',L2.Inv X pins σ (upd H d (.dK kvs)) s'->R (.ok (.ret .none)) s'):∀ (k i:Nat) (s:Shared) (tk:Tok),kvs.length - i=k->i<=kvs.length->L2.Inv X pins σ (upd H d (.dK (kvs.take i))) s->s.heap.IsListIter it L i->codeAny (model X.prog X.w) A (.builtin "dict.update.loop" ⟨[.ref d,.ref it,.int i tk,.none],[]⟩) R s:=by
 have hlen:=hp.length
 have sm:∀ o,aF H (upd H d o):=fun o=>bQ hd
 obtain⟨f0,f1,f2,f3,f4,f5⟩:=hf
 intro k
 induction k with
 | zero=>
   intro i s tk hk hi I st
   have Q8:i=kvs.length:=by omega
   subst Q8
   obtain⟨aG,rv,p,hz'⟩:=I.list ((sm _).seq hL)
   have hl:=rv.length
   refine codeAny_builtin qd ?_
   rw[Around.under_plainId jR _]
   show wpAny _ A.in1 (pyNext (.ref it) >>= _) _ _ s
   refine wpAny_bind (wpAny_pyNext_list_end (show A.in1.handled=none from hA) st p.isList (by simp;omega) fun h' eb=>?_)
   have I1:L2.Inv X pins σ (upd H d (.dK (kvs.take kvs.length))) { s with heap:=h'}:=I.turned (t':=s.toks) (fun b o hb e=>eb b o hb e) (by rw[aj (Ne.symm YR)];exact f0) f1 f3 f4 f5
   rw[abb] at I1
   show wpAny _ A.in1 (Builtin.Dict.addKeywords d [] >>= _) _ _ _
   exact wpAny_bind (wpAny_pure (wpAny_pure (hR _ I1)))
 | succ k ih=>
   intro i s tk hk hi I st
   have dn:i < kvs.length:=by omega
   obtain⟨t,ht1,ht2⟩:=hp.get (k3 dn)
   obtain⟨aG,rv,p,hz'⟩:=I.list ((sm _).seq hL)
   obtain⟨u,hu,ru⟩:=rv.get ht1
   cases (show u=Value.ref t from ru)
   refine codeAny_builtin qd ?_
   rw[Around.under_plainId jR _]
   show wpAny _ A.in1 (pyNext (.ref it) >>= _) _ _ s
   refine wpAny_bind (wpAny_pyNext_list_item st p.isList (x:=.ref t) (by simpa using hu) fun h' jD sb=>?_)
   have I1:L2.Inv X pins σ (upd H d (.dK (kvs.take i))) { s with heap:=h'}:=I.turned (t':=s.toks) (fun b o hb e=>(sb.2 b hb).trans e) (by rw[aj (Ne.symm YR)];exact f0) f1 f3 f4 f5
   obtain⟨pit,rp,pt,hzt⟩:=I1.tuple (de (sm _) ht2)
   cases rp with
   | cons rk rp=>cases rp with
     | cons rv' rp=>
       cases rp
       rename_i ku vu
       obtain⟨ot,eo,YS,nn,hdt⟩:=pt
       refine wpAny_bind (wpAny_holding (wpAny_bind (wpAny_tryCatch ?_)))
       unfold Builtin.Dict.pairItems
       refine wpAny_bind (wpAny_typeOf (T:="tuple") ⟨_,eo,YS⟩ ?_)
       simp only[show((Value.type "tuple" == Value.type "list") || (Value.type "tuple" == Value.type "tuple"))=true by decide,if_true]
       refine wpAny_bind (wpAny_seqItems eo hdt (wpAny_pure ?_))
       show wpAny _ A.in1 (holding [ku,vu] (dictSet d ku vu)) _ _ _
       refine wpAny_holding ?_
       have ed:(upd H d (HO.dK (kvs.take i))) d=some (.dK (kvs.take i)):=ak
       obtain⟨z,hdm,vs,rel,dd⟩:=OI I1.bu ed
       have hzv:vs.length<=sizeLine:=by rw[<- rel.length];exact z
       have VA:putK (kvs.take i) kvs[i].1 kvs[i].2=kvs.take (i+1):=by
         rw[EI (BC ?_),List.take_succ,k3 dn];rfl
         rw[List.map_take]
         intro hm
         obtain⟨j,hj,e⟩:=aaX.mp hm
         rw[aay,k5] at hj
         rw[abv,aaQ] at e
         have:=aa0.mp nd j i (by rw[k5];omega) (by rw[k5];omega) (by omega)
         rw[aaQ,aaQ] at this
         exact this e
       refine wpAny_dictSet_pairs (hsz:=hzv) (A8 rk) dd fun h2 Qx hs=>?_
       have he:∃ q,h2.get? d=some q:=let ⟨q,_,_,hq,_⟩:=Qx;⟨q,hq⟩
       have I2:L2.Inv X pins σ (upd (upd H d (.dK (kvs.take i))) d (.dK (putK (kvs.take i) kvs[i].1 kvs[i].2))) { s with heap:=h2,toks:=s.toks+1}:=m7 (s:={ s with heap:=h'}) (t':=s.toks+1) I1 (by rw[ed];exact True.intro) hs he (Ia (by rw[VA,aay];omega) hdm (rel.put _ rv') Qx)
       rw[uC,VA] at I2
       exact wpAny_pure ⟨plainId_quiet jR _,ih (i+1) _ _ (by omega) (by omega) I2 (jD.at fun o e=>(hs.2 it (Ne.symm YR)).trans e)⟩
theorem zy (hc:X.calm=true):ka X (.type "dict") (fun xs H Q=>∃ L ys kvs,xs=[.ref L]/\H L=some (.lst ys)/\Hr X.K H ys kvs/\(kvs.map (·.1)).Nodup/\kvs.length<=sizeLine/\∀ l,H l=none->Q (.ref l) (upd H l (.dK kvs))):=by
 intro pins s σ H xs us Q I r h
 obtain⟨L,ys,kvs,rfl,hL,hp,nd,hz,q⟩:=h
 obtain⟨u,rfl,rx⟩:=vals1 r
 cases rx
 refine callType_codes (Q₁:=fun obj s₁=>obj=.ref s.heap.objs.size/\s₁={ s with heap:=s.heap.push { cls:=.type "dict",data:=.dict #[]}}) F.kt_called_dict (F.kt_typeCall_dict_1 _) F.entry_dict_init (kt_code_dict_new _ ⟨rfl,rfl⟩) ?_
 rintro obj s₁ ⟨rfl,rfl⟩
 have Ga:(s.heap.push { cls:=.type "dict",data:=.dict #[]}).DictOf (cR X.prog X.w) s.heap.objs.size []:=Heap.DictOf.new s.heap
 have hn:=I.bu.fresh (aaa _)
 have I1:L2.Inv X pins σ (upd H s.heap.objs.size (.dK [])) { s with heap:=s.heap.push { cls:=.type "dict",data:=.dict #[]}}:=I.laid (a:=s.heap.objs.size) (o:=.dK []) (t':=s.toks) (fun _ _ q=>aag _ q) (aaa _) (Ba s.heap I.big)
 refine⟨Ga.typeIs,F.args_dict_init_2 _ _,?_⟩
 unfold Builtin.«dict.__init__»
 refine wpAny_bind ?_
 unfold Builtin.Dict.selfAndRest
 refine wpAny_bind (wpAny_notOrdered_dict Ga.typeIs ?_)
 show wpAny _ _ (pure (s.heap.objs.size,[Value.ref L])) _ _ _
 refine wpAny_pure ?_
 show wpAny _ _ (Builtin.Dict.updateFrom "dict.__init__" s.heap.objs.size (.ref L) [] .none) _ _ _
 unfold Builtin.Dict.updateFrom
 have hdL:s.heap.objs.size≠L:=fun e=>by rw[<- e,hn] at hL;cases hL
 have hL1:(upd H s.heap.objs.size (HO.dK [])) L=some (.lst ys):=by rw[aj (Ne.symm hdL)];exact hL
 obtain⟨hz',aG,n,rv,eL⟩:=(show aP X.prog X.w _ _ L (.lst ys) from I1.bu L _ hL1)
 have hA:X.A.handled=none:=I.ok.hd hc
 refine wpAny_bind (wpAny_typeOf (T:="list") ⟨_,eL,rfl⟩ ?_)
 rw[if_pos (by decide)]
 refine wpAny_bind (GC eL rfl rfl rfl (by exact hA) fun h1 VB kp1=>?_)
 rw[if_pos (by rfl)]
 have I2:L2.Inv X pins σ (upd H s.heap.objs.size (.dK [])) { s with heap:=h1,toks:=VB}:=I1.kept (t':=VB) kp1
 have eL2:h1.get? L=some { cls:=.type "list",data:=.seq aG.toArray n}:=kp1 _ _ eL
 refine wpAny_bind (wpAny_rule (wpAny_bind (wpAny_pyIter_list (s:={ s with heap:=h1,toks:=VB}) (items:=aG.toArray) ⟨_,eL2,rfl,n,rfl⟩ ?_)))
 have I3:L2.Inv X pins σ (upd H s.heap.objs.size (.dK [])) { s with heap:=h1.push { cls:=.type "list_iterator",data:=.fields #[.ref L,.int 0 0]},toks:=VB}:=I2.kept (t':=VB) fun b o e=>aag _ e
 have hsz:s.heap.objs.size < h1.objs.size:=I2.bu.lt ak
 have hlo:s.heap.objs.size<=h1.objs.size:=aa7 hsz
 have YT:H h1.objs.size=none:=by
   have:=I2.bu.fresh (aaa h1.objs.size)
   rw[aj (abG hsz)] at this
   exact this
 refine wpAny_pure ⟨plainId_quiet jR _,Jj (kvs:=kvs) (by exact hA) (.of hL) hp nd hn (I2.t6 (b:=h1.objs.size) (aaa _) YT) (aaw hsz) hz (fun s' I'=>⟨rfl,.ref _,_,I',rfl,q _ hn⟩) kvs.length 0 _ _ (by omega) (by omega) I3 ⟨_,aat _ rfl,rfl,rfl⟩⟩
end
section
variable {X:Cx}{G:Gr}{dl:List Slot}{a:Expr}{pos p:Pos}{kds:List (Key×Dt)}
noncomputable def LI (kd:Key×Dt):Dt:=.tup [kD kd.1,kd.2]
theorem Jl {K:W.Frag}{Hf H:Hp}(sm:aF Hf H):∀ {ys:List V} {kds:List (Key×Dt)},bH K Hf ys (kds.map LI)->∃ kvs,Hr K H ys kvs/\cU K Hf kvs kds
 | _,[],.nil=>⟨[],.nil,.nil⟩
 | _,(k,d)::kds,.cons r t=>by
   obtain⟨kvs,h1,h2⟩:=Jl sm t
   cases r with
   | @tup a vs _ hs rp=>
     cases rp with
     | @cons v1 _ _ _ r1 r2=>cases r2 with
       | @cons v2 _ _ _ r2 r3=>
         cases r3
         have e1:v1=kV k:=by
           cases k with
           | inl i=>cases r1;rfl
           | inr x=>cases r1;rfl
         subst e1
         exact⟨(k,v2)::kvs,.cons (de sm hs) h1,.cons r2 h2⟩
theorem cU.keys {K:W.Frag}{H:Hp}:∀ {v:List (Key×V)} {d:List (Key×Dt)},cU K H v d->v.map (·.1)=d.map (·.1)
 | _,_,.nil=>rfl
 | _,_,.cons _ r=>by rw[aau,aau,cU.keys r]
theorem mH (hm:X.mg "dict"=none)(hc:X.calm=true)(ha:EE X G dl a (.lst (kds.map LI)))(nd:(kds.map (·.1)).Nodup)(hz:kds.length<=sizeLine)(hg:Gl X "dict":=by rfl)(he:starEach [a] X.env=[(false,eval a X.env)]:=by rfl):EO X G dl (.Call (.Name "dict" p) [a] [] pos) (.eX kds):=
 gL (mC (zy hc) hg hm boot_dict (ae ha ah he) (he:=he)) fun st H Q zq=>Bn zq fun Hf zq=>have S:=zq.1;have k:=zq.2;⟨Hf,S,fun vs Hf1 H1 g1 r1=>by
   cases r1 with
   | cons r t=>cases t;cases r with
     | @lst q vs _ z r=>
       obtain⟨kvs,h1,h2⟩:=Jl g1.sub r
       exact⟨q,vs,kvs,rfl,g1.sub _ _ z,h1,by rw[h2.keys];exact nd,by rw[h2.length];exact hz,fun l hl=>k l Hf1 _ (g1.trans (.fJ g1.sub hl)) (g1.big.free hl) (g1.sub.free hl) ⟨kvs,ak,h2⟩⟩⟩
theorem GD:Qn X "str.count" (fun x vs H Q=>∃ z y:Str,x=.str z/\vs=[.str y]/\Q (.int (Txt.count z y)) H):=by
 intro pins s σ H x vs v us Q I rx rv ⟨z,y,e1,e2,q⟩
 subst e1 e2
 obtain⟨t,rfl⟩:=(show ∃ t,v=Value.str z t from rx)
 obtain⟨u,rfl,ru⟩:=vals1 rv
 obtain⟨t',rfl⟩:=(show ∃ t,u=Value.str y t from ru)
 exact PySem.SC.count ⟨.int (Txt.count z y),H,I.tok _,⟨_,rfl⟩,q⟩
end
section
inductive Jm:List (Key×Value)->List (Key×Value)->Prop
 | nil:Jm [] []
 | cons {k:Key} {i:Int} {t u:Tok} {xs ys:List (Key×Value)}:Jm xs ys->Jm ((k,.int i t)::xs) ((k,.int i u)::ys)
end
theorem vT {H:Hp}{q:Addr}{o:HO}(h:H q=some o):upd H q o=H:=by
 funext b
 by_cases e:b=q
 . subst e;rw[ak,h]
 . rw[aj e]
section
variable {X:Cx}{G:Gr}{dl:List Slot}{a b:Expr}{x:Str}{apos bM:Pos}{kds:List (Key×Dt)}
noncomputable def dI (kds:List (Key×Int)):List (Key×Dt):=kds.map fun kd=>(kd.1,Dt.int kd.2)
theorem MQ {K:W.Frag}{H:Hp}:∀ {kds:List (Key×Int)} {kvs:List (Key×V)},cU K H kvs (dI kds)->kvs=kds.map fun kd=>(kd.1,V.int kd.2)
 | [],_,.nil=>rfl
 | (k,i)::kds,_,.cons r t=>by
   cases r
   rw[MQ (kds:=kds) t];rfl
theorem GG {z w:Str}(ha:EE X G dl a (.str z))(hb:EE X G dl b (.str w))(i5:attributeBase a "count" X.env (eval a X.env)=eval a X.env:=by rfl)
   (se:((backTo bM (starEach [b] X.env)).all (fun x=>!x.1) && (backToKw bM (keywordEach [] X.env)).all (fun x=>x.1.isSome) && decide ([b].length+([]:List Keyword).length+(if ([]:List Keyword).isEmpty then 0 else 1) < 30))=true:=by rfl)
   (i6:(apos.endLine == bM.line)=true:=by rfl) (mV:starEach [b] X.env=(false,eval b X.env)::starEach [] X.env:=by rfl):EE X G dl (.Call (.Attribute a "count" apos) [b] [] bM) (.int (Txt.count z w)):=
 gL (tL PySem.F.plainAttrs_str PySem.F.slot_str_count PySem.F.type_str_count GD ha (ae hb ah mV) i5 se i6 mV rfl) fun st H Q zq=>Bn zq fun Hf zq=>have S:=zq.1;have k:=zq.2;⟨Hf,S,fun v Hf1 H1 g1 r1=>by
   cases r1
   exact⟨rfl,Hf1,S.grow g1,fun vs bX H2 g2 r2=>by
     cases r2 with
     | cons r t=>cases t;cases r;exact⟨z,w,rfl,rfl,k _ bX H2 (g1.trans g2) (.int _)⟩⟩⟩
end
structure vU (X:Cx)(N:List Str)(xt:Str)(ix:List Nat)(sc:Scope):Prop where
 nd:N.Nodup
 nm:N=xt::ix.map (fun j=>X.N.getD j "")
 kind:sc.kind=.function
 one:sc.names.filter (fun y=>y.2 == .cell)=[(xt,.cell)]
 names:∀ y∈sc.names,y.2=.local->sc.names.lookup y.1=some .local
 hx:sc.names.lookup xt=some .cell
 PU:∀ y∈sc.names,y.2=.free->y.1≠xt
 fr:∀ y∈sc.names,y.2=.free->X.env.kindOf y.1=some .cell\/X.env.kindOf y.1=some .free
 UT:∀ j∈ix,∃ y,X.N[j]?=some y/\sc.names.lookup y=some .free
noncomputable def kg (X:Cx)(N:List Str)(sc:Scope)(xt:Str)(c C:Addr)(fp:List Addr)(s:Shared)(H:Hp):Cx:=
 { X with N:=N,s₀:=s,H₀:=H,env:=compEnvC sc ((xt,c)::lQ sc X.env) C X.env,outer:=X.stack,stack:=X.stack,ex:=fp,fn:=fun y=>y == xt,pn:=[],xe:=xE}
theorem ER:∀ {names:List (Str×NameKind)} {acc:List (Str×Addr)} {n:Nat} {h:Heap},names.filter (fun y=>y.2 == .cell)=[]->cellsFrom n names acc=acc/\pushCells h names=h
 | [],_,_,_,_=>⟨rfl,rfl⟩
 | (y,k)::r,acc,n,h,e=>by
   by_cases hk:(k == NameKind.cell)=true
   . rw[abF (by exact hk)] at e;cases e
   . rw[abE (by exact hk)] at e
     unfold cellsFrom pushCells
     rw[if_neg hk,if_neg hk]
     exact ER e
theorem BD {x:Str}:∀ {names:List (Str×NameKind)} {acc:List (Str×Addr)} {n:Nat} {h:Heap},names.filter (fun y=>y.2 == .cell)=[(x,.cell)]->cellsFrom n names acc=(x,n)::acc/\pushCells h names=h.push { cls:=.type "cell",data:=.cell none}
 | [],_,_,_,e=>by cases e
 | (y,k)::r,acc,n,h,e=>by
   by_cases hk:(k == NameKind.cell)=true
   . rw[abF (by exact hk)] at e
     injection e with e1 e2
     cases e1
     unfold cellsFrom pushCells
     rw[if_pos hk,if_pos hk]
     exact ER e2
   . rw[abE (by exact hk)] at e
     unfold cellsFrom pushCells
     rw[if_neg hk,if_neg hk]
     exact BD e
theorem MR {M:Model}{A:Around}{E:Value->Shared->Prop}{s:Shared}{sc:Scope}{globals:Addr}{cl:List (Str×Addr)}{qual:Str}{around:Env}{x:Str}{Q:Env->Shared->Prop}(h1:sc.names.filter (fun y=>y.2 == .cell)=[(x,.cell)])(hQ:Q { scope:=sc,locals:=s.heap.objs.size,globals:=globals,cells:=(x,s.heap.objs.size+1)::cl,qual:=qual,func:=none,code:=around.code,frame:=around.frame,builtins:=around.builtins} { s with heap:=(s.heap.push { cls:=.type "dict",data:=.dict #[]}).push { cls:=.type "cell",data:=.cell none}}):wpAny M A (newFunctionEnv sc globals cl [] qual none .none (some around)) Q E s:=by
 simp only[newFunctionEnv,Option.isSome_some,if_true]
 refine wpAny_bind (wpAny_alloc ?_)
 refine wpAny_bind (wpAny_layCells _ (fun name kind cells=>by cases hkc:kind == NameKind.cell <;> simp[hkc]) _ _ _ _ ?_)
 obtain⟨e1,e2⟩:=BD (acc:=cl) (n:=(s.heap.push { cls:=.type "dict",data:=.dict #[]}).objs.size) (h:=s.heap.push { cls:=.type "dict",data:=.dict #[]}) h1
 show wpAny M A (forIn [] PUnit.unit _ >>= _) Q E _
 rw[List.forIn_nil]
 refine wpAny_bind (wpAny_pure (wpAny_pure ?_))
 dsimp only
 rw[e1,e2,abc]
 exact hQ
section
variable {X:Cx}{N:List Str}{xt:Str}{ix:List Nat}{sc:Scope}{pins:List (Addr×Obj)}{st:L2.St}{H H':Hp}{s s':Shared}{c C D:Addr}{fp:List Addr}{h1:Heap}
theorem ET (B:vU X N xt ix sc)(ok:X.Ok):closureFor sc X.env=pure (lQ sc X.env):=zu fun y hy hk=>ok.has y.1 (B.fr y hy hk)
theorem pB (B:vU X N xt ix sc)(ok:X.Ok){y:Str}{c:Addr}(h:(lQ sc X.env).lookup y=some c):X.env.cells.lookup y=some c/\(y,NameKind.free)∈sc.names:=by
 rcases q8 _ _ h with⟨h1,h2⟩ | h1
 . obtain⟨c',h3⟩:=ok.has y (B.fr _ h1 rfl)
   rw[h3] at h2
   cases h2
   exact⟨h3,h1⟩
 . cases h1
theorem jE {y xt:Str}{c d:Addr}{cl:List (Str×Addr)}(h:((xt,c)::cl).lookup y=some d):(y=xt/\d=c)\/(y≠xt/\cl.lookup y=some d):=by
 rw[aaT] at h
 cases q:(y == xt) with
 | true=>rw[q] at h;exact .inl ⟨by simpa using q,(Option.some.inj h).symm⟩
 | false=>rw[q] at h;exact .inr ⟨by simpa using q,h⟩
theorem uO (B:vU X N xt ix sc)(I:L2.Inv X pins st H s)(hC:s.heap.objs.size<=C)(hc:s.heap.objs.size<=c)(hf:∀ b∈fp,lE X pins H b)(dn:∀ b∈fp,b < s.heap.objs.size):(kg X N sc xt c C fp s H).Ok where
 mod:=I.ok.mod
 kind:=B.kind
 glob:=I.ok.glob
 blt:=I.ok.blt
 above:=hC
 inj:=fun y z d h1 h2=>by
   have old:∀ {y:Str},(lQ sc X.env).lookup y=some c->False:=fun {y} h=>by
     obtain⟨v,q⟩:=I.cell y c (pB B I.ok h).1
     exact absurd (aaq q.lt hc) (aa8 _)
   rcases jE h1 with⟨e1,e2⟩ | ⟨e1,e2⟩ <;> rcases jE h2 with⟨e3,e4⟩ | ⟨e3,e4⟩
   . rw[e1,e3]
   . rw[e2] at e4;exact(old e4).elim
   . rw[e4] at e2;exact(old e2).elim
   . exact I.ok.inj y z d (pB B I.ok e2).1 (pB B I.ok e4).1
 has:=fun y hy=>by
   have hy:(relabel sc X.env).names.lookup y=some .cell\/(relabel sc X.env).names.lookup y=some .free:=hy
   show ∃ d,((xt,c)::lQ sc X.env).lookup y=some d
   by_cases e:y=xt
   . subst e;exact⟨c,by simp[aaT]⟩
   . have nc:(y,NameKind.cell) ∉ sc.names:=fun hm=>by
       have:(y,NameKind.cell)∈sc.names.filter (fun y=>y.2 == .cell):=List.mem_filter.mpr ⟨hm,rfl⟩
       rw[B.one] at this
       have:=List.mem_singleton.mp this
       exact e (congrArg Prod.fst this)
     have:(y,NameKind.free)∈sc.names:=by
       rcases hy with hy | hy
       . obtain⟨k',h1,h2⟩:=fY hy
         rcases h2 with h2 | h2
         . subst h2;exact absurd h1 nc
         . subst h2;exact h1
       . obtain⟨k',h1,h2⟩:=fY hy
         rcases h2 with h2 | h2 <;> subst h2 <;> exact h1
     obtain⟨d,hd⟩:=kf (cells:=X.env.cells) sc.names [] (.inl this)
     refine⟨d,?_⟩
     rw[aaT,show(y == xt)=false by simpa using e]
     exact hd
 Tv:=fun y d h1 h2=>by
   rcases jE h2 with⟨_,e⟩ | ⟨e,_⟩
   . rw[e];exact hc
   . exact absurd (by have h1:(y == xt)=true:=h1;simpa using h1) e
 hd:=I.ok.hd
 frames:=I.ok.frames
 T3:=.inl rfl
 LR:=fun b hb=>⟨aaw (aaq (dn b hb) hC),fun y d h=>by
   rcases jE h with⟨_,e⟩ | ⟨_,e⟩
   . rw[e];exact abG (aaq (dn b hb) hc)
   . exact(hf b hb).2.2.2.2.1 y d (pB B I.ok e).1⟩
 bs:=I.bs
 DY:=aaA I.ok.DY I.sz
 AQ:=fun b o e hb=>by
   rcases (hf b hb).2.2.2.1 with z | z
   . exact I.ok.AQ b o e z
   . exact absurd (aaq (aap e) (aaA I.ok.DY z)) (aa8 _)
 AR:=fun b hb z=>by
   rcases aaH.mp (I.vp b z) with z | z
   . exact(hf b hb).2.1 z
   . exact(hf b hb).2.2.1 z
 rY:=I.stack
 Ov:=I.uD
theorem Dg (B:vU X N xt ix sc)(I:L2.Inv X pins st H s)(hf:∀ b∈fp,lE X pins H b)(dn:∀ b∈fp,b < s.heap.objs.size)(hC:C=s.heap.objs.size+1)(T6:c=s.heap.objs.size+2)(k:∀ b o,s.heap.get? b=some o->h1.get? b=some o)(hn:h1.Ns C fun _=>none)(YU:h1.IsCell c none)(hD:h1.get? s.heap.objs.size=some { cls:=.type "list",data:=.seq ([]:List Value).toArray 0}){t':Nat}:L2.Inv (kg X N sc xt c C fp s H) [] (aan 1 none ++ frees ix st) (upd H s.heap.objs.size (.lst [])) { s with heap:=h1,toks:=t'}:=by
 have OM:s.heap.objs.size<=C:=by rw[hC];exact abf _
 have Cw:s.heap.objs.size<=c:=by rw[T6];exact aby _ _
 have fr:∀ a,s.heap.objs.size<=a->H a=none:=fun a ha=>I.bu.fresh ha
 have ok:=uO (c:=c) B I OM Cw hf dn
 have Cv:∀ y c,(lQ sc X.env).lookup y=some c->H c=none/\c < s.heap.objs.size/\∃ v,s.heap.IsCell c v:=fun y c h=>by
   have h:=(pB B I.ok h).1
   obtain⟨v,q⟩:=I.cell y c h
   exact⟨I.p8 y c h,q.lt,v,q⟩
 refine⟨ok,rfl,I.bare,Un.laid k (aaa _) (fr _ (aaa _)),⟨_,hn,fun i y v e1 e2 e3=>?_⟩,fun y d h=>?_,?_,fun y d h=>?_,fun p hp=>absurd (show p∈([]:List (Addr×Obj)) from hp) (by simp),?_,?_⟩
 . have e1:N[i]?=some y:=e1
   cases i with
   | zero=>cases e2
   | succ i=>
     rw[B.nm,aa5,aab] at e1
     have e2:(frees ix st)[i]?=some (some v):=e2
     unfold frees at e2
     rw[aab] at e2
     cases q:ix[i]? with
     | none=>rw[q] at e1;cases e1
     | some j=>
       rw[q] at e1 e2
       obtain⟨y',LD,Iw⟩:=B.UT j (abj q)
       have Mu:=PySem.mem_of_lookup Iw
       have ey:y=y':=by
         have e1:X.N.getD j ""=y:=Option.some.inj e1
         rw[YO,LD] at e1
         exact e1.symm
       subst ey
       have e2:(st[j]?).join=some v:=Option.some.inj e2
       have UU:st[j]?=some (some v):=by
         cases q2:st[j]? with
         | none=>rw[q2] at e2;cases e2
         | some z=>rw[q2] at e2;rw[show z=some v from e2]
       have kd:=B.fr _ Mu rfl
       have nx:y≠xt:=B.PU _ Mu rfl
       have UW:vo X.env.scope y:=by
         rcases kd with z | z
         . exact .inr (.inl z)
         . exact .inr (.inr z)
       obtain⟨m,_,hl⟩:=I.loc
       obtain⟨u,r,l⟩:=hl j y v LD UU UW
       refine⟨u,r,.inr ?_⟩
       rcases l with⟨z,_⟩ | ⟨_,d,hd,ic⟩
       . rcases kd with z' | z' <;> rw[z] at z' <;> cases z'
       . obtain⟨d',Tw⟩:=kf (cells:=X.env.cells) sc.names [] (.inl Mu)
         have:=(pB B I.ok Tw).1
         rw[hd] at this;cases this
         obtain⟨oc,D1,Gm⟩:=ic
         refine⟨?_,d,?_,oc,k _ _ D1,Gm⟩
         . rcases e3 with e3 | e3 | e3
           . have e3:(relabel sc X.env).names.lookup y=some .local:=e3
             rcases m9 (env:=X.env) Iw with z | z
             . exact absurd (e3.symm.trans z) (by decide)
             . exact absurd (e3.symm.trans z) (by decide)
           . exact .inl e3
           . exact .inr e3
         . show((xt,c)::lQ sc X.env).lookup y=some d
           rw[aaT,show(y == xt)=false by simpa using nx]
           exact Tw
 . rcases jE h with⟨_,e⟩ | ⟨_,e⟩
   . rw[e];exact⟨none,YU⟩
   . obtain⟨_,_,v,oc,D1,hd⟩:=Cv y d e
     exact⟨v,oc,k _ _ D1,hd⟩
 . show upd H s.heap.objs.size (.lst []) C=none
   rw[aj (by rw[hC];exact abx _)]
   exact fr _ OM
 . show upd H s.heap.objs.size (.lst []) d=none
   rcases jE h with⟨_,e⟩ | ⟨_,e⟩
   . rw[e,aj (by rw[T6];exact abG (Nat.lt_add_of_pos_right (by decide)))]
     exact fr _ Cw
   . obtain⟨q1,q2,_⟩:=Cv y d e
     rw[aj (aaw q2)]
     exact q1
 . exact I.bu.laid k (aaa _) ⟨aaW _,[],0,.nil,hD⟩
 . show(aan 1 none ++ frees ix st).length=N.length
   rw[B.nm]
   unfold frees
   simp
theorem BE {elt iter tg:Expr}{ifs:List Expr}{pos:Pos}{g:TG}{tt:TT}{te:TE}{J:It}{it:Addr}{tj:Nat->Heap->Prop}{Q:Addr->List V->Hp->Prop}{RR:Value->Addr->Result->Shared->Prop}{E:Value->Shared->Prop}(hc:X.calm=true)(B:vU X N xt ix sc)(hg:∀ c C fp s H,PG (kg X N sc xt c C fp s H) tg g)(ht:∀ c C fp s H,MD (kg X N sc xt c C fp s H) ifs tt)(i9:∀ c C fp s H,PE (kg X N sc xt c C fp s H) elt te)(I:L2.Inv X pins st H s)(T:Turn X.prog X.w X.K tg J fp it tj)(h0:tj 0 s.heap)(hf:∀ b∈fp,lE X pins H b)(hq:∀ D,H D=none->ED 1 g tt te (frees ix st) J D (Q D) H)(UX:∀ D C ys H' s',L2.Inv X pins st H' s'->(∃ m,s'.heap.Ns C m)->lE X pins H' C->Q D ys H'->RR (.ref D) C (.ok .next) s'):wpAny (model X.prog X.w) X.A (newList []) (fun acc s3=>wpAny (model X.prog X.w) X.A (newFunctionEnv sc X.env.globals (lQ sc X.env) [] X.env.qual none .none (some X.env)) (fun Bh s4=>codeAny (model X.prog X.w) X.A (.compStart (.ListComp elt [⟨tg,iter,ifs,0⟩] sc pos) 0 (.ref it) acc { Bh with scope:=relabel sc X.env}) (RR acc Bh.locals) s4) E s3) E s:=by
 have dn:∀ b∈fp,b < s.heap.objs.size:=fun b hb=>by
   obtain⟨o,e,_⟩:=T.obj _ _ h0 b hb
   exact aap e
 refine wpAny_newObj_type (MR B.one ?_)
 dsimp only
 generalize hG:s.heap.push { cls:=.type "list",dict:=none,data:=.seq ([]:List Value).toArray}=g'
 generalize Xj:(g'.push { cls:=.type "dict",data:=.dict #[]}).push { cls:=.type "cell",data:=.cell none}=h1
 have hC:g'.objs.size=s.heap.objs.size+1:=by rw[<- hG,abc]
 have W9:s.heap.objs.size≠g'.objs.size:=by rw[hC];exact aaw (abh _)
 have old:∀ b o,s.heap.get? b=some o->h1.get? b=some o:=fun b o e=>by
   rw[<- Xj,<- hG]
   exact aag _ (aag _ (aag _ e))
 have Iy:h1.get? s.heap.objs.size=some { cls:=.type "list",data:=.seq ([]:List Value).toArray 0}:=by
   rw[<- Xj,<- hG]
   exact aag _ (aag _ (aat _ rfl))
 have Hm:h1.Ns g'.objs.size fun _=>none:=by
   rw[<- Xj]
   exact(Heap.Ns.new g' (.type "dict")).keeps fun b o e=>aag _ e
 have YU:h1.IsCell (g'.objs.size+1) none:=by
   rw[<- Xj]
   have e:g'.objs.size+1=(g'.push { cls:=.type "dict",data:=.dict #[]}).objs.size:=by rw[abc]
   rw[e]
   exact⟨_,aat _ rfl,rfl⟩
 have hD:H s.heap.objs.size=none:=I.bu.fresh (aaa _)
 obtain⟨W,⟨m0,w0⟩,turn⟩:=hq _ hD
 have I0:=Dg (t':=s.toks) B I hf dn hC (show g'.objs.size+1=s.heap.objs.size+2 by rw[hC]) old Hm YU Iy
 have ON:tj 0 h1:=T.keep _ _ _ h0 fun b _ o e=>old b o e
 have oF:s.heap.objs.size<=g'.objs.size:=by rw[hC];exact abf _
 have qm:∀ {H':Hp},(∀ b∈fp,H' b=none)->∀ b∈fp,lE (kg X N sc xt (g'.objs.size+1) g'.objs.size fp s H) [] H' b:=fun {H'} hn b hb=>
   ⟨hn b hb,((uO B I oF (aaA oF (abf _)) hf dn).LR b hb).1,(uO B I oF (aaA oF (abf _)) hf dn).AR b hb,.inl hb,((uO B I oF (aaA oF (abf _)) hf dn).LR b hb).2,fun p hp=>absurd (show p∈([]:List (Addr×Obj)) from hp) (by simp)⟩
 have loop:∀ s3:Shared,s3={ s with heap:=h1} ->
     codeAny (model X.prog X.w) X.A (.compLoop (.ListComp elt [⟨tg,iter,ifs,0⟩] sc pos) 0 (.ref it) (.ref s.heap.objs.size) (compEnvC sc ((xt,g'.objs.size+1)::lQ sc X.env) g'.objs.size X.env)) (RR (.ref s.heap.objs.size) g'.objs.size) s3:=by
   rintro s3 rfl
   refine Bq (fun n s'=>∃ i ys σ H',σ.length=1/\L2.Inv (kg X N sc xt (g'.objs.size+1) g'.objs.size fp s H) [] (σ ++ frees ix st) H' s'/\tj i s'.heap/\(∀ b∈fp,H' b=none)/\W i n ys H') ?_ m0
     ⟨0,[],aan 1 none,_,by simp,I0,ON,fun b hb=>?_,w0⟩
   . rintro n s5 ⟨i,ys,σ,H5,hσ,I5,Hl,LA,w5⟩
     rcases turn i n ys H5 w5 with⟨stop,qn⟩ | ⟨go,hz,step⟩
     . refine bW (T.done (kg X N sc xt (g'.objs.size+1) g'.objs.size fp s H) rfl rfl rfl hc i [] s5 _ H5 xE I5 (qm LA) Hl stop) fun r s6 ⟨hr,I6⟩=>?_
       subst hr
       refine UX _ _ ys H5 s6 ?_ ?_ (I.t6 oF I6.free) qn
       . exact I.HC I6.os I6.base I6.bu I6.bare fun b hb=>⟨(hf b hb).2.2.2.1,(hf b hb).2.1,(hf b hb).2.2.2.2.1,(hf b hb).2.2.2.2.2⟩
       . obtain⟨m,hm,_⟩:=I6.loc
         exact⟨m,hm⟩
     . refine bW (T.item (kg X N sc xt (g'.objs.size+1) g'.objs.size fp s H) rfl rfl rfl hc i [] s5 _ H5 xE I5 (qm LA) Hl go) fun r s6 ⟨u,hr,h6⟩=>?_
       subst hr
       refine bW h6 fun _ s7 ⟨v,H7,I7,r7,y7,Iz,UY⟩=>?_
       have UZ:=I7.pinned (qm UY) (T.obj _ _ Iz)
       refine bW (hg (g'.objs.size+1) g'.objs.size fp s H _ s7 _ H7 v u _ UZ r7 (step σ hσ v H7 y7)) fun _ s8 h8=>?_
       obtain⟨σ8,H8,I8,σ',e8,Vd,h8⟩:=h8
       subst e8
       have pinned:∀ {σ9:L2.St} {H9:Hp} {s9:Shared},L2.Inv (kg X N sc xt (g'.objs.size+1) g'.objs.size fp s H) ([] ++ r0 fp s7.heap) σ9 H9 s9->tj (i+1) s9.heap/\∀ b∈fp,H9 b=none:=fun {σ9 H9 s9} I9=>by
         refine⟨T.keep _ _ _ Iz fun b hb o e=>(I9.pin (b,o) (aaz _ (aaz _ (fX hb e)))).1,fun b hb=>?_⟩
         obtain⟨o,e,d⟩:=T.obj _ _ Iz b hb
         exact(I9.pin (b,o) (aaz _ (aaz _ (fX hb e)))).2.1
       refine bW (ht (g'.objs.size+1) g'.objs.size fp s H _ s8 _ H8 _ I8 h8) fun ok Yz ME=>?_
       obtain⟨YA,MG,ME⟩:=ME
       cases ok with
       | false=>
         obtain⟨m',hm,w8⟩:=ME
         exact⟨m',hm,i+1,ys,σ',_,Vd,MG.j9 (pins:=[]),(pinned MG).1,(pinned MG).2,w8⟩
       | true=>
         refine bW (i9 (g'.objs.size+1) g'.objs.size fp s H _ Yz _ YA _ MG ME) fun z s9 ⟨y,H9,I9,r9,U0,m',hm,w9⟩=>?_
         refine bW (o7 _ s9 _ H9 (.ref s.heap.objs.size) [y] (.ref s.heap.objs.size) [z] (fun _ H'=>H'=upd H9 s.heap.objs.size (.lst (ys ++ [y]))) I9 rfl (.cons r9 .nil) ⟨_,ys,y,rfl,rfl,U0,hz,rfl⟩) fun _ s10 U1=>?_
         obtain⟨_,H10,IA,_,rfl⟩:=U1
         exact⟨m',hm,i+1,ys ++ [y],σ',_,Vd,IA.j9 (pins:=[]),(pinned IA).1,(pinned IA).2,w9⟩
   . rw[aj (aaw (dn b hb))]
     exact(hf b hb).1
 exact codeAny_compStart_list (loop _ rfl) (T.self _ 0 _ _ _ ON (loop _ rfl))
theorem vV {env:Env}{y:Str}:∀ {names:List (Str×NameKind)},names.lookup y=some .cell->(names.map fun(n,k)=>if (k == NameKind.free && env.scope.kind == .function && env.kindOf n == some .cell) then (n,NameKind.cell) else (n,k)).lookup y=some .cell
 | [],h=>by simp at h
 | (n,kk)::r,h=>by
   rw[aau,aaT]
   rw[aaT] at h
   cases q:(y == n) with
   | true=>
     rw[q] at h
     have:kk=.cell:=Option.some.inj h
     subst this
     simp[q]
   | false=>
     rw[q] at h
     have ih:=vV (env:=env) h
     by_cases hc:(kk == NameKind.free && env.scope.kind == .function && env.kindOf n == some .cell)=true
     . simp only[hc,if_true,q];exact ih
     . simp only[hc,aa2,if_false,q];exact ih
end
section
variable {X:Cx}{G:Gr}{E:XK}{dl:List Slot}{a b elt iter tg:Expr}{ifs:List Expr}{pos p px py rb:Pos}{o:Out}{xt y:Str}{N:List Str}{ix:List Nat}{sc:Scope}
variable {α:Type}{as:List α}{z f:α->Dt}{sl:α->List Slot}{keep:α->Bool}{g:TG}{wi:TI}
inductive vW (X:Cx)(N:List Str)(xt:Str)(sc:Scope)(dl:List Slot)(ix:List Nat)(as:List α)(sl:α->List Slot)(keep:α->Bool):List Expr->Prop
 | nil:(∀ a∈as,keep a=true)->vW X N xt sc dl ix as sl keep []
 | one {ce:Expr}:(∀ a∈as,∀ c C fp s H G',EB (kg X N sc xt c C fp s H) G' (sl a ++ jB dl ix) ce (keep a))->vW X N xt sc dl ix as sl keep [ce]
theorem EU (h:vW X N xt sc dl ix as sl keep ifs):∀ c C fp s H,MD (kg X N sc xt c C fp s H) ifs (MH X.K dl ix as sl keep):=fun c C fp s H=>by
 cases h with
 | nil h=>exact fun pins s' st H' Q I ⟨a,G',ha,Hf,S,k⟩=>wpAny_tests_nil ⟨H',I,by have:=k Hf H' (.refl S.sub);rw[h a ha] at this;exact this⟩
 | one h=>exact EC fun pins s' st H' Q I ⟨a,G',ha,q⟩=>h a ha c C fp s H G' pins s' st H' Q I q
def Q9 (X:Cx)(N:List Str)(xt:Str)(sc:Scope)(dl:List Slot)(ix:List Nat)(as:List α)(sl:α->List Slot)(keep:α->Bool)(f:α->Dt)(elt:Expr):Prop:=∀ a∈as,keep a=true->∀ c C fp s H G',EE (kg X N sc xt c C fp s H) G' (sl a ++ jB dl ix) elt (f a)
theorem Jn (h:Q9 X N xt sc dl ix as sl keep f elt):∀ c C fp s H,PE (kg X N sc xt c C fp s H) elt (MI X.K dl ix as sl keep f):=fun c C fp s H pins s' st H' Q I ⟨a,G',ha,hk,q⟩=>h a ha hk c C fp s H G' pins s' st H' Q I q
theorem Ra {tt:TT}{te:TE}(hc:X.calm=true)(B:vU X N xt ix sc)(hi:PI X tg iter wi)(hg:∀ c C fp s H,PG (kg X N sc xt c C fp s H) tg g)(ht:∀ c C fp s H,MD (kg X N sc xt c C fp s H) ifs tt)(i9:∀ c C fp s H,PE (kg X N sc xt c C fp s H) elt te)(hs:∀ z,foldedSetIterable iter X.env z=pure z):PE X (.ListComp elt [⟨tg,iter,ifs,0⟩] sc pos) (IQ wi 1 ix g tt te):=by
 intro pins s st H Q I h
 rw[eval_ListComp]
 refine wpAny_comprehension_free (use:=none) rfl hs (ET B I.ok) B.kind B.names (bW (hi pins s st H _ I h) fun v s1 h1=>bW h1 fun Oz s2 h2=>?_)
 obtain⟨it,fp,tj,J,H2,e,I2,T,D3,f2,hq⟩:=h2
 subst e
 refine BE (RR:=fun acc C=>compPost (model X.prog X.w) X.A X.xe none (EP X pins st Q) acc C) hc B hg ht i9 I2 T D3 f2 hq ?_
 intro D C ws H' s' I' ⟨m,hn⟩ mF q
 exact⟨m,hn,fun h' IH=>⟨.ref D,H',I'.turned (t':=s'.toks) (it:=C) (fun b o hb e=>(IH.2 b hb).trans e) mF.1 mF.2.1 mF.2.2.2.1 mF.2.2.2.2.1 mF.2.2.2.2.2,rfl,q⟩⟩
theorem Rb {tt:TT}{te:TE}{nN:Nat}(hc:X.calm=true)(B:vU X N xt ix sc)(hi:PI X tg iter wi)(hg:∀ c C fp s H,PG (kg X N sc xt c C fp s H) tg g)(ht:∀ c C fp s H,MD (kg X N sc xt c C fp s H) ifs tt)(i9:∀ c C fp s H,PE (kg X N sc xt c C fp s H) elt te)(hs:∀ z,foldedSetIterable iter X.env z=pure z)(II:swapsWith (.ListComp elt [⟨tg,iter,ifs,0⟩] sc pos) (some (.Name y py)) rb.line X.env=pure true)(hN:X.N.Nodup)(hy:X.N[nN]?=some y)(hl:Loc X.env.scope y)(hf:X.fn y=true\/X.env.scope.names.lookup y=some .local):PS X (.Assign [.Name y py] (.ListComp elt [⟨tg,iter,ifs,0⟩] sc pos) rb) (fun D st H=>IQ wi 1 ix g tt te st H fun v H'=>D.nx (st.set nN (some v)) H'):=by
 intro pins s st H D0 I h
 rw[exec_Assign_Name_used _ _ _ _ II]
 refine wpAny_bind (wpAny_standAt (wpAny_bind ?_))
 show wpAny _ X.A (do let _ <- comprehension (.ListComp elt [⟨tg,iter,ifs,0⟩] sc pos) sc X.env _ (newList []) false (eval iter X.env) (some (assign (.Name y py) X.env))) _ _ s
 refine wpAny_bind (wpAny_mono (wpAny_comprehension_free (use:=some (assign (.Name y py) X.env)) (Q:=fun _ s'=>SP X pins D0 .next s') rfl hs (ET B I.ok) B.kind B.names (bW (hi pins s st H _ I h) fun v s1 h1=>bW h1 fun Oz s2 h2=>?_)) (fun _ s' hq=>wpAny_pure (wpAny_pure hq)) fun _ _ z=>z)
 obtain⟨it,fp,tj,J,H2,e,I2,T,D3,f2,hq⟩:=h2
 subst e
 refine BE (RR:=fun acc C=>compPost (model X.prog X.w) X.A X.xe (some (assign (.Name y py) X.env)) (fun _ s'=>SP X pins D0 .next s') acc C) hc B hg ht i9 I2 T D3 f2 hq ?_
 intro D C ws H' s' I' ⟨m,hn⟩ mF q
 refine wpAny_assign_Name (o3 I' hN hy hl (v:=.ref D) rfl (fun Ma U9 ⟨ad,CZ,ha⟩=>?_) hf)
 have ne:C≠ad:=by
   rcases ha with z | z
   . rw[z];exact mF.2.1
   . exact Ne.symm (mF.2.2.2.2.1 _ _ z)
 exact⟨m,hn.sameBut CZ ne,fun h' IH=>⟨_,H',U9.turned (t':=Ma.toks) (it:=C) (fun b o hb e=>(IH.2 b hb).trans e) mF.1 mF.2.1 mF.2.2.2.1 mF.2.2.2.2.1 mF.2.2.2.2.2,q⟩⟩
theorem Jo (as:List α)(z f:α->Dt)(sl:α->List Slot)(keep:α->Bool)(hc:X.calm=true)(B:vU X N xt ix sc)(hi:PI X tg iter wi)(hg:∀ c C fp s H,PG (kg X N sc xt c C fp s H) tg g)(sE:qu X G dl (as.map z) wi)(Gw:∀ a∈as,OR X.K 1 g (z a) (sl a))(C8:vW X N xt sc dl ix as sl keep ifs)(i9:Q9 X N xt sc dl ix as sl keep f elt)(hn:as.length<=sizeLine)(hs:∀ z,foldedSetIterable iter X.env z=pure z:=by intro _;rfl):EO X G dl (.ListComp elt [⟨tg,iter,ifs,0⟩] sc pos) (.lst ((as.filter keep).map f)):=gL (Ra hc B hi hg (EU C8) (Jn i9) hs) (pv sE Gw hn)
theorem Rc (nN:Nat)(as:List α)(z f:α->Dt)(sl:α->List Slot)(keep:α->Bool)(hc:X.calm=true)(hN:X.N.Nodup)(B:vU X N xt ix sc)(hi:PI X tg iter wi)(hg:∀ c C fp s H,PG (kg X N sc xt c C fp s H) tg g)(sE:qu X G dl (as.map z) wi)(Gw:∀ a∈as,OR X.K 1 g (z a) (sl a))(C8:vW X N xt sc dl ix as sl keep ifs)(i9:Q9 X N xt sc dl ix as sl keep f elt)(hn:as.length<=sizeLine)(hs:∀ z,foldedSetIterable iter X.env z=pure z:=by intro _;rfl)(II:swapsWith (.ListComp elt [⟨tg,iter,ifs,0⟩] sc pos) (some (.Name y py)) rb.line X.env=pure true:=by rfl)(hy:X.N[nN]?=some y:=by rfl)(hl:Loc X.env.scope y:=by first | exact aaK rfl | exact aaD rfl)(hf:X.fn y=true\/X.env.scope.names.lookup y=some .local:=by first | exact .inl rfl | exact .inr rfl | assumption):ES X G E dl (.Assign [.Name y py] (.ListComp elt [⟨tg,iter,ifs,0⟩] sc pos) rb) (.nx (dl.set nN (.own (.lst ((as.filter keep).map f))))):=
 sk (Rb hc B hi hg (EU C8) (Jn i9) hs II hN hy hl hf) fun D st H zq=>Bn zq fun Hf zq=>have S:=zq.1;have k:=zq.2;pv sE Gw hn st H _ ⟨Hf,S,fun p aJ H' g n1 n2 r=>k _ aJ H' g.bG (S.Mv g n1 n2 r)⟩
theorem vX {px:Pos}(B:vU X N xt ix sc):∀ c C fp s H,PG (kg X N sc xt c C fp s H) (.Name xt px) (p9 0):=fun c C fp s H=>by
 have hN:(kg X N sc xt c C fp s H).N[0]?=some xt:=by
   show N[0]?=some xt
   rw[B.nm];rfl
 have Et:(kg X N sc xt c C fp s H).env.scope.names.lookup xt=some .cell:=vV B.hx
 exact bC (X:=kg X N sc xt c C fp s H) B.nd hN (.inr Et) (.inl (by show(xt == xt)=true;simp))
end
noncomputable def BF (sc Bp:Scope)(XN N:List Str)(xt:Str)(ix:List Nat):Bool:=
 decide N.Nodup && (decide (N=xt::ix.map (fun j=>XN.getD j "")) && (decide (sc.kind=.function) && (decide (sc.names.filter (fun y=>y.2 == .cell)=[(xt,.cell)]) && (sc.names.all (fun y=>decide (y.2=.local->sc.names.lookup y.1=some .local)) && (decide (sc.names.lookup xt=some .cell) && (sc.names.all (fun y=>decide (y.2=.free->y.1≠xt)) &&
   (sc.names.all (fun y=>decide (y.2=.free->Bp.names.lookup y.1=some .cell\/Bp.names.lookup y.1=some .free)) && ix.all (fun j=>decide (sc.names.lookup (XN.getD j "")=some .free) && decide (j < XN.length)))))))))
theorem yw {X:Cx}{sc Bp:Scope}{XN N:List Str}{xt:Str}{ix:List Nat}(h:BF sc Bp XN N xt ix=true)(e1:X.env.scope=Bp:=by rfl)(e2:X.N=XN:=by rfl):vU X N xt ix sc:=by
 subst e1 e2
 unfold BF at h
 simp only[aaS,abO,decide_eq_true_eq] at h
 obtain⟨h1,h2,h3,h4,h5,h6,h6',h7,h8⟩:=h
 refine⟨h1,h2,h3,h4,h5,h6,h6',h7,fun j hj=>?_⟩
 obtain⟨q1,q2⟩:=h8 j hj
 refine⟨X.N.getD j "",?_,q1⟩
 rw[YO,k3 q2];rfl
noncomputable def mk:HO->Bool
 | .memo _=>true
 | .bJ _ _=>true
 | _=>false
theorem Rd.ex {H:Hp}{a C dx:Addr}{fs:List (Str×V)}(h:Rd H a (.ins C dx fs)):∃ o,H a=some o/\mk o=false/\(∀ x,o≠.dK x)/\∀ H':Hp,H' a=some o->Rd H' a (.ins C dx fs):=by
 rcases h with h | ⟨o,h⟩ | ⟨tg,o,kvs,h,z⟩ | ⟨o,h⟩
 . exact⟨_,h,rfl,(fun _ z=>nomatch z),fun H' e=>.inl e⟩
 . exact⟨_,h,rfl,(fun _ z=>nomatch z),fun H' e=>.inr (.inl ⟨o,e⟩)⟩
 . cases z
 . exact⟨_,h,rfl,(fun _ z=>nomatch z),fun H' e=>.inr (.inr (.inr ⟨o,e⟩))⟩
theorem cf.mkd {H:Hp}{a:Addr}{ls:km}(h:cf H a ls):∃ o,H a=some o/\mk o=true:=by
 rcases h with h | ⟨ns,h⟩
 . exact⟨_,h,rfl⟩
 . exact⟨_,h,rfl⟩
theorem cf.inj {H:Hp}{a:Addr}{ls ls':km}(h:cf H a ls)(h':cf H a ls'):ls=ls':=by
 rcases h with h | ⟨ns,h⟩ <;> rcases h' with h' | ⟨ns',h'⟩ <;> rw[h] at h' <;> cases h' <;> rfl
section
variable {K:W.Frag}{Hf H:Hp}{a:Addr}{ls:km}{u:HO}
theorem MS (hm:cf Hf a ls){b:Addr}{o:HO}(h:Hf b=some o)(n:mk o=false):b≠a:=fun e=>by
 obtain⟨o',h1,h2⟩:=hm.mkd
 rw[e,h1] at h;cases h
 rw[h2] at n;cases n
theorem bh (hm:cf Hf a ls){b:Addr}{o:HO}(h:Hf b=some o)(n:mk o=false):(upd Hf a u) b=some o:=by rw[aj (MS hm h n)];exact h
theorem rq (hm:cf Hf a ls)(hu:mk u=true):Kp Hf (upd Hf a u):=⟨fun b o e kq=>bh hm e (by cases o <;> first | rfl | exact(show False from kq).elim),fun b e=>by
 by_cases q:b=a
 . rw[q,ak]
   cases u <;> first | trivial | cases hu
 . rw[aj q];exact e,fun b x e=>bh hm e rfl⟩
def mI (ls:km)(u:HO):Prop:=u=.memo ls\/∃ ns,u=.bJ ls ns
theorem mI.mk {ls:km}{u:HO}(h:mI ls u):mk u=true:=by rcases h with rfl | ⟨ns,rfl⟩ <;> rfl
theorem GH (hm:cf Hf a ls)(hu:mI ls u){b:Addr}{ls':km}(h:cf Hf b ls'):cf (upd Hf a u) b ls':=by
 by_cases e:b=a
 . subst e
   rw[h.inj hm]
   rcases hu with rfl | ⟨ns,rfl⟩
   . exact .inl ak
   . exact .inr ⟨ns,ak⟩
 . rcases h with h | ⟨ns,h⟩
   . exact .inl (by rw[aj e];exact h)
   . exact .inr ⟨ns,by rw[aj e];exact h⟩
theorem nr (hm:cf Hf a ls)(hu:mI ls u){p:Addr}{f:Nat->List (Key×FD)}{n:Nat}(h:Known Hf p f n):Known (upd Hf a u) p f n:=fun i hi=>let ⟨q,o,kvs,h1,h2⟩:=h i hi;⟨q,o,kvs,bh hm h1 rfl,h2.kp (rq hm hu.mk)⟩
theorem Rf (hm:cf Hf a ls){b:Addr}{vs:List V}(s:Cy K Hf b vs):Cy K (upd Hf a u) b vs:=by
 rcases s with s | s
 . exact .inl (bh hm s rfl)
 . exact .inr s
theorem Jp (hm:cf Hf a ls){b C dx:Addr}{fs:List (Str×V)}(s:Rd Hf b (.ins C dx fs)):Rd (upd Hf a u) b (.ins C dx fs):=by
 rcases s with s | ⟨o,s⟩ | ⟨_,_,_,_,s⟩ | ⟨o,s⟩
 . exact .inl (bh hm s rfl)
 . exact .inr (.inl ⟨o,bh hm s rfl⟩)
 . cases s
 . exact .inr (.inr (.inr ⟨o,bh hm s rfl⟩))
theorem Rg (hm:cf Hf a ls){b:Addr}{vs:List V}(s:mY K Hf b vs):mY K (upd Hf a u) b vs:=by
 rcases s with(s | ⟨o,s⟩ | ⟨_,_,_,_,s⟩ | ⟨o,s⟩) | s
 . exact .inl (.inl (bh hm s rfl))
 . exact .inl (.inr (.inl ⟨o,bh hm s rfl⟩))
 . cases s
 . exact .inl (.inr (.inr (.inr ⟨o,bh hm s rfl⟩)))
 . exact .inr s
mutual
noncomputable def sJ (a:Addr):Dt->Bool
 | .tup ds=>Jq a ds
 | .lst ds=>Jq a ds
 | .eX kds=>zA a kds
 | .qo kds=>zA a kds
 | .dW kds=>zA a kds
 | .obj _ fs=>kM a fs
 | .Cz _ fs=>kM a fs
 | .memo b _ _ _=>decide (b≠a)
 | .vB _ _ _ _ _=>false
 | _=>true
noncomputable def Jq (a:Addr):List Dt->Bool
 | []=>true
 | d::r=>sJ a d && Jq a r
noncomputable def zA (a:Addr):List (Key×Dt)->Bool
 | []=>true
 | (_,d)::r=>sJ a d && zA a r
noncomputable def kM (a:Addr):List (Str×Dt)->Bool
 | []=>true
 | (_,d)::r=>sJ a d && kM a r
end
mutual
theorem ja (hm:cf Hf a ls)(hu:mI ls u):∀ {v:V} {d:Dt},sJ a d=true->Rep K Hf v d->Rep K (upd Hf a u) v d
 | _,_,_,.cS=>.cS
 | _,_,_,.bl b=>.bl b
 | _,_,_,.int i=>.int i
 | _,_,_,.str x=>.str x
 | _,.tup ds,h,.tup s r=>.tup (Rf hm s) (sL hm hu (by rw[sJ] at h;exact h) r)
 | _,.lst ds,h,.lst s r=>.lst (bh hm s rfl) (sL hm hu (by rw[sJ] at h;exact h) r)
 | _,_,_,.o9 s=>.o9 (Rg hm s)
 | _,.eX _,h,.eX s r=>.eX (bh hm s rfl) (pC hm hu (by rw[sJ] at h;exact h) r)
 | _,.obj _ _,h,.obj s r=>.obj (Jp hm s) (jF hm hu (by rw[sJ] at h;exact h) r)
 | _,_,_,.ty n=>.ty n
 | _,_,_,.cls C=>.cls C
 | _,_,_,.xo s r=>.xo (bh hm s rfl) r
 | _,.qo _,h,.qo s r=>.qo (bh hm s rfl) (pC hm hu (by rw[sJ] at h;exact h) r)
 | _,.Cz _ _,h,.Cz s q g r=>.Cz (bh hm s rfl) q (bh hm g rfl) (jF hm hu (by rw[sJ] at h;exact h) r)
 | _,.dW _,h,.dW s r=>.dW (bh hm s rfl) (pC hm hu (by rw[sJ] at h;exact h) r)
 | _,.memo b _ _ _,h,.memo h1 h2 h3 h4=>.memo h1 (by rw[sJ] at h;rw[aj (of_decide_eq_true h)];exact h2) (h3.imp id fun z=>bh hm z rfl) (nr hm hu h4)
 | _,_,_,.dU h1 h2 h3 h4=>.dU h1 (GH hm hu h2) (h3.imp id fun z=>bh hm z rfl) (nr hm hu h4)
 | _,_,_,.uH h=>.uH fun j p f z=>nr hm hu (h j p f z)
 | _,.vB _ _ _ _ _,h,.vB _ _ _=>by rw[sJ] at h;cases h
 | _,_,_,.i4 s=>.i4 (s.st (rq hm hu.mk).st)
 | _,_,_,.mh s=>.mh (bh hm s rfl)
theorem sL (hm:cf Hf a ls)(hu:mI ls u):∀ {v:List V} {d:List Dt},Jq a d=true->bH K Hf v d->bH K (upd Hf a u) v d
 | _,_,_,.nil=>.nil
 | _,d::ds,h,.cons r t=>by
   rw[Jq,aaS] at h
   exact .cons (ja hm hu h.1 r) (sL hm hu h.2 t)
theorem pC (hm:cf Hf a ls)(hu:mI ls u):∀ {v:List (Key×V)} {d:List (Key×Dt)},zA a d=true->cU K Hf v d->cU K (upd Hf a u) v d
 | _,_,_,.nil=>.nil
 | _,(k,d)::ds,h,.cons r t=>by
   rw[zA,aaS] at h
   exact .cons (ja hm hu h.1 r) (pC hm hu h.2 t)
theorem jF (hm:cf Hf a ls)(hu:mI ls u):∀ {v:List (Str×V)} {d:List (Str×Dt)},kM a d=true->bg K Hf v d->bg K (upd Hf a u) v d
 | _,_,_,.nil=>.nil
 | _,(k,d)::ds,h,.cons r t=>by
   rw[kM,aaS] at h
   exact .cons (ja hm hu h.1 r) (jF hm hu h.2 t)
end
noncomputable def jG (Hf H:Hp):Hp:=fun b=>match H b with
 | some (.kd tg o kvs)=>some (.kd tg o kvs)
 | some (.kx o u)=>some (.kx o u)
 | some (.tup xs)=>some (.tup xs)
 | _=>Hf b
theorem zB {b:Addr}{u:HO}(h:H b=some u)(k:Kept u):jG Hf H b=some u:=by
 unfold jG;rw[h]
 cases u <;> first | rfl | exact(show False from k).elim
theorem EV {b:Addr}{tg:Option (Addr×Nat)}{o:Obj}{kvs:List (Key×V)}(h:H b=some (.kd tg o kvs)):jG Hf H b=some (.kd tg o kvs):=by unfold jG;rw[h]
theorem pE (b:Addr):(∃ u,H b=some u/\Kept u/\jG Hf H b=some u)\/jG Hf H b=Hf b:=by
 unfold jG
 cases h:H b with
 | none=>exact .inr rfl
 | some u=>cases u <;> first | exact .inr rfl | exact .inl ⟨_,rfl,trivial,rfl⟩
theorem gu (s:aF Hf H):aF Hf (jG Hf H):=fun b u e=>by
 rcases pE (Hf:=Hf) (H:=H) b with⟨u',h1,_,h3⟩ | h
 . rw[s _ _ e] at h1;cases h1;exact h3
 . rw[h];exact e
theorem oH (s:aF Hf H):aF (jG Hf H) H:=fun b u e=>by
 rcases pE (Hf:=Hf) (H:=H) b with⟨u',h1,_,h3⟩ | h
 . rw[h3] at e;cases e;exact h1
 . rw[h] at e;exact s _ _ e
theorem pF (s:aF Hf H):bx Hf H (jG Hf H) H:=⟨aF.refl _,gu s,oH s,fun b u e=>by
 rcases pE (Hf:=Hf) (H:=H) b with⟨u',h1,h2,h3⟩ | h
 . rw[h3] at e;cases e;exact .inr (.inr h2)
 . rw[h] at e;exact .inl ⟨u,e⟩⟩
end
noncomputable def Xk:FD->Dt
 | .int i=>.int i
 | .eX kds=>.dW (dI kds)
 | d=>.i4 d
noncomputable def oe (fd:List (Key×FD)):List (Key×Dt):=fd.map fun kd=>(kd.1,Xk kd.2)
theorem yx {K:W.Frag}{H:Hp}:∀ (kds:List (Key×Int)),cU K H (kds.map fun kd=>(kd.1,V.int kd.2)) (dI kds)
 | []=>.nil
 | (k,i)::r=>.cons (.int i) (yx r)
theorem Jr {K:W.Frag}{H:Hp}:∀ {v:V} {d:FD},Fz H v d->Rep K H v (Xk d)
 | _,_,.int i=>.int i
 | _,_,.eX e=>.dW e (yx _)
 | _,_,.lst e=>.i4 (.lst e)
 | _,_,.tup e=>.i4 (.tup e)
 | _,_,.obj e f=>.i4 (.obj e f)
theorem uP {K:W.Frag}{H:Hp}:∀ {kvs:List (Key×V)} {fd:List (Key×FD)},rX H kvs fd->cU K H kvs (oe fd)
 | _,_,.nil=>.nil
 | _,_,.cons h t=>.cons (Jr h) (uP t)
theorem OV {K:W.Frag}{H:Hp}:∀ {v:V} {d:FD},Rep K H v (Xk d)->Fz H v d
 | _,.int i,r=>by cases r;exact .int i
 | _,.lst ns,r=>by cases r with | i4 h=>exact h
 | _,.tup K ns,r=>by cases r with | i4 h=>exact h
 | _,.obj C fs,r=>by cases r with | i4 h=>exact h
 | _,.eX kds,r=>by
   cases r with
   | @dW a tg ob kvs _ h r=>
     rw[MQ r] at h
     exact .eX h
theorem qw {K:W.Frag}{H:Hp}:∀ {kvs:List (Key×V)} {fd:List (Key×FD)},cU K H kvs (oe fd)->rX H kvs fd
 | _,[],.nil=>.nil
 | _,(k,d)::fd,.cons h t=>.cons (OV h) (qw t)
theorem Rh {H H':Hp}(k:∀ b u,H b=some u->Kept u->H' b=some u){v:V}{d:FD}(h:Fz H v d):Fz H' v d:=h.st k
theorem gv {H H':Hp}(k:∀ b u,H b=some u->Kept u->H' b=some u):∀ {kvs:List (Key×V)} {kds:List (Key×FD)},rX H kvs kds->rX H' kvs kds
 | _,_,.nil=>.nil
 | _,_,.cons h t=>.cons (Rh k h) (gv k t)
section
variable {X:Cx}{G:Gr}{dl:List Slot}{a b e i:Expr}{pos p:Pos}{ls:km}{j n:Nat}{l:Addr}{f:Nat->List (Key×FD)}{ns:List Nat}
theorem MT:Tz X (fun x y H Q=>∃ (p:Addr) (k:Nat) (q:Addr) (o:Obj) (kvs:List (Key×V)),x=.ref p/\y=.int (k:Int)/\H q=some (.kd (some (p,k)) o kvs)/\k < 10000/\Q (.ref q) H):=by
 intro value slice pins s σ H x y v u Q I rx ry h hs
 obtain⟨p,k,q,o,kvs,rfl,rfl,hq,hk,kk⟩:=h
 cases rx
 obtain⟨t,rfl⟩:=ry
 obtain⟨_,_,hm⟩:=(show aP X.prog X.w H s.heap q (.kd (some (p,k)) o kvs) from I.bu q _ hq)
 obtain⟨_,aG,c,e1,e2⟩:=hm p k rfl
 have hn:=mf
 exact item_listR (items:=aG.toArray) ⟨_,e1,rfl,c,rfl⟩ (by omega) (by omega) (by rw[aaU];simpa using e2) ⟨.ref q,H,I,rfl,kk⟩ hs
theorem Dh {k:Nat}(hb:EE X G dl b (.memo l ls j n))(hi:EE X G dl i (.int (k:Int)))(hf:(ls.map (·.2))[j]?=some f)(hk:k < n)(hn:n<=1000)(hs:kL i:=by intro _ _;rfl):EE X G dl (.Subscript b i pos) (.dW (oe (f k))):=
 gL (vy MT hb hi hs) fun st H Q zq=>Bn zq fun Hf zq=>have S:=zq.1;have kk:=zq.2;⟨Hf,S,fun v Hf1 H1 g1 r1=>⟨Hf1,S.grow g1,fun w bX H2 g2 r2=>by
   cases r2
   cases r1 with
   | @memo _ p _ _ _ f' h1 h2 h3 h4=>
     have e:f'=f:=by
       rw[aab,h1] at hf
       exact Option.some.inj hf
     subst e
     obtain⟨q,o,kvs,q1,q2⟩:=h4 k hk
     exact⟨p,k,q,o,kvs,rfl,rfl,g2.big _ _ (g1.sub _ _ q1),by omega,kk _ bX H2 (g1.trans g2) (.dW (g2.bG _ _ q1) (uP (q2.kp (.of g2.bG))))⟩⟩⟩
theorem Js:Tz X (fun x y H Q=>∃ (a:Addr) (ls:km) (ns:List Nat) (j:Nat) (p:Addr) (f:Nat->List (Key×FD)) (N:Nat),x=.ref p/\y=.int (-1)/\H a=some (.bJ ls ns)/\ls[j]?=some (p,f)/\ns[j]?=some N/\0 < N/\∀ q o kvs,H q=some (.kd (some (p,N - 1)) o kvs)->rX H kvs (f (N - 1))->Q (.ref q) H):=by
 intro value slice pins s σ H x y v u Q I rx ry h hs
 obtain⟨a,ls,ns,j,p,f,N,rfl,rfl,ha,hj,hN,h0,kk⟩:=h
 cases rx
 obtain⟨t,rfl⟩:=ry
 obtain⟨_,_,_,_,_,h5,h6⟩:=(show aP X.prog X.w H s.heap a (.bJ ls ns) from I.bu a _ ha)
 obtain⟨aG,c,e1,e2,e3⟩:=h6 j p f N hj hN
 obtain⟨q,o,kvs,q1,q2,q3⟩:=e3 (N - 1) (by omega)
 have hn:=mf
 have hN':=h5 N (abj hN)
 have hl:Heap.IsList s.heap p aG.toArray:=⟨_,e1,rfl,c,rfl⟩
 exact subscriptTail_builtinR (x:=.ref q) hl.typeIs slot_list_getitem.lookup
     (wpAny_getItem_list_neg (Q:=fun r s'=>r=.ref q/\EP X pins σ Q r s') hl (by omega) (by rw[aar] <;> omega) (by omega) (by rw[aar,e2,show((-1:Int)+(N:Nat)).toNat=N - 1 by omega];simpa using q1) ⟨rfl,.ref q,H,I,rfl,kk q o kvs q2 q3⟩) hs
theorem BG {N:Nat}(hx:G.Hf l=some (.bJ ls ns))(hb:EE X G dl b (.dU l ls j n))(hi:EE X G dl i (.int (-1)))(hf:(ls.map (·.2))[j]?=some f)(hN:ns[j]?=some N)(h0:0 < N)(hs:kL i:=by intro _ _;rfl):EE X G dl (.Subscript b i pos) (.dW (oe (f (N - 1)))):=
 gL (vy Js hb hi hs) fun st H Q zq=>Bn zq fun Hf zq=>have S:=zq.1;have kk:=zq.2;⟨Hf,S,fun v Hf1 H1 g1 r1=>⟨Hf1,S.grow g1,fun w bX H2 g2 r2=>by
   cases r2
   cases r1 with
   | @dU _ p _ _ _ f' h1 h2 h3 h4=>
     have e:f'=f:=by
       rw[aab,h1] at hf
       exact Option.some.inj hf
     subst e
     have g:=g1.trans g2
     refine⟨l,ls,ns,j,p,f',N,rfl,rfl,g.sub _ _ (g.bG _ _ (S.gr.bG _ _ hx)),h1,hN,h0,fun q o kvs q1 q2=>?_⟩
     have ga:=pF g2.sub
     exact kk _ _ H2 (g.trans ga) (.dW (EV q1) (uP (gv (fun b u e kq=>zB e kq) q2)))⟩⟩
theorem GI:ka X (.builtin "len") (fun xs H Q=>∃ (a:Addr) (ls:km) (ns:List Nat) (j:Nat) (p:Addr) (f:Nat->List (Key×FD)) (N:Nat),xs=[.ref p]/\H a=some (.bJ ls ns)/\ls[j]?=some (p,f)/\ns[j]?=some N/\Q (.int (N:Nat)) H):=by
 intro pins s σ H xs us Q I r h
 obtain⟨a,ls,ns,j,p,f,N,rfl,ha,hj,hN,q⟩:=h
 obtain⟨u,rfl,rx⟩:=vals1 r
 cases rx
 obtain⟨_,_,_,_,_,h5,h6⟩:=(show aP X.prog X.w H s.heap a (.bJ ls ns) from I.bu a _ ha)
 obtain⟨aG,c,e1,e2,e3⟩:=h6 j p f N hj hN
 have hn:=mf
 have hN':=h5 N (abj hN)
 have hl:Heap.IsList s.heap p aG.toArray:=⟨_,e1,rfl,c,rfl⟩
 exact Calls.call_len_list hl (by simp only[aar] <;> omega) ⟨.int (N:Nat),H,I.tok _,⟨s.toks+1,by rw[aar,e2]⟩,q⟩
theorem EX {N:Nat}(hm:X.mg "len"=none)(hx:G.Hf l=some (.bJ ls ns))(hb:EE X G dl b (.dU l ls j n))(hN:ns[j]?=some N)(hg:Gl X "len":=by rfl)(he:starEach [b] X.env=[(false,eval b X.env)]:=by rfl):EE X G dl (.Call (.Name "len" p) [b] [] pos) (.int (N:Nat)):=
 gL (fB GI hg hm PySem.boot_len (ae hb ah he) (he:=he)) fun st H Q zq=>Bn zq fun Hf zq=>have S:=zq.1;have kk:=zq.2;⟨Hf,S,fun vs Hf1 H1 g1 r1=>by
   cases r1 with
   | cons r t=>cases t;cases r with
     | @dU _ p _ _ _ f' h1 h2 h3 h4=>exact⟨l,ls,ns,j,p,f',N,rfl,g1.sub _ _ (g1.bG _ _ (S.gr.bG _ _ hx)),h1,hN,kk _ Hf1 H1 g1 (.int _)⟩⟩
theorem lH {d:Dt}{k:Str}{kds:List (Key×Dt)}(hu:X.A.units+1 < cLine)(ho:EE X G dl b (.dW kds))(hi:EE X G dl i (.str k))(h:mG kds (.inr k)=some d)(hs:Mi i):EE X G dl (.Subscript b i pos) d:=
 gL (Ef hu ho hi hs) fun st H Q zq=>Bn zq fun Hf zq=>have S:=zq.1;have kk:=zq.2;⟨Hf,S,fun v Hf1 H1 g1 r1=>⟨Hf1,S.grow g1,fun w bX H2 g2 r2=>by
   cases r2
   cases r1 with
   | @dW q tg ob kvs _ hq rp=>
     obtain⟨y,z1,z2⟩:=rp.val h
     have e:t8 H2 q (kV (.inr k)) (oB kvs (.inr k)):=.inl ⟨kvs,.inr k,.inr (.inr (.inl ⟨tg,ob,kvs,g2.big _ _ (g1.sub _ _ hq),rfl⟩)),rfl,rfl⟩
     rw[z1] at e
     exact⟨q,y,rfl,e,kk y bX H2 (g1.trans g2) (z2.mono g2.bG)⟩⟩⟩
theorem OW {kds:List (Key×Dt)}(h:EO X G dl e (.eX kds)):EE X G dl e (.dW kds):=by
 intro pins s st H Q I ⟨Hf,S,kk⟩
 refine bW (h pins s st H (fun v H'=>∃ p aJ,v=.ref p/\bx Hf H aJ H'/\H p=none/\aJ p=none/\hZ X.K aJ H' p (.eX kds)) I ⟨Hf,S,fun p aJ H' g n n' r=>⟨p,aJ,rfl,g,n,n',r⟩⟩) fun u s1 ⟨v,H',I1,rv,q,aJ,ev,g,n,n',kvs,hq,rp⟩=>?_
 subst ev
 obtain⟨hz,lo,vs,kv,ob,es,ep,ho,hr⟩:=(show aP X.prog X.w H' s1.heap q (.dK kvs) from I1.bu q _ hq)
 have I2:L2.Inv X pins st (upd H' q (.kd none ob kvs)) s1:=m7 (h':=s1.heap) (t':=s1.toks) I1 (by rw[hq];trivial) ⟨rfl,fun _ _=>rfl⟩ ⟨ob,ho⟩ ⟨ho,⟨hz,lo,vs,kv,ob,es,ep,ho,hr⟩,fun p i z=>by cases z⟩
 have sm:aF aJ (upd aJ q (.kd none ob kvs)):=bQ n'
 refine⟨.ref q,_,I2,rv,kk _ (upd aJ q (.kd none ob kvs)) _ ⟨fun b o hb=>?_,g.bG.trans sm,c9 g.sub,fun b o hb=>?_⟩ (.dW ak (rp.mono sm))⟩
 . rw[aj (av hb n)];exact g.big _ _ hb
 . by_cases e:b=q
   . subst e;exact .inr (.inl n)
   . rw[aj e] at hb;exact g.new b o hb
theorem Di:Qn X "dict.values" (fun x xs H Q=>∃ (d:Addr) (kvs:List (Key×V)),x=.ref d/\xs=[]/\Rd H d (.dK kvs)/\∀ l,H l=none->Q (.ref l) (upd H l (.ext fun h=>h.IsValuesView l d))):=by
 intro pins s σ H x xs v us Q I rx rv ⟨d,kvs,e1,e2,hq,q⟩
 subst e1 e2
 cases rx
 cases rv
 obtain⟨hz,lo,vs,kv,hD⟩:=tN I.bu hq
 refine call_meetsIn PySem.F.slot_dict_values hD.typeIs PySem.F.entry_dict_values (PySem.F.args_dict_values_1 _) (meets_dict_values (cR X.prog X.w) d lo) ⟨⟨vs,hD⟩,?_⟩
 refine⟨.ref s.heap.objs.size,_,I.laid (a:=s.heap.objs.size) (t':=s.toks) (o:=.ext fun h=>h.IsValuesView s.heap.objs.size d) (fun b o e=>aag _ e) (aaa _) ?_,rfl,q _ (I.bu.fresh (aaa _))⟩
 exact⟨⟨_,aat _ rfl,rfl,rfl⟩,⟨_,aat _ rfl⟩,fun h1 h2 ⟨ox,z1,z2⟩ kk=>⟨ox,kk _ z1,z2⟩⟩
theorem Jt:∀ {kds:List (Key×Int)} {vs:List (Key×Value)} {i:Nat} {k:Key} {v:Value},KV (kds.map fun kd=>(kd.1,V.int kd.2)) vs->vs[i]?=some (k,v)->∃ t,v=.int ((kds.map (·.2)).getD i 0) t
 | [],_,_,_,_,.nil,e=>by simp at e
 | (k0,z)::kds,_,0,_,_,.cons r _,e=>by
   simp at e
   subst e
   obtain⟨_,t,q⟩:=r
   exact⟨t,q⟩
 | (k0,z)::kds,_,i+1,_,_,.cons _ t,e=>by
   obtain⟨t',q⟩:=Jt (i:=i) t (by simpa using e)
   exact⟨t',by simpa using q⟩
theorem GJ (hc:X.calm=true):ka X (.builtin "sum") (fun xs H Q=>∃ (v d:Addr) (φ:Heap->Prop) (kds:List (Key×Int)),xs=[.ref v]/\H v=some (.ext φ)/\(∀ h,φ h->h.IsValuesView v d)/\Rd H d (.dK (kds.map fun kd=>(kd.1,V.int kd.2)))/\Q (.int (kds.map (·.2)).sum) H):=by
 intro pins s σ H xs us Q I r h
 obtain⟨v,d,φ,kds,rfl,hv,hφ,hq,q⟩:=h
 obtain⟨u,rfl,rx⟩:=vals1 r
 cases rx
 obtain⟨hz,lo,vs,kv,o,es,ep,ho,hr⟩:=tN I.bu hq
 have hvv:=hφ _ (I.bu v _ hv).1
 have hl:=Dc kv
 rw[k5] at hl
 have hA:X.A.handled=none:=I.ok.hd hc
 refine call_sum_walkAnyS ?_
 have Ks:=PySem.W.kdl_values (prog:=X.prog) (w:=X.w) (knd:=cR X.prog X.w) (r:=v) (d:=d) (kvs:=vs) (ep:=ep)
 have bu:s.heap.IsValuesView v d/\s.heap.DictAt (cR X.prog X.w) d vs ep:=⟨hvv,o,es,ho,hr⟩
 obtain⟨oI,St,hit,W,st⟩:=Ks.iter X.A.in1 s hA bu
 refine hit _ _ ⟨s.heap.objs.size,_,_,_,vs.length,_,_,fun i=>(kds.map (·.2)).getD i 0,rfl,W.toS,st,fun b hb=>?_,fun i w ⟨k,hk⟩=>Jt kv hk,fun s' t' hm=>?_⟩
 . show b < (s.heap.push oI).objs.size
   rw[abc]
   rcases aaH.mp hb with e | hb
   . rw[e];exact abh _
   . rw[List.mem_singleton.mp hb];exact abI (Ks.there _ bu).2
 . have hk:∀ b o,s.heap.get? b=some o->s'.heap.get? b=some o:=fun b o e=>
     hm.heap b o (fun hI=>absurd (aap e) (by rw[List.mem_singleton.mp hI];exact aa8 _)) (aag _ e)
   have es:preSum (fun i=>(kds.map (·.2)).getD i 0) vs.length=(kds.map (·.2)).sum:=by
     rw[sG _ _ (by rw[k5];omega),abm (by rw[k5];omega)]
   rw[es,Moved.eq_with hm]
   exact⟨.int _,H,I.kept (t':=s'.toks) hk,⟨t',rfl⟩,q⟩
def intsOf (d:Dt)(kds:List (Key×Int)):Prop:=d=.dW (dI kds)\/d=.eX (dI kds)
theorem MU {kds:List (Key×Int)}{d:Dt}{apos bM:Pos}(hm:X.mg "sum"=none)(hc:X.calm=true)(ha:EE X G dl a d)(hd:intsOf d kds)(hg:Gl X "sum":=by rfl)(i5:attributeBase a "values" X.env (eval a X.env)=eval a X.env:=by rfl)(i6:(apos.endLine == bM.line)=true:=by rfl)(he:starEach [.Call (.Attribute a "values" apos) [] [] bM] X.env=[(false,eval (.Call (.Attribute a "values" apos) [] [] bM) X.env)]:=by rfl):EE X G dl (.Call (.Name "sum" p) [.Call (.Attribute a "values" apos) [] [] bM] [] pos) (.int (kds.map (·.2)).sum):=
 gL (fB (GJ hc) hg hm boot_sum (lU (HX PySem.F.plainAttrs_dict PySem.F.slot_dict_values PySem.F.type_dict_values Di ha i5 i6) ow he) (he:=he)) fun st H Q zq=>Bn zq fun Hf zq=>have S:=zq.1;have k:=zq.2;⟨Hf,S,fun v Hf1 H1 g1 r1=>by
   have key:∃ q,v=.ref q/\Rd H1 q (.dK (kds.map fun kd=>(kd.1,V.int kd.2)))/\W3 X.K "dict" v H1:=by
     rcases hd with rfl | rfl
     . cases r1 with
       | @dW q tg ob kvs _ hq rp=>
         rw[MQ rp] at hq
         exact⟨q,rfl,.inr (.inr (.inl ⟨tg,ob,_,g1.sub _ _ hq,rfl⟩)),.inr (.inr (.inl ⟨rfl,.inr (.inr ⟨tg,ob,_,g1.sub _ _ hq⟩)⟩))⟩
     . cases r1 with
       | @eX q kvs _ hq rp=>
         rw[MQ rp] at hq
         exact⟨q,rfl,.inl (g1.sub _ _ hq),.inr (.inr (.inl ⟨rfl,.inl ⟨_,g1.sub _ _ hq⟩⟩))⟩
   obtain⟨q,rfl,hq,ty⟩:=key
   refine⟨ty,q,_,rfl,rfl,hq,fun v hv=>⟨v,q,_,kds,rfl,ak,fun h x=>x,?_,k _ Hf1 _ (g1.trans (.fJ g1.sub hv)) (.int _)⟩⟩
   exact il (bQ hv) hq⟩
variable {pins:List (Addr×Obj)}{σ:L2.St}{H:Hp}{s:Shared}
theorem Inv.flip {u:HO}(I:L2.Inv X pins σ H s)(hm:cf H l ls)(hu:mI ls u)(new:aP X.prog X.w (upd H l u) s.heap l u):L2.Inv X pins σ (upd H l u) s:=by
 refine I.un (h':=s.heap) (t':=s.toks) ⟨fun b o e _ _ _=>e,fun b o e _ _ _=>⟨o.slots,e⟩,fun b o e n _=>?_,fun b o e _=>⟨o,e⟩,fun b xs e=>bh hm e rfl,fun b o u e=>bh hm e rfl,fun b ps e=>⟨#[],by rw[bh hm e rfl];simp⟩⟩ fun b o e=>?_
 . rw[aj (fun z=>by obtain⟨o',h1,_⟩:=hm.mkd;rw[z,h1] at n;cases n)];exact n
 . by_cases eb:b=l
   . subst eb;rw[ak] at e;cases e;exact new
   . rw[aj eb] at e
     exact(I.bu b o e).yR (fun _ _ _ q=>q) (fun c q=>bh hm q rfl) (fun c xs q=>bh hm q rfl) (rq hm hu.mk)
theorem Inv.exact(I:L2.Inv X pins σ H s)(hm:H l=some (.memo ls)):∃ n,0 < n/\n<=10000/\L2.Inv X pins σ (upd H l (.bJ ls (aan ls.length n))) s:=by
 obtain⟨ho,n,hn,q⟩:=(show aP X.prog X.w H s.heap l (.memo ls) from I.bu l _ hm)
 have hl:0 < ls.length:=by
   obtain⟨⟨f,hf⟩,_⟩:=q
   exact(aaj.mp hf).1
 have h5:n<=10000:=q.2.2.2.2.1 n (by rw[List.mem_replicate];exact⟨by omega,rfl⟩)
 exact⟨n,hn,h5,Inv.flip I (.inl hm) (.inr ⟨_,rfl⟩) ⟨ho,q.kp (rq (.inl hm) rfl) fun _ _ _ e=>e⟩⟩
theorem Inv.pack {n:Nat}(I:L2.Inv X pins σ H s)(hm:H l=some (.bJ ls (aan ls.length n)))(hn:0 < n):L2.Inv X pins σ (upd H l (.memo ls)) s:=by
 obtain⟨ho,q⟩:=(show aP X.prog X.w H s.heap l (.bJ ls _) from I.bu l _ hm)
 exact Inv.flip I (.inr ⟨_,hm⟩) (.inl rfl) ⟨ho,n,hn,q.kp (rq (.inr ⟨_,hm⟩) rfl) fun _ _ _ e=>e⟩
theorem qx:Qn X "list.append" (fun x vs H Q=>∃ (a:Addr) (ls:km) (ns:List Nat) (j:Nat) (p:Addr) (f:Nat->List (Key×FD)) (N:Nat) (q:Addr) (kvs:List (Key×V)),x=.ref p/\vs=[.ref q]/\H a=some (.bJ ls ns)/\ls[j]?=some (p,f)/\ns[j]?=some N/\N < 9000/\H q=some (.dK kvs)/\rX H kvs (f N)/\∀ o,Q .cS (upd (upd H a (.bJ ls (ns.set j (N+1)))) q (.kd (some (p,N)) o kvs))):=by
 intro pins s σ H x vs v us Q I rx rv ⟨a,ls,ns,j,p,f,N,q,kvs,e1,e2,ha,hj,hN,hN9,hq,hfz,kk⟩
 subst e1 e2
 cases (show v=Value.ref p from rx)
 obtain⟨u,rfl,ru⟩:=vals1 rv
 cases (show u=Value.ref q from ru)
 obtain⟨⟨oa,hoa⟩,⟨f0,h1⟩,h2,h3,h4,h5,h6⟩:=(show aP X.prog X.w H s.heap a (.bJ ls ns) from I.bu a _ ha)
 obtain⟨aG,c,e,hlen,hit⟩:=h6 j p f N hj hN
 obtain⟨hz,lo,vs,kv,oq,es,ep,hoq,hr⟩:=(show aP X.prog X.w H s.heap q (.dK kvs) from I.bu q _ hq)
 have Hs:me (H p):=by
   rcases h3 j p f hj with z | z
   . rw[z,ha];trivial
   . rw[z];trivial
 have hpq:p≠q:=fun z=>by rw[z,hq] at Hs;exact Hs
 have haq:a≠q:=fun z=>by rw[z,hq] at ha;cases ha
 have hnm:=mf
 refine call_meets PySem.F.slot_list_append ⟨_,e,rfl⟩ PySem.F.entry_list_append (PySem.F.args_list_append_2 _ _) (PySem.list_append p aG.toArray c (.ref q) (by rw[aar];exact aaA (show aG.length<=10000 by omega) (by decide))) ⟨e,?_⟩
 have e':=PySem.IsL.update e (fun x=>x.push (Value.ref q))
 rw[show aG.toArray.push (Value.ref q)=(aG ++ [Value.ref q]).toArray by simp] at e'
 generalize hh':s.heap.update p (Obj.mapSeq fun x=>x.push (Value.ref q))=h' at e'
 have Dj:∀ b o,b≠p->s.heap.get? b=some o->h'.get? b=some o:=fun b o hb z=>by rw[<- hh'];exact(abH s.heap _ (Ne.symm hb)).trans z
 let H':Hp:=upd (upd H a (.bJ ls (ns.set j (N+1)))) q (.kd (some (p,N)) oq kvs)
 have ub:∀ b o,H b=some o->b≠a->b≠q->H' b=some o:=fun b o z n1 n2=>by show(upd (upd H a _) q _) b=_;rw[aj n2,aj n1];exact z
 have nk:∀ b o,H b=some o->mk o=false->b≠a:=fun b o z n z'=>by rw[z',ha] at z;cases z;cases n
 have nq:∀ b o,H b=some o->(∀ x,o≠.dK x)->b≠q:=fun b o z n z'=>by rw[z',hq] at z;exact n _ (Option.some.inj z).symm
 have kp:Kp H H':=⟨fun b o z kq=>ub b _ z (nk b _ z (by cases o <;> first | rfl | exact(show False from kq).elim)) (nq b _ z fun x y=>by subst y;exact kq),fun b z=>by
   by_cases ba:b=a
   . rw[ba];show me ((upd (upd H a _) q _) a);rw[aj haq,ak];trivial
   . have bq:b≠q:=fun z'=>by rw[z',hq] at z;exact z
     show me ((upd (upd H a _) q _) b);rw[aj bq,aj ba];exact z,fun b x z=>ub b _ z (nk b _ z rfl) (nq b _ z fun x y=>by cases y)⟩
 have hl:∀ p' i c',me (H p')->T1 s.heap p' i c'->T1 h' p' i c':=fun p' i c' _ ⟨its',n',z1,z2⟩=>by
   by_cases pp:p'=p
   . subst pp
     rw[e] at z1
     have z3:its'=aG:=by
       have:=congrArg (fun o:Option Obj=>o.map (·.data)) z1
       simp at this
       exact this.1.symm
     subst z3
     exact⟨_,_,e',by rw[aaC (aaj.mp z2).1];exact z2⟩
   . exact⟨its',n',Dj _ _ pp z1,z2⟩
 have LF:T1 h' p N q:=⟨_,_,e',by rw[aaE (by omega),hlen,Nat.sub_self];rfl⟩
 have fz':rX H' kvs (f N):=hfz.kp kp
 have hqo:h'.get? q=some oq:=Dj _ _ (Ne.symm hpq) hoq
 have VC:∀ b,H b=none->H' b=none:=fun b n=>by
   have n1:b≠a:=fun z=>by rw[z,ha] at n;cases n
   have n2:b≠q:=fun z=>by rw[z,hq] at n;cases n
   show(upd (upd H a _) q _) b=none
   rw[aj n2,aj n1];exact n
 have nop:∀ b,H b=none->b≠p:=fun b n z=>by rw[<- z,n] at Hs;exact Hs
 have ths:∀ b o,s.heap.get? b=some o->∃ o',h'.get? b=some o':=fun b o z=>by
   by_cases bp:b=p
   . rw[bp];exact⟨_,e'⟩
   . exact⟨o,Dj _ _ bp z⟩
 refine⟨.cS,H',I.un (h':=h') (t':=s.toks) ⟨fun b o z n _ _=>Dj b o (nop b n) z,fun b o z n _ _=>⟨o.slots,Dj b o (nop b n) z⟩,fun b o _ n _=>VC b n,fun b o z _=>ths b o z,fun b xs z=>ub b _ z (nk b _ z rfl) (nq b _ z fun x y=>by cases y),
   fun b o u z=>ub b _ z (nk b _ z rfl) (nq b _ z fun x y=>by cases y),fun b ps z=>⟨#[],by rw[ub b _ z (nk b _ z rfl) (nq b _ z fun x y=>by cases y)];simp⟩⟩ fun b u z=>?_,rfl,kk oq⟩
 by_cases bq:b=q
 . subst bq
   have z:(upd (upd H a _) b _) b=some u:=z
   rw[ak] at z;cases z
   refine⟨hqo,⟨hz,lo,vs,kv,oq,es,ep,hqo,hr⟩,fun p' i ht=>?_⟩
   cases ht
   exact⟨kp.mem _ Hs,LF⟩
 . by_cases ba:b=a
   . subst ba
     have z:(upd (upd H b _) q _) b=some u:=z
     rw[aj bq,ak] at z;cases z
     refine⟨ths _ _ hoa,⟨f0,h1⟩,by rw[abT];exact h2,fun j' p' f' z=>(h3 j' p' f' z).imp id fun z=>kp.part _ _ z,h4,fun n hn=>?_,fun j' p' f' n z1 z2=>?_⟩
     . obtain⟨i,hi,ei⟩:=aaX.mp hn
       rw[List.getElem_set] at ei
       split at ei
       . omega
       . rw[<- ei];exact h5 _ (aaP _)
     . by_cases jj:j=j'
       . subst jj
         rw[hj] at z1;cases z1
         have hjl:j < ns.length:=(aaj.mp hN).1
         rw[aak hjl] at z2;cases z2
         refine⟨_,_,e',by rw[aax,hlen];rfl,fun i hi=>?_⟩
         by_cases hiN:i < N
         . obtain⟨q',o',kv',w1,w2,w3⟩:=hit i hiN
           exact⟨q',o',kv',by rw[aaC (by omega)];exact w1,kp.kd _ _ _ _ w2,w3.kp kp⟩
         . have:i=N:=by omega
           subst this
           exact⟨q,oq,kvs,by rw[aaE (by omega),hlen,Nat.sub_self];rfl,ak,fz'⟩
       . rw[aal jj] at z2
         have pp:p'≠p:=fun z=>by
           subst z
           obtain⟨i1,e1⟩:=aaj.mp hj
           obtain⟨i2,e2⟩:=aaj.mp z1
           have pw:=aa0.mp h4
           rcases Nat.lt_or_gt_of_ne jj with lt | lt
           . have:=pw j j' (by rw[k5];exact i1) (by rw[k5];exact i2) lt
             rw[aaQ,aaQ,e1,e2] at this
             exact this rfl
           . have:=pw j' j (by rw[k5];exact i2) (by rw[k5];exact i1) lt
             rw[aaQ,aaQ,e1,e2] at this
             exact this rfl
         exact(h6 j' p' f' n z1 z2).kp kp fun u z=>Dj _ _ pp z
   . have z0:H b=some u:=by
       have z:(upd (upd H a _) q _) b=some u:=z
       rw[aj bq,aj ba] at z;exact z
     by_cases bp:b=p
     . subst bp
       rcases h3 j b f hj with z1 | z1
       . exact absurd z1 ba
       . rw[z1] at z0;cases z0
         exact⟨_,e'⟩
     . refine(I.bu b u z0).Ou (fun c' v' Cw z'=>Dj c' v' ?_ z') (fun c' z'=>ub c' _ z' (nk c' _ z' rfl) (nq c' _ z' fun x y=>by cases y)) (fun c' xs z'=>ub c' _ z' (nk c' _ z' rfl) (nq c' _ z' fun x y=>by cases y)) kp hl
       rcases Cw with rfl | z1 | z1
       . exact bp
       . exact fun z'=>by rw[z'] at z1;rw[z1] at Hs;exact Hs
       . intro z'
         rw[z'] at z1
         rcases h3 j p f hj with z2 | z2
         . rw[z2,ha] at z1;cases z1
         . rw[z2] at z1;cases z1;exact ba rfl
end
noncomputable def pX (fs:List (Str×Dt))(nm:List Str)(a:Addr)(ls:km)(n:Nat):List (Str×Dt):=fs ++ (aam nm.length).map fun j=>(nm.getD j "",.dU a ls j n)
section
variable {K:W.Frag}{Hf H:Hp}
theorem bg.split:∀ {TR LH:List (Str×Dt)} {fv:List (Str×V)},bg K H fv (TR ++ LH)->∃ f1 f2,fv=f1 ++ f2/\bg K H f1 TR/\bg K H f2 LH
 | [],_,fv,r=>⟨[],fv,rfl,.nil,r⟩
 | (k,d)::TR,LH,_,.cons h t=>by
   obtain⟨f1,f2,e,r1,r2⟩:=bg.split t
   exact⟨(k,_)::f1,f2,by rw[e];rfl,.cons h r1,r2⟩
theorem bg.join:∀ {TR LH:List (Str×Dt)} {f1 f2:List (Str×V)},bg K H f1 TR->bg K H f2 LH->bg K H (f1 ++ f2) (TR ++ LH)
 | _,_,_,_,.nil,r=>r
 | _,_,_,_,.cons h t,r=>.cons h (bg.join t r)
theorem pG {nm:Nat->Str}{d d':Nat->Dt}{H':Hp}(h:∀ j v,Rep K H v (d j)->Rep K H' v (d' j)):∀ {js:List Nat} {fv:List (Str×V)},bg K H fv (js.map fun j=>(nm j,d j))->bg K H' fv (js.map fun j=>(nm j,d' j))
 | [],_,.nil=>.nil
 | j::js,_,.cons r t=>.cons (h j _ r) (pG h t)
def uQ (H:Hp)(ls:km)(n:Nat):Prop:=∀ (j:Nat) (p:Addr) (f:Nat->List (Key×FD)),ls[j]?=some (p,f)->Known H p f n
variable {fs:List (Str×Dt)}{nm:List Str}{l:Addr}{ls:km}{n m:Nat}{fv:List (Str×V)}{u:HO}
theorem vY (hn:0 < nm.length)(r:bg K Hf fv (tP fs nm l ls n)):Hf l=some (.memo ls):=by
 obtain⟨f1,f2,_,_,r2⟩:=bg.split r
 cases hk:nm.length with
 | zero=>omega
 | succ k=>
   rw[hk,List.range_succ_eq_map,aau] at r2
   cases r2 with
   | cons h t=>cases h with
     | memo _ h2 _ _=>exact h2
theorem VD (hs:kM l fs=true)(hm:Hf l=some (.memo ls))(hu:mI ls u)(r:bg K Hf fv (tP fs nm l ls n)):bg K (upd Hf l u) fv (pX fs nm l ls n):=by
 obtain⟨f1,f2,e,r1,r2⟩:=bg.split r
 subst e
 refine bg.join (jF (.inl hm) hu hs r1) (pG (fun j v q=>?_) r2)
 cases q with
 | memo h1 h2 h3 h4=>exact ja (.inl hm) hu rfl (.dU h1 (.inl h2) h3 h4)
theorem OX (hs:kM l fs=true)(hm:cf Hf l ls)(r:bg K Hf fv (pX fs nm l ls n)):bg K (upd Hf l (.memo ls)) fv (tP fs nm l ls n):=by
 obtain⟨f1,f2,e,r1,r2⟩:=bg.split r
 subst e
 refine bg.join (jF hm (.inl rfl) hs r1) (pG (fun j v q=>?_) r2)
 cases q with
 | dU h1 h2 h3 h4=>exact .memo h1 ak (h3.imp id fun z=>bh hm z rfl) (nr hm (.inl rfl) h4)
theorem BH (hk:uQ Hf ls m)(r:bg K Hf fv (tP fs nm l ls n)):bg K Hf fv (tP fs nm l ls m):=by
 obtain⟨f1,f2,e,r1,r2⟩:=bg.split r
 subst e
 refine bg.join r1 (pG (fun j v q=>?_) r2)
 cases q with
 | memo h1 h2 h3 h4=>exact .memo h1 h2 h3 (hk _ _ _ h1)
theorem MV (hl:ls.length<=nm.length)(r:bg K Hf fv (tP fs nm l ls n)):uQ Hf ls n:=fun j p f e=>by
 obtain⟨f1,f2,_,_,r2⟩:=bg.split r
 have hj:j < nm.length:=aaq (aaj.mp e).1 hl
 have key:∀ {js:List Nat} {fv:List (Str×V)},bg K Hf fv (js.map fun j=>(nm.getD j "",Dt.memo l ls j n))->j∈js->Known Hf p f n:=by
   intro js
   induction js with
   | nil=>intro fv _ h;cases h
   | cons i js ih=>
     intro fv r h
     cases r with
     | cons q t=>
       rcases aaH.mp h with z | z
       . subst z
         cases q with
         | memo h1 h2 h3 h4=>rw[e] at h1;cases h1;exact h4
       . exact ih t z
 exact key r2 (abr.mpr hj)
theorem Ri {A B bX H2:Hp}(hA:A l=some (.memo ls))(hB:B l=some (.memo ls))(g:bx (upd A l u) (upd B l u) bX H2):bx A B (upd bX l (.memo ls)) (upd H2 l (.memo ls)):=by
 refine⟨fun b o e=>?_,fun b o e=>?_,c9 g.sub,fun b o e=>?_⟩
 . by_cases hb:b=l
   . subst hb;rw[hB] at e;cases e;exact ak
   . rw[aj hb];exact g.big _ _ (by rw[aj hb];exact e)
 . by_cases hb:b=l
   . subst hb;rw[hA] at e;cases e;exact ak
   . rw[aj hb];exact g.bG _ _ (by rw[aj hb];exact e)
 . by_cases hb:b=l
   . subst hb;exact .inl ⟨_,hA⟩
   . rw[aj hb] at e
     rcases g.new b o e with⟨o',z⟩ | z | z
     . rw[aj hb] at z;exact .inl ⟨o',z⟩
     . rw[aj hb] at z;exact .inr (.inl z)
     . exact .inr (.inr z)
variable {G G0:Gr}{st:L2.St}{dl:List Slot}
theorem dX.rebase (S:dX K G0 st Hf H dl)(no:noOwn dl=true)(g:bx G.Hf G.H G0.Hf G0.H):dX K G st Hf H dl:=⟨g.trans S.gr,S.len,S.val,fun i o h=>absurd h (aY no i o),fun i j o o' a h=>absurd h (aY no i o)⟩
noncomputable def rA (a:Addr):List Slot->Bool
 | []=>true
 | .br::r=>rA a r
 | .val d::r=>sJ a d && rA a r
 | .own _::_=>false
theorem mJ {l:Addr}:∀ {tl:List Slot} {i:Nat} {d:Dt},rA l tl=true->tl[i]?=some (.val d)->sJ l d=true
 | [],_,_,_,e=>by simp at e
 | .br::r,0,_,_,e=>by simp at e
 | .br::r,i+1,_,h,e=>mJ (tl:=r) (i:=i) h (by simpa using e)
 | .val d::r,0,_,h,e=>by
   rw[rA,aaS] at h
   simp at e
   subst e
   exact h.1
 | .val d::r,i+1,_,h,e=>by
   rw[rA,aaS] at h
   exact mJ (tl:=r) (i:=i) h.2 (by simpa using e)
theorem ib {l:Addr}:∀ {tl:List Slot},rA l tl=true->noOwn tl=true
 | [],_=>rfl
 | .br::r,h=>ib (tl:=r) h
 | .val d::r,h=>by
   rw[rA,aaS] at h
   exact ib (tl:=r) h.2
variable {C:Addr}{tl:List Slot}
noncomputable abbrev AI (C:Addr)(fs:List (Str×Dt))(nm:List Str)(l:Addr)(ls:km)(n:Nat)(tl:List Slot):List Slot:=.val (.obj C (tP fs nm l ls n))::tl
noncomputable abbrev YV (C:Addr)(fs:List (Str×Dt))(nm:List Str)(l:Addr)(ls:km)(n:Nat)(tl:List Slot):List Slot:=.val (.obj C (pX fs nm l ls n))::tl
theorem dX.VE {m:Nat}(S:dX K G st Hf H (AI C fs nm l ls n tl))(kn:uQ Hf ls m):dX K G st Hf H (AI C fs nm l ls m tl):=by
 have own:∀ {i:Nat} {o:Own},(AI C fs nm l ls m tl)[i]?=some (.own o)->(AI C fs nm l ls n tl)[i]?=some (.own o):=fun {i o} h=>by
   cases i with
   | zero=>cases h
   | succ i=>exact h
 refine⟨S.gr,S.len,fun i d h=>?_,fun i o h=>S.own i o (own h),fun i j o o' a h1 h2=>S.Gi i j o o' a (own h1) (own h2)⟩
 cases i with
 | zero=>
   cases h
   obtain⟨v,hv,rv⟩:=S.val 0 _ rfl
   cases rv with
   | obj q r=>exact⟨_,hv,.obj q (BH kn r)⟩
 | succ i=>exact S.val (i+1) d h
noncomputable def VF (G0:Gr)(l:Addr)(u:HO):Gr:=⟨upd G0.Hf l u,upd G0.H l u⟩
theorem dX.YW (S:dX K G st Hf H (AI C fs nm l ls n tl))(hs:kM l fs=true)(ht:rA l tl=true)(hn:0 < nm.length)(hu:mI ls u):Hf l=some (.memo ls)/\dX K (VF ⟨jG Hf H,H⟩ l u) st (upd (jG Hf H) l u) (upd H l u) (YV C fs nm l ls n tl):=by
 obtain⟨v,hv,rv⟩:=S.val 0 _ rfl
 have sm:=gu S.sub
 cases rv with
 | @obj a _ dx fv _ q r=>
   have hm:=vY hn r
   have YX:jG Hf H l=some (.memo ls):=sm _ _ hm
   refine⟨hm,⟨.refl (c9 (oH S.sub)),S.len,fun i d h=>?_,fun i o h=>?_,fun i j o o' a h=>?_⟩⟩
   . cases i with
     | zero=>
       cases h
       exact⟨_,hv,.obj (Jp (.inl YX) (il sm q)) (VD hs YX hu (r.mono sm))⟩
     | succ i=>
       have h:tl[i]?=some (.val d):=h
       obtain⟨w,w1,w2⟩:=S.val (i+1) d h
       exact⟨w,w1,ja (.inl YX) hu (mJ ht h) (w2.mono sm)⟩
   . cases i with
     | zero=>cases h
     | succ i=>exact absurd h (aY (ib ht) i o)
   . cases i with
     | zero=>cases h
     | succ i=>exact absurd h (aY (ib ht) i o)
end
section
variable {X:Cx}{G:Gr}{E:XK}{dl:List Slot}{c e:Expr}{body:List Stmt}{pos p:Pos}{fs:List (Str×Dt)}{nm:List Str}{l C:Addr}{ls:km}{n m age:Nat}{tl:List Slot}
def Rj (X:Cx)(c:Expr):TT:=fun st H Q=>∃ G dl b,EB X G dl c b/\UM X.K G dl b st H Q
theorem Ju:PT X c (Rj X c):=fun pins s st H Q I ⟨G,dl,b,h,q⟩=>h pins s st H Q I q
def Rk (X:Cx)(E:XK)(body:List Stmt):TS:=fun D st H=>∃ G pre o,m8 X G E pre body o/\tO X.K G E pre o D st H
theorem GK {body:List Stmt}:CF X body (Rk X E body):=fun pins s st H D J ⟨G,pre,o,h,q⟩=>h pins s st H D J q
def RM (K:W.Frag)(G0:Gr)(C:Addr)(fs:List (Str×Dt))(nm:List Str)(l:Addr)(ls:km)(n:Nat)(tl:List Slot)(M:Nat):L2.St->Hp->Prop:=fun st H=>H l=some (.bJ ls (aan ls.length M))/\∃ Hf,dX K G0 st Hf (upd H l (.memo ls)) (AI C fs nm l ls n tl)
theorem yy (hp:PassesOwn (model X.prog X.w) X.A X.env X.xe)(hs:kM l fs=true)(ht:rA l tl=true)(hn:0 < nm.length)(gQ:age < 9000)(hc:∀ (N:Nat) (G:Gr),G.Hf l=some (.bJ ls (aan ls.length N))->EB X G (YV C fs nm l ls n tl) c (decide (N<=age)))(hb:∀ N,0 < N->N<=age->∀ G0:Gr,G0.Hf l=some (.memo ls)->G0.H l=some (.memo ls)->m8 X (VF G0 l (.bJ ls (aan ls.length N))) E (YV C fs nm l ls n tl) body (.raw (RM X.K G0 C fs nm l ls n tl (N+1)))):ES X G E (AI C fs nm l ls n tl) (.While c body [] pos) (.nx (AI C fs nm l ls (age+1) tl)):=by
 intro pins s st H D I ⟨Hf,S,k⟩
 have no:noOwn (AI C fs nm l ls n tl)=true:=show noOwn tl=true from ib ht
 have hm:Hf l=some (.memo ls):=(S.YW (u:=.memo ls) hs ht hn (.inl rfl)).1
 obtain⟨N0,h0,h1,IX⟩:=Inv.exact I (S.sub _ _ hm)
 let XX:Nat->HO:=fun N=>.bJ ls (aan ls.length N)
 have mu:∀ N,mI ls (XX N):=fun N=>.inr ⟨_,rfl⟩
 let W:Nat->L2.St->Hp->Prop:=fun m st H=>∃ N,m=age+1 - N/\0 < N/\H l=some (XX N)/\∃ Hf1,aF Hf Hf1/\dX X.K G st Hf1 (upd H l (.memo ls)) (AI C fs nm l ls n tl)
 refine bW (AX (pos:=pos) hp (Ju (X:=X) (c:=c)) (GK (E:=E)) pins s st _ { D with nx:=fun jD H'=>∃ N,age < N/\H' l=some (XX N)/\∃ Hf1,aF Hf Hf1/\dX X.K G jD Hf1 (upd H' l (.memo ls)) (AI C fs nm l ls n tl)} IX ?_) fun f s7 q7=>?_
 . refine⟨W,⟨_,N0,rfl,h0,ak,Hf,aF.refl _,by rw[uC,vT (S.sub _ _ hm)];exact S⟩,?_⟩
   rintro mm Xd H1 ⟨N,rfl,hN,LF,Hf1,s1,S1⟩
   have eH:upd (upd H1 l (.memo ls)) l (XX N)=H1:=by rw[uC,vT LF]
   obtain⟨Xl,SX⟩:=S1.YW (u:=XX N) hs ht hn (mu N)
   rw[eH] at SX
   have hA:jG Hf1 (upd H1 l (.memo ls)) l=some (.memo ls):=gu S1.sub _ _ Xl
   refine⟨_,_,decide (N<=age),hc N (VF ⟨jG Hf1 (upd H1 l (.memo ls)),upd H1 l (.memo ls)⟩ l (XX N)) ak,_,SX,fun bX H2 g2=>?_⟩
   have g2':bx (upd (jG Hf1 (upd H1 l (.memo ls))) l (XX N)) (upd (upd H1 l (.memo ls)) l (XX N)) bX H2:=by rw[eH];exact g2
   have gp:=Ri (ls:=ls) hA ak g2'
   have gg:=(pF S1.sub).trans gp
   have S2:=S1.grow gg
   have UA:H2 l=some (XX N):=g2.big _ _ LF
   by_cases hle:N<=age
   . rw[decide_eq_true hle]
     have eH2:upd (upd H2 l (.memo ls)) l (XX N)=H2:=by rw[uC,vT UA]
     obtain⟨Xm,SX2⟩:=S2.YW (u:=XX N) hs ht hn (mu N)
     rw[eH2] at SX2
     have hA2:jG (upd bX l (.memo ls)) (upd H2 l (.memo ls)) l=some (.memo ls):=gu S2.sub _ _ Xm
     refine zh ⟨fun jD H'=>H' l=some (XX (N+1))/\∃ Hf1,aF Hf Hf1/\dX X.K G jD Hf1 (upd H' l (.memo ls)) (AI C fs nm l ls n tl),fun jD H' ⟨z1,z2⟩=>⟨age+1 - (N+1),by omega,N+1,rfl,by omega,z1,z2⟩,?_⟩
     refine⟨_,_,_,hb N hN hle ⟨jG (upd bX l (.memo ls)) (upd H2 l (.memo ls)),upd H2 l (.memo ls)⟩ hA2 ak,_,SX2,fun jD H' ⟨z1,aJ,z2⟩=>⟨z1,aJ,?_,?_⟩⟩
     . exact((s1.trans gg.bG).trans (gu S2.sub)).trans z2.gr.bG
     . exact z2.rebase no (S2.gr.trans (pF S2.sub))
   . rw[decide_eq_false hle]
     exact zg ⟨N,by omega,UA,_,s1.trans gg.bG,S2⟩
 . cases f with
   | next=>
     obtain⟨σ7,H7,I7,N,hN,YY,Hf7,s7',S7⟩:=q7
     have I8:=Inv.pack I7 YY (by omega)
     refine⟨σ7,_,I8,?_⟩
     obtain⟨_,_,hlen,_,_,_,h6⟩:=(show aP X.prog X.w H7 s7.heap l (XX N) from I7.bu l _ YY)
     have kn:uQ (jG Hf7 (upd H7 l (.memo ls))) ls (age+1):=fun j p f e i hi=>by
       have hj:j < ls.length:=(aaj.mp e).1
       obtain⟨aG,cc,e1,e2,e3⟩:=h6 j p f N e (by rw[aaV,if_pos hj])
       obtain⟨q,o,kvs,q1,q2,q3⟩:=e3 i (by omega)
       have key:∀ b u,H7 b=some u->Kept u->jG Hf7 (upd H7 l (.memo ls)) b=some u:=fun b u z kq=>zB (by rw[aj (fun zz=>by rw[zz,YY] at z;cases z;exact kq)];exact z) kq
       exact⟨q,o,kvs,key _ _ q2 trivial,gv key q3⟩
     have S8:=S7.grow (pF S7.sub)
     exact k σ7 _ _ (s7'.trans (gu S7.sub)) (S8.VE kn)
   | cont=>exact q7
   | brk=>exact q7
   | ret v=>exact q7
theorem mK (he:EE X G (AI C fs nm l ls n tl) e (.uH l ls m))(hs:swapsWith e none pos.line X.env=pure false:=by rfl):ES X G E (AI C fs nm l ls n tl) (.Expr e pos) (.nx (AI C fs nm l ls m tl)):=
 sk (lS he hs) fun D st H zq=>Bn zq fun Hf zq=>have S:=zq.1;have k:=zq.2;⟨Hf,S,fun v Hf1 H1 g1 r1=>by
   have S1:=S.grow g1
   cases r1 with
   | uH kn=>
     exact k st Hf1 H1 g1.bG (S1.VE kn)⟩
theorem pH (hl:ls.length<=nm.length):Comes (.nx (AI C fs nm l ls n tl)) (.ret (.uH l ls n)):=.kn fun K G st Hf H S=>by
 obtain⟨v,hv,rv⟩:=S.val 0 _ rfl
 cases rv with
 | obj q r=>exact .uH (MV hl r)
theorem BI (i:Nat){o:Out}{sts:List Stmt}{gs:List (Nat->List (Key×FD))}(h:∀ l ls,ls.map (·.2)=gs->m8 X G E (dl.set i (.val (.obj C (tP fs nm l ls n)))) sts o)(hd:dl[i]?=some (.val (.vB C fs gs nm n)):=by rfl):m8 X G E dl sts o:=by
 intro pins s st H D I ⟨Hf,S,k⟩
 obtain⟨v,hv,rv⟩:=S.val i _ hd
 cases rv with
 | @vB s' a _ dx fv _ _ _ _ ls' e q r=>
   refine h a ls' e pins s st H D I ⟨Hf,⟨S.gr,by simp[S.len],fun j d hj=>?_,fun j o' hj=>?_,fun j m o1 o2 c q1 q2 q3 q4=>?_⟩,k⟩
   . by_cases ej:i=j
     . subst ej
       have hl:i < dl.length:=(aaj.mp hd).1
       rw[aak hl] at hj;cases hj
       exact⟨_,hv,.obj q r⟩
     . rw[aal ej] at hj;exact S.val j d hj
   . have ej:i≠j:=fun z=>by
       subst z
       rw[aak (aaj.mp hd).1] at hj;cases hj
     rw[aal ej] at hj;exact S.own j o' hj
   . have ne:∀ {j:Nat} {o':Own},(dl.set i (.val (.obj C (tP fs nm a ls' n))))[j]?=some (.own o')->dl[j]?=some (.own o'):=fun {j o'} hj=>by
       have ej:i≠j:=fun z=>by
         subst z
         rw[aak (aaj.mp hd).1] at hj;cases hj
       rw[aal ej] at hj;exact hj
     exact S.Gi j m o1 o2 c (ne q1) (ne q2) q3 q4
end
theorem BJ {l:Addr}:∀ (a b:List (Str×Dt)),kM l (a ++ b)=(kM l a && kM l b)
 | [],b=>by rw[List.nil_append,kM];rfl
 | (k,d)::a,b=>by rw[List.cons_append,kM,kM,BJ a b,Bool.and_assoc]
theorem Jv (nm:Nat->Str)(l:Addr)(ls:km)(n:Nat):∀ js:List Nat,kM l (js.map fun j=>(nm j,Dt.dU l ls j n))=true
 | []=>rfl
 | j::js=>by rw[aau,kM,Jv nm l ls n js];rfl
theorem yz {fs:List (Str×Dt)}{nm:List Str}{l:Addr}{ls:km}{n:Nat}(h:kM l fs=true):kM l (pX fs nm l ls n)=true:=by
 unfold pX
 rw[BJ,h,Jv];rfl
section
variable {X:Cx}{G0:Gr}{E:XK}{arg:Expr}{fs:List (Str×Dt)}{l C:Addr}{ls:km}{n N:Nat}{tl:List Slot}{f g:Nat->List (Key×FD)}{n0 n1 x0 xg:Str}{p1 p2 p3 p4 p5 a1 a2 c1 c2 q1 q2:Pos}
theorem BK (ng:Nat)(hs:kM l fs=true)(ht:rA l tl=true)(hu:tl[ng]?=some .br)(my:ls.map (·.2)=[f,g])(hN:N < 9000)(cl:uG X.K C)(Rm:bL X.K C n0)(YZ:bL X.K C n1)(hA:G0.Hf l=some (.memo ls))(hB:G0.H l=some (.memo ls))
   (Y0:∀ G2,EO X G2 (.val (.obj C (pX fs [n0,n1] l ls n))::tl.set ng (.val (.dW (oe (f N))))) arg (.eX (oe (g N))))
   (TQ:(pX fs [n0,n1] l ls n).lookup n0=some (.dU l ls 0 n):=by rfl) (LF:(pX fs [n0,n1] l ls n).lookup n1=some (.dU l ls 1 n):=by rfl)
   (TN:X.N[0]?=some x0:=by rfl) (Xn:vo X.env.scope x0:=by first | exact aaK rfl | exact aaD (aaK rfl) | exact aaD (aaD rfl)) (Xo:(x0 == ("__debug__":Str))=false:=by decide) (Xp:(x0 == ("__classdict__":Str))=false:=by decide)
   (Y1:X.N[ng+1]?=some xg:=by rfl) (Y2:vo X.env.scope xg:=by first | exact aaK rfl | exact aaD (aaK rfl) | exact aaD (aaD rfl)) (Y3:(xg == ("__debug__":Str))=false:=by decide) (Y4:(xg == ("__classdict__":Str))=false:=by decide)
   (VG:attributeBase (.Name x0 p1) n0 X.env (eval (.Name x0 p1) X.env)=eval (.Name x0 p1) X.env:=by rfl) (Y5:attributeBase (.Name x0 p4) n1 X.env (eval (.Name x0 p4) X.env)=eval (.Name x0 p4) X.env:=by rfl)
   (Dl:attributeBase (.Attribute (.Name x0 p1) n0 p2) "append" X.env (eval (.Attribute (.Name x0 p1) n0 p2) X.env)=eval (.Attribute (.Name x0 p1) n0 p2) X.env:=by rfl)
   (Rn:attributeBase (.Attribute (.Name x0 p4) n1 p5) "append" X.env (eval (.Attribute (.Name x0 p4) n1 p5) X.env)=eval (.Attribute (.Name x0 p4) n1 p5) X.env:=by rfl)
   (Jw:((backTo c1 (starEach [.Name xg p3] X.env)).all (fun x=>!x.1) && (backToKw c1 (keywordEach [] X.env)).all (fun x=>x.1.isSome) && decide ([Expr.Name xg p3].length+([]:List Keyword).length+(if ([]:List Keyword).isEmpty then 0 else 1) < 30))=true:=by rfl)
   (VH:((backTo c2 (starEach [arg] X.env)).all (fun x=>!x.1) && (backToKw c2 (keywordEach [] X.env)).all (fun x=>x.1.isSome) && decide ([arg].length+([]:List Keyword).length+(if ([]:List Keyword).isEmpty then 0 else 1) < 30))=true:=by rfl)
   (Dm:(a1.endLine == c1.line)=true:=by rfl) (Ro:(a2.endLine == c2.line)=true:=by rfl) (zC:starEach [.Name xg p3] X.env=(false,eval (.Name xg p3) X.env)::starEach [] X.env:=by rfl) (MW:starEach [arg] X.env=(false,eval arg X.env)::starEach [] X.env:=by rfl)
   (Hn:swapsWith (.Call (.Attribute (.Attribute (.Name x0 p1) n0 p2) "append" a1) [.Name xg p3] [] c1) none q1.line X.env=pure false:=by rfl) (ye:swapsWith (.Call (.Attribute (.Attribute (.Name x0 p4) n1 p5) "append" a2) [arg] [] c2) none q2.line X.env=pure false:=by rfl) :
   m8 X (VF G0 l (.bJ ls (aan ls.length N))) E (.val (.obj C (pX fs [n0,n1] l ls n))::tl.set ng (.own (.eX (oe (f N)))))
     [.Expr (.Call (.Attribute (.Attribute (.Name x0 p1) n0 p2) "append" a1) [.Name xg p3] [] c1) q1,.Expr (.Call (.Attribute (.Attribute (.Name x0 p4) n1 p5) "append" a2) [arg] [] c2) q2] (.raw (RM X.K G0 C fs [n0,n1] l ls n tl (N+1))):=by
 have VI:PE X arg (fun st H Q=>∃ G2,Xa X.K G2 (.val (.obj C (pX fs [n0,n1] l ls n))::tl.set ng (.val (.dW (oe (f N))))) (.eX (oe (g N))) st H Q):=fun pins s st H Q I ⟨G2,q⟩=>Y0 G2 pins s st H Q I q
 refine zk (om (lS (tL PySem.F.plainAttrs_list PySem.F.slot_list_append PySem.F.type_list_append qx (vv (jC (pos:=p1) TN Xn Xo Xp) VG) (lU (jC (pos:=p3) Y1 Y2 Y3 Y4) ow zC) Dl Jw Dm zC rfl) Hn)
   (mZ (lS (tL PySem.F.plainAttrs_list PySem.F.slot_list_append PySem.F.type_list_append qx (vv (jC (pos:=p4) TN Xn Xo Xp) Y5) (lU VI ow MW) Rn VH Ro MW rfl) ye))) fun D st H zq=>Bn zq fun Hf zq=>have S:=zq.1;have k:=zq.2;?_
 have e2:ls.length=2:=by have:=congrArg abg my;simpa using this
 have eR:∀ M:Nat,aan ls.length M=[M,M]:=fun M=>by rw[e2];rfl
 rw[eR] at S
 have VJ:ng < tl.length:=(aaj.mp hu).1
 obtain⟨v0,hv,rv⟩:=S.val 0 _ rfl
 cases rv with
 | @obj sa _ dx fv _ Rp rf=>
   obtain⟨oa,Dn,Xq,_,back⟩:=Rd.ex Rp
   have Rq:Hf l=some (.bJ ls [N,N]):=S.gr.bG _ _ ak
   have OY:H l=some (.bJ ls [N,N]):=S.sub _ _ Rq
   have hm:cf Hf l ls:=.inr ⟨_,Rq⟩
   obtain⟨y0,Y6,Y7⟩:=rf.lookup TQ
   obtain⟨y1,LD,ry1⟩:=rf.lookup LF
   obtain⟨qa,hq,VL,Y8,kvs,OZ,rk⟩:=S.own (ng+1) (.eX (oe (f N))) (by show(tl.set ng _)[ng]?=_;rw[aak VJ])
   cases Y7 with
   | @dU _ p _ _ _ f0 BB _ Y9 _=>cases ry1 with
     | @dU _ pp _ _ _ f1 Za _ ac5 _=>
       have Zb:f0=f:=by
         have:=congrArg (fun z=>z[0]?) my
         simp only[aab,BB] at this
         exact Option.some.inj this
       have ef1:f1=g:=by
         have:=congrArg (fun z=>z[1]?) my
         simp only[aab,Za] at this
         exact Option.some.inj this
       subst Zb ef1
       have Xr:rX H kvs (f0 N):=gv (fun b u e _=>S.sub _ _ e) (qw rk)
       have Zc:qa≠l:=fun z=>by rw[z,OY] at OZ;cases OZ
       have VM:sa≠l:=fun z=>by rw[z,Rq] at Dn;cases Dn;cases Xq
       have nsq:sa≠qa:=fun z=>by rw[z,VL] at Dn;cases Dn
       refine⟨_,hv,sa,C,dx,fv,_,rfl,back _ (S.sub _ _ Dn),cl,Rm,Y6,.inr (.inr (.inr (.inr ⟨rfl,l,ls,[N,N],0,f0,N,OY,BB,rfl⟩))),_,hq,l,ls,[N,N],0,p,f0,N,qa,kvs,rfl,rfl,OY,BB,rfl,hN,OZ,Xr,fun oq=>?_⟩
       let H4:Hp:=upd (upd H l (.bJ ls ([N,N].set 0 (N+1)))) qa (.kd (some (p,N)) oq kvs)
       let u4:HO:=.bJ ls [N+1,N]
       have Xs:H4 l=some u4:=by show(upd (upd H l _) qa _) l=_;rw[aj (Ne.symm Zc),ak];rfl
       have h4q:H4 qa=some (.kd (some (p,N)) oq kvs):=ak
       have Xt:∀ b o,H b=some o->b≠l->b≠qa->H4 b=some o:=fun b o e n1 n2=>by show(upd (upd H l _) qa _) b=_;rw[aj n2,aj n1];exact e
       have h4n:∀ b,H4 b=none->H b=none:=fun b e=>by
         have n1:b≠l:=fun z=>by rw[z,Xs] at e;cases e
         have n2:b≠qa:=fun z=>by rw[z,h4q] at e;cases e
         have e:(upd (upd H l _) qa _) b=none:=e
         rw[aj n2,aj n1] at e;exact e
       have hfq:∀ b o,Hf b=some o->b≠qa:=fun b o e z=>by rw[z,VL] at e;cases e
       have zD:aF (upd Hf l u4) H4:=fun b o e=>by
         by_cases bl:b=l
         . rw[bl,ak] at e;cases e;rw[bl];exact Xs
         . rw[aj bl] at e;exact Xt b o (S.sub _ _ e) bl (hfq b o e)
       let Hq:Hp:=jG (upd Hf l u4) H4
       have VN:aF (upd Hf l u4) Hq:=gu zD
       have Xu:mI ls u4:=.inr ⟨_,rfl⟩
       have Zd:∀ b u,H b=some u->Kept u->Hq b=some u:=fun b u e kq=>zB (Xt b _ e (fun z=>by rw[z,OY] at e;cases e;exact kq) (fun z=>by rw[z,OZ] at e;cases e;exact kq)) kq
       have S4:dX X.K ⟨Hq,H4⟩ st Hq H4 (.val (.obj C (pX fs [n0,n1] l ls n))::tl.set ng (.val (.dW (oe (f0 N))))):=by
         have no:∀ (i:Nat) o,(Slot.val (.obj C (pX fs [n0,n1] l ls n))::tl.set ng (.val (.dW (oe (f0 N)))))[i]?≠some (.own o):=fun i o h=>by
           cases i with
           | zero=>cases h
           | succ i=>
             have h:(tl.set ng (.val (.dW (oe (f0 N)))))[i]?=some (.own o):=h
             by_cases e:ng=i
             . subst e;rw[aak VJ] at h;cases h
             . rw[aal e] at h;exact aY (ib ht) i o h
         refine⟨.refl (oH zD),by have:=S.len;simpa using this,fun i d h=>?_,fun i o h=>absurd h (no i o),fun i j o o' a h=>absurd h (no i o)⟩
         cases i with
         | zero=>
           cases h
           exact⟨_,hv,.obj (back _ (VN _ _ (bh hm Dn Xq))) ((jF hm Xu (yz hs) rf).mono VN)⟩
         | succ i=>
           have h:(tl.set ng (.val (.dW (oe (f0 N)))))[i]?=some (.val d):=h
           by_cases e:ng=i
           . subst e
             rw[aak VJ] at h;cases h
             exact⟨_,hq,.dW (EV h4q) (uP (gv Zd Xr))⟩
           . rw[aal e] at h
             obtain⟨w,w1,w2⟩:=S.val (i+1) d (by show(tl.set ng _)[i]?=_;rw[aal e];exact h)
             exact⟨w,w1,(ja hm Xu (mJ ht h) w2).mono VN⟩
       refine⟨_,hv,sa,C,dx,fv,_,rfl,back _ (Xt _ _ (S.sub _ _ Dn) VM nsq),cl,YZ,LD,.inr (.inr (.inr (.inr ⟨rfl,l,ls,[N+1,N],1,f1,N,Xs,Za,rfl⟩))),⟨Hq,H4⟩,Hq,S4,fun ra uN H5 g5 n5 n5' ⟨Rr,OJ,Vp⟩=>?_⟩
       have h5l:H5 l=some u4:=g5.big _ _ Xs
       have nrl:ra≠l:=fun z=>by rw[z,h5l] at OJ;have OJ:=Option.some.inj OJ;have OJ:HO.bJ ls [N+1,N]=.dK Rr:=OJ;cases OJ
       refine⟨l,ls,[N+1,N],1,pp,f1,N,ra,Rr,rfl,rfl,h5l,Za,rfl,hN,OJ,gv (fun b u e _=>g5.sub _ _ e) (qw Vp),fun or=>?_⟩
       let H6:Hp:=upd (upd H5 l (.bJ ls ([N+1,N].set 1 (N+1)))) ra (.kd (some (pp,N)) or Rr)
       show D.nx st H6
       have Ze:H6 l=some (.bJ ls [N+1,N+1]):=by show(upd (upd H5 l _) ra _) l=_;rw[aj (Ne.symm nrl),ak];rfl
       have VO:∀ b o,H5 b=some o->b≠l->b≠ra->(upd H6 l (.memo ls)) b=some o:=fun b o e n1 n2=>by
         rw[aj n1]
         show(upd (upd H5 l _) ra _) b=_
         rw[aj n2,aj n1];exact e
       have Zf:∀ b o,uN b=some o->b≠ra:=fun b o e z=>by rw[z,n5'] at e;cases e
       have Jx:aF (upd uN l (.memo ls)) (upd H6 l (.memo ls)):=fun b o e=>by
         by_cases bl:b=l
         . rw[bl,ak] at e ⊢;exact e
         . rw[aj bl] at e;exact VO b o (g5.sub _ _ e) bl (Zf b o e)
       have Jy:=gu Jx
       have f4:∀ b o,Hf b=some o->b≠l->uN b=some o:=fun b o e n1=>g5.bG _ _ (VN _ _ (by rw[aj n1];exact e))
       have g6:bx G0.Hf G0.H (jG (upd uN l (.memo ls)) (upd H6 l (.memo ls))) (upd H6 l (.memo ls)):=by
         refine⟨fun b o e=>?_,fun b o e=>?_,oH Jx,fun b o e=>?_⟩
         . by_cases bl:b=l
           . rw[bl,hB] at e;cases e;rw[bl];exact ak
           . have h3:H b=some o:=S.gr.big _ _ (by show(upd G0.H l _) b=_;rw[aj bl];exact e)
             have Zg:b≠qa:=fun z=>by
               have:(upd G0.H l (.bJ ls [N,N])) qa=none:=Y8
               rw[<- z,aj bl,e] at this;cases this
             have h4:=Xt b o h3 bl Zg
             exact VO b o (g5.big _ _ h4) bl (fun z=>by have n5:H4 ra=none:=n5;rw[z,n5] at h4;cases h4)
         . by_cases bl:b=l
           . rw[bl,hA] at e;cases e;rw[bl];exact Jy _ _ ak
           . have h3:Hf b=some o:=S.gr.bG _ _ (by show(upd G0.Hf l _) b=_;rw[aj bl];exact e)
             exact Jy _ _ (by rw[aj bl];exact f4 b o h3 bl)
         . rcases pE (Hf:=upd uN l (.memo ls)) (H:=upd H6 l (.memo ls)) b with⟨u',z1,z2,z3⟩ | z
           . rw[z3] at e;cases e;exact .inr (.inr z2)
           . rw[z] at e
             by_cases bl:b=l
             . rw[bl];exact .inl ⟨_,hA⟩
             . rw[aj bl] at e
               rcases g5.new b o e with⟨o',w⟩ | w | w
               . have eo:o'=o:=by have:=g5.bG _ _ w;rw[e] at this;exact(Option.some.inj this).symm
                 subst eo
                 rcases pE (Hf:=upd Hf l u4) (H:=H4) b with⟨u',z1,z2,z3⟩ | z'
                 . have w:jG (upd Hf l u4) H4 b=some o':=w
                   rw[z3] at w;cases w;exact .inr (.inr z2)
                 . have w:jG (upd Hf l u4) H4 b=some o':=w
                   rw[z',aj bl] at w
                   rcases S.gr.new b o' w with⟨QD,y⟩ | y | y
                   . have y:(upd G0.Hf l _) b=some QD:=y
                     rw[aj bl] at y;exact .inl ⟨QD,y⟩
                   . have y:(upd G0.H l _) b=none:=y
                     rw[aj bl] at y;exact .inr (.inl y)
                   . exact .inr (.inr y)
               . have y:(upd G0.H l (.bJ ls [N,N])) b=none:=S.gr.big.free (h4n b w)
                 rw[aj bl] at y;exact .inr (.inl y)
               . exact .inr (.inr w)
       have Zh:aF (upd Hf l u4) uN:=VN.trans g5.bG
       have hm5:cf uN l ls:=.inr ⟨_,Zh _ _ ak⟩
       have Rt:∀ {v:V} {d:Dt},sJ l d=true->Rep X.K Hf v d->Rep X.K (jG (upd uN l (.memo ls)) (upd H6 l (.memo ls))) v d:=fun {v d} hn r=>(ja hm5 (.inl rfl) hn ((ja hm Xu hn r).mono Zh)).mono Jy
       refine k st H6 ⟨by rw[eR];exact Ze,_,⟨g6,by have:=S.len;simpa using this,fun i d h=>?_,fun i o h=>?_,fun i j o o' a h=>?_⟩⟩
       . cases i with
         | zero=>
           cases h
           refine⟨_,hv,.obj (back _ (Jy _ _ (by rw[aj VM];exact f4 _ _ Dn VM))) ?_⟩
           have r5:=(jF hm Xu (yz hs) rf).mono Zh
           exact(OX hs hm5 r5).mono Jy
         | succ i=>
           have h:tl[i]?=some (.val d):=h
           have e:ng≠i:=fun z=>by rw[<- z,hu] at h;cases h
           obtain⟨w,w1,w2⟩:=S.val (i+1) d (by show(tl.set ng _)[i]?=_;rw[aal e];exact h)
           exact⟨w,w1,Rt (mJ ht h) w2⟩
       . cases i with
         | zero=>cases h
         | succ i=>exact absurd h (aY (ib ht) i o)
       . cases i with
         | zero=>cases h
         | succ i=>exact absurd h (aY (ib ht) i o)
end
noncomputable def ldk:HO->Bool
 | .lst _=>true
 | .dK _=>true
 | _=>false
noncomputable def conv (H:Hp)(p p2 q1 q2:Addr)(u1 u2 u3 u4:HO):Hp:=upd (upd (upd (upd H p u1) p2 u2) q1 u3) q2 u4
section
variable {X:Cx}{pins:List (Addr×Obj)}{σ:L2.St}{H:Hp}{s:Shared}{p p2 q1 q2:Addr}{nW AJ:List (Key×V)}{f g:Nat->List (Key×FD)}
theorem Inv.Ru (I:L2.Inv X pins σ H s)(hp:H p=some (.lst [.ref q1]))(zf:H p2=some (.lst [.ref q2]))(LJ:H q1=some (.dK nW))(VP:H q2=some (.dK AJ))(f1:rX H nW (f 0))(f2:rX H AJ (g 0))(n1:p≠p2)(n2:q1≠q2):∃ o1 o2,L2.Inv X pins σ (conv H p p2 q1 q2 (.memo [(p,f),(p2,g)]) (.part p) (.kd (some (p,0)) o1 nW) (.kd (some (p2,0)) o2 AJ)) s:=by
 obtain⟨z1,i1,c1,r1,e1⟩:=(show aP X.prog X.w H s.heap p (.lst [.ref q1]) from I.bu p _ hp)
 obtain⟨z2,i2,c2,r2,e2⟩:=(show aP X.prog X.w H s.heap p2 (.lst [.ref q2]) from I.bu p2 _ zf)
 obtain⟨MX,lo1,Zi,Zj,o1,Zk,Zl,VQ,Zm⟩:=(show aP X.prog X.w H s.heap q1 (.dK nW) from I.bu q1 _ LJ)
 obtain⟨hz2,lo2,vs2,kr2,o2,es2,ep2,Xv,hr2⟩:=(show aP X.prog X.w H s.heap q2 (.dK AJ) from I.bu q2 _ VP)
 obtain⟨u1,rfl,w1⟩:=vals1 r1
 obtain⟨u2,rfl,w2⟩:=vals1 r2
 cases (show u1=Value.ref q1 from w1)
 cases (show u2=Value.ref q2 from w2)
 refine⟨o1,o2,?_⟩
 have m1:p≠q1:=fun z=>by rw[z,LJ] at hp;cases hp
 have m2:p≠q2:=fun z=>by rw[z,VP] at hp;cases hp
 have m3:p2≠q1:=fun z=>by rw[z,LJ] at zf;cases zf
 have m4:p2≠q2:=fun z=>by rw[z,VP] at zf;cases zf
 generalize MY:conv H p p2 q1 q2 (.memo [(p,f),(p2,g)]) (.part p) (.kd (some (p,0)) o1 nW) (.kd (some (p2,0)) o2 AJ)=H'
 have VR:H' p=some (.memo [(p,f),(p2,g)]):=by rw[<- MY];unfold conv;rw[aj m2,aj m1,aj n1,ak]
 have Rv:H' p2=some (.part p):=by rw[<- MY];unfold conv;rw[aj m4,aj m3,ak]
 have Jz:H' q1=some (.kd (some (p,0)) o1 nW):=by rw[<- MY];unfold conv;rw[aj n2,ak]
 have VS:H' q2=some (.kd (some (p2,0)) o2 AJ):=by rw[<- MY];unfold conv;rw[ak]
 have Dj:∀ b,b≠p->b≠p2->b≠q1->b≠q2->H' b=H b:=fun b a1 a2 a3 a4=>by rw[<- MY];unfold conv;rw[aj a4,aj a3,aj a2,aj a1]
 have ub:∀ b o,H b=some o->ldk o=false->H' b=some o:=fun b o e n=>by
   rw[Dj b (fun z=>by rw[z,hp] at e;cases e;cases n) (fun z=>by rw[z,zf] at e;cases e;cases n) (fun z=>by rw[z,LJ] at e;cases e;cases n) (fun z=>by rw[z,VP] at e;cases e;cases n)]
   exact e
 have kp:Kp H H':=⟨fun b o e kq=>ub b _ e (by cases o <;> first | rfl | exact(show False from kq).elim),fun b e=>by
   cases q:H b with
   | none=>rw[q] at e;exact e.elim
   | some u=>
     rw[q] at e
     rw[ub b u q (by cases u <;> first | rfl | exact e.elim)]
     exact e,fun b x e=>ub b _ e rfl⟩
 refine I.un (h':=s.heap) (t':=s.toks) ⟨fun b o e _ _ _=>e,fun b o e _ _ _=>⟨o.slots,e⟩,fun b o e n _=>?_,fun b o e _=>⟨o,e⟩,fun b xs e=>ub b _ e rfl,fun b o u e=>ub b _ e rfl,fun b ps e=>⟨#[],by rw[ub b _ e rfl];simp⟩⟩ fun b u e=>?_
 . rw[Dj b (fun z=>by rw[z,hp] at n;cases n) (fun z=>by rw[z,zf] at n;cases n) (fun z=>by rw[z,LJ] at n;cases n) (fun z=>by rw[z,VP] at n;cases n)]
   exact n
 . by_cases b1:b=p
   . subst b1
     rw[VR] at e;cases e
     refine⟨⟨_,e1⟩,1,by decide,⟨f,rfl⟩,rfl,fun j a h hj=>?_,by simp[n1],fun n hn=>by rw[List.mem_replicate] at hn;omega,fun j a h n hj hn=>?_⟩
     . match j,hj with
       | 0,hj=>cases hj;exact .inl rfl
       | 1,hj=>cases hj;exact .inr Rv
     . match j,hj,hn with
       | 0,hj,hn=>
         cases hj;cases hn
         refine⟨_,_,e1,rfl,fun i hi=>?_⟩
         have:i=0:=by omega
         subst this
         exact⟨q1,o1,nW,rfl,Jz,f1.kp kp⟩
       | 1,hj,hn=>
         cases hj;cases hn
         refine⟨_,_,e2,rfl,fun i hi=>?_⟩
         have:i=0:=by omega
         subst this
         exact⟨q2,o2,AJ,rfl,VS,f2.kp kp⟩
   . by_cases b2:b=p2
     . subst b2;rw[Rv] at e;cases e;exact⟨_,e2⟩
     . by_cases b3:b=q1
       . subst b3;rw[Jz] at e;cases e
         refine⟨VQ,⟨MX,lo1,Zi,Zj,o1,Zk,Zl,VQ,Zm⟩,fun a i ht=>?_⟩
         cases ht
         exact⟨by rw[VR];trivial,_,_,e1,rfl⟩
       . by_cases b4:b=q2
         . subst b4;rw[VS] at e;cases e
           refine⟨Xv,⟨hz2,lo2,vs2,kr2,o2,es2,ep2,Xv,hr2⟩,fun a i ht=>?_⟩
           cases ht
           exact⟨by rw[Rv];trivial,_,_,e2,rfl⟩
         . rw[Dj b b1 b2 b3 b4] at e
           exact(I.bu b u e).yR (fun _ _ _ q=>q) (fun c q=>ub c _ q rfl) (fun c xs q=>ub c _ q rfl) kp
end
theorem EY (n0:Str)(v:V):∀ fv:List (Str×V),(fA n0 v fv).length<=fv.length+1
 | []=>aaa _
 | (k,w)::r=>by
   have ih:=EY n0 v r
   unfold fA
   split
   . simp
   . simp only[aaN];omega
section
variable {X:Cx}{G:Gr}{E:XK}{e1 e2:Expr}{fs:List (Str×Dt)}{z C:Addr}{tl:List Slot}{f g:Nat->List (Key×FD)}{n0 n1 x0:Str}{Rw Zn Rx Zo Ry Zp q1 q2:Pos}
theorem zE (no:noOwn tl=true)(cl:uG X.K C)(Rm:bL X.K C n0)(YZ:bL X.K C n1)(Zq:EO X G (.own (.Be z C fs)::tl) e1 (.eX (oe (f 0))))(QN:EO X G (.br::tl) e2 (.eX (oe (g 0))))(Rz:∀ p ls,putD n1 (.memo p ls 1 1) (putD n0 (.memo p ls 0 1) fs)=tP fs [n0,n1] p ls 1:=by intro _ _;rfl)(hlen:Nat.ble fs.length 990=true:=by rfl)(hN:X.N[0]?=some x0:=by rfl)(hv:vo X.env.scope x0:=by first | exact aaK rfl | exact aaD (aaK rfl) | exact aaD (aaD rfl))(mW:(x0 == ("__debug__":Str))=false:=by decide)(mz:(x0 == ("__classdict__":Str))=false:=by decide)(zC:starEach [e1] X.env=[(false,eval e1 X.env)]:=by rfl)(MW:starEach [e2] X.env=[(false,eval e2 X.env)]:=by rfl)(Hn:swapsWith (.List [e1] Ry) (some (.Attribute (.Name x0 Rw) n0 Rx)) q1.line X.env=pure false:=by rfl)(ye:swapsWith (.List [e2] Zp) (some (.Attribute (.Name x0 Zn) n1 Zo)) q2.line X.env=pure false:=by rfl):m8 X G E (.own (.Be z C fs)::tl) [.Assign [.Attribute (.Name x0 Rw) n0 Rx] (.List [e1] Ry) q1,.Assign [.Attribute (.Name x0 Zn) n1 Zo] (.List [e2] Zp) q2] (.nx (.own (.zj z C fs [f,g] [n0,n1] 1)::tl)):=by
 intro pins s st H D I ⟨Hf,S,k⟩
 have base:=om (vw (pos:=q1) (pos':=Rx) (jC (pos:=Rw) hN hv mW mz) (vx (pos:=Ry) (lU Zq ow zC)) Hn) (mZ (vw (pos:=q2) (pos':=Zo) (jC (pos:=Zn) hN hv mW mz) (vx (pos:=Zp) (lU QN ow MW)) ye))
 let RQ:L2.St->Hp->Prop:=fun jD H'=>∃ p p2 a1 a2 nW AJ,H' p=some (.lst [.ref a1])/\H' p2=some (.lst [.ref a2])/\H' a1=some (.dK nW)/\H' a2=some (.dK AJ)/\rX H' nW (f 0)/\rX H' AJ (g 0)/\p≠p2/\a1≠a2/\ ∀ o1 o2,D.nx jD (conv H' p p2 a1 a2 (.memo [(p,f),(p2,g)]) (.part p) (.kd (some (p,0)) o1 nW) (.kd (some (p2,0)) o2 AJ))
 refine bW (base pins s st H { D with nx:=RQ} I ?_) fun fl s7 q7=>?_
 . obtain⟨za,hz,Zr,TU,ez,dx,fv,MZ,rf⟩:=S.own 0 _ rfl
   subst ez
   refine⟨Hf,S,fun a1 Hf1 H1 g1 VT RA ⟨nW,Q4,Zs⟩=>⟨aaM rfl,fun p hp=>?_⟩⟩
   have MX:H1 za=some (.ins C dx fv):=g1.big _ _ MZ
   have LK:za≠p:=av MX hp
   have VU:a1≠p:=av Q4 hp
   have O0:za≠a1:=fun w=>by rw[w,VT] at MZ;cases MZ
   have Zt:(upd H1 p (.lst [.ref a1])) za=some (.ins C dx fv):=by rw[aj LK];exact MX
   refine⟨_,hz,za,C,dx,fv,rfl,Zt,cl,Rm,by rw[rf.length];exact aaO (aaM hlen) (by decide),?_⟩
   let H2:Hp:=upd (upd H1 p (.lst [.ref a1])) za (.ins C dx (fA n0 (.ref p) fv))
   have GL:Hf1 za=none:=g1.lG Zr MZ
   have Zu:bx Hf1 H1 Hf1 (upd H1 p (.lst [.ref a1])):=.fJ g1.sub hp
   have S0:dX X.K G st Hf H (.br::tl):=S.weak ⟨rfl,fun i s' e n=>by
     cases i with
     | zero=>cases e;exact absurd rfl n
     | succ i=>exact e⟩
   have Xw:noOwn (.br::tl)=true:=no
   have S2:dX X.K G st Hf1 H2 (.br::tl):=pA ((S0.grow g1).grow Zu) Xw GL TU
   refine⟨Hf1,S2,fun a2 jA H3 g3 n3 n3' ⟨AJ,LG,Vp⟩=>⟨aaM rfl,fun p2 zf=>?_⟩⟩
   have Zv:H2 a2=none:=n3
   have Xx:H2 za=some (.ins C dx (fA n0 (.ref p) fv)):=ak
   have Xy:H2 p=some (.lst [.ref a1]):=by show(upd (upd H1 p _) za _) p=_;rw[aj (Ne.symm LK),ak]
   have Xz:H2 a1=some (.dK nW):=by show(upd (upd H1 p _) za _) a1=_;rw[aj (Ne.symm O0),aj VU];exact Q4
   have h3z:=g3.big _ _ Xx
   have h3p:=g3.big _ _ Xy
   have h3a:=g3.big _ _ Xz
   have M0:za≠p2:=av h3z zf
   have RB:p≠p2:=av h3p zf
   have O1:a1≠p2:=av h3a zf
   have O2:a2≠p2:=av LG zf
   have RC:za≠a2:=fun w=>by rw[w,Zv] at Xx;cases Xx
   have Zw:p≠a2:=fun w=>by rw[w,Zv] at Xy;cases Xy
   have VV:a1≠a2:=fun w=>by rw[w,Zv] at Xz;cases Xz
   have Zx:(upd H3 p2 (.lst [.ref a2])) za=some (.ins C dx (fA n0 (.ref p) fv)):=by rw[aj M0];exact h3z
   refine⟨_,hz,za,C,dx,_,rfl,Zx,cl,YZ,?_,?_⟩
   . have:=EY n0 (.ref p) fv
     have h9:=aaM hlen
     have:=rf.length
     omega
   let H4:Hp:=upd (upd H3 p2 (.lst [.ref a2])) za (.ins C dx (fA n1 (.ref p2) (fA n0 (.ref p) fv)))
   have Zy:H4 p=some (.lst [.ref a1]):=by show(upd (upd H3 p2 _) za _) p=_;rw[aj (Ne.symm LK),aj RB];exact h3p
   have Zz:H4 p2=some (.lst [.ref a2]):=by show(upd (upd H3 p2 _) za _) p2=_;rw[aj (Ne.symm M0),ak]
   have RD:H4 a1=some (.dK nW):=by show(upd (upd H3 p2 _) za _) a1=_;rw[aj (Ne.symm O0),aj O1];exact h3a
   have ZA:H4 a2=some (.dK AJ):=by show(upd (upd H3 p2 _) za _) a2=_;rw[aj (Ne.symm RC),aj O2];exact LG
   have ZC:H4 za=some (.ins C dx (fA n1 (.ref p2) (fA n0 (.ref p) fv))):=ak
   have ZE:jA za=none:=g3.lG GL Xx
   have XA:jA p=none:=g3.lG (g1.sub.free hp) Xy
   have ZF:jA a1=none:=g3.lG RA Xz
   have VW:jA p2=none:=g3.sub.free zf
   have zD:aF jA H4:=fun b o e=>by
     have b1:b≠za:=fun w=>by rw[w,ZE] at e;cases e
     have b2:b≠p2:=fun w=>by rw[w,VW] at e;cases e
     show(upd (upd H3 p2 _) za _) b=_
     rw[aj b1,aj b2];exact g3.sub _ _ e
   have S4:dX X.K G st jA H4 (.br::tl):=pA ((S2.grow g3).grow (.fJ g3.sub zf)) Xw ZE TU
   have gp:G.H p=none:=S.gr.big.free (g1.big.free hp)
   have VX:G.H a1=none:=S.gr.big.free VT
   have gp2:G.H p2=none:=S2.gr.big.free (g3.big.free zf)
   have ga2:G.H a2=none:=S2.gr.big.free n3
   have VY:rX jA nW (f 0):=qw (Zs.mono g3.bG)
   have fz2:rX jA AJ (g 0):=qw Vp
   refine⟨p,p2,a1,a2,nW,AJ,Zy,Zz,RD,ZA,gv (fun b u e _=>zD _ _ e) VY,gv (fun b u e _=>zD _ _ e) fz2,RB,VV,fun o1 o2=>?_⟩
   let ls:km:=[(p,f),(p2,g)]
   let u1:HO:=.memo ls
   let u3:HO:=.kd (some (p,0)) o1 nW
   let u4:HO:=.kd (some (p2,0)) o2 AJ
   have m1:p≠a1:=Ne.symm VU
   have cat:∀ (B:Hp),conv B p p2 a1 a2 u1 (.part p) u3 u4 p=some u1/\conv B p p2 a1 a2 u1 (.part p) u3 u4 p2=some (.part p)/\conv B p p2 a1 a2 u1 (.part p) u3 u4 a1=some u3/\conv B p p2 a1 a2 u1 (.part p) u3 u4 a2=some u4:=fun B=>by
     unfold conv
     refine⟨?_,?_,?_,?_⟩
     . rw[aj Zw,aj m1,aj RB,ak]
     . rw[aj (Ne.symm O2),aj (Ne.symm O1),ak]
     . rw[aj VV,ak]
     . rw[ak]
   have vZ:∀ (B:Hp) b,b≠p->b≠p2->b≠a1->b≠a2->conv B p p2 a1 a2 u1 (.part p) u3 u4 b=B b:=fun B b c1 c2 c3 c4=>by unfold conv;rw[aj c4,aj c3,aj c2,aj c1]
   let uN:Hp:=conv jA p p2 a1 a2 u1 (.part p) u3 u4
   have Ht:aF jA uN:=fun b o e=>by
     show conv jA p p2 a1 a2 u1 (.part p) u3 u4 b=some o
     rw[vZ jA b (fun w=>by rw[w,XA] at e;cases e) (fun w=>by rw[w,VW] at e;cases e) (fun w=>by rw[w,ZF] at e;cases e) (fun w=>by rw[w,n3'] at e;cases e)]
     exact e
   have key:∀ (A B:Hp),aF A B->aF (conv A p p2 a1 a2 u1 (.part p) u3 u4) (conv B p p2 a1 a2 u1 (.part p) u3 u4):=fun A B sm=>c9 (c9 (c9 (c9 sm)))
   have RE:aF uN (conv H4 p p2 a1 a2 u1 (.part p) u3 u4):=key _ _ zD
   have JA:bg X.K uN (fA n1 (.ref p2) (fA n0 (.ref p) fv)) (tP fs [n0,n1] p ls 1):=by
     rw[<- Rz p ls]
     refine((rf.mono ((g1.bG.trans g3.bG).trans Ht)).put (f:=n0) (d:=.memo p ls 0 1) ?_).put (f:=n1) (d:=.memo p ls 1 1) ?_
     . refine .memo (f:=f) rfl (cat jA).1 (.inl rfl) fun i hi=>?_
       have:i=0:=by omega
       subst this
       exact⟨a1,o1,nW,(cat jA).2.2.1,gv (fun b u e _=>Ht _ _ e) VY⟩
     . refine .memo (f:=g) rfl (cat jA).1 (.inr (cat jA).2.1) fun i hi=>?_
       have:i=0:=by omega
       subst this
       exact⟨a2,o2,AJ,(cat jA).2.2.2,gv (fun b u e _=>Ht _ _ e) fz2⟩
   have ZG:conv H4 p p2 a1 a2 u1 (.part p) u3 u4 za=some (.ins C dx (fA n1 (.ref p2) (fA n0 (.ref p) fv))):=by rw[vZ H4 za LK M0 O0 RC];exact ZC
   have ZH:uN za=none:=by show conv jA p p2 a1 a2 u1 (.part p) u3 u4 za=none;rw[vZ jA za LK M0 O0 RC];exact ZE
   refine k st uN _ ((g1.bG.trans g3.bG).trans Ht) ⟨⟨fun b o e=>?_,S4.gr.bG.trans Ht,RE,fun b o e=>?_⟩,by have:=S4.len;simpa using this,fun i d h=>?_,fun i o h=>?_,fun i j o o' a w1 w2=>?_⟩
   . rw[vZ H4 b (fun w=>by rw[w,gp] at e;cases e) (fun w=>by rw[w,gp2] at e;cases e) (fun w=>by rw[w,VX] at e;cases e) (fun w=>by rw[w,ga2] at e;cases e)]
     exact S4.gr.big _ _ e
   . by_cases c1:b=p
     . rw[c1];exact .inr (.inl gp)
     . by_cases c2:b=p2
       . rw[c2];exact .inr (.inl gp2)
       . by_cases c3:b=a1
         . rw[c3];exact .inr (.inl VX)
         . by_cases c4:b=a2
           . rw[c4];exact .inr (.inl ga2)
           . have e:conv jA p p2 a1 a2 u1 (.part p) u3 u4 b=some o:=e
             rw[vZ jA b c1 c2 c3 c4] at e
             exact S4.gr.new b o e
   . cases i with
     | zero=>cases h
     | succ i=>
       obtain⟨w,w1,w2⟩:=S4.val (i+1) d h
       exact⟨w,w1,w2.mono Ht⟩
   . cases i with
     | zero=>
       cases h
       exact⟨za,hz,ZH,TU,rfl,dx,_,p,ls,rfl,ZG,JA⟩
     | succ i=>exact absurd h (aY no i o)
   . cases i with
     | zero=>cases j with
       | zero=>exact fun _ _=>rfl
       | succ j=>exact absurd w2 (aY no j o')
     | succ i=>exact absurd w1 (aY no i o)
 . cases fl with
   | next=>
     obtain⟨σ7,H7,I7,p,p2,a1,a2,nW,AJ,y1,y2,y3,y4,y5,y6,y7,y8,kk⟩:=q7
     obtain⟨o1,o2,I8⟩:=Inv.Ru I7 y1 y2 y3 y4 y5 y6 y7 y8
     exact⟨σ7,_,I8,kk o1 o2⟩
   | cont=>exact q7
   | brk=>exact q7
   | ret v=>exact q7
end
section
variable {X:Cx}{G:Gr}{E:XK}{dl:List Slot}{a b e:Expr}{pos:Pos}{k:Str}
variable {d1 d2 d3 d4:Dt}
theorem M3 (n1 n2 n3 n4:Nat){a b c f:Str}{pa pb pc pf tp:Pos}{cx:Nat}(hN:X.N.Nodup)(hc:X.calm=true)(he:EE X G dl e (.tup [d1,d2,d3,d4]))(Vf:X.N[n1]?=some a:=by rfl)(Vg:X.N[n2]?=some b:=by rfl)(ZI:X.N[n3]?=some c:=by rfl)(hi4:X.N[n4]?=some f:=by rfl)(Vh:Loc X.env.scope a:=by first | exact aaK rfl | exact aaD rfl)(QC:Loc X.env.scope b:=by first | exact aaK rfl | exact aaD rfl)(ZJ:Loc X.env.scope c:=by first | exact aaK rfl | exact aaD rfl)(hx4:Loc X.env.scope f:=by first | exact aaK rfl | exact aaD rfl)(Vi:X.fn a=true\/X.env.scope.names.lookup a=some .local:=by first | exact .inl rfl | exact .inr rfl)(Vj:X.fn b=true\/X.env.scope.names.lookup b=some .local:=by first | exact .inl rfl | exact .inr rfl)(ZK:X.fn c=true\/X.env.scope.names.lookup c=some .local:=by first | exact .inl rfl | exact .inr rfl)(hf4:X.fn f=true\/X.env.scope.names.lookup f=some .local:=by first | exact .inl rfl | exact .inr rfl)(hn:(assignEach [.Name a pa,.Name b pb,.Name c pc,.Name f pf] X.env).length=4:=by rfl)(mV:(assignEach [.Name a pa,.Name b pb,.Name c pc,.Name f pf] X.env).findIdx? (·.1)=none:=by rfl)(q1:(assignEach [.Name a pa,.Name b pb,.Name c pc,.Name f pf] X.env).map (·.2)=assign (.Name a pa) X.env::(assignEach [.Name b pb,.Name c pc,.Name f pf] X.env).map (·.2):=by rfl)(q2:(assignEach [.Name b pb,.Name c pc,.Name f pf] X.env).map (·.2)=assign (.Name b pb) X.env::(assignEach [.Name c pc,.Name f pf] X.env).map (·.2):=by rfl)(q3:(assignEach [.Name c pc,.Name f pf] X.env).map (·.2)=assign (.Name c pc) X.env::(assignEach [.Name f pf] X.env).map (·.2):=by rfl)(q4:(assignEach [.Name f pf] X.env).map (·.2)=assign (.Name f pf) X.env::(assignEach [] X.env).map (·.2):=by rfl)(hs:swapsWithSole [.Tuple [.Name a pa,.Name b pb,.Name c pc,.Name f pf] cx tp] e pos.line X.env=pure false:=by rfl)(hw:swappedStores [.Tuple [.Name a pa,.Name b pb,.Name c pc,.Name f pf] cx tp] e X.env=pure none:=by rfl)(h1:(assignEach [.Tuple [.Name a pa,.Name b pb,.Name c pc,.Name f pf] cx tp] X.env).map (·.2)=[assign (.Tuple [.Name a pa,.Name b pb,.Name c pc,.Name f pf] cx tp) X.env]:=by rfl):ES X G E dl (.Assign [.Tuple [.Name a pa,.Name b pb,.Name c pc,.Name f pf] cx tp] e pos) (.nx ((((dl.set n1 (.val d1)).set n2 (.val d2)).set n3 (.val d3)).set n4 (.val d4))):=
 sk (yV he (ql hc (cQ (bC (pos:=pa) hN Vf Vh Vi) (cQ (bC (pos:=pb) hN Vg QC Vj) (cQ (bC (pos:=pc) hN ZI ZJ ZK) (cQ (bC (pos:=pf) hN hi4 hx4 hf4) m5 q4) q3) q2) q1) hn mV) hs hw h1) fun D st H zq=>Bn zq fun Hf zq=>have S:=zq.1;have k:=zq.2;⟨Hf,S,fun v Hf1 H1 g1 r1=>by
   cases r1 with
   | @tup q vs _ hq rp=>
     cases rp with
     | cons r1 t1=>cases t1 with
       | cons r2 t2=>cases t2 with
         | cons r3 t3=>cases t3 with
           | cons r4 t4=>
             cases t4
             exact⟨q,_,rfl,de g1.sub hq,rfl,_,_,rfl,_,_,rfl,_,_,rfl,_,_,rfl,rfl,k _ Hf1 H1 g1.bG (((((S.grow g1).set r1).set r2).set r3).set r4)⟩⟩
end
theorem ig:PySem.Slot "reversed" "__next__" "reversed.__next__":=
 .of (owner:="reversed") (n:="__next__") (by rw[typeLookup_type,builtinLookup_eq_fast];kernel_rfl) (by decide +kernel) (by decide +kernel) (by decide +kernel)
   (by first | exact .inl (by decide +kernel) | exact .inr (by decide +kernel)) (by rw[isSubtype_type];kernel_rfl)
theorem oJ:entryFor table "reversed.__next__"=some Builtin.«reversed.__next__»:=entryFor_of_tree (by kernel_rfl)
theorem nX (a:Value):argsOk "reversed.__next__" ⟨[a],[]⟩:=by unfold argsOk;kernel_rfl
theorem qe:PySem.Slot "reversed" "__iter__" "reversed.__iter__":=
 .of (owner:="reversed") (n:="__iter__") (by rw[typeLookup_type,builtinLookup_eq_fast];kernel_rfl) (by decide +kernel) (by decide +kernel) (by decide +kernel)
   (by first | exact .inl (by decide +kernel) | exact .inr (by decide +kernel)) (by rw[isSubtype_type];kernel_rfl)
theorem ue (a:Value):argsOk "reversed.__iter__" ⟨[a],[]⟩:=by unfold argsOk;kernel_rfl
theorem v3:entryFor table "reversed.__iter__"=some Builtin.«dict_keyiterator.__iter__»:=
 entryFor_alias (id':="dict_keyiterator.__iter__") (by kernel_rfl) (by first | rfl | decide +kernel | (unfold String.splitOn;simp +decide [String.splitOnAux])) (by decide +kernel) (by kernel_rfl)
theorem xF:PySem.Slot "reversed" "__init__" "object.__init__":=
 .of (owner:="object") (n:="__init__") (by rw[typeLookup_type,builtinLookup_eq_fast];kernel_rfl) (by decide +kernel) (by decide +kernel) (by decide +kernel)
   (by first | exact .inl (by decide +kernel) | exact .inr (by decide +kernel)) (by rw[isSubtype_type];kernel_rfl)
theorem Dp:TypeCalled "reversed" "reversed.__new__" "object.__init__":=
 ⟨by decide +kernel,by decide +kernel,⟨_,_,F.mro_reversed⟩,F.made_reversed,by decide +kernel,F.sub_reversed_self,xF⟩
theorem pY:typeLookup (.type "str") "__reversed__"=pure none:=by rw[typeLookup_type,builtinLookup_eq_fast];kernel_rfl
theorem lI:typeLookup (.type "str") "__getitem__"=pure (some (.builtin "str.__getitem__")):=by rw[typeLookup_type,builtinLookup_eq_fast];kernel_rfl
theorem xG:isSubtype (.type "str") (.type "dict")=pure false:=by rw[isSubtype_type];kernel_rfl
section
variable {prog:Program}{w:World}{A:Around}{E:Value->Shared->Prop}{s:Shared}
noncomputable def O3 (x:Str)(t:Tok)(i:Int):Obj:={ cls:=.type "reversed",data:=.fields #[.str x t,rawInt i]}
def qy (h:Heap)(a:Addr)(x:Str)(t:Tok)(i:Int):Prop:=∃ o,h.get? a=some o/\o.cls=.type "reversed"/\o.data=.fields #[.str x t,rawInt i]
theorem qy.typeIs {a:Addr}{x:Str}{t:Tok}{i:Int}(q:qy s.heap a x t i):s.TypeIs (.ref a) "reversed":=let ⟨o,ho,hc,_⟩:=q;⟨o,ho,hc⟩
theorem JB (x:Str)(t:Tok)(vz:¬ (x.length:Int) >= 2 ^ 63):MeetsIn prog w (Builtin.«reversed.__new__» ⟨[.type "reversed",.str x t],[]⟩) (fun A R s=>R (.ok (.ret (.ref s.heap.objs.size))) { s with heap:=s.heap.push (O3 x t ((x.length:Int) - 1)),toks:=s.toks+1+1}):=
 .of_wp fun A R s h=>by
   unfold Builtin.«reversed.__new__»
   refine wpAny_bind (wpAny_of_eq (newClass_reversed _) ?_)
   try dsimp only
   refine wpAny_bind (wpAny_of_eq (a:=()) (by first | rfl | kernel_rfl) ?_)
   refine wpAny_bind (wpAny_of_eq (a:=()) (by first | rfl | kernel_rfl) ?_)
   try dsimp only
   refine wpAny_bind (wpAny_specialOf (typeIs_str s x t) pY ?_)
   try dsimp only
   refine wpAny_bind (wpAny_bind (wpAny_isInstance (typeIs_str s x t) xG ?_))
   rw[if_neg aas]
   refine wpAny_bind (wpAny_specialOf (typeIs_str s x t) lI ?_)
   refine wpAny_of_eq (a:=true) (by kernel_rfl) ?_
   rw[if_neg (show ¬ ((!true)=true) from aas)]
   try dsimp only
   refine wpAny_bind (len_str vz ?_)
   refine wpAny_bind (wpAny_of_eq (a:=some (x.length:Int)) rfl ?_)
   try dsimp only
   refine wpAny_bind ?_
   show wpAny _ _ (newObj (.type "reversed") (.fields #[.str x t,rawInt ((x.length:Int) - 1)])) _ _ _
   exact wpAny_newObj_type (wpAny_pure ⟨_,rfl,h⟩)
theorem GN {x:Str}{t:Tok}{Q:Value->Shared->Prop}(vz:¬ (x.length:Int) >= 2 ^ 63)(h:Q (.ref s.heap.objs.size) { s with heap:=s.heap.push (O3 x t ((x.length:Int) - 1)),toks:=s.toks+1+1}):wpAny (model prog w) A (call (.type "reversed") [.str x t]) Q E s:=
 callType_newIn Dp (by decide) (F.typeCall_reversed_1 _) (F.newCall_reversed_1 _) (fun obj=>F.args_object_init_2 obj _) F.entry_reversed_new (JB x t vz) ⟨⟨_,aat _ rfl,rfl⟩,h⟩
theorem sM {it:Addr}{x:Str}{t:Tok}{i c:Nat}{Q:Option Value->Shared->Prop}(hit:qy s.heap it x t (i:Int))(hx:x.cps[i]?=some c)(vz:¬ (x.length:Int) >= 2 ^ 63)(hQ:∀ h',qy h' it x t ((i:Int) - 1)->abt it s.heap h'->Q (some (.str ⟨#[c]⟩ (s.toks+1))) { s with heap:=h',toks:=s.toks+1+1}):wpAny (model prog w) A (pyNext (.ref it)) Q E s:=by
 obtain⟨o,ho,hc,hd⟩:=id hit
 have Xf:i < x.length:=by
   have:=(Array.getElem?_eq_some_iff.mp hx).1
   exact this
 unfold pyNext
 refine wpAny_bind (wpAny_attempt (wpAny_callSpecial?_slot (name:=Str.ofString "__next__") hit.typeIs ig
   (wpAny_call_entry ig hit.typeIs oJ ?_ (nX _))))
 unfold Builtin.«reversed.__next__»
 refine wpAny_bind (wpAny_of_eq (a:=(Value.ref it,[])) rfl ?_)
 try dsimp only
 refine wpAny_bind (wpAny_field ho hd (x:=.str x t) rfl ?_)
 refine wpAny_bind (wpAny_field ho hd (x:=rawInt (i:Int)) rfl ?_)
 show wpAny _ _ (if (i:Int) < 0 then _ else _) _ _ s
 rw[if_neg (by omega)]
 refine wpAny_bind (wpAny_specialOf (typeIs_str s x t) lI ?_)
 rw[if_neg (show ¬ ((some (Value.builtin "str.__getitem__")).isNone=true) from aas)]
 try dsimp only
 refine wpAny_bind (wpAny_mkInt ?_)
 refine wpAny_bind (wpAny_attempt (getItem_str (c:=c) ?_ ?_ ?_))
 . have e1:decide ((i:Int) < -(2 ^ 63:Int))=false:=decide_eq_false (by omega)
   have e2:decide ((i:Int) >= 2 ^ 63)=false:=decide_eq_false (by omega)
   rw[e1,e2];rfl
 . have e:seqIndex? (i:Int) x.length=some i:=by
     unfold seqIndex?
     simp
     omega
   rw[e];exact hx
 try dsimp only
 refine wpAny_bind (wpAny_field ho hd (x:=rawInt (i:Int)) rfl ?_)
 try dsimp only
 refine wpAny_bind (wpAny_setField ho hd (by simp) ?_)
 refine wpAny_pure ⟨_,rfl,wpAny_pure (hQ _ ?_ (abt.update ..))⟩
 exact⟨_,abL _ ho (Obj.isFreed_of_fields (Obj.data_mapFields hd _)),(Obj.cls_mapFields ..).trans hc,by
   rw[Obj.data_mapFields hd];simp⟩
theorem uf {it:Addr}{x:Str}{t:Tok}{Q:Option Value->Shared->Prop}(hh:A.handled=none)(hit:qy s.heap it x t (-1))(hQ:∀ h',Heap.ExtBut it s.heap h'->Q none { s with heap:=h'}):wpAny (model prog w) A (pyNext (.ref it)) Q E s:=by
 obtain⟨o,ho,hc,hd⟩:=id hit
 unfold pyNext
 refine wpAny_bind (wpAny_attempt (wpAny_callSpecial?_slot (name:=Str.ofString "__next__") hit.typeIs ig
   (wpAny_call_entry ig hit.typeIs oJ ?_ (nX _))))
 unfold Builtin.«reversed.__next__»
 refine wpAny_bind (wpAny_of_eq (a:=(Value.ref it,[])) rfl ?_)
 try dsimp only
 refine wpAny_bind (wpAny_field ho hd (x:=.str x t) rfl ?_)
 refine wpAny_bind (wpAny_field ho hd (x:=rawInt (-1)) rfl ?_)
 show wpAny _ _ (if (-1:Int) < 0 then _ else _) _ _ s
 rw[if_pos (by decide)]
 refine wpAny_bind (wpAny_rule ?_)
 refine wpAny_bind (wpAny_bind (wpAny_setField ho hd (by simp) ?_))
 have Xv:=abL (Obj.mapFields (·.setIfInBounds 1 (rawInt (-1)))) ho (Obj.isFreed_of_fields (Obj.data_mapFields hd _))
 refine wpAny_setField Xv (Obj.data_mapFields hd _) (by simp) ?_
 refine wpAny_bind ?_
 show wpAny _ _ (newExc (.type "StopIteration") [] >>= _) _ _ _
 refine wpAny_bind ?_
 simp only[newExc,newTuple]
 refine wpAny_bind (wpAny_newObj_type ?_ (by size_fits))
 refine wpAny_bind (m:=firstArgMember _ _) (wpAny_of_eq (a:=Value.none) (by first | rfl | (simp only[firstArgMember];rfl)) ?_)
 refine wpAny_newObj_type ?_ (by size_fits)
 simp only[raiseNew]
 refine wpAny_bind (wpAny_handled ?_)
 first | rw[show A.in1.handled=none from hh] | rw[hh]
 refine wpAny_bind (wpAny_pure (wpAny_throw ?_))
 refine wpAny_bind (wpAny_isInstance (T:="StopIteration") (b:=true) ⟨_,aat _ rfl,rfl⟩ isSubtype_stop ?_)
 exact wpAny_pure (hQ _ (Heap.ExtBut.push (Heap.ExtBut.push (fun b o ne e=>((abt.update ..).2 b ne).trans (((abt.update ..).2 b ne).trans e)) _) _))
theorem tU {it:Addr}{x:Str}{t:Tok}{i:Int}{Q:Value->Shared->Prop}(hit:qy s.heap it x t i)(h:Q (.ref it) s):wpAny (model prog w) A (pyIter (.ref it)) Q E s:=by
 refine wpAny_pyIter_slot hit.typeIs qe (wpAny_call_entry qe hit.typeIs v3 ?_ (ue _))
 show wpAny _ _ (ret (.ref it)) _ _ s
 exact wpAny_pure ⟨_,rfl,"reversed",_,hit.typeIs,ig.lookup,h⟩
end
noncomputable def VZ (x:Str):It:=
 ⟨fun i H=>i < x.length,fun i H v H'=>H'=H/\∃ c,x.cps[x.length - 1 - i]?=some c/\v=.str ⟨#[c]⟩,fun i H=>i=x.length⟩
theorem GO {P:Program}{w:World}{K:W.Frag}{tg:Expr}(x:Str)(t:Tok)(it:Addr)(vz:¬ (x.length:Int) >= 2 ^ 63):Turn P w K tg (VZ x) [it] it (fun i h=>qy h it x t ((x.length:Int) - 1 - i)) where
 mem:=by simp
 obj:=fun i h st b hb=>by
   have e:b=it:=by simpa using hb
   subst e
   obtain⟨o,e,c,d⟩:=st
   exact⟨o,e,fun v z=>by rw[d] at z;cases z⟩
 keep:=fun i h h' st k=>let ⟨o,e,c,d⟩:=st;⟨o,k it (by simp) o e,c,d⟩
 item:=by
   intro X hP hw hK hc i pins s σ H E I hf st hg
   subst hP hw hK
   have hg:i < x.length:=hg
   obtain⟨f0,f1,f2,f3,f4,f5⟩:=hf it (by simp)
   have e1:(x.length:Int) - 1 - i=((x.length - 1 - i:Nat):Int):=by omega
   rw[e1] at st
   have dn:x.length - 1 - i < x.cps.size:=by show _ < x.length;omega
   refine sM (c:=x.cps[x.length - 1 - i]) st (Array.getElem?_eq_getElem dn) vz fun h' jD sb=>?_
   have I1:L2.Inv X pins σ H { s with heap:=h',toks:=s.toks+1+1}:=I.turned (t':=s.toks+1+1) (fun b o hb e=>(sb.2 b hb).trans e) f0 f1 f3 f4 f5
   have e2:((x.length - 1 - i:Nat):Int) - 1=(x.length:Int) - 1 - ((i+1:Nat):Int):=by omega
   rw[e2] at jD
   obtain⟨o,e,c,d⟩:=id jD
   exact⟨_,rfl,AY (s:={ s with heap:=h',toks:=s.toks+1+1}) e c d (by decide) ⟨.str ⟨#[x.cps[x.length - 1 - i]]⟩,H,I1,⟨_,rfl⟩,⟨rfl,_,Array.getElem?_eq_getElem dn,rfl⟩,jD,fun b hb=>(hf b hb).1⟩⟩
 done:=by
   intro X hP hw hK hc i pins s σ H E I hf st hg
   subst hP hw hK
   have hg:i=x.length:=hg
   subst hg
   obtain⟨f0,f1,f2,f3,f4,f5⟩:=hf it (by simp)
   have e1:(x.length:Int) - 1 - (x.length:Nat)=-1:=by omega
   rw[e1] at st
   exact uf (I.ok.hd hc) st fun h' eb=>⟨rfl,I.turned (t':=s.toks) (fun b o hb e=>eb b o hb e) f0 f1 f3 f4 f5⟩
 self:=fun _ _ _ _ _ st h=>tU st h
theorem JC:bootBuiltins "reversed"=some (.type "reversed"):=by decide +kernel
section
variable {X:Cx}{G:Gr}{dl:List Slot}{a:Expr}{x:Str}{p pos:Pos}
def O4 (ta:TA):TI:=fun σ H R=>ta σ H fun vs H1=>∃ x,vs=[.str x]/\(¬ (x.length:Int) >= 2 ^ 63)/\R (VZ x) H1
theorem M4 {tg:Expr}{ta:TA}(hm:X.mg "reversed"=none)(ha:PA X [a] ta)(hg:Gl X "reversed":=by rfl)(hs:starEach [a] X.env=[(false,eval a X.env)]:=by rfl):PI X tg (.Call (.Name "reversed" p) [a] [] pos) (O4 ta):=by
 intro pins s σ H R I h
 refine Call_ (oj I hg hm JC (PyProof.Rows.callWith_type1 (bW (ha pos pins s σ H _ I h) fun us s1 ⟨vs,H1,I1,r1,q1⟩=>?_) hs rfl))
 obtain⟨x,e,vz,q⟩:=q1
 subst e
 cases r1 with
 | cons r rr=>
   cases rr
   obtain⟨t,rfl⟩:=(show ∃ t,_=Value.str x t from r)
   refine GN vz (tU (x:=x) (t:=t) (i:=(x.length:Int) - 1) ⟨_,aat _ rfl,rfl,rfl⟩ ?_)
   refine⟨s1.heap.objs.size,[s1.heap.objs.size],_,_,H1,rfl,I1.kept (t':=s1.toks+1+1) fun b o e=>aag _ e,GO x t _ vz,?_,fun b hb=>?_,q⟩
   . have e:((x.length:Int) - 1)=(x.length:Int) - 1 - ((0:Nat):Int):=by omega
     rw[<- e]
     exact⟨_,aat _ rfl,rfl,rfl⟩
   . have e:b=s1.heap.objs.size:=by simpa using hb
     subst e
     exact I1.t6 (aaa _) (I1.bu.fresh (aaa _))
theorem GP (hl:x.length<=1000000):qu X G dl (signs x).reverse (O4 (QE X.K G dl [.str x])):=fun st H R zq=>Bn zq fun Hf zq=>have S:=zq.1;have k:=zq.2;⟨Hf,S,fun vs Hf1 H1 g1 r1=>by
 cases r1 with
 | cons r t=>
   cases t
   cases r
   have hsl:=pz x
   refine⟨x,rfl,by omega,k _ Hf1 H1 g1 fun bX H2 s1 s2 i=>⟨fun z hz=>?_,fun hi=>?_⟩⟩
   . have hi:i < (signs x).length:=by
       have:=(aaj.mp hz).1
       simpa using this
     rw[List.getElem?_reverse hi,signs_get,hsl] at hz
     refine⟨by show i < x.length;omega,fun v H3 hy=>?_⟩
     obtain⟨e1,c,e2,e3⟩:=hy
     subst e1 e3
     rw[e2] at hz
     cases hz
     exact⟨bX,.refl s2,.str _⟩
   . show i=x.length
     rw[hi,abz,hsl]⟩
theorem yA {K:W.Frag}{H:Hp}:∀ {ds:List Dt} {d:Dt} {vs:List V},bH K H vs (ds ++ [d])->∃ ws v,vs=ws ++ [v]/\bH K H ws ds/\Rep K H v d
 | [],d,_,.cons r .nil=>⟨[],_,rfl,.nil,r⟩
 | e::ds,d,_,.cons r t=>by
   obtain⟨ws,v,e1,r1,r2⟩:=yA t
   exact⟨_::ws,v,by rw[e1];rfl,.cons r r1,r2⟩
variable {E:XK}{d:Dt}{ds:List Dt}{y z:Str}{px pn apos bM:Pos}
theorem RF (m n:Nat)(hN:X.N.Nodup)(hd:dl[n]?=some (.own (.lst (ds ++ [d]))))(hm:X.N[m]?=some y:=by rfl)(hy:Loc X.env.scope y:=by first | exact aaK rfl | exact aaD rfl)(YI:X.N[n]?=some z:=by rfl)(hv:vo X.env.scope z:=by first | exact aaK rfl | exact aaD (aaK rfl) | exact aaD (aaD rfl))(mW:(z == ("__debug__":Str))=false:=by decide)(mz:(z == ("__classdict__":Str))=false:=by decide)(i5:attributeBase (.Name z pn) "pop" X.env (eval (.Name z pn) X.env)=eval (.Name z pn) X.env:=by rfl)(i6:(apos.endLine == bM.line)=true:=by rfl)(hs:swapsWith (.Call (.Attribute (.Name z pn) "pop" apos) [] [] bM) (some (.Name y px)) pos.line X.env=pure false:=by rfl)(hf:X.fn y=true\/X.env.scope.names.lookup y=some .local:=by first | exact .inl rfl | exact .inr rfl | assumption):ES X G E dl (.Assign [.Name y px] (.Call (.Attribute (.Name z pn) "pop" apos) [] [] bM) pos) (.nx ((dl.set n (.own (.lst ds))).set m (.val d))):=
 sk (CH hN hm hy (HX PySem.F.plainAttrs_list PySem.F.slot_list_pop PySem.F.type_list_pop Qu (vM (G:=G) (p:=pn) n hd YI hv mW mz) i5 i6) hs hf) fun D st H zq=>Bn zq fun Hf zq=>have S:=zq.1;have k:=zq.2;by
   obtain⟨q,z1,z2,z3,vs,hq,rp⟩:=S.own n _ hd
   obtain⟨ws,v,ev,r1,r2⟩:=yA rp
   subst ev
   refine⟨Hf,q,S,z1,z2,⟨_,hq,rp⟩,.inl ⟨rfl,_,.of hq⟩,q,_,v,rfl,rfl,hq,by simp,k _ Hf _ (aF.refl _) ((S.Gj hd z1 (w':=.lst ds) ⟨_,ak,?_⟩).set r2)⟩
   rw[List.dropLast_concat];exact r1
end
section
variable {ns:List Int}
theorem o8:∀ {ns:List Int} {aG:List Value},Vals (ns.map V.int) aG->IntsAre aG ns
 | [],_,r=>by cases r;exact .nil
 | n::ns,_,r=>by
   cases r with
   | cons h t=>obtain⟨tk,rfl⟩:=h;exact .cons _ tk (o8 t)
end
theorem yB {K:W.Frag}{H:Hp}:∀ (ns:List Int),bH K H (ns.map V.int) (ns.map Dt.int)
 | []=>.nil
 | n::r=>.cons (.int n) (yB r)
theorem rB {K:W.Frag}{H:Hp}:∀ {ns:List Int} {vs:List V},bH K H vs (ns.map Dt.int)->vs=ns.map V.int
 | [],_,.nil=>rfl
 | n::r,_,.cons h t=>by cases h;rw[rB t];rfl
noncomputable def Hu (fs:List (Str×FD)):List (Str×Dt):=fs.map fun kd=>(kd.1,Xk kd.2)
theorem EZ {K:W.Frag}{H:Hp}:∀ {fv:List (Str×V)} {fs:List (Str×FD)},Hx H fv fs->bg K H fv (Hu fs)
 | _,_,.nil=>.nil
 | _,_,.cons h t=>.cons (Jr h) (EZ t)
theorem JD {K:W.Frag}{H:Hp}:∀ {fv:List (Str×V)} {fs:List (Str×FD)},bg K H fv (Hu fs)->Hx H fv fs
 | _,[],.nil=>.nil
 | _,(k,d)::fd,.cons h t=>.cons (OV h) (JD t)
section
variable {X:Cx}{G:Gr}{E:XK}{dl:List Slot}{e:Expr}{sts:List Stmt}{ou:Out}{C:Addr}{fs:List (Str×FD)}{ns:List Int}{K':W.Frag}
theorem O5 (h:EE X G dl e (.i4 (.obj C fs))):EE X G dl e (.obj C (Hu fs)):=gL h fun st H Q zq=>Bn zq fun Hf zq=>have S:=zq.1;have k:=zq.2;⟨Hf,S,fun v Hf1 H1 g1 r1=>by
 cases r1 with
 | i4 h=>cases h with
   | @obj a _ dx o fv _ e f=>exact k _ Hf1 H1 g1 (.obj (.inr (.inr (.inr ⟨o,e⟩))) (EZ f))⟩
theorem qz (h:EE X G dl e (.i4 (.lst ns))):EE X G dl e (.o9 ns):=gL h fun st H Q zq=>Bn zq fun Hf zq=>have S:=zq.1;have k:=zq.2;⟨Hf,S,fun v Hf1 H1 g1 r1=>by
 cases r1 with
 | i4 h=>cases h with
   | @lst a o _ e=>exact k _ Hf1 H1 g1 (.o9 (.inl (.inr (.inr (.inr ⟨o,e⟩)))))⟩
theorem RG (h:EE X G dl e (.i4 (.tup K' ns)))(hK:K'=X.K):EE X G dl e (.tup (ns.map .int)):=gL h fun st H Q zq=>Bn zq fun Hf zq=>have S:=zq.1;have k:=zq.2;⟨Hf,S,fun v Hf1 H1 g1 r1=>by
 subst hK
 cases r1 with
 | i4 h=>cases h with
   | tup e=>exact k _ Hf1 H1 g1 (.tup e (yB _))⟩
theorem RH (h:EE X G dl e (.tup (ns.map .int)))(hK:K'=X.K):EE X G dl e (.i4 (.tup K' ns)):=gL h fun st H Q zq=>Bn zq fun Hf zq=>have S:=zq.1;have k:=zq.2;⟨Hf,S,fun v Hf1 H1 g1 r1=>by
 subst hK
 cases r1 with
 | tup s r=>
   rw[rB r] at s
   exact k _ Hf1 H1 g1 (.i4 (.tup s))⟩
theorem JE (h:EO X G dl e (.obj C (Hu fs))):EE X G dl e (.i4 (.obj C fs)):=by
 intro pins s st H Q I ⟨Hf,S,kk⟩
 refine bW (h pins s st H (fun v H'=>∃ p aJ,v=.ref p/\bx Hf H aJ H'/\H p=none/\aJ p=none/\hZ X.K aJ H' p (.obj C (Hu fs))) I ⟨Hf,S,fun p aJ H' g n n' r=>⟨p,aJ,rfl,g,n,n',r⟩⟩) fun u s1 ⟨v,H',I1,rv,q,aJ,ev,g,n,n',dx,fv,hq,rp⟩=>?_
 subst ev
 obtain⟨hd,hz,ne,ho,mA,hr⟩:=(show aP X.prog X.w H' s1.heap q (.ins C dx fv) from I1.bu q _ hq)
 let ob:=W.instObj C dx
 have I2:L2.Inv X pins st (upd H' q (.kx ob (.ins C dx fv))) s1:=m7 (h':=s1.heap) (t':=s1.toks) I1 (by rw[hq];trivial) ⟨rfl,fun _ _=>rfl⟩ ⟨ob,ho⟩ ⟨ho,⟨by rw[aj ne];exact hd,hz,ne,ho,mA,hr⟩⟩
 have sm:aF aJ (upd aJ q (.kx ob (.ins C dx fv))):=bQ n'
 refine⟨.ref q,_,I2,rv,kk _ (upd aJ q (.kx ob (.ins C dx fv))) _ ⟨fun b o hb=>?_,g.bG.trans sm,c9 g.sub,fun b o hb=>?_⟩ (.i4 (.obj ak ((JD rp).st fun b u e _=>sm b u e)))⟩
 . rw[aj (av hb n)];exact g.big _ _ hb
 . by_cases e:b=q
   . subst e;exact .inr (.inl n)
   . rw[aj e] at hb;exact g.new b o hb
theorem RI (h:EO X G dl e (.lst (ns.map .int))):EE X G dl e (.i4 (.lst ns)):=by
 intro pins s st H Q I ⟨Hf,S,kk⟩
 refine bW (h pins s st H (fun v H'=>∃ p aJ,v=.ref p/\bx Hf H aJ H'/\H p=none/\aJ p=none/\hZ X.K aJ H' p (.lst (ns.map .int))) I ⟨Hf,S,fun p aJ H' g n n' r=>⟨p,aJ,rfl,g,n,n',r⟩⟩) fun u s1 ⟨v,H',I1,rv,q,aJ,ev,g,n,n',vs,hq,rp⟩=>?_
 subst ev
 have ev:=rB rp
 subst ev
 obtain⟨hz,aG,c,r,ho⟩:=(show aP X.prog X.w H' s1.heap q (.lst (ns.map V.int)) from I1.bu q _ hq)
 let ob:Obj:={ cls:=.type "list",data:=.seq aG.toArray c}
 have I2:L2.Inv X pins st (upd H' q (.kx ob (.lst (ns.map V.int)))) s1:=m7 (h':=s1.heap) (t':=s1.toks) I1 (by rw[hq];trivial) ⟨rfl,fun _ _=>rfl⟩ ⟨ob,ho⟩ ⟨ho,hz,aG,c,r,ho⟩
 have sm:aF aJ (upd aJ q (.kx ob (.lst (ns.map V.int)))):=bQ n'
 refine⟨.ref q,_,I2,rv,kk _ (upd aJ q (.kx ob (.lst (ns.map V.int)))) _ ⟨fun b o hb=>?_,g.bG.trans sm,c9 g.sub,fun b o hb=>?_⟩ (.i4 (.lst ak))⟩
 . rw[aj (av hb n)];exact g.big _ _ hb
 . by_cases e:b=q
   . subst e;exact .inr (.inl n)
   . rw[aj e] at hb;exact g.new b o hb
theorem uR (n:Nat)(h:m8 X G E (dl.set n (.val (.i4 (.lst ns)))) sts ou)(hd:dl[n]?=some (.own (.lst (ns.map .int))):=by rfl):m8 X G E dl sts ou:=by
 intro pins s st H D I ⟨Hf,S,k⟩
 have ln:=S.len
 obtain⟨q,h1,h2,h3,vs,h4,h5⟩:=S.own n _ hd
 have ev:=rB h5
 subst ev
 have hl:n < dl.length:=(aaj.mp hd).1
 obtain⟨hz,aG,c,r,ho⟩:=(show aP X.prog X.w H s.heap q (.lst (ns.map V.int)) from I.bu q _ h4)
 let ob:Obj:={ cls:=.type "list",data:=.seq aG.toArray c}
 have I':L2.Inv X pins st (upd H q (.kx ob (.lst (ns.map V.int)))) s:=m7 (h':=s.heap) (t':=s.toks) I (by rw[h4];trivial) ⟨rfl,fun _ _=>rfl⟩ ⟨ob,ho⟩ ⟨ho,hz,aG,c,r,ho⟩
 have sm:aF Hf (upd Hf q (.kx ob (.lst (ns.map V.int)))):=bQ h2
 refine h pins s st _ D I' ⟨upd Hf q (.kx ob (.lst (ns.map V.int))),⟨⟨fun b o hb=>?_,S.gr.bG.trans sm,c9 S.sub,fun c o hc=>?_⟩,by simp[S.len],fun j y hj=>?_,fun j o' hj=>?_,fun j m o1 o2 c q1 q2 q3 q4=>?_⟩,k.mono sm⟩
 . rw[aj (av hb h3)];exact S.gr.big _ _ hb
 . by_cases hb:c=q
   . subst hb;exact .inr (.inl h3)
   . rw[aj hb] at hc;exact S.gr.new c o hc
 . by_cases e:n=j
   . subst e
     rw[aak hl] at hj;cases hj
     exact⟨_,h1,.i4 (.lst ak)⟩
   . rw[aal e] at hj
     obtain⟨v,z1,z2⟩:=S.val j y hj
     exact⟨v,z1,z2.mono sm⟩
 . by_cases e:n=j
   . subst e;rw[aak hl] at hj;cases hj
   . rw[aal e] at hj
     obtain⟨c,z1,z2,z3,z4⟩:=S.own j o' hj
     have ne:c≠q:=fun z=>by subst z;exact e (S.Gi n j _ _ _ hd hj h1 z1)
     exact⟨c,z1,by rw[aj ne];exact z2,z3,z4.grow (aj ne) sm⟩
 . have nj:n≠j:=fun e=>by subst e;rw[aak hl] at q1;cases q1
   have nm:n≠m:=fun e=>by subst e;rw[aak hl] at q2;cases q2
   rw[aal nj] at q1
   rw[aal nm] at q2
   exact S.Gi j m o1 o2 c q1 q2 q3 q4
theorem M5 {zs:List Int}:IJ X G dl zs.length (fun k=>(zs.map Dt.int).getD k .cS) (HG X.K (tD X.K G dl (.o9 zs))):=fun st H R zq=>Bn zq fun Hf zq=>have S:=zq.1;have k:=zq.2;⟨Hf,S,fun v Hf1 H1 g1 r1=>by
 cases r1 with
 | @o9 q _ hq=>
   refine⟨q,rfl,⟨_,g1.sub.seq hq⟩,k _ Hf1 H1 g1 fun bX H2 g2 i=>⟨fun hi=>?_,fun hi=>⟨_,g2.big.seq (g1.sub.seq hq),by rw[k5];omega⟩⟩⟩
   have hs:mY X.K H2 q (zs.map V.int):=g2.big.seq (g1.sub.seq hq)
   have z1:(zs.map V.int)[i]?=some (.int zs[i]):=by rw[aab,k3 hi];rfl
   refine⟨⟨_,_,hs,z1⟩,fun v H3 hy=>?_⟩
   obtain⟨e1,e2⟩:=hy
   have e2:=e2 _ hs
   rw[z1] at e2;cases e2
   refine⟨e1,?_⟩
   have e3:(zs.map Dt.int).getD i .cS=.int zs[i]:=by rw[YO,aab,k3 hi];rfl
   show Rep _ _ _ ((zs.map Dt.int).getD i .cS)
   rw[e3];exact .int _⟩
theorem BL {x:Str}{p pos:Pos}(M:QL X.K C)(hm:X.mg x=some (.ref C))(hg:Gl X x:=by rfl)(mW:(x == ("__debug__":Str))=false:=by decide):EE X G dl (.Call (.Name x p) [] [] pos) (.i4 (.obj C [])):=by
 refine JE (fs:=[]) ?_
 intro pins s st H Q I ⟨Hf,S,k⟩
 refine wpAny_Call_Name_kw (uE I hg hm ?_ mW)
 refine W.callWith_K0 I.mX M.kp (Gn M I fun x dx hx Vb ne=>?_)
 have D2:(upd H dx (.own x)) x=none:=by rw[aj (Ne.symm ne)];exact hx
 have g1:bx Hf H Hf (upd H dx (.own x)):=.fJ S.sub Vb
 have g2:bx Hf (upd H dx (.own x)) Hf (upd (upd H dx (.own x)) x (.ins C dx [])):=.fJ g1.sub D2
 exact k _ _ _ (g1.trans g2) hx (S.sub.free hx) ⟨dx,[],ak,.nil⟩
end
noncomputable def jb (H:Hp)(p q1:Addr)(u1 u3:HO):Hp:=upd (upd H p u1) q1 u3
section
variable {X:Cx}{pins:List (Addr×Obj)}{σ:L2.St}{H:Hp}{s:Shared}{p q1:Addr}{nW:List (Key×V)}{f:Nat->List (Key×FD)}
theorem Inv.M6 (I:L2.Inv X pins σ H s)(hp:H p=some (.lst [.ref q1]))(LJ:H q1=some (.dK nW))(f1:rX H nW (f 0)):∃ o1,L2.Inv X pins σ (jb H p q1 (.memo [(p,f)]) (.kd (some (p,0)) o1 nW)) s:=by
 obtain⟨z1,i1,c1,r1,e1⟩:=(show aP X.prog X.w H s.heap p (.lst [.ref q1]) from I.bu p _ hp)
 obtain⟨MX,lo1,Zi,Zj,o1,Zk,Zl,VQ,Zm⟩:=(show aP X.prog X.w H s.heap q1 (.dK nW) from I.bu q1 _ LJ)
 obtain⟨u1,rfl,w1⟩:=vals1 r1
 cases (show u1=Value.ref q1 from w1)
 refine⟨o1,?_⟩
 have m1:p≠q1:=fun z=>by rw[z,LJ] at hp;cases hp
 generalize MY:jb H p q1 (.memo [(p,f)]) (.kd (some (p,0)) o1 nW)=H'
 have VR:H' p=some (.memo [(p,f)]):=by rw[<- MY];unfold jb;rw[aj m1,ak]
 have Jz:H' q1=some (.kd (some (p,0)) o1 nW):=by rw[<- MY];unfold jb;rw[ak]
 have Dj:∀ b,b≠p->b≠q1->H' b=H b:=fun b a1 a3=>by rw[<- MY];unfold jb;rw[aj a3,aj a1]
 have ub:∀ b o,H b=some o->ldk o=false->H' b=some o:=fun b o e n=>by
   rw[Dj b (fun z=>by rw[z,hp] at e;cases e;cases n) (fun z=>by rw[z,LJ] at e;cases e;cases n)]
   exact e
 have kp:Kp H H':=⟨fun b o e kq=>ub b _ e (by cases o <;> first | rfl | exact(show False from kq).elim),fun b e=>by
   cases q:H b with
   | none=>rw[q] at e;exact e.elim
   | some u=>
     rw[q] at e
     rw[ub b u q (by cases u <;> first | rfl | exact e.elim)]
     exact e,fun b x e=>ub b _ e rfl⟩
 refine I.un (h':=s.heap) (t':=s.toks) ⟨fun b o e _ _ _=>e,fun b o e _ _ _=>⟨o.slots,e⟩,fun b o e n _=>?_,fun b o e _=>⟨o,e⟩,fun b xs e=>ub b _ e rfl,fun b o u e=>ub b _ e rfl,fun b ps e=>⟨#[],by rw[ub b _ e rfl];simp⟩⟩ fun b u e=>?_
 . rw[Dj b (fun z=>by rw[z,hp] at n;cases n) (fun z=>by rw[z,LJ] at n;cases n)]
   exact n
 . by_cases b1:b=p
   . subst b1
     rw[VR] at e;cases e
     refine⟨⟨_,e1⟩,1,by decide,⟨f,rfl⟩,rfl,fun j a h hj=>?_,by simp,fun n hn=>by rw[List.mem_replicate] at hn;omega,fun j a h n hj hn=>?_⟩
     . match j,hj with
       | 0,hj=>cases hj;exact .inl rfl
     . match j,hj,hn with
       | 0,hj,hn=>
         cases hj;cases hn
         refine⟨_,_,e1,rfl,fun i hi=>?_⟩
         have:i=0:=by omega
         subst this
         exact⟨q1,o1,nW,rfl,Jz,f1.kp kp⟩
   . by_cases b3:b=q1
     . subst b3;rw[Jz] at e;cases e
       refine⟨VQ,⟨MX,lo1,Zi,Zj,o1,Zk,Zl,VQ,Zm⟩,fun a i ht=>?_⟩
       cases ht
       exact⟨by rw[VR];trivial,_,_,e1,rfl⟩
     . rw[Dj b b1 b3] at e
       exact(I.bu b u e).yR (fun _ _ _ q=>q) (fun c q=>ub c _ q rfl) (fun c xs q=>ub c _ q rfl) kp
end
section
variable {X:Cx}{G:Gr}{E:XK}{e1:Expr}{fs:List (Str×Dt)}{z C:Addr}{tl:List Slot}{f:Nat->List (Key×FD)}{n0 x0:Str}{Rw Rx Ry q1:Pos}
theorem xH (no:noOwn tl=true)(cl:uG X.K C)(Rm:bL X.K C n0)(Zq:EO X G (.own (.Be z C fs)::tl) e1 (.eX (oe (f 0))))(Rz:∀ p ls,putD n0 (.memo p ls 0 1) fs=tP fs [n0] p ls 1:=by intro _ _;rfl)(hlen:Nat.ble fs.length 990=true:=by rfl)(hN:X.N[0]?=some x0:=by rfl)(hv:vo X.env.scope x0:=by first | exact aaK rfl | exact aaD (aaK rfl) | exact aaD (aaD rfl))(mW:(x0 == ("__debug__":Str))=false:=by decide)(mz:(x0 == ("__classdict__":Str))=false:=by decide)(zC:starEach [e1] X.env=[(false,eval e1 X.env)]:=by rfl)(Hn:swapsWith (.List [e1] Ry) (some (.Attribute (.Name x0 Rw) n0 Rx)) q1.line X.env=pure false:=by rfl):m8 X G E (.own (.Be z C fs)::tl) [.Assign [.Attribute (.Name x0 Rw) n0 Rx] (.List [e1] Ry) q1] (.nx (.own (.zj z C fs [f] [n0] 1)::tl)):=by
 intro pins s st H D I ⟨Hf,S,k⟩
 have base:=mZ (vw (pos:=q1) (pos':=Rx) (jC (pos:=Rw) hN hv mW mz) (vx (pos:=Ry) (lU Zq ow zC)) Hn)
 let RQ:L2.St->Hp->Prop:=fun jD H'=>∃ p a1 nW,H' p=some (.lst [.ref a1])/\H' a1=some (.dK nW)/\rX H' nW (f 0)/\∀ o1,D.nx jD (jb H' p a1 (.memo [(p,f)]) (.kd (some (p,0)) o1 nW))
 refine bW (base pins s st H { D with nx:=RQ} I ?_) fun fl s7 q7=>?_
 . obtain⟨za,hz,Zr,TU,ez,dx,fv,MZ,rf⟩:=S.own 0 _ rfl
   subst ez
   refine⟨Hf,S,fun a1 Hf1 H1 g1 VT RA ⟨nW,Q4,Zs⟩=>⟨aaM rfl,fun p hp=>?_⟩⟩
   have MX:H1 za=some (.ins C dx fv):=g1.big _ _ MZ
   have LK:za≠p:=av MX hp
   have VU:a1≠p:=av Q4 hp
   have O0:za≠a1:=fun w=>by rw[w,VT] at MZ;cases MZ
   have Zt:(upd H1 p (.lst [.ref a1])) za=some (.ins C dx fv):=by rw[aj LK];exact MX
   refine⟨_,hz,za,C,dx,fv,rfl,Zt,cl,Rm,by rw[rf.length];exact aaO (aaM hlen) (by decide),?_⟩
   let H4:Hp:=upd (upd H1 p (.lst [.ref a1])) za (.ins C dx (fA n0 (.ref p) fv))
   have GL:Hf1 za=none:=g1.lG Zr MZ
   have Zu:bx Hf1 H1 Hf1 (upd H1 p (.lst [.ref a1])):=.fJ g1.sub hp
   have S0:dX X.K G st Hf H (.br::tl):=S.weak ⟨rfl,fun i s' e n=>by
     cases i with
     | zero=>cases e;exact absurd rfl n
     | succ i=>exact e⟩
   have Xw:noOwn (.br::tl)=true:=no
   have S4:dX X.K G st Hf1 H4 (.br::tl):=pA ((S0.grow g1).grow Zu) Xw GL TU
   have ZC:H4 za=some (.ins C dx (fA n0 (.ref p) fv)):=ak
   have Zy:H4 p=some (.lst [.ref a1]):=by show(upd (upd H1 p _) za _) p=_;rw[aj (Ne.symm LK),ak]
   have RD:H4 a1=some (.dK nW):=by show(upd (upd H1 p _) za _) a1=_;rw[aj (Ne.symm O0),aj VU];exact Q4
   have XA:Hf1 p=none:=g1.sub.free hp
   have zD:aF Hf1 H4:=fun b o e=>by
     have b1:b≠za:=fun w=>by rw[w,GL] at e;cases e
     have b2:b≠p:=fun w=>by rw[w,XA] at e;cases e
     show(upd (upd H1 p _) za _) b=_
     rw[aj b1,aj b2];exact g1.sub _ _ e
   have gp:G.H p=none:=S.gr.big.free (g1.big.free hp)
   have VX:G.H a1=none:=S.gr.big.free VT
   have VY:rX Hf1 nW (f 0):=qw Zs
   refine⟨p,a1,nW,Zy,RD,gv (fun b u e _=>zD _ _ e) VY,fun o1=>?_⟩
   let ls:km:=[(p,f)]
   let u1:HO:=.memo ls
   let u3:HO:=.kd (some (p,0)) o1 nW
   have m1:p≠a1:=Ne.symm VU
   have cat:∀ (B:Hp),jb B p a1 u1 u3 p=some u1/\jb B p a1 u1 u3 a1=some u3:=fun B=>by
     unfold jb
     refine⟨?_,?_⟩
     . rw[aj m1,ak]
     . rw[ak]
   have vZ:∀ (B:Hp) b,b≠p->b≠a1->jb B p a1 u1 u3 b=B b:=fun B b c1 c3=>by unfold jb;rw[aj c3,aj c1]
   let uN:Hp:=jb Hf1 p a1 u1 u3
   have Ht:aF Hf1 uN:=fun b o e=>by
     show jb Hf1 p a1 u1 u3 b=some o
     rw[vZ Hf1 b (fun w=>by rw[w,XA] at e;cases e) (fun w=>by rw[w,RA] at e;cases e)]
     exact e
   have key:∀ (A B:Hp),aF A B->aF (jb A p a1 u1 u3) (jb B p a1 u1 u3):=fun A B sm=>c9 (c9 sm)
   have RE:aF uN (jb H4 p a1 u1 u3):=key _ _ zD
   have JA:bg X.K uN (fA n0 (.ref p) fv) (tP fs [n0] p ls 1):=by
     rw[<- Rz p ls]
     refine(rf.mono (g1.bG.trans Ht)).put (f:=n0) (d:=.memo p ls 0 1) ?_
     refine .memo (f:=f) rfl (cat Hf1).1 (.inl rfl) fun i hi=>?_
     have:i=0:=by omega
     subst this
     exact⟨a1,o1,nW,(cat Hf1).2,gv (fun b u e _=>Ht _ _ e) VY⟩
   have ZG:jb H4 p a1 u1 u3 za=some (.ins C dx (fA n0 (.ref p) fv)):=by rw[vZ H4 za LK O0];exact ZC
   have ZH:uN za=none:=by show jb Hf1 p a1 u1 u3 za=none;rw[vZ Hf1 za LK O0];exact GL
   refine k st uN _ (g1.bG.trans Ht) ⟨⟨fun b o e=>?_,S4.gr.bG.trans Ht,RE,fun b o e=>?_⟩,by have:=S4.len;simpa using this,fun i d h=>?_,fun i o h=>?_,fun i j o o' a w1 w2=>?_⟩
   . rw[vZ H4 b (fun w=>by rw[w,gp] at e;cases e) (fun w=>by rw[w,VX] at e;cases e)]
     exact S4.gr.big _ _ e
   . by_cases c1:b=p
     . rw[c1];exact .inr (.inl gp)
     . by_cases c3:b=a1
       . rw[c3];exact .inr (.inl VX)
       . have e:jb Hf1 p a1 u1 u3 b=some o:=e
         rw[vZ Hf1 b c1 c3] at e
         exact S4.gr.new b o e
   . cases i with
     | zero=>cases h
     | succ i=>
       obtain⟨w,w1,w2⟩:=S4.val (i+1) d h
       exact⟨w,w1,w2.mono Ht⟩
   . cases i with
     | zero=>
       cases h
       exact⟨za,hz,ZH,TU,rfl,dx,_,p,ls,rfl,ZG,JA⟩
     | succ i=>exact absurd h (aY no i o)
   . cases i with
     | zero=>cases j with
       | zero=>exact fun _ _=>rfl
       | succ j=>exact absurd w2 (aY no j o')
     | succ i=>exact absurd w1 (aY no i o)
 . cases fl with
   | next=>
     obtain⟨σ7,H7,I7,p,a1,nW,y1,y3,y5,kk⟩:=q7
     obtain⟨o1,I8⟩:=Inv.M6 I7 y1 y3 y5
     exact⟨σ7,_,I8,kk o1⟩
   | cont=>exact q7
   | brk=>exact q7
   | ret v=>exact q7
end
section
variable {X:Cx}{G0:Gr}{E:XK}{fs:List (Str×Dt)}{l C:Addr}{ls:km}{n N:Nat}{tl:List Slot}{f:Nat->List (Key×FD)}{n0 x0 xg:Str}{p1 p2 p3 a1 c1 q1:Pos}
theorem BM (ng:Nat)(hs:kM l fs=true)(ht:rA l tl=true)(hu:tl[ng]?=some .br)(my:ls.map (·.2)=[f])(hN:N < 9000)(cl:uG X.K C)(Rm:bL X.K C n0)(hA:G0.Hf l=some (.memo ls))(hB:G0.H l=some (.memo ls))
   (TQ:(pX fs [n0] l ls n).lookup n0=some (.dU l ls 0 n):=by rfl)
   (TN:X.N[0]?=some x0:=by rfl) (Xn:vo X.env.scope x0:=by first | exact aaK rfl | exact aaD (aaK rfl) | exact aaD (aaD rfl)) (Xo:(x0 == ("__debug__":Str))=false:=by decide) (Xp:(x0 == ("__classdict__":Str))=false:=by decide)
   (Y1:X.N[ng+1]?=some xg:=by rfl) (Y2:vo X.env.scope xg:=by first | exact aaK rfl | exact aaD (aaK rfl) | exact aaD (aaD rfl)) (Y3:(xg == ("__debug__":Str))=false:=by decide) (Y4:(xg == ("__classdict__":Str))=false:=by decide)
   (VG:attributeBase (.Name x0 p1) n0 X.env (eval (.Name x0 p1) X.env)=eval (.Name x0 p1) X.env:=by rfl)
   (Dl:attributeBase (.Attribute (.Name x0 p1) n0 p2) "append" X.env (eval (.Attribute (.Name x0 p1) n0 p2) X.env)=eval (.Attribute (.Name x0 p1) n0 p2) X.env:=by rfl)
   (Jw:((backTo c1 (starEach [.Name xg p3] X.env)).all (fun x=>!x.1) && (backToKw c1 (keywordEach [] X.env)).all (fun x=>x.1.isSome) && decide ([Expr.Name xg p3].length+([]:List Keyword).length+(if ([]:List Keyword).isEmpty then 0 else 1) < 30))=true:=by rfl)
   (Dm:(a1.endLine == c1.line)=true:=by rfl) (zC:starEach [.Name xg p3] X.env=(false,eval (.Name xg p3) X.env)::starEach [] X.env:=by rfl)
   (Hn:swapsWith (.Call (.Attribute (.Attribute (.Name x0 p1) n0 p2) "append" a1) [.Name xg p3] [] c1) none q1.line X.env=pure false:=by rfl) :
   m8 X (VF G0 l (.bJ ls (aan ls.length N))) E (.val (.obj C (pX fs [n0] l ls n))::tl.set ng (.own (.eX (oe (f N)))))
     [.Expr (.Call (.Attribute (.Attribute (.Name x0 p1) n0 p2) "append" a1) [.Name xg p3] [] c1) q1] (.raw (RM X.K G0 C fs [n0] l ls n tl (N+1))):=by
 refine zk (mZ (lS (tL PySem.F.plainAttrs_list PySem.F.slot_list_append PySem.F.type_list_append qx (vv (jC (pos:=p1) TN Xn Xo Xp) VG) (lU (jC (pos:=p3) Y1 Y2 Y3 Y4) ow zC) Dl Jw Dm zC rfl) Hn)) fun D st H zq=>Bn zq fun Hf zq=>have S:=zq.1;have k:=zq.2;?_
 have e2:ls.length=1:=by have:=congrArg abg my;simpa using this
 have eR:∀ M:Nat,aan ls.length M=[M]:=fun M=>by rw[e2];rfl
 rw[eR] at S
 have VJ:ng < tl.length:=(aaj.mp hu).1
 obtain⟨v0,hv,rv⟩:=S.val 0 _ rfl
 cases rv with
 | @obj sa _ dx fv _ Rp rf=>
   obtain⟨oa,Dn,Xq,_,back⟩:=Rd.ex Rp
   have Rq:Hf l=some (.bJ ls [N]):=S.gr.bG _ _ ak
   have OY:H l=some (.bJ ls [N]):=S.sub _ _ Rq
   have hm:cf Hf l ls:=.inr ⟨_,Rq⟩
   obtain⟨y0,Y6,Y7⟩:=rf.lookup TQ
   obtain⟨qa,hq,VL,Y8,kvs,OZ,rk⟩:=S.own (ng+1) (.eX (oe (f N))) (by show(tl.set ng _)[ng]?=_;rw[aak VJ])
   cases Y7 with
   | @dU _ p _ _ _ f0 BB _ Y9 _=>
       have Zb:f0=f:=by
         have:=congrArg (fun z=>z[0]?) my
         simp only[aab,BB] at this
         exact Option.some.inj this
       subst Zb
       have Xr:rX H kvs (f0 N):=gv (fun b u e _=>S.sub _ _ e) (qw rk)
       have Zc:qa≠l:=fun z=>by rw[z,OY] at OZ;cases OZ
       have VM:sa≠l:=fun z=>by rw[z,Rq] at Dn;cases Dn;cases Xq
       have nsq:sa≠qa:=fun z=>by rw[z,VL] at Dn;cases Dn
       refine⟨_,hv,sa,C,dx,fv,_,rfl,back _ (S.sub _ _ Dn),cl,Rm,Y6,.inr (.inr (.inr (.inr ⟨rfl,l,ls,[N],0,f0,N,OY,BB,rfl⟩))),_,hq,l,ls,[N],0,p,f0,N,qa,kvs,rfl,rfl,OY,BB,rfl,hN,OZ,Xr,fun oq=>?_⟩
       let H6:Hp:=upd (upd H l (.bJ ls ([N].set 0 (N+1)))) qa (.kd (some (p,N)) oq kvs)
       show D.nx st H6
       have Ze:H6 l=some (.bJ ls [N+1]):=by show(upd (upd H l _) qa _) l=_;rw[aj (Ne.symm Zc),ak];rfl
       have VO:∀ b o,H b=some o->b≠l->b≠qa->(upd H6 l (.memo ls)) b=some o:=fun b o e n1 n2=>by
         rw[aj n1]
         show(upd (upd H l _) qa _) b=_
         rw[aj n2,aj n1];exact e
       have Zf:∀ b o,Hf b=some o->b≠qa:=fun b o e z=>by rw[z,VL] at e;cases e
       have Jx:aF (upd Hf l (.memo ls)) (upd H6 l (.memo ls)):=fun b o e=>by
         by_cases bl:b=l
         . rw[bl,ak] at e ⊢;exact e
         . rw[aj bl] at e;exact VO b o (S.sub _ _ e) bl (Zf b o e)
       have Jy:=gu Jx
       have g6:bx G0.Hf G0.H (jG (upd Hf l (.memo ls)) (upd H6 l (.memo ls))) (upd H6 l (.memo ls)):=by
         refine⟨fun b o e=>?_,fun b o e=>?_,oH Jx,fun b o e=>?_⟩
         . by_cases bl:b=l
           . rw[bl,hB] at e;cases e;rw[bl];exact ak
           . have h3:H b=some o:=S.gr.big _ _ (by show(upd G0.H l _) b=_;rw[aj bl];exact e)
             have Zg:b≠qa:=fun z=>by
               have:(upd G0.H l (.bJ ls [N])) qa=none:=Y8
               rw[<- z,aj bl,e] at this;cases this
             exact VO b o h3 bl Zg
         . by_cases bl:b=l
           . rw[bl,hA] at e;cases e;rw[bl];exact Jy _ _ ak
           . have h3:Hf b=some o:=S.gr.bG _ _ (by show(upd G0.Hf l _) b=_;rw[aj bl];exact e)
             exact Jy _ _ (by rw[aj bl];exact h3)
         . rcases pE (Hf:=upd Hf l (.memo ls)) (H:=upd H6 l (.memo ls)) b with⟨u',z1,z2,z3⟩ | z
           . rw[z3] at e;cases e;exact .inr (.inr z2)
           . rw[z] at e
             by_cases bl:b=l
             . rw[bl];exact .inl ⟨_,hA⟩
             . rw[aj bl] at e
               rcases S.gr.new b o e with⟨QD,y⟩ | y | y
               . have y:(upd G0.Hf l _) b=some QD:=y
                 rw[aj bl] at y;exact .inl ⟨QD,y⟩
               . have y:(upd G0.H l _) b=none:=y
                 rw[aj bl] at y;exact .inr (.inl y)
               . exact .inr (.inr y)
       have Rt:∀ {v:V} {d:Dt},sJ l d=true->Rep X.K Hf v d->Rep X.K (jG (upd Hf l (.memo ls)) (upd H6 l (.memo ls))) v d:=fun {v d} hn r=>(ja hm (.inl rfl) hn r).mono Jy
       refine k st H6 ⟨by rw[eR];exact Ze,_,⟨g6,by have:=S.len;simpa using this,fun i d h=>?_,fun i o h=>?_,fun i j o o' a h=>?_⟩⟩
       . cases i with
         | zero=>
           cases h
           refine⟨_,hv,.obj (back _ (Jy _ _ (by rw[aj VM];exact Dn))) ?_⟩
           exact(OX hs hm rf).mono Jy
         | succ i=>
           have h:tl[i]?=some (.val d):=h
           have e:ng≠i:=fun z=>by rw[<- z,hu] at h;cases h
           obtain⟨w,w1,w2⟩:=S.val (i+1) d (by show(tl.set ng _)[i]?=_;rw[aal e];exact h)
           exact⟨w,w1,Rt (mJ ht h) w2⟩
       . cases i with
         | zero=>cases h
         | succ i=>exact absurd h (aY (ib ht) i o)
       . cases i with
         | zero=>cases h
         | succ i=>exact absurd h (aY (ib ht) i o)
end
noncomputable abbrev TV (g:Str)(C':Addr)(fs':List (Str×Dt))(nm':List Str)(l':Addr)(ls':km)(n':Nat):List (Str×Dt):=[(g,.obj C' (tP fs' nm' l' ls' n'))]
section
variable {X:Cx}{G:Gr}{E:XK}{dl:List Slot}{e:Expr}{pos:Pos}{sts:List Stmt}{o:Out}{C C' l l':Addr}{ls ls':km}{n n' m:Nat}{nm nm':List Str}{fs':List (Str×Dt)}{g:Str}{tl:List Slot}{K:W.Frag}{Hf H:Hp}{st:L2.St}
theorem E1 {fv:List (Str×V)}(r:bg K Hf fv (tP (TV g C' fs' nm' l' ls' n') nm l ls n)):∃ v f2,fv=(g,v)::f2/\Rep K Hf v (.obj C' (tP fs' nm' l' ls' n'))/\bg K Hf f2 ((aam nm.length).map fun j=>(nm.getD j "",.memo l ls j n)):=by
 have r:bg K Hf fv ((g,.obj C' (tP fs' nm' l' ls' n'))::(aam nm.length).map fun j=>(nm.getD j "",.memo l ls j n)):=r
 cases r with
 | cons h t=>exact⟨_,_,rfl,h,t⟩
theorem GQ (i:Nat)(hn:0 < nm.length)(Ow:0 < nm'.length)(hl:ls'.length≠ls.length)(h:l'≠l->m8 X G E dl sts o)(hd:dl[i]?=some (.val (.obj C (tP (TV g C' fs' nm' l' ls' n') nm l ls n))):=by rfl):m8 X G E dl sts o:=by
 intro pins s st H D I ⟨Hf,S,k⟩
 obtain⟨v,hv,rv⟩:=S.val i _ hd
 refine h ?_ pins s st H D I ⟨Hf,S,k⟩
 cases rv with
 | obj q r=>
   obtain⟨v',f2,_,r1,r2⟩:=E1 r
   have h1:=vY hn r
   cases r1 with
   | obj q' r'=>
     have h2:=vY Ow r'
     intro z
     rw[z,h1] at h2
     have:=HO.memo.inj (Option.some.inj h2)
     exact hl (by rw[this])
theorem GR (he:EE X G (.val (.obj C (tP (TV g C' fs' nm' l' ls' n') nm l ls n))::tl) e (.uH l' ls' m))(hs:swapsWith e none pos.line X.env=pure false:=by rfl):ES X G E (.val (.obj C (tP (TV g C' fs' nm' l' ls' n') nm l ls n))::tl) (.Expr e pos) (.nx (.val (.obj C (tP (TV g C' fs' nm' l' ls' m) nm l ls n))::tl)):=
 sk (lS he hs) fun D st H zq=>Bn zq fun Hf zq=>have S:=zq.1;have k:=zq.2;⟨Hf,S,fun v Hf1 H1 g1 r1=>by
   have S1:=S.grow g1
   cases r1 with
   | uH kn=>
     refine k st Hf1 H1 g1.bG ⟨S1.gr,S1.len,fun i d h=>?_,fun i o h=>S1.own i o ?_,fun i j o o' a h1 h2=>S1.Gi i j o o' a ?_ ?_⟩
     . cases i with
       | zero=>
         cases h
         obtain⟨v,hv,rv⟩:=S1.val 0 _ rfl
         cases rv with
         | obj q r=>
           obtain⟨v',f2,ef,r1,r2⟩:=E1 r
           subst ef
           cases r1 with
           | obj q' r'=>exact⟨_,hv,.obj q (.cons (.obj q' (BH kn r')) r2)⟩
       | succ i=>exact S1.val (i+1) d h
     . cases i with
       | zero=>cases h
       | succ i=>exact h
     . cases i with
       | zero=>cases h1
       | succ i=>exact h1
     . cases j with
       | zero=>cases h2
       | succ j=>exact h2⟩
end
section
variable {X:Cx}{G:Gr}{dl:List Slot}{a e:Expr}{pos p apos bM:Pos}{ns:List Int}{k:Int}
theorem JF:Qn X "list.index" (fun x vs H Q=>∃ (l:Addr) (ns:List Int) (k:Int),x=.ref l/\vs=[.int k]/\mY X.K H l (ns.map V.int)/\PyData.layable0 (.list (ns.map .int))=true/\k∈ns/\Q (.int (ns.idxOf k:Nat)) H):=by
 intro pins s st H x vs v us Q I rx rv ⟨l,ns,k,e1,e2,hq,hy,hk,q⟩
 subst e1 e2
 cases (show v=Value.ref l from rx)
 obtain⟨z,rfl,ru⟩:=vals1 rv
 obtain⟨t,e⟩:=(show ∃ t,z=Value.int k t from ru)
 subst e
 obtain⟨aG,r,pl,hz⟩:=I.list hq
 obtain⟨ob,n,h1,h2,h3,h4⟩:=pl
 refine index_list_ints (vs:=aG) ⟨ob,h1,h2,n,h4⟩ (intsAre_of r) hy hk ?_
 exact⟨.int _,H,I.tok _,⟨_,rfl⟩,q⟩
theorem JG (ha:EE X G dl a (.lst (ns.map .int)))(he:EE X G dl e (.int k))(hy:PyData.layable0 (.list (ns.map .int))=true)(hk:k∈ns)(i5:attributeBase a "index" X.env (eval a X.env)=eval a X.env:=by rfl)
   (se:((backTo bM (starEach [e] X.env)).all (fun x=>!x.1) && (backToKw bM (keywordEach [] X.env)).all (fun x=>x.1.isSome) && decide ([e].length+([]:List Keyword).length+(if ([]:List Keyword).isEmpty then 0 else 1) < 30))=true:=by rfl)
   (i6:(apos.endLine == bM.line)=true:=by rfl) (mV:starEach [e] X.env=(false,eval e X.env)::starEach [] X.env:=by rfl):EE X G dl (.Call (.Attribute a "index" apos) [e] [] bM) (.int (ns.idxOf k:Nat)):=
 gL (tL PySem.F.plainAttrs_list PySem.F.slot_list_index PySem.F.type_list_index JF ha (ae he ah mV) i5 se i6 mV rfl) fun st H Q zq=>Bn zq fun Hf zq=>have S:=zq.1;have kk:=zq.2;⟨Hf,S,fun v Hf1 H1 g1 r1=>by
   cases r1 with
   | @lst q vs _ hq rp=>
     have ev:=ni rp
     subst ev
     refine⟨.inl ⟨rfl,_,.of (g1.sub _ _ hq)⟩,Hf1,S.grow g1,fun us bX H2 g2 r2=>?_⟩
     cases r2 with
     | cons r2 t2=>cases t2;cases r2;exact⟨q,ns,_,rfl,rfl,.of (g2.big _ _ (g1.sub _ _ hq)),hy,hk,kk _ bX H2 (g1.trans g2) (.int _)⟩⟩
noncomputable def yC (ns:List Int):Int:=ns.getD (argBest (fun i j=>decide (ns.getD i 0 > ns.getD j 0)) (ns.length - 1)) 0
theorem v5:∀ {ns:List Int} {us:List Value},Vals (ns.map V.int) us->∃ l:List (Int×Tok),us=l.map (fun p=>Value.int p.1 p.2)/\l.map (·.1)=ns
 | [],_,.nil=>⟨[],rfl,rfl⟩
 | x::r,_,.cons h t=>by
   obtain⟨tk,rfl⟩:=h
   obtain⟨l,rfl,e⟩:=v5 t
   exact⟨(x,tk)::l,rfl,by rw[aau,e]⟩
theorem GS (hc:X.calm=true):ka X (.builtin "max") (fun xs H Q=>∃ (l:Addr) (ns:List Int),xs=[.ref l]/\mY X.K H l (ns.map V.int)/\0 < ns.length/\Q (.int (yC ns)) H):=by
 intro pins s σ H xs us Q I r h
 obtain⟨l,ns,rfl,hq,h0,q⟩:=h
 obtain⟨u,rfl,rx⟩:=vals1 r
 cases rx
 obtain⟨aG,rv,pl,hz⟩:=I.list hq
 obtain⟨ob,n,h1,h2,h3,h4⟩:=pl
 have hA:X.A.handled=none:=I.ok.hd hc
 obtain⟨ps,e1,e2⟩:=v5 rv
 have hn:∀ i,numAt ps.toArray i=ns.getD i 0:=fun i=>by
   unfold numAt
   rw[List.getElem?_toArray,<- e2,YO,aab]
 have hs:ps.toArray.size=ns.length:=by rw[<- e2];simp
 refine max_intList (xs:=ps.toArray) hA ⟨ob,h1,h2,n,by rw[h4,e1];unfold intItems;simp⟩ (by rw[hs];exact h0) fun v h' tk hv hk=>?_
 obtain⟨t',e'⟩:=intItems_at hv
 have ev:(fun i j=>decide (numAt ps.toArray i > numAt ps.toArray j))=fun i j=>decide (ns.getD i 0 > ns.getD j 0):=by
   funext i j;rw[hn,hn]
 refine⟨.int (yC ns),H,I.kept (t':=tk) hk,⟨t',?_⟩,q⟩
 rw[e',hn,ev,hs];rfl
theorem M7 (hm:X.mg "max"=none)(hc:X.calm=true)(ha:EE X G dl a (.lst (ns.map .int)))(h0:0 < ns.length)(hg:Gl X "max":=by rfl)(he:starEach [a] X.env=[(false,eval a X.env)]:=by rfl):EE X G dl (.Call (.Name "max" p) [a] [] pos) (.int (yC ns)):=
 gL (fB (GS hc) hg hm boot_max (ae ha ah he) (by decide) (by decide) he rfl) fun st H Q zq=>Bn zq fun Hf zq=>have S:=zq.1;have k:=zq.2;⟨Hf,S,fun vs Hf1 H1 g1 r1=>by
   cases r1 with
   | cons r t=>cases t;cases r with
     | @lst q vs _ z r=>
       have ev:=ni r
       subst ev
       exact⟨q,ns,rfl,.of (g1.sub _ _ z),h0,k _ Hf1 H1 g1 (.int _)⟩⟩
theorem BN (f:Nat->Int):∀ n:Nat,argBest (fun i j=>decide (f i > f j)) n<=n/\∀ j,j<=n->f j<=f (argBest (fun i j=>decide (f i > f j)) n)
 | 0=>⟨aaa _,fun j hj=>by
   have:j=0:=by omega
   subst this;exact Int.le_refl _⟩
 | n+1=>by
   obtain⟨h1,h2⟩:=BN f n
   unfold argBest
   by_cases c:f (n+1) > f (argBest (fun i j=>decide (f i > f j)) n)
   . rw[if_pos (by simpa using c)]
     refine⟨aaa _,fun j hj=>?_⟩
     rcases Nat.lt_or_ge n j with h | h
     . have:j=n+1:=by omega
       subst this;exact Int.le_refl _
     . exact Int.le_trans (h2 j h) (Int.le_of_lt c)
   . rw[if_neg (by simpa using c)]
     refine⟨by omega,fun j hj=>?_⟩
     rcases Nat.lt_or_ge n j with h | h
     . have:j=n+1:=by omega
       subst this;omega
     . exact h2 j h
theorem JH {ns:List Int}{r:Int}(h0:0 < ns.length)(hm:r∈ns)(hr:∀ x∈ns,x<=r):yC ns=r:=by
 obtain⟨h1,h2⟩:=BN (fun i=>ns.getD i 0) (ns.length - 1)
 unfold yC
 generalize argBest (fun i j=>decide (ns.getD i 0 > ns.getD j 0)) (ns.length - 1)=b at h1 h2 ⊢
 obtain⟨j,hj,e⟩:=List.getElem_of_mem hm
 have h3:=h2 j (by omega)
 have hb:b < ns.length:=by omega
 have h4:=hr ns[b] (aaP hb)
 rw[YO,YO,k3 hj,k3 hb] at h3
 rw[YO,k3 hb]
 simp only[Option.getD_some] at h3 ⊢
 omega
end
theorem BO {P:Program}{w:World}{K:PySem.W.Frag}{tg:Expr}(it:Addr)(lo:Int)(n:Nat):Turn P w K tg (FX lo n) [it] it (fun i h=>IsLongIter h it (lo+(i:Nat) * 1) ((n:Int) - (i:Nat)) 1) where
 mem:=by simp
 obj:=fun i h st b hb=>by
   have e:b=it:=by simpa using hb
   subst e
   exact⟨_,st,fun v z=>by
     have z':Data.fields _=Data.cell v:=z
     cases z'⟩
 keep:=fun i h h' st k=>k it (by simp) _ st
 item:=by
   intro X hP hw hK hc i pins s σ H E I hf st hg
   subst hP hw hK
   obtain⟨f0,f1,f2,f3,f4,f5⟩:=hf it (by simp)
   have W:=Walks.longrange (prog:=X.prog) (w:=X.w) (I.ok.hd hc) it lo 1 n
   refine W.item i s _ _ hg st fun v h' tk hv jD kk=>?_
   obtain⟨t,rfl⟩:=hv
   have I1:Inv X pins σ H { s with heap:=h',toks:=tk}:=I.turned (fun b o hb e=>kk b o (by simpa using hb) e) f0 f1 f3 f4 f5
   refine⟨_,rfl,AY (s:={ s with heap:=h',toks:=tk}) (n:="longrange_iterator") jD rfl rfl (by decide) ⟨.int (lo+i),H,I1,⟨t,?_⟩,⟨rfl,rfl⟩,jD,fun b hb=>(hf b hb).1⟩⟩
   rw[Int.mul_one]
 done:=by
   intro X hP hw hK hc i pins s σ H E I hf st hg
   subst hP hw hK
   obtain⟨f0,f1,f2,f3,f4,f5⟩:=hf it (by simp)
   exact wpAny_pyNext_long_end (I.ok.hd hc) st (by have:n<=i:=hg;omega) fun h' eb=>⟨rfl,I.turned (t':=s.toks) (fun b o hb e=>eb b o hb e) f0 f1 f3 f4 f5⟩
 self:=fun _ _ _ _ _ st h=>wpAny_pyIter_longiter st h
section
variable {X:Cx}{G:Gr}{E:XK}{dl:List Slot}{a b:Expr}{ta:TA}{i j:Int}{pos p:Pos}{tg:Expr}
theorem GU {pins:List (Addr×Obj)}{σ:L2.St}{H:Hp}{s:Shared}{R:It->Hp->Prop}{E:Value->Shared->Prop}{lo hi:Int}{t u v:Tok}{tk:Nat}(I:Inv X pins σ H s)(q:R (FX lo (hi - lo).toNat) H):wpAny (model X.prog X.w) X.A (pyIter (.ref s.heap.objs.size)) (X1 X pins σ tg R) E { s with heap:=s.heap.push { cls:=.type "range",data:=.fields #[.int lo t,.int hi u,.int 1 v]},toks:=tk}:=by
 have I1:Inv X pins σ H { s with heap:=s.heap.push { cls:=.type "range",data:=.fields #[.int lo t,.int hi u,.int 1 v]},toks:=tk}:=I.kept fun b o e=>aag _ e
 have e1:lo+((0:Nat):Int) * 1=lo:=by simp
 have e2:(((hi - lo).toNat:Nat):Int) - ((0:Nat):Int)=Builtin.Range.rangeSize lo hi 1:=by rw[rangeSize_one];split <;> omega
 cases hs:Builtin.Range.small lo hi 1
 . refine wpAny_pyIter_longrange (IsRange.new ..) hs ?_
   refine⟨(s.heap.push { cls:=.type "range",data:=.fields #[.int lo t,.int hi u,.int 1 v]}).objs.size,[(s.heap.push { cls:=.type "range",data:=.fields #[.int lo t,.int hi u,.int 1 v]}).objs.size],_,_,H,rfl,
     I1.kept (t':=tk) fun b o e=>aag _ e,BO _ lo (hi - lo).toNat,?_,fun b hb=>?_,q⟩
   . show IsLongIter _ _ (lo+((0:Nat):Int) * 1) ((((hi - lo).toNat:Nat):Int) - ((0:Nat):Int)) 1
     rw[e1,e2]
     exact aat _ rfl
   . have e:b=(s.heap.push { cls:=.type "range",data:=.fields #[.int lo t,.int hi u,.int 1 v]}).objs.size:=by simpa using hb
     subst e
     exact I1.t6 (aaa _) (I1.bu.fresh (aaa _))
 . refine wpAny_pyIter_range (IsRange.new ..) hs ?_
   refine⟨(s.heap.push { cls:=.type "range",data:=.fields #[.int lo t,.int hi u,.int 1 v]}).objs.size,[(s.heap.push { cls:=.type "range",data:=.fields #[.int lo t,.int hi u,.int 1 v]}).objs.size],_,_,H,rfl,
     I1.kept (t':=tk) fun b o e=>aag _ e,vq _ lo (hi - lo).toNat,?_,fun b hb=>?_,q⟩
   . show IsRangeIter _ _ (lo+((0:Nat):Int) * 1) ((((hi - lo).toNat:Nat):Int) - ((0:Nat):Int)) 1
     rw[e1,e2]
     exact aat _ rfl
   . have e:b=(s.heap.push { cls:=.type "range",data:=.fields #[.int lo t,.int hi u,.int 1 v]}).objs.size:=by simpa using hb
     subst e
     exact I1.t6 (aaa _) (I1.bu.fresh (aaa _))
def O6 (ta:TA):TI:=fun σ H R=>ta σ H fun vs H1=>∃ i j:Int,vs=[.int i,.int j]/\R (FX i (j - i).toNat) H1
theorem GV (hg:Gl X "range")(hm:X.mg "range"=none)(ha:PA X [a,b] ta)(hs:starEach [a,b] X.env=[(false,eval a X.env),(false,eval b X.env)]:=by rfl)(ye:starEach [b] X.env=[(false,eval b X.env)]:=by rfl):PI X tg (.Call (.Name "range" p) [a,b] [] pos) (O6 ta):=by
 intro pins s σ H R I h
 refine Call_ (oj I hg hm boot_range (PyProof.Rows.callWith_type1 (bW (ha pos pins s σ H _ I h) fun us s1 ⟨vs,H1,I1,r1,q1⟩=>?_) (by rw[hs,ye]) (by rw[ye];rfl)))
 obtain⟨i,j,e,q⟩:=q1
 subst e
 cases r1 with
 | cons r rr=>
   cases rr with
   | cons r' rr=>
     cases rr
     obtain⟨t,rfl⟩:=r
     obtain⟨t',rfl⟩:=r'
     exact call_range_2 (GU I1 q)
theorem BP:qu X G dl ((aam (j - i).toNat).map fun(k:Nat)=>.int (i+k)) (O6 (QE X.K G dl [.int i,.int j])):=fun st H R zq=>Bn zq fun Hf zq=>have S:=zq.1;have k:=zq.2;⟨Hf,S,fun vs Hf1 H1 g1 r1=>by
 cases r1 with
 | cons r t=>
   cases r
   cases t with
   | cons r t=>
     cases t;cases r
     exact⟨i,j,rfl,k _ Hf1 H1 g1 fun bX H2 s1 s2 m=>Bt (X:=X) (Hf1:=Hf1) (H1:=H1) s2 m⟩⟩
end
end Sg
namespace Pf
open PySem PySem.Spec PyProof.Rows L2 Sg
structure f6 (K:W.Frag)(x q:Str)(st:Stmt)(ps:List Str)(f:Addr)(d:FuncData):Prop where
 F:TB K x q st f d
 b:Binds K d ps []
structure M8 (K:W.Frag)(x q:Str)(st:Stmt)(ps:List Str)(f:Addr)(d:FuncData):Prop where
 F:Bl K x q st f d
 b:Binds K d ps []
structure iS (K:W.Frag)(x:Str)(st:Stmt)(ps:List Str)(f:Addr)(d:FuncData):Prop where
 F:TB K x x st f d
 b:Binds K d ps []
 a:W.nsIn K mainGlobals x=some (some (.ref f))
structure GW (K:W.Frag)(x:Str)(C:Addr):Prop where
 a:W.nsIn K mainGlobals x=some (some (.ref C))
 cl:uG K C
 kc:W.keepIn K (.ref C)=true
abbrev RJ (x q:Str)(st:Stmt)(ps:List Str):Prop:=∀ (kV doc pm:Value) (an:Option Addr) (bo ct:Value) (us:List Value),us.length=ps.length->bindArgs (W.fnOf x q (cg st) (aE st) (af st) .none kV doc pm an bo ct) ⟨us,[]⟩=pure (ps.zip us)
section
variable {K:W.Frag}{x q:Str}{st:Stmt}{ps:List Str}{f:Addr}{oc:Value}{od an:Option Addr}{yj:Array (Option Value)}{kV doc pm bo ct:Value}
theorem RK (l:K.lookup f=some ⟨oc,od,.func (W.fnOf x q (cg st) (aE st) (af st) .none kV doc pm an bo ct),yj⟩)(c:W.codeIn K bo q=true)(k:W.keepIn K (.ref f)=true)(b:RJ x q st ps):f6 K x q st ps f (W.fnOf x q (cg st) (aE st) (af st) .none kV doc pm an bo ct):=⟨vA l c k,(vA l c k).binds b⟩
theorem RL (l:K.lookup f=some ⟨oc,od,.func (W.fnOf x q (cg st) (aE st) (af st) .none kV doc pm an bo ct),yj⟩)(c:W.codeIn K bo q=true)(k:W.keepIn K (.ref f)=true)(b:RJ x q st ps):M8 K x q st ps f (W.fnOf x q (cg st) (aE st) (af st) .none kV doc pm an bo ct):=⟨rg l c,(vA l c k).binds b⟩
theorem RN (a:W.nsIn K mainGlobals q=some (some (.ref f)))(l:K.lookup f=some ⟨oc,od,.func (W.fnOf q q (cg st) (aE st) (af st) .none kV doc pm an bo ct),yj⟩)(c:W.codeIn K bo q=true)(k:W.keepIn K (.ref f)=true)(b:RJ q q st ps):iS K q st ps f (W.fnOf q q (cg st) (aE st) (af st) .none kV doc pm an bo ct):=⟨vA l c k,(vA l c k).binds b,a⟩
theorem RO {C:Addr}(a:W.nsIn K mainGlobals x=some (some (.ref C)))(p:W.plainGet K C Str.empty=true)(h:W.hasDictIn K C=true)(o:W.plainOver K C=true)(s:W.findIn K (.ref C) "__setattr__"=some (some (.builtin "object.__setattr__")))(k:W.keepIn K (.ref C)=true):GW K x C:=⟨a,⟨p,h,o,s⟩,k⟩
end
theorem fR {N P:List Str}{sc:Scope}(h:(sc.kind == .function && !sc.isCoroutine && !sc.isGenerator && decide N.Nodup && decide (N.take P.length=P) && P.all (fun x=>decide (sc.names.lookup x=some .local\/sc.names.lookup x=some .cell)) && sc.names.all fun y=>decide (y.2≠.free))=true):aq N P sc:=by
 simp only[aaS,abO,decide_eq_true_eq,Bool.not_eq_true',beq_iff_eq] at h
 exact⟨h.1.1.1.1.1.1,h.1.1.1.1.1.2,h.1.1.1.1.2,h.1.1.1.2,h.1.1.2,h.1.2,h.2⟩
noncomputable def top (i:Nat):Stmt:=PySem.Challenge.pw_strokegrow_k54_pen_at.main.body.getD i (.Pass ⟨0,0,0,0⟩)
noncomputable abbrev zF:Stmt:=top 14
noncomputable abbrev zG:Stmt:=top 15
noncomputable abbrev lJ:Stmt:=top 16
noncomputable abbrev nu:Stmt:=inClass (top 17) 3
noncomputable abbrev nv:Stmt:=inClass (top 17) 4
noncomputable abbrev qA:Stmt:=inClass (top 17) 5
noncomputable abbrev oK:Stmt:=inClass (top 17) 6
noncomputable abbrev lK:Stmt:=inClass (top 18) 0
noncomputable abbrev fL:Stmt:=inClass (top 18) 1
noncomputable abbrev kA:Stmt:=inClass (top 18) 2
noncomputable abbrev ny:Stmt:=inClass (top 19) 0
noncomputable abbrev gR:Stmt:=inClass (top 19) 1
noncomputable abbrev mj:Stmt:=inClass (top 19) 2
noncomputable abbrev v7:Stmt:=top 20
noncomputable abbrev nz:Stmt:=inClass (top 22) 0
noncomputable abbrev nA:Stmt:=inClass (top 22) 1
noncomputable abbrev nB:Stmt:=inClass (top 22) 2
noncomputable abbrev kB:Stmt:=inClass (top 22) 3
noncomputable abbrev cw:Stmt:=inClass (top 22) 4
noncomputable abbrev fC:Stmt:=inClass (top 22) 5
noncomputable abbrev cz:Stmt:=inClass (top 22) 6
noncomputable abbrev cA:Stmt:=inClass (top 22) 7
noncomputable abbrev nC:Stmt:=inClass (top 22) 8
noncomputable abbrev lL:Stmt:=inClass (top 22) 10
noncomputable abbrev zH:Stmt:=top 23
noncomputable abbrev cL:Stmt:=top 24
noncomputable abbrev qB:Stmt:=top 25
noncomputable abbrev ml:Stmt:=top 29
noncomputable abbrev kC:Stmt:=top 30
noncomputable abbrev rC:Stmt:=top 31
noncomputable abbrev v8:Stmt:=top 32
noncomputable abbrev sN:Stmt:=top 33
noncomputable abbrev f7:Stmt:=inClass (top 35) 0
noncomputable abbrev iU:Stmt:=inClass (top 35) 1
noncomputable abbrev b7:Stmt:=inClass (top 35) 2
noncomputable abbrev cF:Stmt:=inClass (top 35) 4
noncomputable abbrev jH:Stmt:=inClass (top 35) 5
noncomputable abbrev kh:Stmt:=top 37
noncomputable abbrev eu:Stmt:=top 38
noncomputable abbrev dQ:Stmt:=inClass (top 39) 0
noncomputable abbrev gS:Stmt:=inClass (top 39) 1
noncomputable abbrev bN:Stmt:=inClass (top 39) 3
noncomputable abbrev lM:Stmt:=inClass (top 39) 4
noncomputable abbrev f9:Stmt:=inClass (top 39) 5
noncomputable abbrev cV:Stmt:=inClass (top 39) 6
noncomputable abbrev e6:Stmt:=inClass (top 39) 8
noncomputable abbrev dv:Stmt:=inClass (top 39) 9
noncomputable abbrev ip:Stmt:=inClass (top 39) 11
noncomputable abbrev iV:Stmt:=inClass (top 39) 13
noncomputable abbrev ij:Stmt:=inClass (top 39) 17
noncomputable abbrev jc:Stmt:=top 43
noncomputable abbrev gb:Stmt:=top 44
noncomputable abbrev e9:Stmt:=top 45
noncomputable abbrev kN:Stmt:=inClass (top 46) 0
noncomputable abbrev oM:Stmt:=inClass (top 46) 1
noncomputable abbrev kE:Stmt:=inClass (top 46) 2
noncomputable abbrev jd:Stmt:=inClass (top 46) 4
noncomputable abbrev nE:Stmt:=inClass (top 46) 5
noncomputable abbrev nF:Stmt:=inClass (top 46) 6
noncomputable abbrev a5:Stmt:=inClass (top 46) 7
noncomputable abbrev Dq:Stmt:=top 48
noncomputable abbrev zI:Stmt:=top 49
noncomputable abbrev qC:Stmt:=top 50
noncomputable abbrev Dr:Stmt:=top 51
noncomputable abbrev zJ:Stmt:=top 52
noncomputable abbrev JI:Stmt:=top 53
noncomputable abbrev s_row:Stmt:=top 54
noncomputable abbrev BQ:Stmt:=top 55
noncomputable abbrev v9:Stmt:=top 56
noncomputable abbrev zK:Stmt:=top 57
noncomputable abbrev kO:Stmt:=top 58
noncomputable abbrev Ds:Stmt:=top 59
noncomputable abbrev JJ:Stmt:=top 60
noncomputable abbrev JK:Stmt:=top 61
noncomputable abbrev M9:List Str:=["one","other"]
theorem JL:aq M9 ["one","other"] (af zF):=fR (by decide +kernel)
noncomputable abbrev Na:List Str:=["one","other"]
theorem JM:aq Na ["one","other"] (af zG):=fR (by decide +kernel)
noncomputable abbrev wa:List Str:=["deed"]
theorem ug:aq wa ["deed"] (af lJ):=fR (by decide +kernel)
noncomputable abbrev zL:List Str:=["self","number"]
theorem xI:aq zL ["self","number"] (af nu):=fR (by decide +kernel)
noncomputable abbrev zM:List Str:=["self","spot","by","turns"]
theorem mn:aq zM ["self","spot","by"] (af nv):=fR (by decide +kernel)
noncomputable abbrev Du:List Str:=["self","way"]
theorem BR:aq Du ["self","way"] (af qA):=fR (by decide +kernel)
noncomputable abbrev BS:List Str:=["self","deed","spot","way"]
theorem rE:aq BS ["self","deed","spot","way"] (af oK):=fR (by decide +kernel)
noncomputable abbrev wb:List Str:=["self"]
theorem uh:aq wb ["self"] (af lK):=fR (by decide +kernel)
noncomputable abbrev og:List Str:=["self","spot"]
theorem nG:aq og ["self","spot"] (af fL):=fR (by decide +kernel)
noncomputable abbrev uk:List Str:=["self","way","spot","x","y"]
theorem jI:aq uk ["self","way","spot"] (af kA):=fR (by decide +kernel)
noncomputable abbrev zN:List Str:=["self"]
theorem xJ:aq zN ["self"] (af ny):=fR (by decide +kernel)
noncomputable abbrev pZ:List Str:=["self","spot"]
theorem oN:aq pZ ["self","spot"] (af gR):=fR (by decide +kernel)
noncomputable abbrev xK:List Str:=["self","way","spot","x","y"]
theorem lN:aq xK ["self","way","spot"] (af mj):=fR (by decide +kernel)
noncomputable abbrev JN:List Str:=["ways"]
theorem GX:aq JN ["ways"] (af v7):=fR (by decide +kernel)
noncomputable abbrev zO:List Str:=["self","pen","deed_count","last_way","last_spot","stroke_count","reaches","touches","crosses"]
theorem xM:aq zO ["self","pen","deed_count","last_way","last_spot","stroke_count","reaches","touches","crosses"] (af nz):=fR (by decide +kernel)
noncomputable abbrev zP:List Str:=["self"]
theorem xN:aq zP ["self"] (af nA):=fR (by decide +kernel)
noncomputable abbrev zQ:List Str:=["self"]
theorem xO:aq zQ ["self"] (af nB):=fR (by decide +kernel)
noncomputable abbrev um:List Str:=["self"]
theorem sO:aq um ["self"] (af kB):=fR (by decide +kernel)
noncomputable abbrev xP:List Str:=["self","first"]
theorem wc:aq xP ["self","first"] (af cw):=fR (by decide +kernel)
noncomputable abbrev nY:List Str:=["self","numbers","first"]
theorem sP:aq nY ["self","numbers","first"] (af fC):=fR (by decide +kernel)
noncomputable abbrev xQ:List Str:=["self","first"]
theorem we:aq xQ ["self","first"] (af cz):=fR (by decide +kernel)
noncomputable abbrev xR:List Str:=["self","first"]
theorem wg:aq xR ["self","first"] (af cA):=fR (by decide +kernel)
noncomputable abbrev zR:List Str:=["self"]
theorem xS:aq zR ["self"] (af nC):=fR (by decide +kernel)
noncomputable abbrev wj:List Str:=["self","other","pen","shift","reaches","touches","way"]
theorem nZ:aq wj ["self","other"] (af lL):=fR (by decide +kernel)
noncomputable abbrev Nb:List Str:=["pen"]
theorem JO:aq Nb ["pen"] (af zH):=fR (by decide +kernel)
noncomputable abbrev kF:List Str:=["pen","deed","behind","spot","reaches","touches"]
theorem mL:aq kF ["pen","deed"] (af cL):=fR (by decide +kernel)
noncomputable abbrev Dv:List Str:=["pen","deeds","track","deed"]
theorem tV:aq Dv ["pen","deeds"] (af qB):=fR (by decide +kernel)
noncomputable abbrev xU:List Str:=["age","first","last"]
theorem wk:aq xU ["age","first","last"] (af ml):=fR (by decide +kernel)
noncomputable abbrev uo:List Str:=["many"]
theorem sQ:aq uo ["many"] (af kC):=fR (by decide +kernel)
noncomputable abbrev E2:List Str:=["rules","word"]
theorem BU:aq E2 ["rules","word"] (af rC):=fR (by decide +kernel)
noncomputable abbrev JP:List Str:=["rules","word","grown"]
theorem E3:aq JP ["rules","word"] (af v8):=fR (by decide +kernel)
noncomputable abbrev GY:List Str:=["rules","word","age","grown","rounds"]
theorem wq:aq GY ["rules","word","age"] (af sN):=fR (by decide +kernel)
noncomputable abbrev oO:List Str:=["self","growth","rules"]
theorem n6:aq oO ["self","growth"] (af f7):=fR (by decide +kernel)
noncomputable abbrev qD:List Str:=["self","tracks","whole","track"]
theorem kI:aq qD ["self","tracks"] (af iU):=fR (by decide +kernel)
noncomputable abbrev kJ:List Str:=["self","age","rules","last","grown","letter"]
theorem ki:aq kJ ["self","age"] (af b7):=fR (by decide +kernel)
noncomputable abbrev lZ:List Str:=["self","age","begin","end"]
theorem qE:aq lZ ["self","age","begin","end"] (af cF):=fR (by decide +kernel)
noncomputable abbrev sR:List Str:=["self","age","place","track"]
theorem l3:aq sR ["self","age","place"] (af jH):=fR (by decide +kernel)
noncomputable abbrev BV:List Str:=["tallies","letters"]
theorem yD:aq BV ["tallies","letters"] (af kh):=fR (by decide +kernel)
noncomputable abbrev mM:List Str:=["word","rounds"]
theorem rF:aq mM ["word","rounds"] (af eu):=fR (by decide +kernel)
noncomputable abbrev mq:List Str:=["self","rules","start"]
theorem oP:aq mq ["self","rules","start"] (af dQ):=fR (by decide +kernel)
noncomputable abbrev p0:List Str:=["self"]
theorem oQ:aq p0 ["self"] (af gS):=fR (by decide +kernel)
noncomputable abbrev iW:List Str:=["self","age","letters","last","grown","letter"]
theorem kK:aq iW ["self","age"] (af bN):=fR (by decide +kernel)
noncomputable abbrev wt:List Str:=["self","age"]
theorem uq:aq wt ["self","age"] (af lM):=fR (by decide +kernel)
noncomputable abbrev oR:List Str:=["self","age","place"]
theorem oh:aq oR ["self","age","place"] (af f9):=fR (by decide +kernel)
noncomputable abbrev kP:List Str:=["self","age","place"]
theorem kG:aq kP ["self","age","place"] (af cV):=fR (by decide +kernel)
noncomputable abbrev nH:List Str:=["self","age","begin","end"]
theorem mN:aq nH ["self","age","begin","end"] (af e6):=fR (by decide +kernel)
noncomputable abbrev n8:List Str:=["self","age"]
theorem sS:aq n8 ["self","age"] (af dv):=fR (by decide +kernel)
noncomputable abbrev ur:List Str:=["self","age","begin","end","between","waiting","place","piece","rounds","behind"]
theorem mO:aq ur ["self","age","begin","end"] (af ip):=fR (by decide +kernel)
noncomputable abbrev qF:List Str:=["self","age","place"]
theorem p7:aq qF ["self","age","place"] (af iV):=fR (by decide +kernel)
noncomputable abbrev qf:List Str:=["self","age","begin","end"]
theorem wu:aq qf ["self","age","begin","end"] (af ij):=fR (by decide +kernel)
noncomputable abbrev rG:List Str:=["text"]
theorem qG:aq rG ["text"] (af jc):=fR (by decide +kernel)
noncomputable abbrev oS:List Str:=["word","letters"]
theorem uu:aq oS ["word","letters"] (af gb):=fR (by decide +kernel)
noncomputable abbrev nI:List Str:=["rows","firsts","letters","number","row","letter_fits"]
theorem qg:aq nI ["rows"] (af e9):=fR (by decide +kernel)
noncomputable abbrev zS:List Str:=["self","ways","rows","drawer","row"]
theorem qh:aq zS ["self","ways","rows"] (af kN):=fR (by decide +kernel)
noncomputable abbrev BW:List Str:=["self"]
theorem zT:aq BW ["self"] (af oM):=fR (by decide +kernel)
noncomputable abbrev uv:List Str:=["self"]
theorem sT:aq uv ["self"] (af kE):=fR (by decide +kernel)
noncomputable abbrev wz:List Str:=["self","letter"]
theorem uw:aq wz ["self","letter"] (af jd):=fR (by decide +kernel)
noncomputable abbrev zU:List Str:=["self","letter"]
theorem xV:aq zU ["self","letter"] (af nE):=fR (by decide +kernel)
noncomputable abbrev zV:List Str:=["self","letter"]
theorem xW:aq zV ["self","letter"] (af nF):=fR (by decide +kernel)
noncomputable abbrev ux:List Str:=["self","text","most","at","sign"]
theorem mP:aq ux ["self","text","most"] (af a5):=fR (by decide +kernel)
noncomputable abbrev RP:List Str:=["_law_script","_law_k","_law_cell_here","_law_low"]
theorem uS:aq RP ["_law_script","_law_k"] (af Dq):=fR (by decide +kernel)
noncomputable abbrev Nc:List Str:=["_law_found"]
theorem JQ:aq Nc ["_law_found"] (af zI):=fR (by decide +kernel)
noncomputable abbrev Dw:List Str:=["_law_cell_here","_law_many","_law_free","_law_found","_law_k","_law_at"]
theorem tW:aq Dw ["_law_cell_here","_law_many"] (af qC):=fR (by decide +kernel)
noncomputable abbrev RS:List Str:=["_law_number","_law_alphabet_here","_law_most","_law_found","_law_size","_law_k"]
theorem E4:aq RS ["_law_number","_law_alphabet_here","_law_most"] (af Dr):=fR (by decide +kernel)
noncomputable abbrev Nd:List Str:=["_law_script","_law_far","_law_first","_law_way","_law_age","_law_many","_law_most","_law_alphabet_here","_law_rows","_law_k","_law_cell_here","_law_deed","_law_start"]
theorem BX:aq Nd ["_law_script","_law_far"] (af zJ):=fR (by decide +kernel)
noncomputable abbrev V0:List Str:=["_law_script","_law_k","_law_far","_law_number"]
theorem JR:aq V0 ["_law_script","_law_k"] (af JI):=fR (by decide +kernel)
noncomputable abbrev V1:List Str:=["_law_rows","_law_letter","_law_row_here"]
theorem JS:aq V1 ["_law_rows","_law_letter"] (af s_row):=fR (by decide +kernel)
noncomputable abbrev O7:List Str:=["_law_rows","_law_text_here","_law_age","_law_most","_law_k","_law_longer"]
theorem JT:aq O7 ["_law_rows","_law_text_here","_law_age","_law_most"] (af BQ):=fR (by decide +kernel)
noncomputable abbrev JU:List Str:=["_law_ways","_law_spot","_law_by","_law_x","_law_y","_law_k"]
theorem yE:aq JU ["_law_ways","_law_spot","_law_by"] (af v9):=fR (by decide +kernel)
noncomputable abbrev Nf:List Str:=["_law_ways","_law_spot","_law_x","_law_y"]
theorem BY:aq Nf ["_law_ways","_law_spot"] (af zK):=fR (by decide +kernel)
noncomputable abbrev uT:List Str:=["_law_ways","_law_rows","_law_text_here","_law_way","_law_spot","_law_strokes","_law_area","_law_spots","_law_letter","_law_deed","_law_step","_law_alongs","_law_reach","_law_touch"]
theorem BZ:aq uT ["_law_ways","_law_rows","_law_text_here"] (af kO):=fR (by decide +kernel)
noncomputable abbrev RT:List Str:=["_law_ways","_law_pen_here","_law_deed","_law_x","_law_y","_law_way","_law_step"]
theorem E5:aq RT ["_law_ways","_law_pen_here","_law_deed"] (af Ds):=fR (by decide +kernel)
noncomputable abbrev V2:List Str:=["_law_found","_law_ways"]
theorem RU:aq V2 ["_law_found","_law_ways"] (af JJ):=fR (by decide +kernel)
noncomputable abbrev V3:List Str:=["_law_script","_law_ways","_law_rows","_law_start","_law_age","_law_growth","_law_drawing","_law_size","_law_place","_law_here","_law_track","_law_text_here","_law_reached","_law_due","_law_k","_law_there"]
theorem JV:aq V3 ["_law_script"] (af JK):=fR (by decide +kernel)
structure dR where
 (uU uV je dH dJ gc eY eB bF dw gw b8 fD rH gx gy gz dy cB dA cC cD gA eC uW iq nJ jS ir uX zW pI eD cm bA bZ da oT gB fE b9 bO eE bS aM bj cM cN cn fF fS jf kQ fe i3 dB df gC gD a6 zX uY nK zY uZ E6 E7 E8 rJ u0 u5 zZ E9 rK:Addr)
 (u6 u7 jg kR kS nL l4 jh dk iu kT dY jT rL kU kW kX iw jU iy jV jW kY ji u9 iz nM jX iC va z5 pJ jk ff dZ fT gF rM gG jY d0 fg jl dM bU cW iD iE fh jZ fU jm kZ k4 l5 iG jo k6 k7 iH z6 vb nO z7 vc Fb Fc Fd rN vd vf z8 Fe wA:FuncData)
 (j0 j4 j5 iI:Tok)
 (aU cj aR ar aw ay k8 c8:Addr)
 (B0 wC z9 wD:Tok)
 K:W.Frag
structure Txt (K:W.Frag)(mg:Str->Option Value)(t:dR):Prop where
 hK:t.K=K
 g:∀ {x:Str} {v:Value},W.nsIn K mainGlobals x=some (some v)->mg x=some v
 gn:∀ {x:Str},W.nsIn K mainGlobals x=some none->mg x=none
 jJ:GW K "Quarter" t.aU
 nP:GW K "Sixth" t.cj
 d5:GW K "Rules" t.aR
 aN:GW K "Growth" t.ar
 aB:GW K "Track" t.aw
 bT:GW K "Drawing" t.ay
 qH:QL K t.aU
 wF:QL K t.cj
 wG:L2.Mk K t.aR t.fe
 sU:L2.Mk K t.ar t.fE
 wH:L2.Mk K t.aw t.gx
 qI:L2.Mk K t.ay t.eD
 iJ:bL K t.aR "drawer"
 aV:bL K t.aR "row_by_letter"
 cb:bL K t.ar "rules"
 gd:bL K t.ar "seed"
 cG:bL K t.ar "tallies"
 cH:bL K t.ar "lengths"
 dC:bL K t.aw "drawer"
 bB:bL K t.aw "deed_count"
 bE:bL K t.aw "last_way"
 aZ:bL K t.aw "last_spot"
 ck:bL K t.aw "stroke_count"
 cq:bL K t.aw "reaches"
 eF:bL K t.aw "touches"
 eG:bL K t.aw "crosses"
 b0:bL K t.ay "growth"
 b5:bL K t.ay "tracks"
 Aa:mg "DEEDS"=some (.ref t.k8)
 Ab:∀ H,Rep K H (.ref t.k8) (.tup [.str "stroke",.str "step",.str "left",.str "right",.str "rest"])
 qi:mg "GOING_DEEDS"=some (.ref t.c8)
 qj:∀ H,Rep K H (.ref t.c8) (.tup [.str "stroke",.str "step"])
 B2:mg "MOST_ROWS"=some (.int 6 t.B0)
 wI:mg "MOST_IN_WORD"=some (.int 8 t.wC)
 rO:mg "LAST_ROUND"=some (.int 200 t.z9)
 wJ:mg "MOST_WRITTEN"=some (.int 400 t.wD)
 pK:iS K "added" zF ["one","other"] t.uU t.u6
 pL:iS K "cross" zG ["one","other"] t.uV t.u7
 eI:iS K "turn_of_deed" lJ ["deed"] t.je t.jg
 fM:Meth K t.aU "way_of" t.dH
 gT:Meth K t.cj "way_of" t.dH
 k9:f6 K "way_of" "Pen.way_of" nu ["self","number"] t.dH t.kR
 fN:Meth K t.aU "turned" t.dJ
 gU:Meth K t.cj "turned" t.dJ
 lb:f6 K "turned" "Pen.turned" nv ["self","spot","by"] t.dJ t.kS
 gW:Meth K t.aU "step" t.gc
 jq:Meth K t.cj "step" t.gc
 nQ:f6 K "step" "Pen.step" qA ["self","way"] t.gc t.nL
 gf:Meth K t.aU "after" t.eY
 iX:Meth K t.cj "after" t.eY
 l6:f6 K "after" "Pen.after" oK ["self","deed","spot","way"] t.eY t.l4
 eK:Meth K t.aU "ways" t.eB
 jr:f6 K "ways" "Quarter.ways" lK ["self"] t.eB t.jh
 cu:Meth K t.aU "turned_left" t.bF
 dm:f6 K "turned_left" "Quarter.turned_left" fL ["self","spot"] t.bF t.dk
 dS:Meth K t.aU "along" t.dw
 iK:f6 K "along" "Quarter.along" kA ["self","way","spot"] t.dw t.iu
 gX:Meth K t.cj "ways" t.gw
 lg:f6 K "ways" "Sixth.ways" ny ["self"] t.gw t.kT
 dg:Meth K t.cj "turned_left" t.b8
 d6:f6 K "turned_left" "Sixth.turned_left" gR ["self","spot"] t.b8 t.dY
 gh:Meth K t.cj "along" t.fD
 j6:f6 K "along" "Sixth.along" mj ["self","way","spot"] t.fD t.jT
 mQ:iS K "pen_of" v7 ["ways"] t.rH t.rL
 lh:M8 K "__init__" "Track.__init__" nz ["self","pen","deed_count","last_way","last_spot","stroke_count","reaches","touches","crosses"] t.gx t.kU
 gY:Meth K t.aw "many" t.gy
 lj:f6 K "many" "Track.many" nA ["self"] t.gy t.kW
 gZ:Meth K t.aw "turn" t.gz
 ll:f6 K "turn" "Track.turn" nB ["self"] t.gz t.kX
 fi:Meth K t.aw "strokes" t.dy
 iL:f6 K "strokes" "Track.strokes" kB ["self"] t.dy t.iw
 dN:Meth K t.aw "shift" t.cB
 wK:Binds K t.jU ["self","first"] [.int 0 t.j0]
 xX:Bl K "shift" "Track.shift" cw t.cB t.jU
 LL:W.keepIn K (.ref t.cB)=true
 xY:Binds K t.jU ["self","first"] []
 fj:Meth K t.aw "by_ways" t.dA
 iM:f6 K "by_ways" "Track.by_ways" fC ["self","numbers","first"] t.dA t.iy
 gi:Meth K t.aw "reach" t.cC
 JW:Binds K t.jV ["self","first"] [.int 0 t.j4]
 xZ:Bl K "reach" "Track.reach" cz t.cC t.jV
 LM:W.keepIn K (.ref t.cC)=true
 x3:Binds K t.jV ["self","first"] []
 gj:Meth K t.aw "touch" t.cD
 JX:Binds K t.jW ["self","first"] [.int 0 t.j5]
 x4:Bl K "touch" "Track.touch" cA t.cD t.jW
 LN:W.keepIn K (.ref t.cD)=true
 x5:Binds K t.jW ["self","first"] []
 g7:Meth K t.aw "area" t.gA
 lp:f6 K "area" "Track.area" nC ["self"] t.gA t.kY
 fO:Meth K t.aw "joined" t.eC
 jt:f6 K "joined" "Track.joined" lL ["self","other"] t.eC t.ji
 pM:iS K "still" zH ["pen"] t.uW t.u9
 dD:iS K "track_of_deed" cL ["pen","deed"] t.iq t.iz
 jK:iS K "track_of" qB ["pen","deeds"] t.nJ t.nM
 fG:iS K "check_round" ml ["age","first","last"] t.jS t.jX
 dF:iS K "check_written" kC ["many"] t.ir t.iC
 pN:iS K "tally" rC ["rules","word"] t.uX t.va
 sV:iS K "once" v8 ["rules","word"] t.zW t.z5
 lz:iS K "written" sN ["rules","word","age"] t.pI t.pJ
 ju:M8 K "__init__" "Drawing.__init__" f7 ["self","growth"] t.eD t.jk
 cX:Meth K t.ay "join_all" t.cm
 fk:f6 K "join_all" "Drawing.join_all" iU ["self","tracks"] t.cm t.ff
 cO:Meth K t.ay "deepen_to" t.bA
 d7:f6 K "deepen_to" "Drawing.deepen_to" b7 ["self","age"] t.bA t.dZ
 dh:Meth K t.ay "stretch" t.bZ
 fV:f6 K "stretch" "Drawing.stretch" cF ["self","age","begin","end"] t.bZ t.fT
 dt:Meth K t.ay "pen_at" t.da
 gH:f6 K "pen_at" "Drawing.pen_at" jH ["self","age","place"] t.da t.gF
 mR:iS K "summed" kh ["tallies","letters"] t.oT t.rM
 dc:iS K "waiting_pieces" eu ["word","rounds"] t.gB t.gG
 j7:M8 K "__init__" "Growth.__init__" dQ ["self","rules","start"] t.fE t.jY
 cY:Meth K t.ar "rules_told" t.b9
 d8:f6 K "rules_told" "Growth.rules_told" gS ["self"] t.b9 t.d0
 di:Meth K t.ar "deepen_to" t.bO
 fm:f6 K "deepen_to" "Growth.deepen_to" bN ["self","age"] t.bO t.fg
 fo:Meth K t.ar "enter" t.eE
 jv:f6 K "enter" "Growth.enter" lM ["self","age"] t.eE t.jl
 cP:Meth K t.ar "check_place" t.bS
 dO:f6 K "check_place" "Growth.check_place" f9 ["self","age","place"] t.bS t.dM
 bI:Meth K t.ar "check_letter_place" t.aM
 bV:f6 K "check_letter_place" "Growth.check_letter_place" cV ["self","age","place"] t.aM t.bU
 cv:Meth K t.ar "check_stretch" t.bj
 cZ:f6 K "check_stretch" "Growth.check_stretch" e6 ["self","age","begin","end"] t.bj t.cW
 eO:Meth K t.ar "length" t.cM
 iN:f6 K "length" "Growth.length" dv ["self","age"] t.cM t.iD
 eP:Meth K t.ar "pieces" t.cN
 iO:f6 K "pieces" "Growth.pieces" ip ["self","age","begin","end"] t.cN t.iE
 dj:Meth K t.ar "letter_at" t.cn
 fq:f6 K "letter_at" "Growth.letter_at" iV ["self","age","place"] t.cn t.fh
 fP:Meth K t.ar "part" t.fF
 j8:f6 K "part" "Growth.part" ij ["self","age","begin","end"] t.fF t.jZ
 cI:iS K "is_small_letter" jc ["text"] t.fS t.fU
 eQ:iS K "is_word_over" gb ["word","letters"] t.jf t.jm
 gI:iS K "check_rows" e9 ["rows"] t.kQ t.kZ
 lq:M8 K "__init__" "Rules.__init__" kN ["self","ways","rows"] t.fe t.k4
 iY:Meth K t.aR "pen" t.i3
 l7:f6 K "pen" "Rules.pen" oM ["self"] t.i3 t.l5
 fu:Meth K t.aR "letters" t.dB
 iP:f6 K "letters" "Rules.letters" kE ["self"] t.dB t.iG
 fQ:Meth K t.aR "row_of" t.df
 jw:f6 K "row_of" "Rules.row_of" jd ["self","letter"] t.df t.jo
 g8:Meth K t.aR "deed" t.gC
 lr:f6 K "deed" "Rules.deed" nE ["self","letter"] t.gC t.k6
 g9:Meth K t.aR "word" t.gD
 lu:f6 K "word" "Rules.word" nF ["self","letter"] t.gD t.k7
 fw:Meth K t.aR "word_of" t.a6
 sW:Binds K t.iH ["self","text","most"] [.int 8 t.iI]
 uy:Bl K "word_of" "Rules.word_of" a5 t.a6 t.iH
 Hv:W.keepIn K (.ref t.a6)=true
 Hw:Binds K t.iH ["self","text","most"] []
 sX:iS K "_law_cell" Dq ["_law_script","_law_k"] t.zX t.z6
 pO:iS K "_law_whole" zI ["_law_found"] t.uY t.vb
 jL:iS K "_law_alphabet" qC ["_law_cell_here","_law_many"] t.nK t.nO
 sY:iS K "_law_text" Dr ["_law_number","_law_alphabet_here","_law_most"] t.zY t.z7
 pP:iS K "_law_shape" zJ ["_law_script","_law_far"] t.uZ t.vc
 yF:iS K "_law_big" JI ["_law_script","_law_k"] t.E6 t.Fb
 yG:iS K "_law_row" s_row ["_law_rows","_law_letter"] t.E7 t.Fc
 yH:iS K "_law_out" BQ ["_law_rows","_law_text_here","_law_age","_law_most"] t.E8 t.Fd
 mS:iS K "_law_turned" v9 ["_law_ways","_law_spot","_law_by"] t.rJ t.rN
 pQ:iS K "_law_along" zK ["_law_ways","_law_spot"] t.u0 t.vd
 pR:iS K "_law_drawn" kO ["_law_ways","_law_rows","_law_text_here"] t.u5 t.vf
 sZ:iS K "_law_next" Ds ["_law_ways","_law_pen_here","_law_deed"] t.zZ t.z8
 yI:iS K "_law_pen" JJ ["_law_found","_law_ways"] t.E9 t.Fe
 B3:iS K "law" JK ["_law_script"] t.rK t.wA
 JY:mg "all"=none
 Dx:mg "bool"=none
 oU:mg "dict"=none
 l8:mg "enumerate"=none
 B4:mg "int"=none
 gJ:mg "isinstance"=none
 gN:mg "len"=none
 Ac:mg "list"=none
 Ff:mg "max"=none
 Fg:mg "min"=none
 d9:mg "range"=none
 qJ:mg "reversed"=none
 B5:mg "sum"=none
 rP:mg "tuple"=none
theorem RV {K:W.Frag}{h:Heap}{mg:Str->Option Value}(X:K.In h)(G:h.Ns mainGlobals mg){uU uV je dH dJ gc eY eB bF dw gw b8 fD rH gx gy gz dy cB dA cC cD gA eC uW iq nJ jS ir uX zW pI eD cm bA bZ da oT gB fE b9 bO eE bS aM bj cM cN cn fF fS jf kQ fe i3 dB df gC gD a6 zX uY nK zY uZ E6 E7 E8 rJ u0 u5 zZ E9 rK aU cj aR ar aw ay k8 c8:Addr}{u6 u7 jg kR kS nL l4 jh dk iu kT dY jT rL kU kW kX iw iy kY ji u9 iz nM jX iC va z5 pJ jk ff dZ fT gF rM gG jY d0 fg jl dM bU cW iD iE fh jZ fU jm kZ k4 l5 iG jo k6 k7 z6 vb nO z7 vc Fb Fc Fd rN vd vf z8 Fe wA:FuncData}{j0 j4 j5 iI y0 y1 y2 y3:Tok}{y4:Option Addr}{y5:Nat}{y6:Array (Option Value)}{JZ J0 J1 J2 J3:Tok}{y7:Option Addr}{y8:Nat}{y9:Array (Option Value)}{wL wM:Tok}{y10 y11:Option Addr}{y12:Array (Option Value)}{y13 y14 y15 y16 ZL y18:Value}{mv:Addr}{y19:Option Addr}{y20:Value}{y21:Nat}{y22:Array (Option Value)}{y23 y24:Option Addr}{y25:Array (Option Value)}{y26 y27 y28 y29 ZM y31:Value}{mw:Addr}{y32:Option Addr}{y33:Value}{y34:Nat}{y35:Array (Option Value)}{y36 y37:Option Addr}{y38:Array (Option Value)}{y39 y40 y41 y42 ZN y44:Value}{mx:Addr}{y45:Option Addr}{y46:Value}{y47:Nat}{y48:Array (Option Value)}{y49 y50:Option Addr}{y51:Array (Option Value)}{y52 y53 y54 y55 ZO y57:Value}{kH:Addr}{y58:Option Addr}{y59:Value}{y60:Nat}{y61:Array (Option Value)}
   (jJ:GW K "Quarter" aU)
   (nP:GW K "Sixth" cj)
   (d5:GW K "Rules" aR)
   (aN:GW K "Growth" ar)
   (aB:GW K "Track" aw)
   (bT:GW K "Drawing" ay)
   (qH:QL K aU)
   (wF:QL K cj)
   (wG:L2.Mk K aR fe)
   (sU:L2.Mk K ar fE)
   (wH:L2.Mk K aw gx)
   (qI:L2.Mk K ay eD)
   (iJ:W.findIn K (.ref aR) "drawer"=some none)
   (aV:W.findIn K (.ref aR) "row_by_letter"=some none)
   (cb:W.findIn K (.ref ar) "rules"=some none)
   (gd:W.findIn K (.ref ar) "seed"=some none)
   (cG:W.findIn K (.ref ar) "tallies"=some none)
   (cH:W.findIn K (.ref ar) "lengths"=some none)
   (dC:W.findIn K (.ref aw) "drawer"=some none)
   (bB:W.findIn K (.ref aw) "deed_count"=some none)
   (bE:W.findIn K (.ref aw) "last_way"=some none)
   (aZ:W.findIn K (.ref aw) "last_spot"=some none)
   (ck:W.findIn K (.ref aw) "stroke_count"=some none)
   (cq:W.findIn K (.ref aw) "reaches"=some none)
   (eF:W.findIn K (.ref aw) "touches"=some none)
   (eG:W.findIn K (.ref aw) "crosses"=some none)
   (b0:W.findIn K (.ref ay) "growth"=some none)
   (b5:W.findIn K (.ref ay) "tracks"=some none)
   (J4:W.nsIn K mainGlobals "DEEDS"=some (some (.ref k8)))
   (J5:K.lookup k8=some ⟨.type "tuple",y4,.seq #[.str "stroke" JZ,.str "step" J0,.str "left" J1,.str "right" J2,.str "rest" J3] y5,y6⟩)
   (wN:W.nsIn K mainGlobals "GOING_DEEDS"=some (some (.ref c8)))
   (wO:K.lookup c8=some ⟨.type "tuple",y7,.seq #[.str "stroke" wL,.str "step" wM] y8,y9⟩)
   (Ad:W.nsIn K mainGlobals "MOST_ROWS"=some (some (.int 6 y0)))
   (uz:W.nsIn K mainGlobals "MOST_IN_WORD"=some (some (.int 8 y1)))
   (x6:W.nsIn K mainGlobals "LAST_ROUND"=some (some (.int 200 y2)))
   (uA:W.nsIn K mainGlobals "MOST_WRITTEN"=some (some (.int 400 y3)))
   (pK:iS K "added" zF ["one","other"] uU u6)
   (pL:iS K "cross" zG ["one","other"] uV u7)
   (eI:iS K "turn_of_deed" lJ ["deed"] je jg)
   (fM:Meth K aU "way_of" dH)
   (gT:Meth K cj "way_of" dH)
   (k9:f6 K "way_of" "Pen.way_of" nu ["self","number"] dH kR)
   (fN:Meth K aU "turned" dJ)
   (gU:Meth K cj "turned" dJ)
   (lb:f6 K "turned" "Pen.turned" nv ["self","spot","by"] dJ kS)
   (gW:Meth K aU "step" gc)
   (jq:Meth K cj "step" gc)
   (nQ:f6 K "step" "Pen.step" qA ["self","way"] gc nL)
   (gf:Meth K aU "after" eY)
   (iX:Meth K cj "after" eY)
   (l6:f6 K "after" "Pen.after" oK ["self","deed","spot","way"] eY l4)
   (eK:Meth K aU "ways" eB)
   (jr:f6 K "ways" "Quarter.ways" lK ["self"] eB jh)
   (cu:Meth K aU "turned_left" bF)
   (dm:f6 K "turned_left" "Quarter.turned_left" fL ["self","spot"] bF dk)
   (dS:Meth K aU "along" dw)
   (iK:f6 K "along" "Quarter.along" kA ["self","way","spot"] dw iu)
   (gX:Meth K cj "ways" gw)
   (lg:f6 K "ways" "Sixth.ways" ny ["self"] gw kT)
   (dg:Meth K cj "turned_left" b8)
   (d6:f6 K "turned_left" "Sixth.turned_left" gR ["self","spot"] b8 dY)
   (gh:Meth K cj "along" fD)
   (j6:f6 K "along" "Sixth.along" mj ["self","way","spot"] fD jT)
   (mQ:iS K "pen_of" v7 ["ways"] rH rL)
   (lh:M8 K "__init__" "Track.__init__" nz ["self","pen","deed_count","last_way","last_spot","stroke_count","reaches","touches","crosses"] gx kU)
   (gY:Meth K aw "many" gy)
   (lj:f6 K "many" "Track.many" nA ["self"] gy kW)
   (gZ:Meth K aw "turn" gz)
   (ll:f6 K "turn" "Track.turn" nB ["self"] gz kX)
   (fi:Meth K aw "strokes" dy)
   (iL:f6 K "strokes" "Track.strokes" kB ["self"] dy iw)
   (dN:Meth K aw "shift" cB)
   (y62:K.lookup cB=some ⟨y13,y10,.func (W.fnOf "shift" "Track.shift" (cg cw) (aE cw) (af cw) (.ref mv) y14 y15 y16 y11 ZL y18),y12⟩)
   (y63:K.lookup mv=some ⟨y20,y19,.seq #[.int 0 j0] y21,y22⟩)
   (y64:W.codeIn K ZL "Track.shift"=true)
   (y65:W.keepIn K (.ref cB)=true)
   (fj:Meth K aw "by_ways" dA)
   (iM:f6 K "by_ways" "Track.by_ways" fC ["self","numbers","first"] dA iy)
   (gi:Meth K aw "reach" cC)
   (y66:K.lookup cC=some ⟨y26,y23,.func (W.fnOf "reach" "Track.reach" (cg cz) (aE cz) (af cz) (.ref mw) y27 y28 y29 y24 ZM y31),y25⟩)
   (y67:K.lookup mw=some ⟨y33,y32,.seq #[.int 0 j4] y34,y35⟩)
   (y68:W.codeIn K ZM "Track.reach"=true)
   (y69:W.keepIn K (.ref cC)=true)
   (gj:Meth K aw "touch" cD)
   (y70:K.lookup cD=some ⟨y39,y36,.func (W.fnOf "touch" "Track.touch" (cg cA) (aE cA) (af cA) (.ref mx) y40 y41 y42 y37 ZN y44),y38⟩)
   (y71:K.lookup mx=some ⟨y46,y45,.seq #[.int 0 j5] y47,y48⟩)
   (y72:W.codeIn K ZN "Track.touch"=true)
   (y73:W.keepIn K (.ref cD)=true)
   (g7:Meth K aw "area" gA)
   (lp:f6 K "area" "Track.area" nC ["self"] gA kY)
   (fO:Meth K aw "joined" eC)
   (jt:f6 K "joined" "Track.joined" lL ["self","other"] eC ji)
   (pM:iS K "still" zH ["pen"] uW u9)
   (dD:iS K "track_of_deed" cL ["pen","deed"] iq iz)
   (jK:iS K "track_of" qB ["pen","deeds"] nJ nM)
   (fG:iS K "check_round" ml ["age","first","last"] jS jX)
   (dF:iS K "check_written" kC ["many"] ir iC)
   (pN:iS K "tally" rC ["rules","word"] uX va)
   (sV:iS K "once" v8 ["rules","word"] zW z5)
   (lz:iS K "written" sN ["rules","word","age"] pI pJ)
   (ju:M8 K "__init__" "Drawing.__init__" f7 ["self","growth"] eD jk)
   (cX:Meth K ay "join_all" cm)
   (fk:f6 K "join_all" "Drawing.join_all" iU ["self","tracks"] cm ff)
   (cO:Meth K ay "deepen_to" bA)
   (d7:f6 K "deepen_to" "Drawing.deepen_to" b7 ["self","age"] bA dZ)
   (dh:Meth K ay "stretch" bZ)
   (fV:f6 K "stretch" "Drawing.stretch" cF ["self","age","begin","end"] bZ fT)
   (dt:Meth K ay "pen_at" da)
   (gH:f6 K "pen_at" "Drawing.pen_at" jH ["self","age","place"] da gF)
   (mR:iS K "summed" kh ["tallies","letters"] oT rM)
   (dc:iS K "waiting_pieces" eu ["word","rounds"] gB gG)
   (j7:M8 K "__init__" "Growth.__init__" dQ ["self","rules","start"] fE jY)
   (cY:Meth K ar "rules_told" b9)
   (d8:f6 K "rules_told" "Growth.rules_told" gS ["self"] b9 d0)
   (di:Meth K ar "deepen_to" bO)
   (fm:f6 K "deepen_to" "Growth.deepen_to" bN ["self","age"] bO fg)
   (fo:Meth K ar "enter" eE)
   (jv:f6 K "enter" "Growth.enter" lM ["self","age"] eE jl)
   (cP:Meth K ar "check_place" bS)
   (dO:f6 K "check_place" "Growth.check_place" f9 ["self","age","place"] bS dM)
   (bI:Meth K ar "check_letter_place" aM)
   (bV:f6 K "check_letter_place" "Growth.check_letter_place" cV ["self","age","place"] aM bU)
   (cv:Meth K ar "check_stretch" bj)
   (cZ:f6 K "check_stretch" "Growth.check_stretch" e6 ["self","age","begin","end"] bj cW)
   (eO:Meth K ar "length" cM)
   (iN:f6 K "length" "Growth.length" dv ["self","age"] cM iD)
   (eP:Meth K ar "pieces" cN)
   (iO:f6 K "pieces" "Growth.pieces" ip ["self","age","begin","end"] cN iE)
   (dj:Meth K ar "letter_at" cn)
   (fq:f6 K "letter_at" "Growth.letter_at" iV ["self","age","place"] cn fh)
   (fP:Meth K ar "part" fF)
   (j8:f6 K "part" "Growth.part" ij ["self","age","begin","end"] fF jZ)
   (cI:iS K "is_small_letter" jc ["text"] fS fU)
   (eQ:iS K "is_word_over" gb ["word","letters"] jf jm)
   (gI:iS K "check_rows" e9 ["rows"] kQ kZ)
   (lq:M8 K "__init__" "Rules.__init__" kN ["self","ways","rows"] fe k4)
   (iY:Meth K aR "pen" i3)
   (l7:f6 K "pen" "Rules.pen" oM ["self"] i3 l5)
   (fu:Meth K aR "letters" dB)
   (iP:f6 K "letters" "Rules.letters" kE ["self"] dB iG)
   (fQ:Meth K aR "row_of" df)
   (jw:f6 K "row_of" "Rules.row_of" jd ["self","letter"] df jo)
   (g8:Meth K aR "deed" gC)
   (lr:f6 K "deed" "Rules.deed" nE ["self","letter"] gC k6)
   (g9:Meth K aR "word" gD)
   (lu:f6 K "word" "Rules.word" nF ["self","letter"] gD k7)
   (fw:Meth K aR "word_of" a6)
   (y74:K.lookup a6=some ⟨y52,y49,.func (W.fnOf "word_of" "Rules.word_of" (cg a5) (aE a5) (af a5) (.ref kH) y53 y54 y55 y50 ZO y57),y51⟩)
   (y75:K.lookup kH=some ⟨y59,y58,.seq #[.int 8 iI] y60,y61⟩)
   (y76:W.codeIn K ZO "Rules.word_of"=true)
   (y77:W.keepIn K (.ref a6)=true)
   (sX:iS K "_law_cell" Dq ["_law_script","_law_k"] zX z6)
   (pO:iS K "_law_whole" zI ["_law_found"] uY vb)
   (jL:iS K "_law_alphabet" qC ["_law_cell_here","_law_many"] nK nO)
   (sY:iS K "_law_text" Dr ["_law_number","_law_alphabet_here","_law_most"] zY z7)
   (pP:iS K "_law_shape" zJ ["_law_script","_law_far"] uZ vc)
   (yF:iS K "_law_big" JI ["_law_script","_law_k"] E6 Fb)
   (yG:iS K "_law_row" s_row ["_law_rows","_law_letter"] E7 Fc)
   (yH:iS K "_law_out" BQ ["_law_rows","_law_text_here","_law_age","_law_most"] E8 Fd)
   (mS:iS K "_law_turned" v9 ["_law_ways","_law_spot","_law_by"] rJ rN)
   (pQ:iS K "_law_along" zK ["_law_ways","_law_spot"] u0 vd)
   (pR:iS K "_law_drawn" kO ["_law_ways","_law_rows","_law_text_here"] u5 vf)
   (sZ:iS K "_law_next" Ds ["_law_ways","_law_pen_here","_law_deed"] zZ z8)
   (yI:iS K "_law_pen" JJ ["_law_found","_law_ways"] E9 Fe)
   (B3:iS K "law" JK ["_law_script"] rK wA)
   (JY:W.nsIn K mainGlobals "all"=some none)
   (Dx:W.nsIn K mainGlobals "bool"=some none)
   (oU:W.nsIn K mainGlobals "dict"=some none)
   (l8:W.nsIn K mainGlobals "enumerate"=some none)
   (B4:W.nsIn K mainGlobals "int"=some none)
   (gJ:W.nsIn K mainGlobals "isinstance"=some none)
   (gN:W.nsIn K mainGlobals "len"=some none)
   (Ac:W.nsIn K mainGlobals "list"=some none)
   (Ff:W.nsIn K mainGlobals "max"=some none)
   (Fg:W.nsIn K mainGlobals "min"=some none)
   (d9:W.nsIn K mainGlobals "range"=some none)
   (qJ:W.nsIn K mainGlobals "reversed"=some none)
   (B5:W.nsIn K mainGlobals "sum"=some none)
   (rP:W.nsIn K mainGlobals "tuple"=some none)
   : ∃ t,Txt K mg t/\t.rK=rK:=
 ⟨⟨uU,uV,je,dH,dJ,gc,eY,eB,bF,dw,gw,b8,fD,rH,gx,gy,gz,dy,cB,dA,cC,cD,gA,eC,uW,iq,nJ,jS,ir,uX,zW,pI,eD,cm,bA,bZ,da,oT,gB,fE,b9,bO,eE,bS,aM,bj,cM,cN,cn,fF,fS,jf,kQ,fe,i3,dB,df,gC,gD,a6,zX,uY,nK,zY,uZ,E6,E7,E8,rJ,u0,u5,zZ,E9,rK,u6,u7,jg,kR,kS,nL,l4,jh,dk,iu,kT,dY,jT,rL,kU,kW,kX,iw,(W.fnOf "shift" "Track.shift" (cg cw) (aE cw) (af cw) (.ref mv) y14 y15 y16 y11 ZL y18),iy,(W.fnOf "reach" "Track.reach" (cg cz) (aE cz) (af cz) (.ref mw) y27 y28 y29 y24 ZM y31),(W.fnOf "touch" "Track.touch" (cg cA) (aE cA) (af cA) (.ref mx) y40 y41 y42 y37 ZN y44),kY,ji,u9,iz,nM,jX,iC,va,z5,pJ,jk,ff,dZ,fT,gF,rM,gG,jY,d0,fg,jl,dM,bU,cW,iD,iE,fh,jZ,fU,jm,kZ,k4,l5,iG,jo,k6,k7,(W.fnOf "word_of" "Rules.word_of" (cg a5) (aE a5) (af a5) (.ref kH) y53 y54 y55 y50 ZO y57),z6,vb,nO,z7,vc,Fb,Fc,Fd,rN,vd,vf,z8,Fe,wA,j0,j4,j5,iI,aU,cj,aR,ar,aw,ay,k8,c8,y0,y1,y2,y3,K⟩,⟨rfl,
   W.mg_of X G,
   W.mg_none_of X G,
   jJ,
   nP,
   d5,
   aN,
   aB,
   bT,
   qH,
   wF,
   wG,
   sU,
   wH,
   qI,
   iJ,
   aV,
   cb,
   gd,
   cG,
   cH,
   dC,
   bB,
   bE,
   aZ,
   ck,
   cq,
   eF,
   eG,
   b0,
   b5,
   W.mg_of X G J4,
   fun H=>.tup (vs:=[.str "stroke",.str "step",.str "left",.str "right",.str "rest"]) (.inr ⟨_,_,_,J5,rfl,rfl,aaM rfl,.cons ⟨_,rfl⟩ (.cons ⟨_,rfl⟩ (.cons ⟨_,rfl⟩ (.cons ⟨_,rfl⟩ (.cons ⟨_,rfl⟩ (.nil)))))⟩) (.cons (.str _) (.cons (.str _) (.cons (.str _) (.cons (.str _) (.cons (.str _) (.nil)))))),
   W.mg_of X G wN,
   fun H=>.tup (vs:=[.str "stroke",.str "step"]) (.inr ⟨_,_,_,wO,rfl,rfl,aaM rfl,.cons ⟨_,rfl⟩ (.cons ⟨_,rfl⟩ (.nil))⟩) (.cons (.str _) (.cons (.str _) (.nil))),
   W.mg_of X G Ad,
   W.mg_of X G uz,
   W.mg_of X G x6,
   W.mg_of X G uA,
   pK,
   pL,
   eI,
   fM,
   gT,
   k9,
   fN,
   gU,
   lb,
   gW,
   jq,
   nQ,
   gf,
   iX,
   l6,
   eK,
   jr,
   cu,
   dm,
   dS,
   iK,
   gX,
   lg,
   dg,
   d6,
   gh,
   j6,
   mQ,
   lh,
   gY,
   lj,
   gZ,
   ll,
   fi,
   iL,
   dN,
   fun s us X hl=>by obtain⟨z,rfl⟩:=C0 hl;exact BindsTo.of_defaults rfl (X _ _ y63) rfl rfl rfl,
   rg (st:=cw) y62 y64,
   y65,
   fun s us X hl=>by obtain⟨z,y,rfl⟩:=zw hl;exact BindsTo.of_defaults rfl (X _ _ y63) rfl rfl rfl,
   fj,
   iM,
   gi,
   fun s us X hl=>by obtain⟨z,rfl⟩:=C0 hl;exact BindsTo.of_defaults rfl (X _ _ y67) rfl rfl rfl,
   rg (st:=cz) y66 y68,
   y69,
   fun s us X hl=>by obtain⟨z,y,rfl⟩:=zw hl;exact BindsTo.of_defaults rfl (X _ _ y67) rfl rfl rfl,
   gj,
   fun s us X hl=>by obtain⟨z,rfl⟩:=C0 hl;exact BindsTo.of_defaults rfl (X _ _ y71) rfl rfl rfl,
   rg (st:=cA) y70 y72,
   y73,
   fun s us X hl=>by obtain⟨z,y,rfl⟩:=zw hl;exact BindsTo.of_defaults rfl (X _ _ y71) rfl rfl rfl,
   g7,
   lp,
   fO,
   jt,
   pM,
   dD,
   jK,
   fG,
   dF,
   pN,
   sV,
   lz,
   ju,
   cX,
   fk,
   cO,
   d7,
   dh,
   fV,
   dt,
   gH,
   mR,
   dc,
   j7,
   cY,
   d8,
   di,
   fm,
   fo,
   jv,
   cP,
   dO,
   bI,
   bV,
   cv,
   cZ,
   eO,
   iN,
   eP,
   iO,
   dj,
   fq,
   fP,
   j8,
   cI,
   eQ,
   gI,
   lq,
   iY,
   l7,
   fu,
   iP,
   fQ,
   jw,
   g8,
   lr,
   g9,
   lu,
   fw,
   fun s us X hl=>by obtain⟨z,y,rfl⟩:=Q6 hl;exact BindsTo.of_defaults rfl (X _ _ y75) rfl rfl rfl,
   rg (st:=a5) y74 y76,
   y77,
   fun s us X hl=>match us,hl with | [_,_,_],_=>BindsTo.of_defaults rfl (X _ _ y75) rfl rfl rfl,
   sX,
   pO,
   jL,
   sY,
   pP,
   yF,
   yG,
   yH,
   mS,
   pQ,
   pR,
   sZ,
   yI,
   B3,
   W.mg_none_of X G JY,
   W.mg_none_of X G Dx,
   W.mg_none_of X G oU,
   W.mg_none_of X G l8,
   W.mg_none_of X G B4,
   W.mg_none_of X G gJ,
   W.mg_none_of X G gN,
   W.mg_none_of X G Ac,
   W.mg_none_of X G Ff,
   W.mg_none_of X G Fg,
   W.mg_none_of X G d9,
   W.mg_none_of X G qJ,
   W.mg_none_of X G B5,
   W.mg_none_of X G rP⟩,rfl⟩
theorem RW {K:W.Frag}{mg:Str->Option Value}{t:dR}(T:Txt K mg t)(s:Shared)(u:Value):BindsTo s t.wA ⟨[u],[]⟩ [("_law_script",u)]:=by
 obtain⟨oc,od,kV,doc,pm,an,bo,ct,yj,e,lk,mz⟩:=T.B3.F.ex
 rw[e];exact .of_eq rfl
abbrev CX:sd:=CX0
noncomputable def sg (c:Nat):Str:=⟨#[c]⟩
noncomputable def tx (w:List Nat):Str:=⟨w.toArray⟩
structure Row where
 c:Nat
 d:Str
 w:List Nat
noncomputable def l9:List Str:=["stroke","step","left","right","rest"]
noncomputable def n9 (r:Row):Dt:=.tup [.str (sg r.c),.str r.d,.str (tx r.w)]
def small (c:Nat):Prop:=97<=c/\c<=122
structure bP (rows:List Row):Prop where
 pos:0 < rows.length
 le:rows.length<=6
 nd:(rows.map (·.c)).Nodup
 sm:∀ r∈rows,small r.c
 dd:∀ r∈rows,r.d∈l9
 wp:∀ r∈rows,0 < r.w.length/\r.w.length<=8
 wo:∀ r∈rows,∀ x∈r.w,x∈rows.map (·.c)
noncomputable def tf (rows:List Row):List (Key×Dt):=rows.map fun r=>(.inr (sg r.c),n9 r)
abbrev Rl:=List Dt->Res->Prop
noncomputable def wy (six:Bool):Int:=if six then 6 else 4
noncomputable def dR.pc (t:dR)(six:Bool):Addr:=if six then t.cj else t.aU
noncomputable def dR.x8 (t:dR)(six:Bool)(rows:List Row):Dt:=.obj t.aR [("drawer",.i4 (.obj (t.pc six) [])),("row_by_letter",.eX (tf rows))]
theorem qK {a b:Nat}(h:sg a=sg b):a=b:=by
 have:=congrArg (fun s:Str=>s.cps.toList) h
 simpa [sg] using this
theorem J6 {c:Nat}{L:List Nat}:sg c∈L.map sg ↔ c∈L:=by
 constructor
 . intro h
   obtain⟨x,hx,e⟩:=aaR.mp h
   rw[<- qK e];exact hx
 . exact fun h=>aaR.mpr ⟨c,h,rfl⟩
theorem ZP {c:Nat}(h:97<=c):Q1 "a" (sg c)=true:=by
 have e:("a":Str).cps.toList=[97]:=rfl
 unfold Q1
 rw[e]
 show(!decide ([c] < [97]))=true
 have:¬ ([c] < [97]):=by
   intro z
   rcases List.cons_lt_cons_iff.mp z with z | ⟨_,z⟩
   . omega
   . exact absurd z (by simp)
 simp[this]
theorem ZQ {c:Nat}(h:c<=122):Q1 (sg c) "z"=true:=by
 have e:("z":Str).cps.toList=[122]:=rfl
 unfold Q1
 rw[e]
 show(!decide ([122] < [c]))=true
 have:¬ ([122] < [c]):=by
   intro z
   rcases List.cons_lt_cons_iff.mp z with z | ⟨_,z⟩
   . omega
   . exact absurd z (by simp)
 simp[this]
theorem wQ (w:List Nat):Sg.signs (tx w)=(w.map sg).map Dt.str:=by
 unfold Sg.signs tx
 rw[aao];rfl
theorem gk (w:List Nat):(tx w).length=w.length:=by show w.toArray.size=w.length;simp
theorem jx {w:List Nat}(h:∀ x∈w,x < 128):kz (tx w)=true:=by
 unfold kz tx
 rw[Array.all_eq_true_iff_forall_mem]
 intro x hx
 exact decide_eq_true (h x (by simpa using hx))
theorem tm:∀ {rows:List Row},(rows.map (·.c)).Nodup->∀ {r:Row},r∈rows->mG (tf rows) (.inr (sg r.c))=some (n9 r)
 | [],_,r,h=>by cases h
 | q::rows,nd,r,h=>by
   rw[aau,abu] at nd
   rcases aaH.mp h with rfl | h
   . exact rm (p:=(.inr (sg r.c),n9 r)) rfl
   . have ne:¬ (Sum.inr (sg q.c):Key)=.inr (sg r.c):=fun z=>nd.1 (by
       rw[qK (Sum.inr.inj z)]
       exact aaR.mpr ⟨r,h,rfl⟩)
     show mG ((.inr (sg q.c),n9 q)::tf rows) _=_
     rw[oG (p:=(.inr (sg q.c),n9 q)) ne]
     exact tm nd.2 h
theorem qO {n:Nat}(h:n<=2000):n<=sizeLine:=aaA h (by decide)
def Ng:Rl:=fun ds r=>∃ c,ds=[.str (sg c)]/\small c/\r=.ret (.bl true)
def RX:Rl:=fun ds r=>∃ (w L:List Nat),ds=[.str (tx w),.lst ((L.map sg).map .str)]/\(0 < w.length/\w.length<=8)/\(∀ x∈w,x∈L)/\(∀ x∈L,small x)/\r=.ret (.bl true)
def Nh:Rl:=fun ds r=>∃ rows,ds=[.lst (rows.map n9)]/\bP rows/\r=.ret .cS
noncomputable def RY:Stmt->Scope
 | .Return (some (.BoolOp _ [_,.Call _ [.ListComp _ _ sc _] _ _] _)) _=>sc
 | _=>af (.Pass ⟨0,0,0,0⟩)
noncomputable abbrev Ni:Scope:=RY ((aE gb).getD 0 (.Pass ⟨0,0,0,0⟩))
theorem Fh:gM Ni (af gb) oS ["sign","letters"] ["sign"] [1]=true:=by decide +kernel
noncomputable abbrev GZ:Scope:=OP ((aE e9).getD 2 (.Pass ⟨0,0,0,0⟩))
theorem yJ:gM GZ (af e9) nI ["row"] ["row"] []=true:=by decide +kernel
noncomputable abbrev Nj:Scope:=OP ((aE e9).getD 3 (.Pass ⟨0,0,0,0⟩))
theorem Fi:gM Nj (af e9) nI ["first"] ["first"] []=true:=by decide +kernel
theorem c6 {X:Cx}{G:Gr}{dl:List Slot}{zs zs':List Dt}{wi:TI}(h:qu X G dl zs wi)(e:zs'=zs):qu X G dl zs' wi:=by subst e;exact h
variable {P:Program}{w:World}{K:W.Frag}{mg:Str->Option Value}{base:Heap}{t:dR}
theorem J7 (T:Txt K mg t):GF P w K mg base CX 1 "is_small_letter" 1 Ng:=by
 refine⟨_,_,_,hV T.cI.F qG rfl fun bo A outer s H E G ds r hr hl hR=>?_,(T.g T.cI.a),T.cI.F.kp,T.cI.b⟩
 obtain⟨c,rfl,⟨h1,h2⟩,rfl⟩:=hR
 exact⟨_,.rt _,ao (aA (vI (u:=true) (v:=true) (aK (QQ (uJ T.gN (aa 0 rfl) (qO (n:=1) (by decide))) ai) rfl) fun _=>(qX (aK (IZ aO (aa 0 rfl) aO) (by rw[ZP h1,ZQ h2];rfl)))))⟩
theorem Nk (T:Txt K mg t):GF P w K mg base CX 1 "is_word_over" 2 RX:=by
 refine⟨_,_,_,hV T.eQ.F uu rfl fun bo A outer s H E G ds r hr hl hR=>?_,(T.g T.eQ.a),T.eQ.F.kp,T.eQ.b⟩
 obtain⟨wd,L,rfl,⟨h0,h8⟩,hw,hL,rfl⟩:=hR
 have Q5:kz (tx wd)=true:=jx fun x hx=>by have:=hL x (hw x hx);unfold small at this;omega
 have hlen:=gk wd
 have e1:(decide ((1:Int)<=((tx wd).length:Nat)) && decide (((tx wd).length:Nat)<=(8:Int)))=true:=by
   rw[hlen,decide_eq_true (by omega),decide_eq_true (by omega)];rfl
 have e2:(((wd.filter fun _=>true).map fun x=>Dt.bl (decide (sg x∈L.map sg))))=((aan wd.length true).map Dt.bl):=by
   rw[aav.mpr (fun _ _=>rfl)]
   refine List.ext_getElem (by simp) fun i h1 h2=>?_
   simp only[aaQ,List.getElem_replicate]
   have hi:i < wd.length:=by simpa using h1
   rw[decide_eq_true (J6.mpr (hw _ (aaP hi)))]
 have e3:(aan wd.length true).all id=true:=by simp
 have es:wd.map (fun x=>Dt.str (sg x))=Sg.signs (tx wd):=by rw[wQ,aao];rfl
 refine⟨_,.rt _,ao (aA (vI (u:=true) (v:=true) (aK (Ja ai (uJ T.gN (aa 0 rfl) (qO (by omega))) (jP (w:=.int 8) T.wI ⟨_,rfl⟩ fun _=>.int 8)) (congrArg Dt.bl e1)) fun _=>(qX (aK (Q3 (bs:=aan wd.length true) T.JY rfl (aK (q9 (eh wd (fun x=>Dt.str (sg x)) (fun x=>.bl (decide (sg x∈L.map sg))) (fun x=>[.val (.str (sg x))]) (fun _=>true) rfl (bD Fh) (fZ (aa 0 rfl)) (bR (bD Fh) rfl) (c6 (cE Q5) es) (fun a _=>bY) (.nil fun _ _=>rfl)
   (fun a ha _ C fp s' H' G'=>Q2 (aa 0 rfl) (aa 1 rfl)) (qO (by omega)))) (congrArg Dt.lst e2))) (congrArg Dt.bl e3)))))⟩
theorem Dy {k:Nat}{ds:List Dt}{K:W.Frag}{H:Hp}{vs:List V}(r:bH K H vs ds)(hk:k<=ds.length):bH K H (F8 vs none (some (k:Int))) (ds.take k):=by
 unfold F8
 rw[HT.HU,HT.Mb,abJ,r.length,Nat.min_eq_left hk,Nat.sub_zero]
 exact r.take k
theorem Nl {X:Cx}{G:Gr}{dl:List Slot}{a b:Expr}{ds:List Dt}{k:Nat}{pos p2:Pos}(ha:EE X G dl a (.lst ds))(hb:EE X G dl b (.int (k:Int)))(hk:k<=ds.length):EO X G dl (.Subscript a (.Slice none (some b) none p2) pos) (.lst (ds.take k)):=
 gL (A4 Md ha Ea (Eb hb)) fun st H Q zq=>Bn zq fun Hf zq=>have S:=zq.1;have kk:=zq.2;⟨Hf,S,fun v Hf1 H1 g1 r1=>by
   cases r1 with
   | @lst q vs _ hq rp=>
     refine⟨Hf1,S.grow g1,fun z bX H2 g2 r2=>?_⟩
     cases r2
     have g:=g1.trans g2
     refine⟨(k:Int),rfl,q,vs,rfl,.of (g2.big _ _ (g1.sub _ _ hq)),fun p hp=>kk p bX _ (g.trans (.fJ g.sub hp)) (g.big.free hp) (g.sub.free hp) ⟨_,ak,Dy (rp.mono g2.bG) hk⟩⟩⟩
theorem eU {L:List Dt}{L':List Dt}(e:L=L'){X:Cx}{G:Gr}{dl:List Slot}{z:Expr}(h:EO X G dl z (.lst L)):EE X G dl z (.lst L'):=by subst e;exact q9 h
theorem J8 (T:Txt K mg t):GF P w K mg base CX 2 "check_rows" 1 Nh:=by
 refine⟨_,_,_,hV T.gI.F qg rfl fun bo A outer s H E G ds r hr hl hR=>?_,(T.g T.gI.a),T.gI.F.kp,T.gI.b⟩
 obtain⟨rows,rfl,ok,rfl⟩:=hR
 have Fj:=J7 (P:=P) (w:=w) (base:=base) T
 have RZ:=Nk (P:=P) (w:=w) (base:=base) T
 have nd:=qg.nd
 have hp:=ok.pos
 have hl6:=ok.le
 let cs:=rows.map (·.c)
 let lt:List Dt:=(cs.map sg).map Dt.str
 have e0:(decide ((((rows.map n9).length:Nat):Int)=0))=false:=by rw[k5];exact decide_eq_false (by omega)
 have e1:(decide ((6:Int) < (((rows.map n9).length:Nat):Int)))=false:=by rw[k5];exact decide_eq_false (by omega)
 have ef:((rows.filter fun _=>true).map fun r=>Dt.str (sg r.c))=lt:=by
   rw[aav.mpr (fun _ _=>rfl)]
   show _=((rows.map (·.c)).map sg).map Dt.str
   rw[aao,aao];rfl
 have ez:(rows.map fun r=>Dt.str (sg r.c))=lt:=by
   show _=((rows.map (·.c)).map sg).map Dt.str
   rw[aao,aao];rfl
 have hsz:rows.length<=sizeLine:=qO (by omega)
 let S:Nat->List Slot:=fun _=>[.val (.lst (rows.map n9)),.val (.lst lt),.val (.lst lt),.br,.br,.br]
 let xs:=rows.map n9
 have Nm:xs.length=rows.length:=k5 ..
 refine⟨.nx (S rows.length),.nx _,ag (aI (u:=false) (aQ (kr (En T.gN (aa 0 rfl)) ai) e0) (fun h=>nomatch h) (fun h=>aT))
   (ag (aI (u:=false) (aQ (tR (En T.gN (aa 0 rfl)) (jP (w:=.int 6) T.B2 ⟨_,rfl⟩ fun _=>.int 6)) e1) (fun h=>nomatch h) (fun h=>aT))
   (ag (IS 1 rows n9 (fun r=>Dt.str (sg r.c)) (fun r=>[.val (n9 r)]) (fun _=>true) rfl nd (bD yJ) (ik (aa 0 rfl)) (bR (bD yJ) rfl) gq (fun a _=>bY) (.nil fun _ _=>rfl) (fun a ha _ C fp s' H' G'=>aC (aa 0 rfl) ai rfl) hsz)
   ?r1))⟩
 rw[ef]
 refine qr 1 (w:=.lst lt) (ag (IS 2 rows (fun r=>Dt.str (sg r.c)) (fun r=>Dt.str (sg r.c)) (fun r=>[.val (.str (sg r.c))]) (fun _=>true) rfl nd (bD Fi) (ik (aa 1 rfl)) (bR (bD Fi) rfl) (c6 gq ez) (fun a _=>bY)
   (.one fun a ha C fp s' H' G'=>vF (aW Fj ax hr (ae (aa 0 rfl) ah) ⟨a.c,rfl,ok.sm a ha,rfl⟩)) (fun a ha _ C fp s' H' G'=>aa 0 rfl) hsz) ?r2)
 rw[ef]
 refine qr 2 (w:=.lst lt) (ao (nh (o:=.nx (S rows.length)) (m:=rows.length) (aam xs.length) (fun(j:Nat)=>.tup [.int j,xs.getD j .cS]) (fun(j:Nat) dl=>(dl.set 3 (.val (.int j))).set 4 (.val (xs.getD j .cS))) S rfl PassesOwn.leaving
   (MJ rfl T.l8 (ae (aa 0 rfl) ah)) (Gy (xs:=xs)) (ql rfl (cQ (bC nd rfl (.inl rfl)) (cQ (bC nd rfl (.inl rfl)) m5))) (fun a _=>EG) (Le.of ⟨rfl,rfl,rfl,trivial⟩) (by rw[aaI,Nm];exact aaa _) (fun j a hj ha=>?l) (by rw[aaI,Nm];exact .all rfl)))
 rw[aaL (by omega)] at ha
 cases ha
 have ex:xs.getD j .cS=n9 rows[j]:=by
   show(rows.map n9).getD j .cS=_
   rw[YO,aab,k3 hj];rfl
 have hm:=aaP hj
 have YS:cs.length=rows.length:=k5 ..
 have eT:lt.take j=((cs.take j).map sg).map Dt.str:=by
   show((cs.map sg).map Dt.str).take j=_
   rw[<- List.map_take,<- List.map_take]
 have dn:lt.length=rows.length:=by show((cs.map sg).map Dt.str).length=_;rw[k5,k5,YS]
 have ZR:sg rows[j].c ∉ (cs.take j).map sg:=by
   intro z
   have z:=J6.mp z
   obtain⟨i,hi,e⟩:=aaX.mp z
   rw[aay] at hi
   rw[abv] at e
   have h:=aa0.mp ok.nd i j (by rw[k5];omega) (by rw[k5];exact hj) (by omega)
   exact h (e.trans (aaQ (f:=Row.c) (l:=rows) (i:=j) (h:=by rw[k5];exact hj)).symm)
 have en:(!decide (sg rows[j].c∈(cs.take j).map sg))=true:=by rw[decide_eq_false ZR];rfl
 have v4:∀ {X:Cx} {G:Gr} {dl:List Slot} {e:Expr},EE X G dl e (xs.getD j .cS)->EE X G dl e (.tup [.str (sg rows[j].c),.str rows[j].d,.str (tx rows[j].w)]):=fun h=>by rw[ex] at h;exact h
 refine .nx (ag (au 5 nd (vI (u:=true) (v:=true) (aW Fj ax hr (ae (aC (v4 (aa 4 rfl)) ai rfl) ah) ⟨_,rfl,ok.sm _ hm,rfl⟩) fun _=>(qX (aK (MK (xs:=(cs.take j).map sg) (aC (v4 (aa 4 rfl)) ai rfl) (eU eT (Nl (aa 1 rfl) (aa 3 rfl) (by rw[dn];exact aa7 hj)))) (congrArg Dt.bl en)))))
   (ao (aI (u:=false) (sq (u:=true) (vH (vG (u:=true) (v:=true) (vF (aa 5 rfl)) fun _=>(vG (u:=true) (v:=true) (aQ (C5 (xs:=l9) (aC (v4 (aa 4 rfl)) ai rfl) (jP (w:=.ref t.k8) T.Aa rfl T.Ab)) (decide_eq_true (ok.dd _ hm))) fun _=>(zl (vF (aW RZ ax hr (ae (aC (v4 (aa 4 rfl)) ai rfl) (ae (aa 2 rfl) ah)) ⟨rows[j].w,cs,rfl,ok.wp _ hm,ok.wo _ hm,fun x hx=>?_,rfl⟩))))))) (fun h=>nomatch h) (fun h=>aT)))) (Le.of ⟨rfl,rfl,rfl,trivial⟩)
 obtain⟨r,hr',rfl⟩:=aaR.mp hx
 exact ok.sm r hr'
def J9 (t:dR):Rl:=fun ds r=>∃ six,ds=[.int (wy six)]/\r=.ret (.i4 (.obj (t.pc six) []))
def Nn (t:dR):Rl:=fun ds r=>∃ six rows,ds=[.int (wy six),.lst (rows.map n9)]/\bP rows/\r=.own (.obj t.aR [("drawer",.i4 (.obj (t.pc six) [])),("row_by_letter",.eX (tf rows))])
noncomputable def rr (r:Row):Str×List Dt:=(sg r.c,[.str r.d,.str (tx r.w)])
theorem Fl (rows:List Row):rows.map n9=(rows.map rr).map vR:=by rw[aao];rfl
theorem R0 (rows:List Row):tf rows=qc (rows.map rr):=by unfold qc tf;rw[aao];rfl
theorem V4 {rows:List Row}(nd:(rows.map (·.c)).Nodup):((rows.map rr).map (·.1)).Nodup:=by
 have e:(rows.map rr).map (·.1)=(rows.map (·.c)).map sg:=by rw[aao,aao];rfl
 rw[e]
 exact List.Pairwise.map sg (fun a b h z=>h (qK z)) nd
theorem G1 (T:Txt K mg t):GF P w K mg base CX 1 "pen_of" 1 (J9 t):=by
 refine⟨_,_,_,hV T.mQ.F GX rfl fun bo A outer s H E G ds r hr hl hR=>?_,(T.g T.mQ.a),T.mQ.F.kp,T.mQ.b⟩
 obtain⟨six,rfl,rfl⟩:=hR
 cases six with
 | false=>exact⟨_,.rt _,i8 (aI (kr (aa 0 rfl) ai) (fun h=>ao (aA (BL T.qH (T.g T.jJ.a)))) (fun h=>absurd h (by decide)))⟩
 | true=>exact⟨_,.rt _,ag (aI (kr (aa 0 rfl) ai) (fun h=>absurd h (by decide)) (fun h=>aT)) (i8 (aI (kr (aa 0 rfl) ai) (fun h=>ao (aA (BL T.wF (T.g T.nP.a)))) (fun h=>absurd h (by decide))))⟩
theorem Ka (T:Txt K mg t):TL P w K mg base CX 3 "Rules" t.aR 3 (Nn t):=by
 refine⟨_,_,_,Xc T.lq.F qh rfl fun bo A outer s H E G z ds r hr hl hR=>?_,T.wG,(T.g T.d5.a),T.lq.b⟩
 obtain⟨six,rows,rfl,ok,rfl⟩:=hR
 have Kb:=G1 (P:=P) (w:=w) (base:=base) T
 have Np:=J8 (P:=P) (w:=w) (base:=base) T
 have nd:=qh.nd
 have hu:(A.deeper (envOfC "Rules.__init__" (af kN) s.heap.objs.size t.fe bo)).units+1 < cLine:=by have:=hr.units;omega
 rw[R0,Fl]
 refine⟨_,.nx ?fin,ag (au 3 nd (aW Kb ax hr (ae (aa 1 rfl) ah) ⟨six,rfl,rfl⟩))
   (ag (lX (aW Np ax hr (ae (aa 2 rfl) ah) ⟨rows,by rw[Fl],ok,rfl⟩))
   (ag (ky (aa 3 rfl) T.d5.cl T.iJ)
   (Je 2 4 (C:=t.aR) (rows:=rows.map rr) (dlu:=[.br,.val (.int (wy six)),.val (.lst ((rows.map rr).map vR)),.val (.i4 (.obj (t.pc six) [])),.br]) hu nd rfl PassesOwn.leaving T.d5.cl T.aV rfl rfl rfl rfl (by decide) (by decide) rfl (V4 ok.nd) (by rw[k5];exact aaO ok.le (by decide))
     (fun r=>aC (aa 4 rfl) ai (lW (j:=0) rfl)) (fun r=>MP T.rP (aa 4 rfl)))))⟩
 rfl
open PySem.Builtin.Str in
theorem yK (x:Str){a b:Nat}(hab:a<=b)(hb:b<=x.length){l u:Option Int}(h:strSliceIndices l u 1 x.length=strSliceIndices (some (a:Int)) (some (b:Int)) 1 x.length):Txt.slice x l u=⟨((x.cps.toList.drop a).take (b - a)).toArray⟩:=by
 unfold Txt.slice
 rw[h,PySem.StrLaws.sliced_plain x hab hb]
 split
 . rename_i q
   rw[PySem.StrLaws.strSliceIndices_plain hab hb,k5,aaI] at q
   have q:b - a=x.length:=by simpa using q
   have ea:a=0:=by omega
   have eb:b=x.length:=by omega
   subst ea eb
   rw[abJ,Nat.sub_zero]
   have:x.cps.toList.take x.length=x.cps.toList:=abm (by simp[Str.length])
   rw[this]
 . rfl
open PySem.Builtin.Str in
theorem Kc (L:List Nat){k:Nat}(h:k<=L.length):Txt.slice (tx L) none (some (k:Int))=tx (L.take k):=by
 rw[yK (tx L) (a:=0) (b:=k) (aaW _) (by rw[gk];exact h)]
 . show(⟨(((L.toArray.toList).drop 0).take (k - 0)).toArray⟩:Str)=_
   simp[tx]
 . simp[strSliceIndices]
   have e:max (0:Int) (min 0 ((tx L).length:Int))=0:=by omega
   rw[e]
open PySem.Builtin.Str in
theorem Dz (L:List Nat){k:Nat}(h:k<=L.length):Txt.slice (tx L) (some (k:Int)) none=tx (L.drop k):=by
 rw[yK (tx L) (a:=k) (b:=(tx L).length) (by rw[gk];exact h) (aaa _)]
 . show(⟨(((L.toArray.toList).drop k).take ((tx L).length - k)).toArray⟩:Str)=_
   rw[gk,List.toList_toArray,abm (by rw[aba];exact aaa _)]
   rfl
 . simp[strSliceIndices]
   have e:max (0:Int) (min (if ((tx L).length:Int) < 0 then ((tx L).length:Int)+(tx L).length else (tx L).length) ((tx L).length:Int))=(tx L).length:=by
     rw[if_neg (by omega)];omega
   rw[e]
theorem R1 (a b:List Nat):tx a ++ tx b=tx (a ++ b):=by
 show(⟨a.toArray ++ b.toArray⟩:Str)=⟨(a ++ b).toArray⟩
 simp
theorem V5 (L:List Nat){k:Nat}(h:k < L.length):oy (tx L).cps.toList (k:Int)=some (L.getD k 0):=by
 show oy L.toArray.toList (k:Int)=_
 rw[List.toList_toArray]
 refine lW ?_
 rw[YO,k3 h];rfl
section
variable {X:Cx}{G:Gr}{dl:List Slot}{a b:Expr}{L M:List Nat}{k:Nat}{pos p p2:Pos}
theorem Ae (ha:EE X G dl a (.str (tx L)))(hb:EE X G dl b (.str (tx M)))(h:L.length+M.length<=2000):EE X G dl (.BinOp a .Add b pos) (.str (tx (L ++ M))):=
 aK (QG ha hb (by rw[gk,gk];exact qO h)) (by rw[R1])
theorem Af (ha:EE X G dl a (.str (tx L)))(hb:EE X G dl b (.int (k:Int)))(h:k < L.length)(hl:L.length<=2000)(hs:kL b:=by intro _ _;rfl):EE X G dl (.Subscript a b pos) (.str (tx [L.getD k 0])):=
 QJ ha hb (V5 L h) (by rw[gk];exact qO hl) hs
theorem Fm (ha:EE X G dl a (.str (tx L)))(hb:EE X G dl b (.int (k:Int)))(h:k<=L.length)(hl:L.length<=2000):EE X G dl (.Subscript a (.Slice none (some b) none p2) pos) (.str (tx (L.take k))):=
 aK (IV ha IU (EH hb) (by rw[gk];exact qO hl)) (by rw[Kc L h])
theorem G3 (ha:EE X G dl a (.str (tx L)))(hb:EE X G dl b (.int (k:Int)))(h:k<=L.length)(hl:L.length<=2000):EE X G dl (.Subscript a (.Slice (some b) none none p2) pos) (.str (tx (L.drop k))):=
 aK (IV ha (EH hb) IU (by rw[gk];exact qO hl)) (by rw[Dz L h])
theorem oV (hm:X.mg "len"=none)(ha:EE X G dl a (.str (tx L)))(hl:L.length<=2000)(hg:Gl X "len":=by rfl)(he:starEach [a] X.env=[(false,eval a X.env)]:=by rfl):EE X G dl (.Call (.Name "len" p) [a] [] pos) (.int (L.length:Nat)):=
 aK (uJ hm ha (by rw[gk];exact qO hl) hg he) (by rw[gk])
end
theorem Fn:∀ (Ls:List (List Nat)) (a:List Nat),(Ls.map tx).foldl (fun acc p=>acc ++ (("":Str).cps) ++ p.cps) a.toArray=(a ++ Ls.flatten).toArray
 | [],a=>by simp
 | l::r,a=>by
   have e:a.toArray ++ ("":Str).cps ++ (tx l).cps=(a ++ l).toArray:=by
     show a.toArray ++ (#[]:Array Nat) ++ l.toArray=_
     simp
   rw[aau,List.foldl_cons,e,Fn r,aa4,List.append_assoc]
theorem Nq (Ls:List (List Nat)):Txt.join "" (Ls.map tx)=tx Ls.flatten:=by
 cases Ls with
 | nil=>rfl
 | cons l r=>
   show(⟨(r.map tx).foldl (fun acc p=>acc ++ (("":Str).cps) ++ p.cps) l.toArray⟩:Str)=_
   rw[Fn,aa4];rfl
theorem lC {X:Cx}{G:Gr}{dl:List Slot}{a e:Expr}{apos bM:Pos}{Ls:List (List Nat)}(ha:EE X G dl a (.str ""))(he:EE X G dl e (.lst ((Ls.map tx).map .str)))(hw:Ls.flatten.length+Ls.length<=100000)(i5:attributeBase a "join" X.env (eval a X.env)=eval a X.env:=by rfl)
   (se:((backTo bM (starEach [e] X.env)).all (fun x=>!x.1) && (backToKw bM (keywordEach [] X.env)).all (fun x=>x.1.isSome) && decide ([e].length+([]:List Keyword).length+(if ([]:List Keyword).isEmpty then 0 else 1) < 30))=true:=by rfl)
   (i6:(apos.endLine == bM.line)=true:=by rfl) (mV:starEach [e] X.env=(false,eval e X.env)::starEach [] X.env:=by rfl):EE X G dl (.Call (.Attribute a "join" apos) [e] [] bM) (.str (tx Ls.flatten)):=by
 have e1:((Ls.map tx).map (·.length)).sum=Ls.flatten.length:=by
   rw[List.length_flatten,aao]
   congr 1
 exact aK (MN ha he (joinOk_of_weight (by rw[e1,k5];omega) (by decide)) i5 se i6 mV) (by rw[Nq])
theorem B6:∀ rows:List Row,(rows.map fun r=>[r.c]).flatten=rows.map (·.c)
 | []=>rfl
 | a::r=>by rw[aau,aa4,B6 r];rfl
noncomputable def dR.xB (t:dR)(six:Bool)(rows:List Row):List (Str×Dt):=[("drawer",.i4 (.obj (t.pc six) [])),("row_by_letter",.eX (tf rows))]
noncomputable def lO (rows:List Row)(x:Nat):Str:=((rows.find? fun r=>decide (r.c=x)).map (·.d)).getD ""
noncomputable def wordOf (rows:List Row)(x:Nat):List Nat:=((rows.find? fun r=>decide (r.c=x)).map (·.w)).getD []
theorem eW {rows:List Row}{x:Nat}(h:x∈rows.map (·.c)):∃ r∈rows,r.c=x/\lO rows x=r.d/\wordOf rows x=r.w:=by
 obtain⟨q,hq,e⟩:=aaR.mp h
 cases f:rows.find? (fun r=>decide (r.c=x)) with
 | none=>exact absurd (decide_eq_true e) (by simpa using List.find?_eq_none.mp f q hq)
 | some r=>
   refine⟨r,List.mem_of_find?_eq_some f,of_decide_eq_true (List.find?_some (p:=fun r:Row=>decide (r.c=x)) f),?_,?_⟩
   . unfold lO;rw[f];rfl
   . unfold wordOf;rw[f];rfl
def DA (t:dR):Rl:=fun ds r=>∃ six rows,ds=[t.x8 six rows]/\bP rows/\r=.ret (.str (tx (rows.map (·.c))))
def Kd (t:dR):Rl:=fun ds r=>∃ six rows q,ds=[t.x8 six rows,.str (sg q.c)]/\bP rows/\q∈rows/\r=.ret (n9 q)
def Nr (t:dR):Rl:=fun ds r=>∃ six rows x,ds=[t.x8 six rows,.str (sg x)]/\bP rows/\x∈rows.map (·.c)/\r=.ret (.str (lO rows x))
def Nt (t:dR):Rl:=fun ds r=>∃ six rows x,ds=[t.x8 six rows,.str (sg x)]/\bP rows/\x∈rows.map (·.c)/\r=.ret (.str (tx (wordOf rows x)))
theorem yL (T:Txt K mg t):MF P w K mg base CX 1 t.aR "row_of" 2 (Kd t):=by
 refine⟨T.d5.cl,_,_,_,hV T.jw.F uw rfl fun bo A outer s H E G ds r hr hl hR=>?_,T.fQ,T.jw.b⟩
 obtain⟨six,rows,q,rfl,ok,hq,rfl⟩:=hR
 have hu:(A.deeper (envOfC "Rules.row_of" (af jd) s.heap.objs.size t.df bo)).units+1 < cLine:=by have:=hr.units;omega
 have hv:=tm ok.nd hq
 exact⟨_,.rt _,ag (aI (u:=false) (aQ (EJ hu (aa 1 rfl) (aH (fs:=t.xB six rows) (aa 0 rfl) T.d5.cl T.aV rfl)) (by rw[hv];rfl)) (fun h=>nomatch h) (fun h=>aT))
   (ao (aA (MO hu (aH (fs:=t.xB six rows) (aa 0 rfl) T.d5.cl T.aV rfl) (aa 1 rfl) hv (fun _ _=>rfl))))⟩
theorem rQ (T:Txt K mg t):MF P w K mg base CX 2 t.aR "word" 2 (Nt t):=by
 refine⟨T.d5.cl,_,_,_,hV T.lu.F xW rfl fun bo A outer s H E G ds r hr hl hR=>?_,T.g9,T.lu.b⟩
 obtain⟨six,rows,x,rfl,ok,hx,rfl⟩:=hR
 obtain⟨q,hq,rfl,e1,e2⟩:=eW hx
 have m:=yL (P:=P) (w:=w) (base:=base) T
 rw[e2]
 exact⟨_,.rt _,ao (aA (aC (bb (fs:=t.xB six rows) (aa 0 rfl) m ax hr (ae (aa 1 rfl) ah) ⟨six,rows,q,rfl,ok,hq,rfl⟩) ai rfl))⟩
theorem kj (T:Txt K mg t):MF P w K mg base CX 1 t.aR "letters" 1 (DA t):=by
 refine⟨T.d5.cl,_,_,_,hV T.iP.F sT rfl fun bo A outer s H E G ds r hr hl hR=>?_,T.fu,T.iP.b⟩
 obtain⟨six,rows,rfl,ok,rfl⟩:=hR
 have h6:=ok.le
 have el:((tf rows).map fun kd=>kD kd.1)=((rows.map fun r=>[r.c]).map tx).map Dt.str:=by
   unfold tf
   rw[aao,aao,aao];rfl
 have ef:(rows.map fun r=>[r.c]).flatten=rows.map (·.c):=B6 rows
 refine⟨_,.rt _,ao (aA (aK (lC (Ls:=rows.map fun r=>[r.c]) aO (eU el (Jg T.Ac rfl (aH (fs:=t.xB six rows) (aa 0 rfl) T.d5.cl T.aV rfl))) (by rw[ef,k5,k5];omega)) (by rw[ef])))⟩
theorem Ke (T:Txt K mg t):MF P w K mg base CX 2 t.aR "deed" 2 (Nr t):=by
 refine⟨T.d5.cl,_,_,_,hV T.lr.F xV rfl fun bo A outer s H E G ds r hr hl hR=>?_,T.g8,T.lr.b⟩
 obtain⟨six,rows,x,rfl,ok,hx,rfl⟩:=hR
 obtain⟨q,hq,rfl,e1,e2⟩:=eW hx
 have m:=yL (P:=P) (w:=w) (base:=base) T
 rw[e1]
 exact⟨_,.rt _,ao (aA (aC (bb (fs:=t.xB six rows) (aa 0 rfl) m ax hr (ae (aa 1 rfl) ah) ⟨six,rows,q,rfl,ok,hq,rfl⟩) ai rfl))⟩
def yM (t:dR):Rl:=fun ds r=>∃ (six:Bool) (rows:List Row) (w:List Nat) (m:Nat),ds=[t.x8 six rows,.str (tx w),.int (m:Nat)]/\bP rows/\(∀ x∈w,x∈rows.map (·.c))/\(0 < w.length/\w.length<=m/\m<=1000)/\r=.ret (.str (tx w))
theorem Nu (w:List Nat):w.map (fun x=>Dt.str (sg x))=Sg.signs (tx w):=by rw[wQ,aao];rfl
theorem ma {rows:List Row}(ok:bP rows){w:List Nat}(h:∀ x∈w,x∈rows.map (·.c)):kz (tx w)=true:=jx fun x hx=>by
 obtain⟨r,hr,rfl⟩:=aaR.mp (h x hx)
 have:=ok.sm r hr
 unfold small at this;omega
theorem DB (T:Txt K mg t):ke P w K mg base CX 1 t.a6 t.iH ["self","text","most"] (Ek K 3 (yM t)):=by
 refine Xb T.uy mP rfl fun bo A outer s H E G ds r hr hl hR=>?_
 obtain⟨six,rows,wd,m,rfl,ok,hw,⟨h0,hm,Xm⟩,rfl⟩:=hR
 have nd:=mP.nd
 have hu:(A.deeper (envOfC "Rules.word_of" (af a5) s.heap.objs.size t.a6 bo)).units+1 < cLine:=by have:=hr.units;omega
 have ne:¬ tx wd=("":Str):=fun z=>by
   have:=congrArg Str.length z
   rw[gk] at this
   have e:("":Str).length=0:=rfl
   omega
 let xs:=Sg.signs (tx wd)
 have Nm:xs.length=wd.length:=by show(Sg.signs (tx wd)).length=_;rw[pz,gk]
 let S:Nat->List Slot:=fun _=>[.val (t.x8 six rows),.val (.str (tx wd)),.val (.int (m:Nat)),.br,.br]
 refine⟨_,.rt _,ag (aI (u:=false) (aQ (cK (aa 1 rfl) aO) (decide_eq_false ne)) (fun h=>nomatch h) (fun h=>aT))
   (ag (nh (o:=.nx (S wd.length)) (m:=wd.length) (aam xs.length) (fun(j:Nat)=>.tup [.int j,xs.getD j .cS]) (fun(j:Nat) dl=>(dl.set 3 (.val (.int j))).set 4 (.val (xs.getD j .cS))) S rfl PassesOwn.leaving
     (Ji rfl T.l8 (ae (aa 1 rfl) ah)) (Df (ma ok hw)) (ql rfl (cQ (bC nd rfl (.inl rfl)) (cQ (bC nd rfl (.inl rfl)) m5))) (fun a _=>EG) (Le.of ⟨rfl,rfl,rfl,trivial⟩) (by rw[aaI,Nm];exact aaa _) (fun j a hj ha=>?_) (by rw[aaI,Nm];exact .all rfl))
   (ao (aA (aa 1 rfl))))⟩
 rw[aaL (by omega)] at ha
 cases ha
 have ex:xs.getD j .cS=.str (sg wd[j]):=by
   show(Sg.signs (tx wd)).getD j .cS=_
   rw[<- Nu,YO,aab,k3 hj];rfl
 have v4:∀ {X:Cx} {G:Gr} {dl:List Slot} {e:Expr},EE X G dl e (xs.getD j .cS)->EE X G dl e (.str (sg wd[j])):=fun h=>by rw[ex] at h;exact h
 obtain⟨q,hq,hc,_,_⟩:=eW (hw _ (aaP hj))
 have hv:=tm ok.nd hq
 rw[hc] at hv
 exact .nx (ao (aI (u:=false) (vH (qW (u:=false) (v:=false) (aQ (Er (aa 3 rfl) (aa 2 rfl)) (decide_eq_false (by omega))) fun _=>(qp (aQ (EJ hu (v4 (aa 4 rfl)) (aH (fs:=t.xB six rows) (aa 0 rfl) T.d5.cl T.aV rfl)) (by rw[hv];rfl))))) (fun h=>nomatch h) (fun h=>aT))) (Le.of ⟨rfl,rfl,rfl,trivial⟩)
theorem ZT {K:W.Frag}:∀ H,bH K H [.int 8] [.int 8]:=fun _=>.cons (.int 8) .nil
theorem tY (T:Txt K mg t):MA P w K mg base CX 1 t.aR "word_of" 3 [.int 8] (yM t):=⟨T.d5.cl,_,_,_,_,[.int 8],DB T,T.fw,T.sW,.cons ⟨_,rfl⟩ .nil,ZT⟩
def R3 (t:dR):Rl:=fun ds r=>∃ six rows,ds=[t.x8 six rows]/\r=.ret (.i4 (.obj (t.pc six) []))
theorem Fp (T:Txt K mg t):MF P w K mg base CX 1 t.aR "pen" 1 (R3 t):=by
 refine⟨T.d5.cl,_,_,_,hV T.l7.F zT rfl fun bo A outer s H E G ds r hr hl hR=>?_,T.iY,T.l7.b⟩
 obtain⟨six,rows,rfl,rfl⟩:=hR
 exact⟨_,.rt _,ao (aA (aH (fs:=t.xB six rows) (aa 0 rfl) T.d5.cl T.iJ rfl))⟩
noncomputable def tl (six:Bool)(p:Int×Int):Int×Int:=if six then (-p.2,p.1+p.2) else (-p.2,p.1)
noncomputable def tn (six:Bool):Nat->Int×Int->Int×Int
 | 0,p=>p
 | n+1,p=>tl six (tn six n p)
noncomputable def sp (p:Int×Int):Dt:=.tup [.int p.1,.int p.2]
theorem du (six:Bool):0 < wy six:=by cases six <;> decide
def R4 (t:dR)(six:Bool):Rl:=fun ds r=>ds=[.obj (t.pc six) []]/\r=.ret (.int (wy six))
def R5 (t:dR)(six:Bool):Rl:=fun ds r=>∃ p,ds=[.obj (t.pc six) [],sp p]/\r=.ret (sp (tl six p))
def Kf (t:dR)(six:Bool):Rl:=fun ds r=>∃ z,ds=[.obj (t.pc six) [],.int z]/\r=.ret (.int (z % wy six))
def Kg (t:dR)(six:Bool):Rl:=fun ds r=>∃ p b,ds=[.obj (t.pc six) [],sp p,.int b]/\r=.ret (sp (tn six (b % wy six).toNat p))
theorem vg (T:Txt K mg t)(six:Bool):MF P w K mg base CX 1 (t.pc six) "ways" 1 (R4 t six):=by
 cases six with
 | false=>
   refine⟨T.jJ.cl,_,_,_,hV T.jr.F uh rfl fun bo A outer s H E G ds r hr hl hR=>?_,T.eK,T.jr.b⟩
   obtain⟨rfl,rfl⟩:=hR
   exact⟨_,.rt _,ao (aA ai)⟩
 | true=>
   refine⟨T.nP.cl,_,_,_,hV T.lg.F xJ rfl fun bo A outer s H E G ds r hr hl hR=>?_,T.gX,T.lg.b⟩
   obtain⟨rfl,rfl⟩:=hR
   exact⟨_,.rt _,ao (aA ai)⟩
theorem Nv (T:Txt K mg t)(six:Bool):MF P w K mg base CX 1 (t.pc six) "turned_left" 2 (R5 t six):=by
 cases six with
 | false=>
   refine⟨T.jJ.cl,_,_,_,hV T.dm.F nG rfl fun bo A outer s H E G ds r hr hl hR=>?_,T.cu,T.dm.b⟩
   obtain⟨p,rfl,rfl⟩:=hR
   exact⟨_,.rt _,(ao (aA (aS (ae (iQ (aC (aa 1 rfl) ai rfl)) (ae (aC (aa 1 rfl) ai rfl) ah)) AA3)))⟩
 | true=>
   refine⟨T.nP.cl,_,_,_,hV T.d6.F oN rfl fun bo A outer s H E G ds r hr hl hR=>?_,T.dg,T.d6.b⟩
   obtain⟨p,rfl,rfl⟩:=hR
   exact⟨_,.rt _,(ao (aA (aS (ae (iQ (aC (aa 1 rfl) ai rfl)) (ae (aL (aC (aa 1 rfl) ai rfl) (aC (aa 1 rfl) ai rfl)) ah)) AA3)))⟩
theorem Fq {six:Bool}{m:Str}{f:Addr}(hQ:Meth K t.aU m f)(hS:Meth K t.cj m f):Meth K (t.pc six) m f:=by cases six <;> assumption
theorem Fs (T:Txt K mg t)(six:Bool):uG K (t.pc six):=by cases six;exact T.jJ.cl;exact T.nP.cl
theorem mT (T:Txt K mg t)(six:Bool):MF P w K mg base CX 2 (t.pc six) "way_of" 2 (Kf t six):=by
 refine⟨Fs T six,_,_,_,hV T.k9.F xI rfl fun bo A outer s H E G ds r hr hl hR=>?_,Fq T.fM T.gT,T.k9.b⟩
 obtain⟨z,rfl,rfl⟩:=hR
 have h1:=vg (P:=P) (w:=w) (base:=base) T six
 refine⟨_,.rt _,ao (aA (cJ (aa 1 rfl) (dq (aa 0 rfl) h1 ax hr ⟨rfl,rfl⟩) (du six)))⟩
theorem yN (T:Txt K mg t)(six:Bool):MF P w K mg base CX 3 (t.pc six) "turned" 3 (Kg t six):=by
 refine⟨Fs T six,_,_,_,hV T.lb.F mn rfl fun bo A outer s H E G ds r hr hl hR=>?_,Fq T.fN T.gU,T.lb.b⟩
 obtain⟨p,b,rfl,rfl⟩:=hR
 have h1:=mT (P:=P) (w:=w) (base:=base) T six
 have h2:=Nv (P:=P) (w:=w) (base:=base) T six
 have VG:=aaB b (abi (du six))
 have Y5:=aaG b (du six)
 have hb3:wy six<=6:=by cases six <;> decide
 refine⟨_,.rt _,ag (gm 3 (fun k=>[.val (.obj (t.pc six) []),.val (sp (tn six k p)),.val (.int b),.br]) mn.nd rfl PassesOwn.leaving T.d9
   (ae (bb (aa 0 rfl) h1 ax hr (ae (aa 2 rfl) ah) ⟨b,rfl,rfl⟩) ah) ⟨by omega,by omega⟩ (Le.of ⟨rfl,rfl,rfl,trivial⟩) (aaa _) (fun k hk=>?_) (.all rfl)) (ao (aA (aa 1 rfl)))⟩
 refine .nx (ao (au 1 mn.nd (bb (aa 0 rfl) h2 ax hr (ae (aa 1 rfl) ah) ⟨_,rfl,rfl⟩))) (Le.of ⟨rfl,rfl,rfl,trivial⟩)
theorem Ft {m n:Nat}{a b:Int}(ha:a.natAbs < 2 ^ m)(hb:b.natAbs < 2 ^ n)(h:m+n<=134217728):IntMulOk a b:=IntMulOk.of_le (PySem.intBits_le_iff.mpr ha) (PySem.intBits_le_iff.mpr hb) h
noncomputable def iZ (six:Bool)(w:Int)(p:Int×Int):Int:=
 if six then (if w=0 then 2 * p.1+p.2 else if w=1 then p.1+2 * p.2 else if w=2 then p.2 - p.1 else if w=3 then -2 * p.1 - p.2 else if w=4 then -p.1 - 2 * p.2 else p.1 - p.2)
 else (if w=0 then p.1 else if w=1 then p.2 else if w=2 then -p.1 else -p.2)
theorem V6 (six:Bool){w:Int}(h0:0<=w)(h1:w < wy six)(p:Int×Int):iZ six ((w+1) % wy six) (Pf.tl six p)=iZ six w p:=by
 obtain⟨x,y⟩:=p
 cases six with
 | false=>
   have h1:w < 4:=h1
   have h:w=0\/w=1\/w=2\/w=3:=by omega
   rcases h with rfl | rfl | rfl | rfl <;> simp[iZ,Pf.tl,wy]
 | true=>
   have h1:w < 6:=h1
   have h:w=0\/w=1\/w=2\/w=3\/w=4\/w=5:=by omega
   rcases h with rfl | rfl | rfl | rfl | rfl | rfl <;> simp[iZ,Pf.tl,wy] <;> omega
theorem O8 (six:Bool){w:Int}(h0:0<=w)(h1:w < wy six)(p:Int×Int):∀ n:Nat,iZ six ((w+n) % wy six) (tn six n p)=iZ six w p
 | 0=>by
   show iZ six ((w+0) % wy six) p=_
   rw[abn,abw h0 h1]
 | n+1=>by
   have hp:=du six
   have a:=aaB (w+n) (abi hp)
   have b:=aaG (w+n) hp
   show iZ six ((w+((n+1:Nat):Int)) % wy six) (Pf.tl six (tn six n p))=_
   rw[<- O8 six h0 h1 p n,<- V6 six a b]
   congr 1
   rw[Int.emod_add_emod]
   congr 1
   push_cast
   omega
theorem Kh (six:Bool){w:Int}(h0:0<=w)(h1:w < wy six)(b:Int)(p:Int×Int):iZ six ((w+b) % wy six) (tn six (b % wy six).toNat p)=iZ six w p:=by
 have a:=aaB b (abi (du six))
 have e:((((b % wy six).toNat:Nat):Int))=b % wy six:=by omega
 have:=O8 six h0 h1 p (b % wy six).toNat
 rw[e,Int.add_emod_emod] at this
 exact this
def Nw (t:dR)(six:Bool):Rl:=fun ds r=>∃ z p,ds=[.obj (t.pc six) [],.int z,sp p]/\(0<=z/\z < wy six)/\r=.ret (.int (iZ six z p))
theorem V7 {z:Int}(p:Int×Int)(h0:0<=z)(h1:z < 4):oy [Dt.int p.1,Dt.int p.2,Dt.int (-p.1),Dt.int (-p.2)] z=some (Dt.int (iZ false z p)):=by
 have h:z=0\/z=1\/z=2\/z=3:=by omega
 rcases h with rfl | rfl | rfl | rfl <;> rfl
theorem V8 {z:Int}(p:Int×Int)(h0:0<=z)(h1:z < 6):oy [Dt.int (2 * p.1+p.2),Dt.int (p.1+2 * p.2),Dt.int (p.2 - p.1),Dt.int (-2 * p.1 - p.2),Dt.int (-p.1 - 2 * p.2),Dt.int (p.1 - p.2)] z=some (Dt.int (iZ true z p)):=by
 have h:z=0\/z=1\/z=2\/z=3\/z=4\/z=5:=by omega
 rcases h with rfl | rfl | rfl | rfl | rfl | rfl <;> rfl
theorem mod_lt {z m:Int}(h0:0<=z)(h1:z < m):z % m=z:=abw h0 h1
theorem B7 (T:Txt K mg t)(six:Bool):MF P w K mg base CX 3 (t.pc six) "along" 3 (Nw t six):=by
 have rR:=mT (P:=P) (w:=w) (base:=base) T six
 cases six with
 | false=>
   refine⟨T.jJ.cl,_,_,_,hV T.iK.F jI rfl fun bo A outer s H E G ds r hr hl hR=>?_,T.dS,T.iK.b⟩
   obtain⟨z,p,rfl,⟨h0,h1⟩,rfl⟩:=hR
   exact⟨_,.rt _,(ag (au 3 jI.nd (aC (aa 2 rfl) ai rfl))
 (ag (au 4 jI.nd (aC (aa 2 rfl) ai rfl))
 (ao (aA (aC (aS (ae (aa 3 rfl) (ae (aa 4 rfl) (ae (iQ (aa 3 rfl)) (ae (iQ (aa 4 rfl)) ah)))) AA3) (bb (aa 0 rfl) rR ax hr (ae (aa 1 rfl) ah) ⟨z,rfl,rfl⟩) (by rw[mod_lt h0 h1];exact V7 p h0 h1))))))⟩
 | true=>
   refine⟨T.nP.cl,_,_,_,hV T.j6.F lN rfl fun bo A outer s H E G ds r hr hl hR=>?_,T.gh,T.j6.b⟩
   obtain⟨z,p,rfl,⟨h0,h1⟩,rfl⟩:=hR
   exact⟨_,.rt _,(ag (au 3 lN.nd (aC (aa 2 rfl) ai rfl))
 (ag (au 4 lN.nd (aC (aa 2 rfl) ai rfl))
 (ao (aA (aC (aS (ae (aL (fK ai (aa 3 rfl) (pW.ok (aaK ⟨by decide,by decide⟩))) (aa 4 rfl)) (ae (aL (aa 3 rfl) (fK ai (aa 4 rfl) (pW.ok (aaK ⟨by decide,by decide⟩)))) (ae (gO (aa 4 rfl) (aa 3 rfl)) (ae (gO (fK (iQ ai) (aa 3 rfl) (pW.ok (aaK ⟨by decide,by decide⟩))) (aa 4 rfl)) (ae (gO (iQ (aa 3 rfl)) (fK ai (aa 4 rfl) (pW.ok (aaK ⟨by decide,by decide⟩)))) (ae (gO (aa 3 rfl) (aa 4 rfl)) ah)))))) AA3) (bb (aa 0 rfl) rR ax hr (ae (aa 1 rfl) ah) ⟨z,rfl,rfl⟩) (by rw[mod_lt h0 h1];exact V8 p h0 h1))))))⟩
noncomputable def ad (p q:Int×Int):Int×Int:=(p.1+q.1,p.2+q.2)
def Nx:Rl:=fun ds r=>∃ p q,ds=[sp p,sp q]/\r=.ret (sp (ad p q))
noncomputable def x9:List Str:=["stroke","step"]
noncomputable def fW (d:Str):Int:=if d="left" then 1 else if d="right" then -1 else 0
noncomputable def vh (six:Bool)(d:Str)(p:Int×Int)(w:Int):(Int×Int)×Int:=(if d∈x9 then ad p (tn six (w % wy six).toNat (1,0)) else p,(w+fW d) % wy six)
def Ny:Rl:=fun ds r=>∃ d:Str,ds=[.str d]/\r=.ret (.int (fW d))
def R6 (t:dR)(six:Bool):Rl:=fun ds r=>∃ w,ds=[.obj (t.pc six) [],.int w]/\r=.ret (sp (tn six (w % wy six).toNat (1,0)))
def Nz (t:dR)(six:Bool):Rl:=fun ds r=>∃ d p w,ds=[.obj (t.pc six) [],.str d,sp p,.int w]/\d∈l9/\r=.ret (.tup [sp (vh six d p w).1,.int (vh six d p w).2])
theorem B8 (T:Txt K mg t):GF P w K mg base CX 1 "added" 2 Nx:=by
 refine⟨_,_,_,hV T.pK.F JL rfl fun bo A outer s H E G ds r hr hl hR=>?_,(T.g T.pK.a),T.pK.F.kp,T.pK.b⟩
 obtain⟨p,q,rfl,rfl⟩:=hR
 exact⟨_,.rt _,(ao (aA (aS (ae (aL (aC (aa 0 rfl) ai rfl) (aC (aa 1 rfl) ai rfl)) (ae (aL (aC (aa 0 rfl) ai rfl) (aC (aa 1 rfl) ai rfl)) ah)) AA3)))⟩
theorem Ki (T:Txt K mg t):GF P w K mg base CX 1 "turn_of_deed" 1 Ny:=by
 refine⟨_,_,_,hV T.eI.F ug rfl fun bo A outer s H E G ds r hr hl hR=>?_,(T.g T.eI.a),T.eI.F.kp,T.eI.b⟩
 obtain⟨d,rfl,rfl⟩:=hR
 by_cases c0:d="left"
 . rw[show fW d=1 from if_pos c0]
   exact⟨_,.rt _,i8 (aI (cK (aa 0 rfl) aO) (fun h=>ao (aA ai)) (fun h=>absurd c0 (of_decide_eq_false h)))⟩
 by_cases c1:d="right"
 . rw[show fW d=-1 by unfold fW;rw[if_neg c0,if_pos c1]]
   exact⟨_,.rt _,ag (aI (cK (aa 0 rfl) aO) (fun h=>absurd (of_decide_eq_true h) c0) (fun h=>aT)) (i8 (aI (cK (aa 0 rfl) aO) (fun h=>ao (aA (iQ ai))) (fun h=>absurd c1 (of_decide_eq_false h))))⟩
 . rw[show fW d=0 by unfold fW;rw[if_neg c0,if_neg c1]]
   exact⟨_,.rt _,ag (aI (cK (aa 0 rfl) aO) (fun h=>absurd (of_decide_eq_true h) c0) (fun h=>aT)) (ag (aI (cK (aa 0 rfl) aO) (fun h=>absurd (of_decide_eq_true h) c1) (fun h=>aT)) (ao (aA ai)))⟩
theorem NA (T:Txt K mg t)(six:Bool):MF P w K mg base CX 4 (t.pc six) "step" 2 (R6 t six):=by
 refine⟨Fs T six,_,_,_,hV T.nQ.F BR rfl fun bo A outer s H E G ds r hr hl hR=>?_,Fq T.gW T.jq,T.nQ.b⟩
 obtain⟨z,rfl,rfl⟩:=hR
 have h1:=yN (P:=P) (w:=w) (base:=base) T six
 exact⟨_,.rt _,ao (aA (bb (aa 0 rfl) h1 ax hr (ae (aS (ae ai (ae ai ah)) AA3) (ae (aa 1 rfl) ah)) ⟨(1,0),z,rfl,rfl⟩))⟩
theorem Kj (T:Txt K mg t)(six:Bool):MF P w K mg base CX 5 (t.pc six) "after" 4 (Nz t six):=by
 refine⟨Fs T six,_,_,_,hV T.l6.F rE rfl fun bo A outer s H E G ds r hr hl hR=>?_,Fq T.gf T.iX,T.l6.b⟩
 obtain⟨d,p,z,rfl,hd,rfl⟩:=hR
 have h1:=NA (P:=P) (w:=w) (base:=base) T six
 have h2:=B8 (P:=P) (w:=w) (base:=base) T
 have h3:=Ki (P:=P) (w:=w) (base:=base) T
 have h4:=mT (P:=P) (w:=w) (base:=base) T six
 by_cases c:d∈x9
 . rw[show vh six d p z=(ad p (tn six (z % wy six).toNat (1,0)),(z+fW d) % wy six) by unfold vh;rw[if_pos c]]
   exact⟨_,.rt _,(ag (aI (Ey (xs:=l9) (aa 1 rfl) (jP (w:=.ref t.k8) T.Aa rfl T.Ab)) (fun h=>absurd h (by simp[hd])) (fun h=>aT))
 (ag (aI (C5 (xs:=x9) (aa 1 rfl) (jP (w:=.ref t.c8) T.qi rfl T.qj)) (fun h=>
     (ao (au 2 rE.nd (aW h2 ax hr (ae (aa 2 rfl) (ae (bb (aa 0 rfl) h1 ax hr (ae (aa 3 rfl) ah) ⟨_,rfl,rfl⟩) ah)) ⟨_,_,rfl,rfl⟩)))) (fun h=>absurd c (of_decide_eq_false h)))
 (ao (aA (aS (ae (aa 2 rfl) (ae (bb (aa 0 rfl) h4 ax hr (ae (aL (aa 3 rfl) (aW h3 ax hr (ae (aa 1 rfl) ah) ⟨_,rfl,rfl⟩)) ah) ⟨_,rfl,rfl⟩) ah)) AA3)))))⟩
 . rw[show vh six d p z=(p,(z+fW d) % wy six) by unfold vh;rw[if_neg c]]
   exact⟨_,.rt _,(ag (aI (Ey (xs:=l9) (aa 1 rfl) (jP (w:=.ref t.k8) T.Aa rfl T.Ab)) (fun h=>absurd h (by simp[hd])) (fun h=>aT))
 (ag (aI (C5 (xs:=x9) (aa 1 rfl) (jP (w:=.ref t.c8) T.qi rfl T.qj)) (fun h=>absurd (of_decide_eq_true h) c) (fun h=>aT))
 (ao (aA (aS (ae (aa 2 rfl) (ae (bb (aa 0 rfl) h4 ax hr (ae (aL (aa 3 rfl) (aW h3 ax hr (ae (aa 1 rfl) ah) ⟨_,rfl,rfl⟩)) ah) ⟨_,rfl,rfl⟩) ah)) AA3)))))⟩
def sm (p:Int×Int):Prop:=p.1.natAbs < 2 ^ 1000/\p.2.natAbs < 2 ^ 1000
noncomputable def cr (p q:Int×Int):Int:=p.1 * q.2 - p.2 * q.1
def NB:Rl:=fun ds r=>∃ p q,ds=[sp p,sp q]/\(sm p/\sm q)/\r=.ret (.int (cr p q))
theorem Kk (T:Txt K mg t):GF P w K mg base CX 1 "cross" 2 NB:=by
 refine⟨_,_,_,hV T.pL.F JM rfl fun bo A outer s H E G ds r hr hl hR=>?_,(T.g T.pL.a),T.pL.F.kp,T.pL.b⟩
 obtain⟨p,q,rfl,⟨hp,hq⟩,rfl⟩:=hR
 exact⟨_,.rt _,(ao (aA (gO (fK (aC (aa 0 rfl) ai rfl) (aC (aa 1 rfl) ai rfl) (Ft hp.1 hq.2 (by decide))) (fK (aC (aa 0 rfl) ai rfl) (aC (aa 1 rfl) ai rfl) (Ft hp.2 hq.1 (by decide))))))⟩
structure Tr where
 many:Int
 turn:Int
 shift:Int×Int
 aX:Int
 reach:List Int
 bf:List Int
 hE:Int
noncomputable def dR.ZU (t:dR)(six:Bool)(x:Tr):List (Str×FD):=[("drawer",.obj (t.pc six) []),("deed_count",.int x.many),("last_way",.int x.turn),("last_spot",.tup t.K [x.shift.1,x.shift.2]),("stroke_count",.int x.aX),("reaches",.lst x.reach),("touches",.lst x.bf),("crosses",.int x.hE)]
noncomputable def dR.lR (t:dR)(six:Bool)(x:Tr):List (Str×Dt):=[("drawer",.i4 (.obj (t.pc six) [])),("deed_count",.int x.many),("last_way",.int x.turn),("last_spot",.i4 (.tup t.K [x.shift.1,x.shift.2])),("stroke_count",.int x.aX),("reaches",.i4 (.lst x.reach)),("touches",.i4 (.lst x.bf)),("crosses",.int x.hE)]
noncomputable def dR.Fu (t:dR)(six:Bool)(x:Tr):Dt:=.obj t.aw (t.lR six x)
noncomputable def dR.oW (t:dR)(six:Bool)(x:Tr):Dt:=.i4 (.obj t.aw (t.ZU six x))
theorem oX {X:Cx}{G:Gr}{dl:List Slot}{e:Expr}{t:dR}{six:Bool}{x:Tr}(h:EE X G dl e (t.oW six x)):EE X G dl e (t.Fu six x):=O5 h
theorem DC {X:Cx}{G:Gr}{dl:List Slot}{e:Expr}{t:dR}{six:Bool}{x:Tr}(h:EO X G dl e (.obj t.aw (t.lR six x))):EE X G dl e (t.oW six x):=JE (fs:=t.ZU six x) h
theorem lP {X:Cx}{G:Gr}{dl:List Slot}{e:Expr}{t:dR}{six:Bool}(h:EE X G dl e (.i4 (.obj (t.pc six) []))):EE X G dl e (.obj (t.pc six) []):=O5 h
theorem wR {X:Cx}{G:Gr}{dl:List Slot}{e:Expr}{K':W.Frag}{p:Int×Int}(hK:K'=X.K)(h:EE X G dl e (.i4 (.tup K' [p.1,p.2]))):EE X G dl e (sp p):=RG h hK
theorem DD {X:Cx}{G:Gr}{dl:List Slot}{e:Expr}{K':W.Frag}{p:Int×Int}(hK:K'=X.K)(h:EE X G dl e (sp p)):EE X G dl e (.i4 (.tup K' [p.1,p.2])):=RH (ns:=[p.1,p.2]) h hK
noncomputable def wn (six:Bool):Nat:=if six then 6 else 4
theorem wU (six:Bool):(wn six:Int)=wy six:=by cases six <;> rfl
noncomputable def qP (six:Bool)(ns:List Int)(f:Int):List Int:=(aam (wn six)).map fun(w:Nat)=>ns.getD (((w:Int) - f) % wy six).toNat 0
noncomputable def ya (six:Bool)(x y:Tr)(w:Nat):Int:=if (qP six y.reach x.turn).getD w 0+iZ six w x.shift<=x.reach.getD w 0 then x.reach.getD w 0 else (qP six y.reach x.turn).getD w 0+iZ six w x.shift
noncomputable def Ag (six:Bool)(x y:Tr)(w:Nat):Int:=if (qP six y.reach x.turn).getD w 0+iZ six w x.shift<=x.reach.getD w 0 then x.bf.getD w 0 else (qP six y.bf x.turn).getD w 0+x.many
noncomputable def jn (six:Bool)(x y:Tr):Tr where
 many:=x.many+y.many
 turn:=(x.turn+y.turn) % wy six
 shift:=ad x.shift (tn six (x.turn % wy six).toNat y.shift)
 aX:=x.aX+y.aX
 reach:=(aam (wn six)).map (ya six x y)
 bf:=(aam (wn six)).map (Ag six x y)
 hE:=x.hE+y.hE+cr x.shift (tn six (x.turn % wy six).toNat y.shift)
noncomputable def CB (six:Bool):Tr:=⟨0,0,(0,0),0,aan (wn six) 0,aan (wn six) 0,0⟩
noncomputable def one (six:Bool)(d:Str):Tr:=⟨1,(vh six d (0,0) 0).2,(vh six d (0,0) 0).1,if d="stroke" then 1 else 0,(aam (wn six)).map fun(w:Nat)=>if iZ six w (vh six d (0,0) 0).1 > 0 then iZ six w (vh six d (0,0) 0).1 else 0,
 (aam (wn six)).map fun(w:Nat)=>if (if iZ six w (vh six d (0,0) 0).1 > 0 then iZ six w (vh six d (0,0) 0).1 else 0) < 1 then (if iZ six w (vh six d (0,0) 0).1 > 0 then iZ six w (vh six d (0,0) 0).1 else 0) else 1,0⟩
noncomputable def b6 (six:Bool)(ds:List Str):Tr:=ds.foldl (fun x d=>jn six x (one six d)) (CB six)
structure WF (six:Bool)(x:Tr):Prop where
 rl:x.reach.length=wn six
 tl:x.bf.length=wn six
 sm:x.shift.1.natAbs < 2 ^ 990/\x.shift.2.natAbs < 2 ^ 990
def R7 (t:dR):Rl:=fun ds r=>∃ six x,ds=[.i4 (.obj (t.pc six) []),.int x.many,.int x.turn,.i4 (.tup t.K [x.shift.1,x.shift.2]),.int x.aX,.i4 (.lst x.reach),.i4 (.lst x.bf),.int x.hE]/\r=.own (.obj t.aw (t.lR six x))
def Fv (t:dR)(f:Tr->Dt):Rl:=fun ds r=>∃ six x,ds=[t.Fu six x]/\r=.ret (f x)
def Ah (t:dR):Rl:=fun ds r=>∃ six x f,ds=[t.Fu six x,.int f]/\r=.ret (sp (tn six (f % wy six).toNat x.shift))
def V9 (t:dR):Rl:=fun ds r=>∃ six x ns f,ds=[t.Fu six x,.o9 ns,.int f]/\ns.length=wn six/\r=.own (.lst ((qP six ns f).map .int))
def Fw (t:dR):Rl:=fun ds r=>∃ six x f,ds=[t.Fu six x,.int f]/\WF six x/\r=.own (.lst ((qP six x.reach f).map .int))
def Fx (t:dR):Rl:=fun ds r=>∃ six x f,ds=[t.Fu six x,.int f]/\WF six x/\r=.own (.lst ((qP six x.bf f).map .int))
def Kl (t:dR):Rl:=fun ds r=>∃ six x y,ds=[t.Fu six x,t.Fu six y]/\(WF six x/\WF six y)/\r=.ret (t.oW six (jn six x y))
def NC (t:dR):Rl:=fun ds r=>∃ six,ds=[.i4 (.obj (t.pc six) [])]/\r=.ret (t.oW six (CB six))
def G4 (t:dR):Rl:=fun ds r=>∃ six d,ds=[.i4 (.obj (t.pc six) []),.str d]/\d∈l9/\r=.ret (t.oW six (one six d))
def DE (t:dR):Rl:=fun ds r=>∃ (six:Bool) (xs:List Str),ds=[.i4 (.obj (t.pc six) []),.lst (xs.map .str)]/\(∀ d∈xs,d∈l9)/\xs.length<=1000/\r=.ret (t.oW six (b6 six xs))
theorem Ai (T:Txt K mg t):TL P w K mg base CX 1 "Track" t.aw 9 (R7 t):=by
 refine⟨_,_,_,Xc T.lh.F xM rfl fun bo A outer s H E G z ds r hr hl hR=>?_,T.wH,(T.g T.aB.a),T.lh.b⟩
 obtain⟨six,x,rfl,rfl⟩:=hR
 exact⟨_,.nx rfl,ag (ky (aa 1 rfl) T.aB.cl T.dC) (ag (ky (aa 2 rfl) T.aB.cl T.bB) (ag (ky (aa 3 rfl) T.aB.cl T.bE) (ag (ky (aa 4 rfl) T.aB.cl T.aZ)
   (ag (ky (aa 5 rfl) T.aB.cl T.ck) (ag (ky (aa 6 rfl) T.aB.cl T.cq) (ag (ky (aa 7 rfl) T.aB.cl T.eF) (ao (ky (aa 8 rfl) T.aB.cl T.eG))))))))⟩
theorem ND (T:Txt K mg t):MF P w K mg base CX 1 t.aw "many" 1 (Fv t fun x=>.int x.many):=by
 refine⟨T.aB.cl,_,_,_,hV T.lj.F xN rfl fun bo A outer s H E G ds r hr hl hR=>?_,T.gY,T.lj.b⟩
 obtain⟨six,x,rfl,rfl⟩:=hR
 exact⟨_,.rt _,ao (aA (aH (fs:=t.lR six x) (aa 0 rfl) T.aB.cl T.bB rfl))⟩
theorem Aj (T:Txt K mg t):MF P w K mg base CX 1 t.aw "turn" 1 (Fv t fun x=>.int x.turn):=by
 refine⟨T.aB.cl,_,_,_,hV T.ll.F xO rfl fun bo A outer s H E G ds r hr hl hR=>?_,T.gZ,T.ll.b⟩
 obtain⟨six,x,rfl,rfl⟩:=hR
 exact⟨_,.rt _,ao (aA (aH (fs:=t.lR six x) (aa 0 rfl) T.aB.cl T.bE rfl))⟩
theorem DF (T:Txt K mg t):MF P w K mg base CX 1 t.aw "strokes" 1 (Fv t fun x=>.int x.aX):=by
 refine⟨T.aB.cl,_,_,_,hV T.iL.F sO rfl fun bo A outer s H E G ds r hr hl hR=>?_,T.fi,T.iL.b⟩
 obtain⟨six,x,rfl,rfl⟩:=hR
 exact⟨_,.rt _,ao (aA (aH (fs:=t.lR six x) (aa 0 rfl) T.aB.cl T.ck rfl))⟩
theorem NF (T:Txt K mg t):MF P w K mg base CX 1 t.aw "area" 1 (Fv t fun x=>.int x.hE):=by
 refine⟨T.aB.cl,_,_,_,hV T.lp.F xS rfl fun bo A outer s H E G ds r hr hl hR=>?_,T.g7,T.lp.b⟩
 obtain⟨six,x,rfl,rfl⟩:=hR
 exact⟨_,.rt _,ao (aA (aH (fs:=t.lR six x) (aa 0 rfl) T.aB.cl T.eG rfl))⟩
theorem B9 (T:Txt K mg t):ke P w K mg base CX 4 t.cB t.jU ["self","first"] (Ek K 2 (Ah t)):=by
 refine Xb T.xX wc rfl fun bo A outer s H E G ds r hr hl hR=>?_
 obtain⟨six,x,f,rfl,rfl⟩:=hR
 have h1:=yN (P:=P) (w:=w) (base:=base) T six
 exact⟨_,.rt _,ao (aA (bb (lP (aH (fs:=t.lR six x) (aa 0 rfl) T.aB.cl T.dC rfl)) h1 ax hr (ae (wR T.hK (aH (fs:=t.lR six x) (aa 0 rfl) T.aB.cl T.aZ rfl)) (ae (aa 1 rfl) ah)) ⟨_,_,rfl,rfl⟩))⟩
theorem rep0 {K:W.Frag}:∀ H,bH K H [.int 0] [.int 0]:=fun _=>.cons (.int 0) .nil
theorem Km (T:Txt K mg t):MA P w K mg base CX 4 t.aw "shift" 2 [] (Ah t):=⟨T.aB.cl,_,_,_,[],[],B9 T,T.dN,T.xY,.nil,fun _=>.nil⟩
theorem yO (T:Txt K mg t):MA P w K mg base CX 4 t.aw "shift" 2 [.int 0] (Ah t):=⟨T.aB.cl,_,_,_,_,[.int 0],B9 T,T.dN,T.wK,.cons ⟨_,rfl⟩ .nil,rep0⟩
noncomputable abbrev DG:Scope:=OP ((aE fC).getD 0 (.Pass ⟨0,0,0,0⟩))
theorem DH:vO DG (af fC) nY ["way","self","numbers","first"] [0,1,2] "way"=true:=by decide +kernel
theorem NG {ns:List Int}{k:Int}(h0:0<=k)(h1:k < ns.length):oy (ns.map Dt.int) k=some (.int (ns.getD k.toNat 0)):=by
 obtain⟨n,rfl⟩:=Int.eq_ofNat_of_zero_le h0
 refine lW ?_
 have h:n < ns.length:=by omega
 rw[aab,k3 h,aaU,YO,k3 h];rfl
theorem wV {ns:List Int}{k:Int}(h0:0<=k)(h1:k < ns.length):oy ns k=some (ns.getD k.toNat 0):=by
 obtain⟨n,rfl⟩:=Int.eq_ofNat_of_zero_le h0
 refine lW ?_
 have h:n < ns.length:=by omega
 rw[k3 h,aaU,YO,k3 h];rfl
theorem pS {f:Nat->Int}{n k:Nat}(h:k < n):(((aam n).map f).map Dt.int).getD k .cS=.int (f k):=by
 rw[YO,aab,aab,aaL h];rfl
theorem wW (T:Txt K mg t):MF P w K mg base CX 3 t.aw "by_ways" 3 (V9 t):=by
 refine⟨T.aB.cl,_,_,_,hV T.iM.F sP rfl fun bo A outer s H E G ds r hr hl hR=>?_,T.fj,T.iM.b⟩
 obtain⟨six,x,ns,f,rfl,hn,rfl⟩:=hR
 have h1:=mT (P:=P) (w:=w) (base:=base) T six
 have hw:=wU six
 have hw6:wn six<=6:=by cases six <;> decide
 have Ow:ns.length=wn six:=hn
 refine⟨_,.ro _,ao (lY (Va (N:=["way","self","numbers","first"]) (ix:=[0,1,2]) rfl (C4 DH) (mB rfl T.d9 (ae (zo T.gN (aa 1 rfl)) ah)) (vN ?_) (fun k hk C fp s' H' G'=>?_) ?_ ?_))⟩
 . omega
 . rw[aaU,Ow] at hk
   have e:((qP six ns f).map Dt.int).getD k .cS=.int (ns.getD (((k:Int) - f) % wy six).toNat 0):=pS hk
   rw[e]
   have Mr:=aaB ((k:Int) - f) (abi (du six))
   have Xl:=aaG ((k:Int) - f) (du six)
   exact su (aa 2 rfl) (bb (lP (aH (fs:=t.lR six x) (aa 1 rfl) T.aB.cl T.dC rfl)) h1 ax hr (ae (gO (aa 0 rfl) (aa 3 rfl)) ah) ⟨_,rfl,rfl⟩) (wV Mr (by omega))
 . rw[k5,aaU,Ow]
   unfold qP
   simp
 . rw[aaU]
   exact aa7 (si (by omega))
theorem Kn (T:Txt K mg t):ke P w K mg base CX 4 t.cC t.jV ["self","first"] (Ek K 2 (Fw t)):=by
 refine Xb T.xZ we rfl fun bo A outer s H E G ds r hr hl hR=>?_
 obtain⟨six,x,f,rfl,hw,rfl⟩:=hR
 have h1:=MB (wW (P:=P) (w:=w) (base:=base) T)
 exact⟨_,.ro _,ao (lY (yr (fs:=t.lR six x) (aa 0 rfl) h1 ax hr (ae (qz (aH (fs:=t.lR six x) (aa 0 rfl) T.aB.cl T.cq rfl)) (ae (aa 1 rfl) ah)) ⟨six,x,_,_,rfl,hw.rl,rfl⟩))⟩
theorem Ko (T:Txt K mg t):ke P w K mg base CX 4 t.cD t.jW ["self","first"] (Ek K 2 (Fx t)):=by
 refine Xb T.x4 wg rfl fun bo A outer s H E G ds r hr hl hR=>?_
 obtain⟨six,x,f,rfl,hw,rfl⟩:=hR
 have h1:=MB (wW (P:=P) (w:=w) (base:=base) T)
 exact⟨_,.ro _,ao (lY (yr (fs:=t.lR six x) (aa 0 rfl) h1 ax hr (ae (qz (aH (fs:=t.lR six x) (aa 0 rfl) T.aB.cl T.eF rfl)) (ae (aa 1 rfl) ah)) ⟨six,x,_,_,rfl,hw.tl,rfl⟩))⟩
theorem Kq (T:Txt K mg t):MA P w K mg base CX 4 t.aw "reach" 2 [] (Fw t):=⟨T.aB.cl,_,_,_,[],[],Kn T,T.gi,T.x3,.nil,fun _=>.nil⟩
theorem Kr (T:Txt K mg t):MA P w K mg base CX 4 t.aw "touch" 2 [] (Fx t):=⟨T.aB.cl,_,_,_,[],[],Ko T,T.gj,T.x5,.nil,fun _=>.nil⟩
theorem Ca (T:Txt K mg t):GF P w K mg base CX 3 "still" 1 (NC t):=by
 refine⟨_,_,_,hV T.pM.F JO rfl fun bo A outer s H E G ds r hr hl hR=>?_,(T.g T.pM.a),T.pM.F.kp,T.pM.b⟩
 obtain⟨six,rfl,rfl⟩:=hR
 have h1:=vg (P:=P) (w:=w) (base:=base) T six
 have h2:=Ai (P:=P) (w:=w) (base:=base) T
 have e:∀ {X:Cx} {G:Gr} {dl:List Slot} {e:Expr},EO X G dl e (.lst (aan (wy six).toNat [Dt.int 0]).flatten)->EE X G dl e (.i4 (.lst (aan (wn six) (0:Int)))):=fun h=>by
   refine RI (Ew h ?_)
   cases six <;> rfl
 have hb:-(2 ^ 63)<=wy six/\wy six < 2 ^ 63/\[Dt.int 0].length * (wy six).toNat<=sizeLine:=by cases six <;> decide
 exact⟨_,.rt _,ao (aA (DC (uK h2 ax hr (ae (aa 0 rfl) (ae ai (ae ai (ae (DD (p:=(0,0)) T.hK (aS (ae ai (ae ai ah)) AA3)) (ae ai
   (ae (e (IC (Ij (ae ai ah) AA3) (dq (lP (aa 0 rfl)) h1 ax hr ⟨rfl,rfl⟩) hb.1 hb.2.1 hb.2.2)) (ae (e (IC (Ij (ae ai ah) AA3) (dq (lP (aa 0 rfl)) h1 ax hr ⟨rfl,rfl⟩) hb.1 hb.2.1 hb.2.2)) (ae ai ah)))))))) ⟨six,CB six,rfl,rfl⟩)))⟩
noncomputable abbrev R8:Scope:=OP ((aE cL).getD 2 (.Pass ⟨0,0,0,0⟩))
noncomputable abbrev R9:Scope:=OP ((aE cL).getD 3 (.Pass ⟨0,0,0,0⟩))
theorem Sa:vO R8 (af cL) kF ["way","pen","spot"] [0,3] "way"=true:=by decide +kernel
theorem Sb:vO R9 (af cL) kF ["reach"] [] "reach"=true:=by decide +kernel
noncomputable def nS (six:Bool)(d:Str)(w:Nat):Int:=if iZ six w (vh six d (0,0) 0).1 > 0 then iZ six w (vh six d (0,0) 0).1 else 0
theorem DI (T:Txt K mg t):GF P w K mg base CX 6 "track_of_deed" 2 (G4 t):=by
 refine⟨_,_,_,hV T.dD.F mL rfl fun bo A outer s H E G ds r hr hl hR=>?_,(T.g T.dD.a),T.dD.F.kp,T.dD.b⟩
 obtain⟨six,d,rfl,hd,rfl⟩:=hR
 have h1:=vg (P:=P) (w:=w) (base:=base) T six
 have h2:=Ai (P:=P) (w:=w) (base:=base) T
 have h3:=Kj (P:=P) (w:=w) (base:=base) T six
 have h4:=B7 (P:=P) (w:=w) (base:=base) T six
 have hw:=wU six
 have hw6:wn six<=6:=by cases six <;> decide
 have Wa:(wy six).toNat=wn six:=by omega
 have nd:=mL.nd
 refine⟨_,.rt _,ag (au 2 nd (bb (lP (aa 0 rfl)) h3 ax hr (ae (aa 1 rfl) (ae (aS (ae ai (ae ai ah)) AA3) (ae ai ah))) ⟨d,(0,0),0,rfl,hd,rfl⟩)) (ag (au 3 nd (aC (aa 2 rfl) ai rfl))
   (ag (OO (ys:=((aam (wn six)).map (nS six d)).map .int) 4 (N:=["way","pen","spot"]) (ix:=[0,3]) rfl nd (C4 Sa) (mB rfl T.d9 (ae (dq (lP (aa 0 rfl)) h1 ax hr ⟨rfl,rfl⟩) ah)) (vN ?_) (fun k hk C fp s' H' G'=>?_) ?_ ?_)
   (uR (ns:=(aam (wn six)).map (nS six d)) 4 (ag (OO (ys:=((aam (wn six)).map (fun k=>if nS six d k < 1 then nS six d k else 1)).map .int) 5 (N:=["reach"]) (ix:=[]) rfl nd (C4 Sb) (ik (qz (aa 4 rfl))) M5 (fun k hk C fp s' H' G'=>?_) ?_ ?_)
   (uR (ns:=(aam (wn six)).map fun k=>if nS six d k < 1 then nS six d k else 1) 5 (ao (aA (DC (uK h2 ax hr (ae (aa 0 rfl) (ae ai (ae (aC (aa 2 rfl) ai rfl) (ae (DD T.hK (aa 3 rfl)) (ae (aK (d:=.int (if d="stroke" then 1 else 0)) ?_ rfl) (ae (aa 4 rfl) (ae (aa 5 rfl) (ae ai ah)))))))) ⟨six,one six d,rfl,rfl⟩)))))))))⟩
 . omega
 . rw[Wa] at hk
   rw[pS hk]
   exact QT T.Ff rfl (ae ai (ae (bb (lP (aa 1 rfl)) h4 ax hr (ae (aa 0 rfl) (ae (aa 2 rfl) ah)) ⟨_,_,rfl,⟨by omega,by omega⟩,rfl⟩) ah))
 . rw[k5,k5,aaI,Wa]
 . rw[Wa];exact aa7 (si (by omega))
 . rw[k5,aaI] at hk
   rw[show(((aam (wn six)).map (fun k=>if nS six d k < 1 then nS six d k else 1)).map Dt.int).getD k .cS=.int (if nS six d k < 1 then nS six d k else 1) from pS hk]
   have e:((List.map (nS six d) (aam (wn six))).map Dt.int).getD k .cS=.int (nS six d k):=pS hk
   refine ID (i:=1) (j:=nS six d k) T.Fg rfl (ae ai (ae ?_ ah))
   rw[<- e]
   exact aa 0 rfl
 . simp
 . rw[k5,aaI];exact aa7 (si (by omega))
 . exact QI (cK (aa 1 rfl) aO) (fun h=>aK ai (by rw[if_pos (of_decide_eq_true h)])) (fun h=>aK ai (by rw[if_neg (of_decide_eq_false h)]))
theorem vi {f g:Nat->Int}{n k:Nat}(h:k < n):((aam n).map fun w=>if w < k then f w else g w).set k (f k)=(aam n).map fun w=>if w < k+1 then f w else g w:=by
 refine List.ext_getElem? fun i=>?_
 by_cases hi:i < n
 . by_cases e:k=i
   . subst e
     rw[aak (by simp;exact h),aab,aaL h]
     simp
   . rw[aal e,aab,aab,aaL hi]
     have:(i < k+1) ↔ (i < k):=by omega
     simp[this]
 . rw[aaF (by simp;omega),aaF (by simp;omega)]
theorem O9 {f g:Nat->Int}{n:Nat}:((aam n).map fun w=>if w < 0 then f w else g w)=(aam n).map g:=by simp
theorem Pa {f g:Nat->Int}{n:Nat}:((aam n).map fun w=>if w < n then f w else g w)=(aam n).map f:=by
 refine abV fun i hi=>?_
 rw[if_pos (abr.mp hi)]
theorem rS {l:List Int}{k:Nat}{z:Int}:(l.map Dt.int).set k (.int z)=(l.set k z).map Dt.int:=by rw[List.map_set]
theorem Fy (six:Bool)(ns:List Int)(f:Int):(aam (wn six)).map (fun w=>(qP six ns f).getD w 0)=qP six ns f:=by
 refine List.ext_getElem? fun i=>?_
 by_cases hi:i < wn six
 . rw[aab,aaL hi]
   have hl:i < (qP six ns f).length:=by unfold qP;simpa using hi
   rw[k3 hl]
   simp[YO,hl]
 . rw[aaF (by simp;omega),aaF (by unfold qP;simp;omega)]
theorem NH {n k:Nat}(h:k < n):CQ n (k:Int)=some k:=by
 unfold CQ
 simp[h]
theorem Wb {six:Bool}{b:Int}{p:Int×Int}(h:p.1.natAbs < 2 ^ 990/\p.2.natAbs < 2 ^ 990):sm (tn six (b % wy six).toNat p):=by
 obtain⟨x,y⟩:=p
 obtain⟨h1,h2⟩:=h
 simp only at h1 h2
 unfold sm
 cases six with
 | false=>
   have e:wy false=4:=rfl
   rw[e]
   have h:b % 4=0\/b % 4=1\/b % 4=2\/b % 4=3:=by omega
   rcases h with h | h | h | h <;> rw[h] <;> simp[tn,Pf.tl] <;> omega
 | true=>
   have e:wy true=6:=rfl
   rw[e]
   have h:b % 6=0\/b % 6=1\/b % 6=2\/b % 6=3\/b % 6=4\/b % 6=5:=by omega
   rcases h with h | h | h | h | h | h <;> rw[h] <;> simp[tn,Pf.tl] <;> omega
theorem yP (T:Txt K mg t):MF P w K mg base CX 5 t.aw "joined" 2 (Kl t):=by
 refine⟨T.aB.cl,_,_,_,hV T.jt.F nZ rfl fun bo A outer s H E G ds r hr hl hR=>?_,T.fO,T.jt.b⟩
 obtain⟨six,x,y,rfl,⟨wx,ZV⟩,rfl⟩:=hR
 have rT:=Km (P:=P) (w:=w) (base:=base) T
 have NI:=Kq (P:=P) (w:=w) (base:=base) T
 have NJ:=Kr (P:=P) (w:=w) (base:=base) T
 have Sd:=vg (P:=P) (w:=w) (base:=base) T six
 have FA:=B7 (P:=P) (w:=w) (base:=base) T six
 have rR:=mT (P:=P) (w:=w) (base:=base) T six
 have Se:=ND (P:=P) (w:=w) (base:=base) T
 have wX:=Aj (P:=P) (w:=w) (base:=base) T
 have G5:=DF (P:=P) (w:=w) (base:=base) T
 have Sf:=NF (P:=P) (w:=w) (base:=base) T
 have NK:=B8 (P:=P) (w:=w) (base:=base) T
 have NL:=Kk (P:=P) (w:=w) (base:=base) T
 have Sh:=Ai (P:=P) (w:=w) (base:=base) T
 have hw:=wU six
 have Wa:(wy six).toNat=wn six:=by omega
 have hw6:wn six<=6:=by cases six <;> decide
 have nd:=nZ.nd
 let S:Nat->List Slot:=fun k=>[.val (t.Fu six x),.val (t.Fu six y),.val (.i4 (.obj (t.pc six) [])),.val (sp (tn six (x.turn % wy six).toNat y.shift)),
   .own (.lst (((aam (wn six)).map fun w=>if w < k then ya six x y w else (qP six y.reach x.turn).getD w 0).map .int)),
   .own (.lst (((aam (wn six)).map fun w=>if w < k then Ag six x y w else (qP six y.bf x.turn).getD w 0).map .int)),.br]
 have e0:S 0=[.val (t.Fu six x),.val (t.Fu six y),.val (.i4 (.obj (t.pc six) [])),.val (sp (tn six (x.turn % wy six).toNat y.shift)),.own (.lst ((qP six y.reach x.turn).map .int)),.own (.lst ((qP six y.bf x.turn).map .int)),.br]:=by
   show [_,_,_,_,Slot.own (.lst (((aam (wn six)).map fun w=>if w < 0 then _ else _).map .int)),Slot.own (.lst (((aam (wn six)).map fun w=>if w < 0 then _ else _).map .int)),_]=_
   rw[O9,O9,Fy,Fy]
 have en:S (wn six)=[.val (t.Fu six x),.val (t.Fu six y),.val (.i4 (.obj (t.pc six) [])),.val (sp (tn six (x.turn % wy six).toNat y.shift)),.own (.lst ((jn six x y).reach.map .int)),.own (.lst ((jn six x y).bf.map .int)),.br]:=by
   show [_,_,_,_,Slot.own (.lst (((aam (wn six)).map fun w=>if w < wn six then _ else _).map .int)),Slot.own (.lst (((aam (wn six)).map fun w=>if w < wn six then _ else _).map .int)),_]=_
   rw[Pa,Pa];rfl
 refine⟨_,.rt _,ag (au 2 nd (aH (fs:=t.lR six x) (aa 0 rfl) T.aB.cl T.dC rfl))
   (ag (au 3 nd (C3 (fs:=t.lR six y) (aa 1 rfl) rT ax hr (ae (aH (fs:=t.lR six x) (aa 0 rfl) T.aB.cl T.bE rfl) ah) ⟨six,y,_,rfl,rfl⟩))
   (ag (jQ 4 nd (yr (fs:=t.lR six y) (aa 1 rfl) NI ax hr (ae (aH (fs:=t.lR six x) (aa 0 rfl) T.aB.cl T.bE rfl) ah) ⟨six,y,_,rfl,ZV,rfl⟩))
   (ag (jQ 5 nd (yr (fs:=t.lR six y) (aa 1 rfl) NJ ax hr (ae (aH (fs:=t.lR six x) (aa 0 rfl) T.aB.cl T.bE rfl) ah) ⟨six,y,_,rfl,ZV,rfl⟩))
   (ag (gm (m:=wn six) 6 S nd rfl PassesOwn.leaving T.d9 (ae (dq (lP (aa 2 rfl)) Sd ax hr ⟨rfl,rfl⟩) ah) ⟨by omega,by omega⟩ (by rw[e0];exact Le.of ⟨rfl,rfl,rfl,rfl,rfl,rfl,trivial⟩) (by omega) (fun k hk=>?_) (by rw[Wa];exact .all rfl))
   ?_))))⟩
 . have TH:k < ((aam (wn six)).map fun w=>if w < k then ya six x y w else (qP six y.reach x.turn).getD w 0).length:=by simpa using hk
   have ad5:k < ((aam (wn six)).map fun w=>if w < k then Ag six x y w else (qP six y.bf x.turn).getD w 0).length:=by simpa using hk
   have ga:∀ (f g:Nat->Int) (z:Int),oy ((((aam (wn six)).map fun w=>if w < k then f w else g w)).map Dt.int) (k:Int)=some (.int (g k)):=fun f g z=>by
     refine lW ?_
     rw[aab,aab,aaL hk]
     simp
   have gs:∀ (l:List Int) (z:Int),l.length=wn six->oy ((l.map Dt.int).set k (.int z)) (k:Int)=some (.int z):=fun l z hl=>by
     refine lW ?_
     rw[aak (by simp;omega)]
   have ix:∀ (l:List Dt),l.length=wn six->CQ l.length (k:Int)=some k:=fun l hl=>NH (by omega)
   have xr:oy x.reach (k:Int)=some (x.reach.getD k 0):=by
     have:=wV (ns:=x.reach) (k:=k) (by omega) (by rw[wx.rl];omega)
     simpa using this
   have xt:oy x.bf (k:Int)=some (x.bf.getD k 0):=by
     have:=wV (ns:=x.bf) (k:=k) (by omega) (by rw[wx.tl];omega)
     simpa using this
   have lA:(((aam (wn six)).map fun w=>if w < k then ya six x y w else (qP six y.reach x.turn).getD w 0).map Dt.int).length=wn six:=by simp
   have lB:(((aam (wn six)).map fun w=>if w < k then Ag six x y w else (qP six y.bf x.turn).getD w 0).map Dt.int).length=wn six:=by simp
   have lA0:((aam (wn six)).map fun w=>if w < k then ya six x y w else (qP six y.reach x.turn).getD w 0).length=wn six:=by simp
   have iA:=ix _ lA
   have iB:=ix _ lB
   have iA':∀ z,CQ (abg (List.set (((aam (wn six)).map fun w=>if w < k then ya six x y w else (qP six y.reach x.turn).getD w 0).map Dt.int) k z)) (k:Int)=some k:=fun z=>ix _ (by rw[abT];exact lA)
   have iB':∀ z,CQ (abg (List.set (((aam (wn six)).map fun w=>if w < k then Ag six x y w else (qP six y.bf x.turn).getD w 0).map Dt.int) k z)) (k:Int)=some k:=fun z=>ix _ (by rw[abT];exact lB)
   by_cases c:(qP six y.reach x.turn).getD k 0+iZ six k x.shift<=x.reach.getD k 0
   . have eR:ya six x y k=x.reach.getD k 0:=if_pos c
     have eT:Ag six x y k=x.bf.getD k 0:=if_pos c
     refine .nx (ag (mE (m:=k) 4 (aL (sC 4 (aa 6 rfl) (ga _ _ 0)) (bb (lP (aa 2 rfl)) FA ax hr (ae (aa 6 rfl) (ae (wR T.hK (aH (fs:=t.lR six x) (aa 0 rfl) T.aB.cl T.aZ rfl)) ah)) ⟨_,_,rfl,⟨by omega,by omega⟩,rfl⟩)) (aa 6 rfl) iA)
       (ag (mE (m:=k) 5 (aL (sC 5 (aa 6 rfl) (ga _ _ 0)) (aH (fs:=t.lR six x) (aa 0 rfl) T.aB.cl T.bB rfl)) (aa 6 rfl) iB)
       (ao (aI (Er (su (qz (aH (fs:=t.lR six x) (aa 0 rfl) T.aB.cl T.cq rfl)) (aa 6 rfl) xr) (sC 4 (aa 6 rfl) (gs _ _ lA0)))
         (fun h=>ag (mE (m:=k) 4 (su (qz (aH (fs:=t.lR six x) (aa 0 rfl) T.aB.cl T.cq rfl)) (aa 6 rfl) xr) (aa 6 rfl) (iA' _))
           (ao (mE (m:=k) 5 (su (qz (aH (fs:=t.lR six x) (aa 0 rfl) T.aB.cl T.eF rfl)) (aa 6 rfl) xt) (aa 6 rfl) (iB' _))))
         (fun h=>absurd c (of_decide_eq_false h)))))) (Le.of ⟨rfl,rfl,rfl,rfl,?_,?_,trivial⟩)
     . rw[List.set_set,rS,<- eR,vi hk]
     . rw[List.set_set,rS,<- eT,vi hk]
   . have eR:ya six x y k=(qP six y.reach x.turn).getD k 0+iZ six k x.shift:=if_neg c
     have eT:Ag six x y k=(qP six y.bf x.turn).getD k 0+x.many:=if_neg c
     refine .nx (ag (mE (m:=k) 4 (aL (sC 4 (aa 6 rfl) (ga _ _ 0)) (bb (lP (aa 2 rfl)) FA ax hr (ae (aa 6 rfl) (ae (wR T.hK (aH (fs:=t.lR six x) (aa 0 rfl) T.aB.cl T.aZ rfl)) ah)) ⟨_,_,rfl,⟨by omega,by omega⟩,rfl⟩)) (aa 6 rfl) iA)
       (ag (mE (m:=k) 5 (aL (sC 5 (aa 6 rfl) (ga _ _ 0)) (aH (fs:=t.lR six x) (aa 0 rfl) T.aB.cl T.bB rfl)) (aa 6 rfl) iB)
       (ao (aI (Er (su (qz (aH (fs:=t.lR six x) (aa 0 rfl) T.aB.cl T.cq rfl)) (aa 6 rfl) xr) (sC 4 (aa 6 rfl) (gs _ _ lA0)))
         (fun h=>absurd (of_decide_eq_true h) c)
         (fun h=>aT))))) (Le.of ⟨rfl,rfl,rfl,rfl,?_,?_,trivial⟩)
     . rw[rS,<- eR,vi hk]
     . rw[rS,<- eT,vi hk]
 . rw[en]
   exact uR (ns:=(jn six x y).reach) 4 (uR (ns:=(jn six x y).bf) 5 (ao (aA (DC (uK Sh ax hr (ae (aa 2 rfl) (ae (aL (aH (fs:=t.lR six x) (aa 0 rfl) T.aB.cl T.bB rfl) (dq (fs:=t.lR six y) (aa 1 rfl) Se ax hr ⟨six,y,rfl,rfl⟩))
     (ae (bb (lP (aa 2 rfl)) rR ax hr (ae (aL (aH (fs:=t.lR six x) (aa 0 rfl) T.aB.cl T.bE rfl) (dq (fs:=t.lR six y) (aa 1 rfl) wX ax hr ⟨six,y,rfl,rfl⟩)) ah) ⟨_,rfl,rfl⟩)
     (ae (DD T.hK (aW NK ax hr (ae (wR T.hK (aH (fs:=t.lR six x) (aa 0 rfl) T.aB.cl T.aZ rfl)) (ae (aa 3 rfl) ah)) ⟨_,_,rfl,rfl⟩))
     (ae (aL (aH (fs:=t.lR six x) (aa 0 rfl) T.aB.cl T.ck rfl) (dq (fs:=t.lR six y) (aa 1 rfl) G5 ax hr ⟨six,y,rfl,rfl⟩))
     (ae (aa 4 rfl) (ae (aa 5 rfl) (ae (aL (aL (aH (fs:=t.lR six x) (aa 0 rfl) T.aB.cl T.eG rfl) (dq (fs:=t.lR six y) (aa 1 rfl) Sf ax hr ⟨six,y,rfl,rfl⟩))
       (aW NL ax hr (ae (wR T.hK (aH (fs:=t.lR six x) (aa 0 rfl) T.aB.cl T.aZ rfl)) (ae (aa 3 rfl) ah)) ⟨_,_,rfl,⟨⟨by have:=wx.sm;omega,by have:=wx.sm;omega⟩,Wb ZV.sm⟩,rfl⟩)) ah)))))))) ⟨six,jn six x y,rfl,rfl⟩)))))
theorem jy (six:Bool)(xs:List Str)(d:Str):b6 six (xs ++ [d])=jn six (b6 six xs) (one six d):=by
 unfold b6
 rw[List.foldl_append];rfl
theorem nT (six:Bool):∀ n:Nat,tn six n (0,0)=(0,0)
 | 0=>rfl
 | n+1=>by rw[tn,nT six n];cases six <;> rfl
theorem wY (six:Bool)(d:Str):(vh six d (0,0) 0).1=if d∈x9 then (1,0) else (0,0):=by
 have e:tn six ((0:Int) % wy six).toNat (1,0)=(1,0):=by cases six <;> rfl
 unfold vh
 show(if d∈x9 then ad (0,0) (tn six ((0:Int) % wy six).toNat (1,0)) else (0,0))=_
 rw[e];rfl
theorem FC (six:Bool)(b:Int):(tn six (b % wy six).toNat (1,0)).1.natAbs<=1/\(tn six (b % wy six).toNat (1,0)).2.natAbs<=1:=by
 cases six with
 | false=>
   have e:wy false=4:=rfl
   rw[e]
   have h:b % 4=0\/b % 4=1\/b % 4=2\/b % 4=3:=by omega
   rcases h with h | h | h | h <;> rw[h] <;> decide
 | true=>
   have e:wy true=6:=rfl
   rw[e]
   have h:b % 6=0\/b % 6=1\/b % 6=2\/b % 6=3\/b % 6=4\/b % 6=5:=by omega
   rcases h with h | h | h | h | h | h <;> rw[h] <;> decide
theorem NM (six:Bool)(x:Tr)(d:Str):(jn six x (one six d)).shift.1.natAbs<=x.shift.1.natAbs+1/\(jn six x (one six d)).shift.2.natAbs<=x.shift.2.natAbs+1:=by
 show(x.shift.1+(tn six (x.turn % wy six).toNat (vh six d (0,0) 0).1).1).natAbs<=_/\(x.shift.2+(tn six (x.turn % wy six).toNat (vh six d (0,0) 0).1).2).natAbs<=_
 rw[wY]
 by_cases c:d∈x9
 . rw[if_pos c]
   have:=FC six x.turn
   omega
 . rw[if_neg c,nT]
   simp
theorem Si (six:Bool)(d:Str):WF six (one six d):=⟨by unfold one;simp,by unfold one;simp,by
 show(vh six d (0,0) 0).1.1.natAbs < _/\(vh six d (0,0) 0).1.2.natAbs < _
 rw[wY]
 by_cases c:d∈x9
 . rw[if_pos c];decide
 . rw[if_neg c];decide⟩
theorem Sk (six:Bool):WF six (CB six):=⟨by unfold CB;simp,by unfold CB;simp,by show(0:Int).natAbs < _/\(0:Int).natAbs < _;decide⟩
theorem Ak (six:Bool):∀ (n:Nat) (xs:List Str),xs.length=n->(b6 six xs).shift.1.natAbs<=n/\(b6 six xs).shift.2.natAbs<=n/\(b6 six xs).reach.length=wn six/\(b6 six xs).bf.length=wn six:=by
 intro n
 induction n with
 | zero=>
   intro xs h
   have e:xs=[]:=aaZ h
   subst e
   have w:=Sk six
   exact⟨aaa _,aaa _,w.rl,w.tl⟩
 | succ n ih=>
   intro xs h
   have AK:xs≠[]:=fun e=>by rw[e] at h;cases h
   have e:=aa9 AK
   have hl:xs.dropLast.length=n:=by rw[abo];omega
   obtain⟨h1,h2,h3,h4⟩:=ih _ hl
   rw[<- e,jy]
   obtain⟨q1,q2⟩:=NM six (b6 six xs.dropLast) (xs.getLast AK)
   refine⟨by omega,by omega,?_,?_⟩
   . unfold jn;simp
   . unfold jn;simp
theorem Al (six:Bool){xs:List Str}(h:xs.length < 2 ^ 990):WF six (b6 six xs):=by
 obtain⟨h1,h2,h3,h4⟩:=Ak six _ xs rfl
 exact⟨h3,h4,aaO h1 h,aaO h2 h⟩
theorem Sl (six:Bool){xs:List Str}(h:xs.length<=100000):WF six (b6 six xs):=Al six (aaO h (aaq (show 100000 < 2 ^ 20 by decide) (abQ (by decide) (by decide))))
theorem Cb (T:Txt K mg t):GF P w K mg base CX 7 "track_of" 2 (DE t):=by
 refine⟨_,_,_,hV T.jK.F tV rfl fun bo A outer s H E G ds r hr hl hR=>?_,(T.g T.jK.a),T.jK.F.kp,T.jK.b⟩
 obtain⟨six,xs,rfl,hd,hn,rfl⟩:=hR
 have Am:=Ca (P:=P) (w:=w) (base:=base) T
 have Wc:=DI (P:=P) (w:=w) (base:=base) T
 have wZ:=yP (P:=P) (w:=w) (base:=base) T
 have nd:=tV.nd
 let S:Nat->List Slot:=fun k=>[.val (.i4 (.obj (t.pc six) [])),.val (.lst (xs.map .str)),.val (t.oW six (b6 six (xs.take k))),.br]
 have en:S (xs.map Dt.str).length=[.val (.i4 (.obj (t.pc six) [])),.val (.lst (xs.map .str)),.val (t.oW six (b6 six xs)),.br]:=by
   show [_,_,Slot.val (t.oW six (b6 six (xs.take (xs.map Dt.str).length))),_]=_
   rw[k5,abb]
 refine⟨_,.rt _,ag (au 2 nd (aW Am ax hr (ae (aa 0 rfl) ah) ⟨six,rfl,rfl⟩))
   (ag (Ej (m:=(xs.map Dt.str).length) 3 S nd rfl PassesOwn.leaving (aa 1 rfl) (Le.of ⟨rfl,rfl,rfl,trivial⟩) (aaa _) (fun k z hk hz=>?_) (.all rfl)) ?_)⟩
 . rw[k5] at hk
   rw[aab,k3 hk] at hz
   cases hz
   have hm:xs[k]∈xs:=aaP hk
   have e:b6 six (xs.take (k+1))=jn six (b6 six (xs.take k)) (one six xs[k]):=by
     rw[aaY,k3 hk]
     exact jy _ _ _
   have hl:(xs.take k).length<=100000:=by rw[aay];omega
   refine .nx (ao (au 2 nd (bb (fs:=t.lR six (b6 six (xs.take k))) (oX (aa 2 rfl)) wZ ax hr (ae (oX (aW Wc ax hr (ae (aa 0 rfl) (ae (aa 3 rfl) ah)) ⟨six,xs[k],rfl,hd _ hm,rfl⟩)) ah) ⟨six,_,one six xs[k],rfl,⟨Sl six hl,Si six _⟩,rfl⟩))) (Le.of ⟨rfl,rfl,?_,trivial⟩)
   show Slot.val (t.oW six (b6 six (xs.take (k+1))))=_
   rw[e]
 . rw[en]
   exact ao (aA (aa 2 rfl))
theorem Cc (six:Bool):∀ (n:Nat) (xs:List Str),xs.length=n->(b6 six xs).many=n/\(b6 six xs).aX=(xs.count ("stroke":Str):Nat):=by
 intro n
 induction n with
 | zero=>
   intro xs h
   have e:xs=[]:=aaZ h
   subst e
   exact⟨rfl,rfl⟩
 | succ n ih=>
   intro xs h
   have AK:xs≠[]:=fun e=>by rw[e] at h;cases h
   have e:=aa9 AK
   have hl:xs.dropLast.length=n:=by rw[abo];omega
   obtain⟨h1,h2⟩:=ih _ hl
   have ec:xs.count ("stroke":Str)=xs.dropLast.count ("stroke":Str)+if xs.getLast AK="stroke" then 1 else 0:=by
     conv=>lhs;rw[<- e]
     rw[List.count_append,List.count_singleton]
     congr 1
     by_cases c:xs.getLast AK="stroke" <;> simp[c]
   rw[ec]
   conv=>lhs;rw[<- e]
   rw[show(b6 six xs).aX=(b6 six (xs.dropLast ++ [xs.getLast AK])).aX by rw[e],jy]
   refine⟨?_,?_⟩
   . show(b6 six xs.dropLast).many+1=_
     rw[h1];omega
   . show(b6 six xs.dropLast).aX+(if xs.getLast AK="stroke" then 1 else 0)=_
     rw[h2]
     by_cases c:xs.getLast AK="stroke"
     . rw[if_pos c,if_pos c];omega
     . rw[if_neg c,if_neg c];omega
noncomputable abbrev ZW:=Int×(Int×Int)×Int
noncomputable def pj (x:Tr):ZW:=(x.turn,x.shift,x.hE)
noncomputable def ZX (six:Bool)(s:ZW)(d:Str):ZW:=((s.1+fW d) % wy six,ad s.2.1 (tn six (s.1 % wy six).toNat (if d∈x9 then (1,0) else (0,0))),s.2.2+cr s.2.1 (tn six (s.1 % wy six).toNat (if d∈x9 then (1,0) else (0,0))))
theorem Pb (six:Bool)(x:Tr)(d:Str):pj (jn six x (one six d))=ZX six (pj x) d:=by
 unfold pj ZX jn
 have e1:(one six d).turn=(0+fW d) % wy six:=rfl
 have e2:(one six d).shift=if d∈x9 then (1,0) else (0,0):=wY six d
 have e3:(one six d).hE=0:=rfl
 simp only[e1,e2,e3]
 refine Prod.ext ?_ (Prod.ext rfl ?_)
 . show(x.turn+(0+fW d) % wy six) % wy six=_
   rw[Int.add_emod_emod];simp
 . show x.hE+0+_=x.hE+_
   rw[abn]
open PySem.Builtin.Str PySem.StrLaws in
theorem An (s:Str)(c limit:Nat):∀ (n i:Nat) (acc:Array Nat) (free:Nat),free<=i->acc.size+n<=limit->(forIn (abR i n) (acc,free) (occBody s ⟨#[c]⟩ s.length limit)).run.fst.size=acc.size+(abR i n).countP (fun j=>decide (s.cps.toList[j]?=some c))
 | 0,i,acc,free,_,_=>by simp
 | n+1,i,acc,free,hf,hl=>by
   rw[List.range'_succ,List.forIn_cons,List.countP_cons]
   have hso:=subAt_one s c i
   by_cases hc:s.cps.toList[i]?=some c
   . obtain⟨h1,h2⟩:=hso.mpr hc
     have e:occBody s ⟨#[c]⟩ s.length limit i (acc,free)=pure (ForInStep.yield (acc.push i,i+(⟨#[c]⟩:Str).length)):=by
       unfold occBody
       exact if_pos ⟨⟨⟨by show acc.size < limit;omega,hf⟩,h1⟩,h2⟩
     rw[e]
     show(forIn (abR (i+1) n) (acc.push i,i+(⟨#[c]⟩:Str).length) (occBody s ⟨#[c]⟩ s.length limit)).run.fst.size=_
     rw[An s c limit n (i+1) (acc.push i) _ (by show i+1<=i+1;omega) (by rw[Array.size_push];omega),Array.size_push,if_pos (decide_eq_true hc)]
     omega
   . have e:occBody s ⟨#[c]⟩ s.length limit i (acc,free)=pure (ForInStep.yield (acc,free)):=by
       unfold occBody
       exact if_neg fun h=>hc (hso.mp ⟨h.1.2,h.2⟩)
     rw[e]
     show(forIn (abR (i+1) n) (acc,free) (occBody s ⟨#[c]⟩ s.length limit)).run.fst.size=_
     rw[An s c limit n (i+1) acc free (by omega) (by omega),if_neg (by simpa using hc)]
     omega
theorem G6 (L:List Nat)(c:Nat):(abR 0 (L.length+1)).countP (fun j=>decide (L[j]?=some c))=L.count c:=by
 rw[<- List.range_eq_range',List.range_succ,List.countP_append]
 have e1:(aam L.length).map (fun j=>L[j]?)=L.map some:=by
   refine List.ext_getElem? fun i=>?_
   rw[aab,aab]
   by_cases h:i < L.length
   . rw[aaL h];simp[h]
   . rw[aaF (by simp;omega),aaF (by omega)];rfl
 have e2:(aam L.length).countP (fun j=>decide (L[j]?=some c))=((aam L.length).map (fun j=>L[j]?)).countP (fun o=>decide (o=some c)):=by
   rw[List.countP_map];rfl
 rw[e2,e1,List.countP_map]
 have e3:((fun o=>decide (o=some c)) ∘ some)=fun x:Nat=>x == c:=by
   funext x
   by_cases h:x=c <;> simp[h]
 rw[e3]
 simp[List.count]
open PySem.Builtin.Str PySem.StrLaws in
theorem Kt (w:List Nat)(x:Nat):Txt.count (tx w) (sg x)=((w.count x:Nat):Int):=by
 unfold Txt.count
 have hl:=gk w
 rw[occ_eq,abq]
 show(((forIn (abR 0 ((tx w).length+1 - 0)) (#[],0) (occBody (tx w) ⟨#[x]⟩ (tx w).length ((tx w).length+1))).run.fst.size:Nat):Int)=_
 rw[An (tx w) x _ _ 0 #[] 0 (aaa _) (by simp)]
 have e:(tx w).cps.toList=w:=by show w.toArray.toList=w;simp
 rw[e,hl,Nat.sub_zero,G6]
 simp
noncomputable def Pd (L w:List Nat):List (Key×Int):=L.map fun x=>(.inr (sg x),((w.count x:Nat):Int))
theorem Ku (L w:List Nat):(dI (Pd L w)).map (·.1)=L.map fun x=>(Sum.inr (sg x):Key):=by
 unfold dI Pd
 rw[aao,aao];rfl
theorem lD {L:List Nat}(h:L.Nodup):(L.map fun x=>(Sum.inr (sg x):Key)).Nodup:=by
 rw[List.nodup_iff_pairwise_ne,List.pairwise_map]
 exact(List.nodup_iff_pairwise_ne.mp h).imp fun hn e=>hn (qK (Sum.inr.inj e))
theorem Sm (L w:List Nat):(L.map fun x=>Dt.tup [.str (sg x),.int ((w.count x:Nat):Int)])=(dI (Pd L w)).map LI:=by
 unfold dI Pd
 rw[aao,aao];rfl
def NN (t:dR):Rl:=fun ds r=>∃ six rows w,ds=[t.x8 six rows,.str (tx w)]/\bP rows/\r=.own (.eX (dI (Pd (rows.map (·.c)) w)))
noncomputable abbrev ZY:Stmt->Scope
 | .Return (some (.Call _ (.ListComp _ _ sc _::_) _ _)) _=>sc
 | _=>af (.Pass ⟨0,0,0,0⟩)
noncomputable abbrev Kv:Scope:=ZY ((aE rC).getD 0 (.Pass ⟨0,0,0,0⟩))
theorem Cd:gM Kv (af rC) E2 ["letter","word"] ["letter"] [1]=true:=by decide +kernel
theorem dP (w:List Nat):w.map (fun x=>Dt.str (sg x))=Sg.signs (tx w):=by rw[wQ,aao];rfl
theorem w4 {rows:List Row}(ok:bP rows):kz (tx (rows.map (·.c)))=true:=jx fun x hx=>by
 obtain⟨r,hr,rfl⟩:=aaR.mp hx
 have:=ok.sm r hr
 unfold small at this;omega
theorem Kw (T:Txt K mg t):GF P w K mg base CX 3 "tally" 2 (NN t):=by
 refine⟨_,_,_,hV T.pN.F BU rfl fun bo A outer s H E G ds r hr hl hR=>?_,(T.g T.pN.a),T.pN.F.kp,T.pN.b⟩
 obtain⟨six,rows,wd,rfl,ok,rfl⟩:=hR
 have fH:=kj (P:=P) (w:=w) (base:=base) T
 have nd:=BU.nd
 have h6:=ok.le
 let L:=rows.map (·.c)
 have e2:((L.filter fun _=>true).map fun x=>Dt.tup [.str (sg x),.int ((wd.count x:Nat):Int)])=(dI (Pd L wd)).map LI:=by
   rw[aav.mpr (fun _ _=>rfl)]
   exact Sm L wd
 refine⟨_,.ro _,ao (lY (mH T.oU rfl (eU e2 (eh L (fun x=>Dt.str (sg x)) (fun x=>.tup [.str (sg x),.int ((wd.count x:Nat):Int)]) (fun x=>[.val (.str (sg x))]) (fun _=>true) rfl (bD Cd) (fZ (dq (fs:=t.xB six rows) (aa 0 rfl) fH ax hr ⟨six,rows,rfl,ok,rfl⟩)) (bR (bD Cd) rfl) (c6 (cE (w4 ok)) (dP L)) (fun a _=>bY) (.nil fun _ _=>rfl)
     (fun a ha _ C fp s' H' G'=>aS (ae (aa 0 rfl) (ae (aK (GG (aa 1 rfl) (aa 0 rfl)) (congrArg Dt.int (Kt wd a))) ah)) AA3) (qO (by show(rows.map (·.c)).length<=_;rw[k5];omega)))) ?_ ?_))⟩
 . rw[Ku];exact lD ok.nd
 . show((Pd (rows.map (·.c)) wd).map _).length<=_
   unfold Pd
   rw[k5,k5,k5]
   exact qO (by omega)
noncomputable def cT (rows:List Row):Nat->Nat->Nat->Int
 | 0,c,x=>(([c].count x:Nat):Int)
 | i+1,c,x=>((wordOf rows c).map fun y=>cT rows i y x).sum
noncomputable def kc (L:List Nat)(T:Nat->Int):List (Key×Int):=L.map fun x=>(.inr (sg x),T x)
noncomputable def lT (rows:List Row)(i c:Nat):Int:=((rows.map (·.c)).map fun x=>cT rows i c x).sum
noncomputable def xa (rows:List Row)(i:Nat):List (Key×FD):=(rows.map (·.c)).map fun c=>(.inr (sg c),.eX (kc (rows.map (·.c)) (cT rows i c)))
noncomputable def Ao (rows:List Row)(i:Nat):List (Key×FD):=(rows.map (·.c)).map fun c=>(.inr (sg c),.int (lT rows i c))
theorem NO (L:List Nat)(T:Nat->Int):(kc L T).map (·.2)=L.map T:=by unfold kc;rw[aao];rfl
theorem NP (L:List Nat)(T:Nat->Int):(dI (kc L T)).map (·.1)=L.map fun x=>(Sum.inr (sg x):Key):=by unfold dI kc;rw[aao,aao];rfl
theorem So (L:List Nat)(T:Nat->Int):(dI (kc L T)).length=L.length:=by unfold dI kc;rw[k5,k5]
noncomputable def kd (L:List Nat)(D:Nat->Dt):List (Key×Dt):=L.map fun x=>(.inr (sg x),D x)
theorem md {D:Nat->Dt}:∀ {L:List Nat} {x:Nat},x∈L->mG (kd L D) (.inr (sg x))=some (D x)
 | [],_,h=>by cases h
 | y::L,x,h=>by
   by_cases e:y=x
   . subst e
     exact rm (p:=((.inr (sg y):Key),D y)) rfl
   . have ne:¬ (Sum.inr (sg y):Key)=.inr (sg x):=fun z=>e (qK (Sum.inr.inj z))
     have hx:x∈L:=by
       rcases aaH.mp h with z | z
       . exact absurd z.symm e
       . exact z
     exact(oG (p:=((.inr (sg y):Key),D y)) ne).trans (md hx)
theorem Pe (L:List Nat)(T:Nat->Int):dI (kc L T)=kd L fun x=>.int (T x):=by unfold dI kc kd;rw[aao];rfl
theorem Hu (rows:List Row)(i:Nat):oe (xa rows i)=kd (rows.map (·.c)) fun c=>.dW (dI (kc (rows.map (·.c)) (cT rows i c))):=by unfold oe xa kd;rw[aao];rfl
theorem Pg (rows:List Row)(i:Nat):oe (Ao rows i)=kd (rows.map (·.c)) fun c=>.int (lT rows i c):=by unfold oe Ao kd;rw[aao];rfl
theorem rV (L:List Nat)(D:Nat->Dt):(kd L D).map (·.1)=L.map fun x=>(Sum.inr (sg x):Key):=by unfold kd;rw[aao];rfl
theorem Ce (L:List Nat)(D:Nat->Dt):(L.map fun x=>Dt.tup [.str (sg x),D x])=(kd L D).map LI:=by unfold kd;rw[aao];rfl
theorem Kx {L:List Nat}(nd:L.Nodup){D:Nat->Dt}{j:Nat}(hj:j < L.length):vQ (kd (L.take j) D) (.inr (sg L[j])) (D L[j])=kd (L.take (j+1)) D:=by
 have hn:mG (kd (L.take j) D) (.inr (sg L[j]))=none:=by
   refine sH fun kv YH=>?_
   have:kv.1∈(kd (L.take j) D).map (·.1):=aaR.mpr ⟨kv,YH,rfl⟩
   rw[rV] at this
   obtain⟨y,hy,e⟩:=aaR.mp this
   intro z
   rw[<- e] at z
   have z:y=L[j]:=qK (Sum.inr.inj z)
   obtain⟨i,hi,e⟩:=aaX.mp hy
   rw[aay] at hi
   rw[abv] at e
   exact aa0.mp nd i j (by omega) hj (by omega) (e.trans z)
 unfold vQ
 rw[hn,if_neg (by simp)]
 unfold kd
 rw[aaY,k3 hj,aa6];rfl
noncomputable def Ky (L:List Nat)(T:Nat->Int):Dt:=.dW (dI (kc L T))
def Kz:Rl:=fun ds r=>∃ (L:List Nat) (ts:List (Nat->Int)),ds=[.lst (ts.map (Ky L)),.str (tx L)]/\L.Nodup/\L.length<=6/\(∀ x∈L,x < 128)/\ts.length<=1000/\r=.own (.eX (dI (kc L fun x=>(ts.map fun T=>T x).sum)))
noncomputable abbrev Sq:Stmt->Scope
 | .Return (some (.Call _ (.ListComp _ _ sc _::_) _ _)) _=>sc
 | _=>af (.Pass ⟨0,0,0,0⟩)
noncomputable abbrev Wd:Stmt->Scope
 | .Return (some (.Call _ (.ListComp (.Tuple [_,.Call _ (.ListComp _ _ sc _::_) _ _] _ _) _ _ _::_) _ _)) _=>sc
 | _=>af (.Pass ⟨0,0,0,0⟩)
noncomputable abbrev Ph:Scope:=Sq ((aE kh).getD 0 (.Pass ⟨0,0,0,0⟩))
noncomputable abbrev Sr:Scope:=Wd ((aE kh).getD 0 (.Pass ⟨0,0,0,0⟩))
noncomputable def Ss (sc:Scope):Env:={ scope:=sc,locals:=0,globals:=0,cells:=[],qual:="",func:=none,code:=.none,frame:=none,builtins:=0}
noncomputable abbrev We:Scope:=relabel Ph (Ss (af kh))
theorem Pj:BF Ph (af kh) BV ["letter","tallies"] "letter" [0]=true:=by decide +kernel
theorem KA:gM Sr We ["letter","tallies"] ["counts","letter"] ["counts"] [0]=true:=by decide +kernel
theorem G7 (T:Txt K mg t):GF P w K mg base CX 2 "summed" 2 Kz:=by
 refine⟨_,_,_,hV T.mR.F yD rfl fun bo A outer s H E G ds r hr hl hR=>?_,(T.g T.mR.a),T.mR.F.kp,T.mR.b⟩
 obtain⟨L,ts,rfl,hnd,hL,h7,hts,rfl⟩:=hR
 have nd:=yD.nd
 have hu:(A.deeper (envOfC "summed" (af kh) s.heap.objs.size t.oT bo)).units+1 < cLine:=by have:=hr.units;omega
 let D:Nat->Dt:=fun x=>.int (ts.map fun T=>T x).sum
 have e2:((L.filter fun _=>true).map fun x=>Dt.tup [.str (sg x),D x])=(dI (kc L fun x=>(ts.map fun T=>T x).sum)).map LI:=by
   rw[aav.mpr (fun _ _=>rfl),Pe]
   exact Ce L D
 refine⟨_,.ro _,ao (lY (mH T.oU rfl (eU e2 (Jo L (fun x=>Dt.str (sg x)) (fun x=>.tup [.str (sg x),D x]) (fun x=>[.val (.str (sg x))]) (fun _=>true) rfl (yw Pj) (fZ (aa 1 rfl)) (vX (yw Pj)) (c6 (cE (jx h7)) (dP L)) (fun a _=>bY) (.nil fun _ _=>rfl)
     (fun a ha _ c C fp s' H' G'=>?_) (qO (by omega)))) (by rw[NP];exact lD hnd) (by rw[So];exact qO (by omega))))⟩
 have e3:((ts.filter fun _=>true).map fun T=>Dt.int (T a))=(ts.map fun T=>T a).map Dt.int:=by
   rw[aav.mpr (fun _ _=>rfl),aao];rfl
 refine aS (ae (aa 0 rfl) (ae (Jc T.B5 rfl (eU e3 (eh ts (Ky L) (fun T=>Dt.int (T a)) (fun T=>[.val (Ky L T)]) (fun _=>true) rfl (bD KA) (ik (aa 1 rfl)) (bR (bD KA) rfl) gq (fun a _=>bY) (.nil fun _ _=>rfl)
   (fun T' hT' _ C2 Vo s2 H2 G2=>?_) (qO (by omega))))) ah)) AA3
 exact lH hu (aa 0 rfl) (aa 1 rfl) (by rw[Pe];exact md ha) (fun _ _=>rfl)
noncomputable def dR.Ap (t:dR)(six:Bool)(rows:List Row)(w:List Nat):List (Str×Dt):=[("rules",t.x8 six rows),("seed",.str (tx w))]
noncomputable def oY (rows:List Row):List (Nat->List (Key×FD)):=[xa rows,Ao rows]
noncomputable abbrev dR.gK (t:dR)(six:Bool)(rows:List Row)(w:List Nat)(l:Addr)(ls:km)(n:Nat):List (Str×Dt):=tP (t.Ap six rows w) ["tallies","lengths"] l ls n
noncomputable abbrev dR.G8 (t:dR)(six:Bool)(rows:List Row)(w:List Nat)(l:Addr)(ls:km)(n:Nat):List (Str×Dt):=pX (t.Ap six rows w) ["tallies","lengths"] l ls n
noncomputable abbrev dR.ZZ (t:dR)(six:Bool)(rows:List Row)(w:List Nat)(n:Nat):Dt:=.vB t.ar (t.Ap six rows w) (oY rows) ["tallies","lengths"] n
structure lx (rows:List Row)(w:List Nat):Prop where
 ok:bP rows
 w0:0 < w.length
 w8:w.length<=8
 wm:∀ x∈w,x∈rows.map (·.c)
theorem Cf {a:Addr}:∀ rows:List Row,zA a (tf rows)=true
 | []=>rfl
 | r::rows=>by
   show(sJ a (n9 r) && zA a (tf rows))=true
   rw[Cf rows];rfl
theorem DJ {a:Addr}(t:dR)(six:Bool)(rows:List Row):sJ a (t.x8 six rows)=true:=by
 show kM a [("drawer",.i4 (.obj (t.pc six) [])),("row_by_letter",.eX (tf rows))]=true
 show(true && (zA a (tf rows) && true))=true
 rw[Cf];rfl
theorem Cg {a:Addr}(t:dR)(six:Bool)(rows:List Row)(w:List Nat):kM a (t.Ap six rows w)=true:=by
 show(sJ a (t.x8 six rows) && (true && true))=true
 rw[DJ];rfl
def NQ (t:dR):Rl:=fun ds r=>∃ six rows w,ds=[t.x8 six rows,.str (tx w)]/\lx rows w/\r=.own (.sj t.ar (t.Ap six rows w) (oY rows) ["tallies","lengths"] 1)
noncomputable abbrev DK:Stmt->Scope
 | .Assign _ (.List [.Call _ (.ListComp _ _ sc _::_) _ _] _) _=>sc
 | _=>af (.Pass ⟨0,0,0,0⟩)
noncomputable abbrev Sv:Scope:=DK ((aE dQ).getD 2 (.Pass ⟨0,0,0,0⟩))
noncomputable abbrev Sx:Scope:=DK ((aE dQ).getD 3 (.Pass ⟨0,0,0,0⟩))
theorem KC:gM Sv (af dQ) mq ["letter","rules"] ["letter"] [1]=true:=by decide +kernel
theorem KD:gM Sx (af dQ) mq ["letter"] ["letter"] []=true:=by decide +kernel
theorem FE:∀ {L:List Nat} {c:Nat},L.Nodup->c∈L->(L.map fun x=>(([c].count x:Nat):Int)).sum=1
 | [],_,_,h=>by cases h
 | y::L,c,nd,h=>by
   rw[abu] at nd
   rw[aau,abp]
   by_cases e:c=y
   . subst e
     have z:(L.map fun x=>(([c].count x:Nat):Int)).sum=0:=by
       have:∀ x∈L,(([c].count x:Nat):Int)=0:=fun x hx=>by
         have:¬ c=x:=fun z=>nd.1 (z ▸ hx)
         simp[List.count_cons,this]
       rw[abV this]
       clear this nd h
       induction L with
       | nil=>rfl
       | cons a r ih=>rw[aau,abp,ih];rfl
     rw[z]
     simp
   . have hc:c∈L:=by
       rcases aaH.mp h with z | z
       . exact absurd z e
       . exact z
     rw[FE nd.2 hc]
     simp[List.count_cons,e]
theorem Wf {rows:List Row}(ok:bP rows){c:Nat}(h:c∈rows.map (·.c)):lT rows 0 c=1:=FE ok.nd h
theorem KG (T:Txt K mg t):TL P w K mg base CX 4 "Growth" t.ar 3 (NQ t):=by
 refine⟨_,_,_,Xc T.j7.F oP rfl fun bo A outer s H E G z ds r hr hl hR=>?_,T.sU,(T.g T.aN.a),T.j7.b⟩
 obtain⟨six,rows,wd,rfl,ok,rfl⟩:=hR
 have fH:=kj (P:=P) (w:=w) (base:=base) T
 have G9:=tY (P:=P) (w:=w) (base:=base) T
 have NR:=Kw (P:=P) (w:=w) (base:=base) T
 have h6:=ok.ok.le
 let L:=rows.map (·.c)
 have hL:L.length<=6:=by show(rows.map (·.c)).length<=6;rw[k5];exact h6
 have nd:=oP.nd
 have e1:((L.filter fun _=>true).map fun x=>Dt.tup [.str (sg x),Ky L (cT rows 0 x)])=(oe (xa rows 0)).map LI:=by
   rw[aav.mpr (fun _ _=>rfl),Hu]
   exact Ce L _
 have e2:((L.filter fun _=>true).map fun x=>Dt.tup [.str (sg x),.int 1])=(oe (Ao rows 0)).map LI:=by
   rw[aav.mpr (fun _ _=>rfl),Pg,<- Ce]
   exact abV fun x hx=>by rw[Wf ok.ok hx]
 refine⟨_,.Yx (fs:=t.Ap six rows wd) (gs:=oY rows) (nm:=["tallies","lengths"]) (n:=1) rfl,ag (ky (aa 1 rfl) T.aN.cl T.cb) (ag (ky (C3 (fs:=t.xB six rows) (aa 1 rfl) G9 ax hr (ae (aa 2 rfl) ah) ⟨six,rows,wd,8,rfl,ok.ok,ok.wm,⟨ok.w0,ok.w8,by decide⟩,rfl⟩) T.aN.cl T.gd)
   (zE (f:=xa rows) (g:=Ao rows) rfl T.aN.cl T.cG T.cH ?_ ?_))⟩
 . refine mH T.oU rfl (eU e1 (eh L (fun x=>Dt.str (sg x)) (fun x=>.tup [.str (sg x),Ky L (cT rows 0 x)]) (fun x=>[.val (.str (sg x))]) (fun _=>true) rfl (bD KC) (fZ (dq (fs:=t.xB six rows) (aa 1 rfl) fH ax hr ⟨six,rows,rfl,ok.ok,rfl⟩)) (bR (bD KC) rfl) (c6 (cE (w4 ok.ok)) (dP L)) (fun a _=>bY) (.nil fun _ _=>rfl)
     (fun a ha _ C fp s' H' G'=>aS (ae (aa 0 rfl) (ae (OW (Bo NR ax hr (ae (aa 1 rfl) (ae (aa 0 rfl) ah)) ⟨six,rows,[a],rfl,ok.ok,rfl⟩)) ah)) AA3) (qO (by omega)))) (by rw[Hu,rV];exact lD ok.ok.nd) (by rw[Hu];show(List.map _ _).length<=_;rw[k5,k5];exact qO (by omega))
 . refine mH T.oU rfl (eU e2 (eh L (fun x=>Dt.str (sg x)) (fun x=>.tup [.str (sg x),.int 1]) (fun x=>[.val (.str (sg x))]) (fun _=>true) rfl (bD KD) (fZ (dq (fs:=t.xB six rows) (aa 1 rfl) fH ax hr ⟨six,rows,rfl,ok.ok,rfl⟩)) (bR (bD KD) rfl) (c6 (cE (w4 ok.ok)) (dP L)) (fun a _=>bY) (.nil fun _ _=>rfl)
     (fun a ha _ C fp s' H' G'=>aS (ae (aa 0 rfl) (ae ai ah)) AA3) (qO (by omega)))) (by rw[Pg,rV];exact lD ok.ok.nd) (by rw[Pg];show(List.map _ _).length<=_;rw[k5,k5];exact qO (by omega))
def KH (t:dR):Rl:=fun ds r=>∃ six rows w l ls n age,ds=[.obj t.ar (t.gK six rows w l ls n),.int ((age:Nat):Int)]/\lx rows w/\ls.map (·.2)=oY rows/\age<=1000/\r=.ret (.uH l ls (age+1))
noncomputable abbrev Wg:Stmt->List Stmt
 | .While _ b _ _=>b
 | _=>[]
noncomputable abbrev Ci:Stmt->Scope
 | .For _ _ [.Assign _ (.Call _ (.ListComp _ _ sc _::_) _ _) _] _ _=>sc
 | _=>af (.Pass ⟨0,0,0,0⟩)
noncomputable abbrev NS:Stmt->Scope
 | .Expr (.Call _ [.Call _ (.ListComp _ _ sc _::_) _ _] _ _) _=>sc
 | _=>af (.Pass ⟨0,0,0,0⟩)
noncomputable abbrev wB:List Stmt:=Wg ((aE bN).getD 1 (.Pass ⟨0,0,0,0⟩))
noncomputable abbrev Wh:Scope:=Ci (wB.getD 2 (.Pass ⟨0,0,0,0⟩))
noncomputable abbrev Wi:Scope:=NS (wB.getD 4 (.Pass ⟨0,0,0,0⟩))
theorem Pk:gM Wh (af bN) iW ["younger","last"] ["younger"] [3]=true:=by decide +kernel
theorem Pl:gM Wi (af bN) iW ["letter","grown"] ["letter"] [4]=true:=by decide +kernel
theorem Hc (T:Txt K mg t):MF P w K mg base CX 4 t.ar "deepen_to" 2 (KH t):=by
 refine⟨T.aN.cl,_,_,_,hV T.fm.F kK rfl fun bo A outer s H E G ds r hr hl hR=>?_,T.di,T.fm.b⟩
 obtain⟨six,rows,wd,l,ls,n,age,rfl,ok,my,gQ,rfl⟩:=hR
 have fH:=kj (P:=P) (w:=w) (base:=base) T
 have qL:=rQ (P:=P) (w:=w) (base:=base) T
 have KI:=G7 (P:=P) (w:=w) (base:=base) T
 have nd:=kK.nd
 have h6:=ok.ok.le
 let L:=rows.map (·.c)
 have hL:L.length<=6:=by show(rows.map (·.c)).length<=6;rw[k5];exact h6
 have h7:∀ x∈L,x < 128:=fun x hx=>by
   obtain⟨r,hr,rfl⟩:=aaR.mp hx
   have:=ok.ok.sm r hr
   unfold small at this;omega
 have hu:(A.deeper (envOfC "Growth.deepen_to" (af bN) s.heap.objs.size t.bO bo)).units+1 < cLine:=by have:=hr.units;omega
 have e2:ls.length=2:=by have:=congrArg abg my;simpa [oY] using this
 let tl:List Slot:=[.val (.int ((age:Nat):Int)),.val (.str (tx L)),.br,.br,.br]
 refine⟨_,pH (by rw[e2];exact aaa 2),ag (dl1:=AI t.ar (t.Ap six rows wd) ["tallies","lengths"] l ls n tl) (au 2 nd (dq (fs:=t.xB six rows) (aH (fs:=t.gK six rows wd l ls n) (aa 0 rfl) T.aN.cl T.cb rfl) fH ax hr ⟨six,rows,rfl,ok.ok,rfl⟩))
   (ao (yy (age:=age) PassesOwn.leaving (Cg t six rows wd) rfl (by decide) (by omega) (fun N G hx=>?_) (fun N hN hNa G0 hA hB=>?_)))⟩
 . exact aQ (tQ (EX (N:=N) T.gN hx (aH (fs:=t.G8 six rows wd l ls n) (aa 0 rfl) T.aN.cl T.cG rfl) (by rw[e2];rfl)) (aa 1 rfl)) (decide_eq_decide.mpr (by omega))
 . let Dk:Nat->Dt:=fun c=>Ky L (cT rows N c)
   let S:Nat->List Slot:=fun k=>[.val (.obj t.ar (t.G8 six rows wd l ls n)),.val (.int ((age:Nat):Int)),.val (.str (tx L)),.val (.dW (oe (xa rows (N - 1)))),.own (.eX (kd (L.take k) Dk)),.br]
   have eS:S L.length=[.val (.obj t.ar (t.G8 six rows wd l ls n)),.val (.int ((age:Nat):Int)),.val (.str (tx L)),.val (.dW (oe (xa rows (N - 1)))),.own (.eX (oe (xa rows N))),.br]:=by
     show [_,_,_,_,Slot.own (.eX (kd (L.take L.length) Dk)),_]=_
     rw[abb,Hu rows N];rfl
   refine ag (au 3 nd (BG (f:=xa rows) (N:=N) ak (aH (fs:=t.G8 six rows wd l ls n) (aa 0 rfl) T.aN.cl T.cG rfl) (iQ ai) (by rw[my];rfl) (by rw[e2];rfl) hN)) (ag (jQ 4 nd EK)
     (ag (dl1:=S L.length) (nh (o:=.nx (S L.length)) (m:=L.length) L (fun x=>Dt.str (sg x)) (fun x dl=>dl.set 5 (.val (.str (sg x)))) S rfl PassesOwn.leaving (fZ (aa 2 rfl)) (c6 (cE (jx h7)) (dP L)) (bC nd rfl (.inl rfl)) (fun a _=>rj) (Le.of ⟨rfl,rfl,rfl,rfl,rfl,trivial⟩) (aaa _) (fun k a hk ha=>?_) (.all rfl)) ?_))
   . rw[k3 hk] at ha
     cases ha
     have hm:L[k]∈L:=aaP hk
     obtain⟨q,hq,hc,_,ew⟩:=eW hm
     have Z0:=ok.ok.wp q hq
     have Wj:∀ y∈wordOf rows L[k],y∈L:=fun y hy=>ok.ok.wo q hq y (by rw[ew] at hy;exact hy)
     have Qz:(wordOf rows L[k]).length<=8:=by rw[ew];exact Z0.2
     have Vq:(kd (L.take k) Dk).length < sizeLine:=by
       unfold kd
       rw[k5,aay];exact aaq (show min k L.length < 2000 by omega) (by decide)
     have e3:(((wordOf rows L[k]).filter fun _=>true).map fun y=>Ky L (cT rows (N - 1) y))=((wordOf rows L[k]).map fun y=>cT rows (N - 1) y).map (Ky L):=by
       rw[aav.mpr (fun _ _=>rfl),aao];rfl
     have eN:N=(N - 1)+1:=by omega
     have ed:Dk L[k]=.dW (dI (kc L fun x=>(((wordOf rows L[k]).map fun y=>cT rows (N - 1) y).map fun T=>T x).sum)):=by
       have e7:(cT rows N L[k])=fun x=>(((wordOf rows L[k]).map fun y=>cT rows (N - 1) y).map fun T=>T x).sum:=by
         funext x
         rw[aao]
         obtain⟨M,rfl⟩:∃ M,N=M+1:=⟨N - 1,eN⟩
         rfl
       show Ky L (cT rows N L[k])=_
       rw[e7];rfl
     refine .nx (ao (EL (kds:=kd (L.take k) Dk) (d:=Dk L[k]) 4 hu (by rw[ed];exact OW (Bo KI ax hr (ae (eU e3 (eh (wordOf rows L[k]) (fun x=>Dt.str (sg x)) (fun y=>Ky L (cT rows (N - 1) y)) (fun x=>[.val (.str (sg x))]) (fun _=>true) rfl (bD Pk) (fZ (bb (fs:=t.xB six rows) (aH (fs:=t.G8 six rows wd l ls n) (aa 0 rfl) T.aN.cl T.cb rfl) qL ax hr (ae (aa 5 rfl) ah) ⟨six,rows,L[k],rfl,ok.ok,hm,rfl⟩)) (bR (bD Pk) rfl) (c6 (cE (ma ok.ok Wj)) (dP _)) (fun a _=>bY) (.nil fun _ _=>rfl)
       (fun y hy _ C fp s' H' G'=>lH hu (aa 1 rfl) (aa 0 rfl) (by rw[Hu];exact md (Wj y hy)) (fun _ _=>rfl)) (qO (by omega)))) (ae (aa 2 rfl) ah)) ⟨L,_,rfl,ok.ok.nd,hL,h7,by rw[k5];omega,rfl⟩)) (aa 5 rfl) Vq)) (Le.of ⟨rfl,rfl,rfl,rfl,?_,trivial⟩)
     show Slot.own (.eX (kd (L.take (k+1)) Dk))=Slot.own (.eX (vQ (kd (L.take k) Dk) (.inr (sg L[k])) (Dk L[k])))
     rw[Kx ok.ok.nd hk]
   . rw[eS]
     refine Ei (dl1:=.val (.obj t.ar (t.G8 six rows wd l ls n))::tl.set 3 (.own (.eX (oe (xa rows N))))) (BK (f:=xa rows) (g:=Ao rows) (tl:=tl) 3 (Cg t six rows wd) rfl rfl my (by omega) T.aN.cl T.cG T.cH hA hB (fun G2=>?_)) (Le.of ⟨rfl,rfl,rfl,rfl,trivial⟩)
     have e4:((L.filter fun _=>true).map fun x=>Dt.tup [.str (sg x),.int (lT rows N x)])=(oe (Ao rows N)).map LI:=by
       rw[aav.mpr (fun _ _=>rfl),Pg]
       exact Ce L _
     exact mH T.oU rfl (eU e4 (eh L (fun x=>Dt.str (sg x)) (fun x=>.tup [.str (sg x),.int (lT rows N x)]) (fun x=>[.val (.str (sg x))]) (fun _=>true) rfl (bD Pl) (fZ (aa 2 rfl)) (bR (bD Pl) rfl) (c6 (cE (jx h7)) (dP L)) (fun a _=>bY) (.nil fun _ _=>rfl)
       (fun a ha _ C fp s' H' G'=>aS (ae (aa 0 rfl) (ae (aK (MU (kds:=kc L (cT rows N a)) T.B5 rfl (lH (d:=Ky L (cT rows N a)) hu (aa 1 rfl) (aa 0 rfl) (by rw[Hu];exact md ha) (fun _ _=>rfl)) (.inl rfl)) (by rw[NO];rfl)) ah)) AA3) (qO (by omega)))) (by rw[Pg,rV];exact lD ok.ok.nd) (by rw[Pg];show(List.map _ _).length<=_;rw[k5,k5];exact qO (by omega))
def Z1:Rl:=fun ds r=>∃ z f l:Int,ds=[.int z,.int f,.int l]/\f<=z/\z<=l/\r=.ret .cS
def NT (t:dR):Rl:=fun ds r=>∃ six rows w l ls n age,ds=[.obj t.ar (t.gK six rows w l ls n),.int ((age:Nat):Int)]/\lx rows w/\ls.map (·.2)=oY rows/\age<=200/\r=.ret (.uH l ls (age+1))
noncomputable def Z2 (rows:List Row)(w:List Nat)(age:Nat):Int:=(w.map (lT rows age)).sum
def Sy (t:dR):Rl:=fun ds r=>∃ six rows w l ls n age,ds=[.obj t.ar (t.gK six rows w l ls n),.int ((age:Nat):Int)]/\lx rows w/\ls.map (·.2)=oY rows/\age<=200/\r=.ret (.int (Z2 rows w age))
def Sz (t:dR):Rl:=fun ds r=>∃ six rows w l ls n,ds=[.obj t.ar (t.gK six rows w l ls n)]/\r=.ret (t.x8 six rows)
noncomputable abbrev KJ:Stmt->Scope
 | .Return (some (.Call _ (.ListComp _ _ sc _::_) _ _)) _=>sc
 | _=>af (.Pass ⟨0,0,0,0⟩)
noncomputable abbrev Wk:Scope:=KJ ((aE dv).getD 1 (.Pass ⟨0,0,0,0⟩))
theorem Pm:gM Wk (af dv) n8 ["letter","self","age"] ["letter"] [0,1]=true:=by decide +kernel
theorem lx.asc {rows:List Row}{w:List Nat}(ok:lx rows w):kz (tx w)=true:=ma ok.ok ok.wm
theorem Pn (T:Txt K mg t):GF P w K mg base CX 1 "check_round" 3 Z1:=by
 refine⟨_,_,_,hV T.fG.F wk rfl fun bo A outer s H E G ds r hr hl hR=>?_,(T.g T.fG.a),T.fG.F.kp,T.fG.b⟩
 obtain⟨z,f,l,rfl,h1,h2,rfl⟩:=hR
 exact⟨_,.nx _,ao (aI (u:=false) (vH (qW (u:=false) (v:=false) (aQ (yo (aa 0 rfl) (aa 1 rfl)) (decide_eq_false (by omega))) fun _=>(qp (aQ (tR (aa 0 rfl) (aa 2 rfl)) (decide_eq_false (by omega)))))) (fun h=>nomatch h) (fun h=>aT))⟩
theorem xb (T:Txt K mg t):MF P w K mg base CX 5 t.ar "enter" 2 (NT t):=by
 refine⟨T.aN.cl,_,_,_,hV T.jv.F uq rfl fun bo A outer s H E G ds r hr hl hR=>?_,T.fo,T.jv.b⟩
 obtain⟨six,rows,wd,l,ls,n,age,rfl,ok,my,gQ,rfl⟩:=hR
 have SA:=Pn (P:=P) (w:=w) (base:=base) T
 have DL:=Hc (P:=P) (w:=w) (base:=base) T
 have e2:ls.length=2:=by have:=congrArg abg my;simpa [oY] using this
 exact⟨_,pH (nm:=["tallies","lengths"]) (by rw[e2];exact aaa 2),ag (lX (aW SA ax hr (ae (aa 1 rfl) (ae ai (ae (jP (w:=.int 200) T.rO ⟨_,rfl⟩ fun _=>.int 200) ah))) ⟨_,_,_,rfl,by omega,by omega,rfl⟩))
   (ao (mK (m:=age+1) (tl:=[.val (.int ((age:Nat):Int))]) (bb (fs:=t.gK six rows wd l ls n) (aa 0 rfl) DL ax hr (ae (aa 1 rfl) ah) ⟨six,rows,wd,l,ls,n,age,rfl,ok,my,by omega,rfl⟩)))⟩
theorem Aq (T:Txt K mg t):MF P w K mg base CX 6 t.ar "length" 2 (Sy t):=by
 refine⟨T.aN.cl,_,_,_,hV T.iN.F sS rfl fun bo A outer s H E G ds r hr hl hR=>?_,T.eO,T.iN.b⟩
 obtain⟨six,rows,wd,l,ls,n,age,rfl,ok,my,gQ,rfl⟩:=hR
 have Cj:=xb (P:=P) (w:=w) (base:=base) T
 have hu:(A.deeper (envOfC "Growth.length" (af dv) s.heap.objs.size t.cM bo)).units+1 < cLine:=by have:=hr.units;omega
 have w8:=ok.w8
 have e3:((wd.filter fun _=>true).map fun x=>Dt.int (lT rows age x))=(wd.map (lT rows age)).map Dt.int:=by
   rw[aav.mpr (fun _ _=>rfl),aao];rfl
 exact⟨_,.rt _,ag (mK (m:=age+1) (tl:=[.val (.int ((age:Nat):Int))]) (bb (fs:=t.gK six rows wd l ls n) (aa 0 rfl) Cj ax hr (ae (aa 1 rfl) ah) ⟨six,rows,wd,l,ls,n,age,rfl,ok,my,by omega,rfl⟩))
   (ao (aA (Jc T.B5 rfl (eU e3 (eh wd (fun x=>Dt.str (sg x)) (fun x=>Dt.int (lT rows age x)) (fun x=>[.val (.str (sg x))]) (fun _=>true) rfl (bD Pm) (fZ (aH (fs:=t.gK six rows wd l ls (age+1)) (aa 0 rfl) T.aN.cl T.gd rfl)) (bR (bD Pm) rfl) (c6 (cE ok.asc) (dP wd)) (fun a _=>bY) (.nil fun _ _=>rfl)
     (fun a ha _ C fp s' H' G'=>lH hu (Dh (n:=age+1) (j:=1) (f:=Ao rows) (aH (fs:=t.gK six rows wd l ls (age+1)) (aa 1 rfl) T.aN.cl T.cH rfl) (aa 2 rfl) (by rw[my];rfl) (by omega) (by omega)) (aa 0 rfl) (by rw[Pg];exact md (ok.wm a ha)) (fun _ _=>rfl)) (qO (by omega)))))))⟩
theorem Ar (T:Txt K mg t):MF P w K mg base CX 1 t.ar "rules_told" 1 (Sz t):=by
 refine⟨T.aN.cl,_,_,_,hV T.d8.F oQ rfl fun bo A outer s H E G ds r hr hl hR=>?_,T.cY,T.d8.b⟩
 obtain⟨six,rows,wd,l,ls,n,rfl,rfl⟩:=hR
 exact⟨_,.rt _,ao (aA (aH (fs:=t.gK six rows wd l ls n) (aa 0 rfl) T.aN.cl T.cb rfl))⟩
noncomputable def MM:Int:=2305843009213693951
noncomputable def nU (ns:List Int)(k:Nat):Int:=ns.getD (k % ns.length) 0
noncomputable def bw (ns:List Int)(k:Nat):Int:=nU ns k % 10 ^ 60 / MM * MM+(nU ns k+7919 * ((k:Int)+1)) * 6364136223846793005 % MM
theorem Ck (ns:List Int)(k:Nat):0<=bw ns k:=by
 have h1:=aaB (nU ns k) (show(10:Int) ^ 60≠0 by decide)
 have h2:=aaB ((nU ns k+7919 * ((k:Int)+1)) * 6364136223846793005) (show MM≠0 by decide)
 have h3:0<=nU ns k % 10 ^ 60 / MM:=Int.ediv_nonneg h1 (by decide)
 unfold bw
 have h4:0<=nU ns k % 10 ^ 60 / MM * MM:=Int.mul_nonneg h3 (by decide)
 omega
def Wl:Rl:=fun ds r=>∃ ns:List Int,ns.length<=63/\ds=[.o9 ns]/\r=.ret (.bl true)
def KL (K:W.Frag):Sp:=Ek K 1 Wl
theorem SD {K:W.Frag}{H:Hp}{a:Addr}{ns:List Int}(hl:ns.length<=63)(hS:mY K H a (ns.map V.int)):KL K [.ref a] H (fun v _=>v=.bl true) fun _ _ _=>False:=
 ⟨H,[.o9 ns],.ret (.bl true),aF.refl H,.cons (.o9 hS) .nil,rfl,⟨ns,hl,rfl,rfl⟩,fun v aJ H' g r=>by cases r;rfl⟩
def As:Rl:=fun ds r=>∃ (ns:List Int) (k:Nat),ds=[.o9 ns,.int k]/\k<=100/\r=.ret (.int (bw ns k))
def NU:Rl:=fun ds r=>∃ z,ds=[.int z]/\r=.ret (.bl true)
theorem KN (ns:List Int)(k:Nat)(h:k < ns.length):oy ns (k:Int)=some (ns.getD k 0):=by
 refine lW ?_
 rw[YO,k3 h];rfl
theorem xc (T:Txt K mg t):GF P w K mg base CX 1 "_law_cell" 2 As:=by
 refine⟨_,_,_,hV T.sX.F uS rfl fun bo A outer s H E G ds r hr hl hR=>?_,(T.g T.sX.a),T.sX.F.kp,T.sX.b⟩
 obtain⟨ns,k,rfl,hk,rfl⟩:=hR
 refine⟨_,.rt _,ag (au 2 uS.nd ai) (ag (dl1:=[.val (.o9 ns),.val (.int k),.val (.int (nU ns k)),.br]) (aI (tR (zo T.gN (aa 0 rfl)) ai) (fun h=>?_) (fun h=>?_))
   (ag (au 3 uS.nd (cJ (fK (aL (aa 2 rfl) (fK ai (aL (aa 1 rfl) ai) (pW.ok (aaK ⟨by decide,by decide⟩)))) ai (pW.ok (aaD ⟨by decide,by decide⟩))) ai (by decide)))
 (ao (aA (aL (fK (i7 (cJ (aa 2 rfl) (Ii ai ai ⟨by decide,by decide,by decide⟩) (by decide)) ai ⟨by decide,by decide +kernel⟩) ai (pW.ok (aaD ⟨by decide,by decide⟩))) (aa 3 rfl))))))⟩
 . have h:=of_decide_eq_true h
   have hl:0 < ns.length:=by omega
   have e:((k:Nat):Int) % ((ns.length:Nat):Int)=((k % ns.length:Nat):Int):=by omega
   exact ao (au 2 uS.nd (su (aa 0 rfl) (aK (cJ (aa 1 rfl) (zo T.gN (aa 0 rfl)) (by omega)) (congrArg Dt.int e)) (KN ns _ (Nat.mod_lt _ hl))))
 . have h:=of_decide_eq_false h
   have e:nU ns k=0:=by unfold nU;rw[YO,aaF (by omega)];rfl
   rw[e]
   exact aT
theorem KO (T:Txt K mg t):GF P w K mg base CX 1 "_law_whole" 1 NU:=by
 refine⟨_,_,_,hV T.pO.F JQ rfl fun bo A outer s H E G ds r hr hl hR=>?_,(T.g T.pO.a),T.pO.F.kp,T.pO.b⟩
 obtain⟨z,rfl,rfl⟩:=hR
 exact⟨_,.rt _,(ao (aA (vI (u:=true) (v:=true) (zp T.gJ (aa 0 rfl) (Em T.B4 Sg.boot_int) rfl trivial rfl) fun _=>(qX (QH (u:=false) (zp T.gJ (aa 0 rfl) (Em T.Dx Sg.boot_bool) rfl trivial rfl))))))⟩
noncomputable def Z3:List Nat:=(aam 26).map (97 + ·)
structure LS where
 left:List Nat
 rest:Int
 out:List Nat
noncomputable def ls (c:Int):Nat->LS
 | 0=>⟨Z3,c,[]⟩
 | k+1=>let s:=ls c k;let at_:=(s.rest % (s.left.length:Nat)).toNat;⟨s.left.take at_ ++ s.left.drop (at_+1),s.rest / (s.left.length:Nat),s.out ++ [s.left.getD at_ 0]⟩
noncomputable def pT (s:LS):Nat:=(s.rest % (s.left.length:Nat)).toNat
structure LOk (k:Nat)(s:LS):Prop where
 len:s.left.length+k=26
 ol:s.out.length=k
 sm:∀ x∈s.left,small x
 so:∀ x∈s.out,small x
 nl:s.left.Nodup
 no:s.out.Nodup
 ap:∀ x∈s.out,x ∉ s.left
theorem KP {s:LS}(h:0 < s.left.length):pT s < s.left.length:=by
 have h0:=aaB s.rest (show((s.left.length:Nat):Int)≠0 by omega)
 have h1:=aaG s.rest (show(0:Int) < (s.left.length:Nat) by omega)
 unfold pT
 omega
theorem KQ (c:Int):∀ k,k<=6->LOk k (ls c k)
 | 0,_=>⟨show Z3.length+0=26 by decide,rfl,fun x hx=>by
     obtain⟨i,hi,rfl⟩:=aaR.mp (show x∈(aam 26).map (97 + ·) from hx)
     have:=abr.mp hi
     unfold small;omega,fun x h=>absurd h (List.not_mem_nil),show Z3.Nodup by decide,List.nodup_nil,fun x h=>absurd h (List.not_mem_nil)⟩
 | k+1,hk=>by
   have ih:=KQ c k (by omega)
   have hl:=ih.len
   have dn:pT (ls c k) < (ls c k).left.length:=KP (by omega)
   generalize hs:ls c k=s at ih hl dn
   have e:ls c (k+1)=⟨s.left.take (pT s) ++ s.left.drop (pT s+1),s.rest / (s.left.length:Nat),s.out ++ [s.left.getD (pT s) 0]⟩:=by rw[<- hs];rfl
   rw[e]
   have eg:s.left.getD (pT s) 0=s.left[pT s]:=by rw[YO,k3 dn];rfl
   have sub:s.left.take (pT s) ++ s.left.drop (pT s+1)=s.left.eraseIdx (pT s):=(List.eraseIdx_eq_take_drop_succ _ _).symm
   have mem:∀ x∈s.left.take (pT s) ++ s.left.drop (pT s+1),x∈s.left:=fun x hx=>by
     rcases abe.mp hx with h | h
     . exact List.mem_of_mem_take h
     . exact List.mem_of_mem_drop h
   have Q8:s.left[pT s]∈s.left:=aaP dn
   have nin:s.left[pT s] ∉ s.left.take (pT s) ++ s.left.drop (pT s+1):=by
     have pw:=aa0.mp ih.nl
     intro h
     rcases abe.mp h with h | h
     . obtain⟨i,hi,e⟩:=aaX.mp h
       rw[aay] at hi
       rw[abv] at e
       exact pw i (pT s) (by omega) dn (by omega) e
     . obtain⟨i,hi,e⟩:=aaX.mp h
       rw[aba] at hi
       rw[List.getElem_drop] at e
       exact pw (pT s) (pT s+1+i) dn (by omega) (by omega) e.symm
   refine⟨?_,?_,fun x hx=>ih.sm x (mem x hx),fun x hx=>?_,?_,?_,fun x hx=>?_⟩
   . show(s.left.take (pT s) ++ s.left.drop (pT s+1)).length+(k+1)=26
     rw[aax,aay,aba];omega
   . show(s.out ++ [s.left.getD (pT s) 0]).length=k+1
     rw[aax,ih.ol];rfl
   . rcases abe.mp hx with h | h
     . exact ih.so x h
     . have:x=s.left[pT s]:=by rw[<- eg];simpa using h
       rw[this];exact ih.sm _ Q8
   . show(s.left.take (pT s) ++ s.left.drop (pT s+1)).Nodup
     rw[sub]
     exact List.Nodup.sublist (List.eraseIdx_sublist _ _) ih.nl
   . show(s.out ++ [s.left.getD (pT s) 0]).Nodup
     rw[eg]
     refine List.nodup_append.mpr ⟨ih.no,by simp,fun a ha b hb z=>?_⟩
     have:b=s.left[pT s]:=by simpa using hb
     subst z this
     exact ih.ap _ ha Q8
   . rcases abe.mp hx with h | h
     . exact fun z=>ih.ap x h (mem x z)
     . have:x=s.left[pT s]:=by rw[<- eg];simpa using h
       rw[this];exact nin
noncomputable def ws (L:List Nat)(c m:Int):Nat->Int×List Nat
 | 0=>(c / m,[])
 | k+1=>let s:=ws L c m k;(s.1 / (L.length:Nat),s.2 ++ [L.getD (s.1 % (L.length:Nat)).toNat 0])
noncomputable def xf (L:List Nat)(c m:Int):List Nat:=(ws L c m (1+c % m).toNat).2
theorem DM (L:List Nat)(c m:Int):∀ k,(ws L c m k).2.length=k
 | 0=>rfl
 | k+1=>by show((ws L c m k).2 ++ [_]).length=_;rw[aax,DM L c m k];rfl
theorem KR (L:List Nat)(hL:0 < L.length)(c m:Int):∀ k,∀ x∈(ws L c m k).2,x∈L
 | 0,x,h=>by cases h
 | k+1,x,h=>by
   rcases abe.mp h with h | h
   . exact KR L hL c m k x h
   . have h0:=aaB (ws L c m k).1 (show((L.length:Nat):Int)≠0 by omega)
     have h1:=aaG (ws L c m k).1 (show(0:Int) < (L.length:Nat) by omega)
     have dn:((ws L c m k).1 % (L.length:Nat)).toNat < L.length:=by omega
     have:x=L.getD ((ws L c m k).1 % (L.length:Nat)).toNat 0:=by simpa using h
     rw[this,YO,k3 dn]
     exact aaP dn
theorem at_getD {L:List Str}{i:Int}{n:Nat}(hn:L.length=n)(h0:0<=i)(h1:i < n):oy (L.map Dt.str) i=some (.str (L.getD i.toNat "")):=by
 have e:i=((i.toNat:Nat):Int):=by omega
 rw[e]
 have hk:i.toNat < L.length:=by omega
 refine(lW (j:=i.toNat) ?_).trans rfl
 rw[aab,k3 hk,YO]
 show some (Dt.str L[i.toNat])=some (Dt.str ((L[(i.toNat:Int).toNat]?).getD ""))
 rw[aaU,k3 hk];rfl
theorem Au {L:List Nat}(hL:0 < L.length)(c m:Int)(hm:0 < m):0 < (xf L c m).length/\(xf L c m).length<=m.toNat/\∀ x∈xf L c m,x∈L:=by
 have h0:=aaB c (show m≠0 by omega)
 have h1:=aaG c hm
 have hl:=DM L c m (1+c % m).toNat
 refine⟨?_,?_,KR L hL c m _⟩
 . show 0 < (ws L c m (1+c % m).toNat).2.length;omega
 . show(ws L c m (1+c % m).toNat).2.length<=_;omega
noncomputable def xh (c:Int)(n:Nat):List Nat:=(ls c n).out
theorem Cm (c:Int){n:Nat}(h:n<=6):(xh c n).length=n/\(xh c n).Nodup/\∀ x∈xh c n,small x:=let ok:=KQ c n h;⟨ok.ol,ok.no,ok.so⟩
def NV:Rl:=fun ds r=>∃ (c:Int) (n:Nat),ds=[.int c,.int n]/\n<=6/\r=.ret (.str (tx (xh c n)))
def SE:Rl:=fun ds r=>∃ (L:List Nat) (c m:Int),ds=[.int c,.str (tx L),.int m]/\(0 < L.length/\L.length<=100)/\(0<=c/\0 < m/\m<=500)/\r=.ret (.str (tx (xf L c m)))
theorem KS (T:Txt K mg t):GF P w K mg base CX 1 "_law_alphabet" 2 NV:=by
 refine⟨_,_,_,hV T.jL.F tW rfl fun bo A outer s H E G ds r hr hl hR=>?_,(T.g T.jL.a),T.jL.F.kp,T.jL.b⟩
 obtain⟨c,n,rfl,hn,rfl⟩:=hR
 have nd:=tW.nd
 let S:Nat->List Slot:=fun k=>[.val (.int (ls c k).rest),.val (.int n),.val (.str (tx (ls c k).left)),.val (.str (tx (ls c k).out)),.br,.br]
 refine⟨_,.rt _,ag (au 2 nd aO) (ag (au 3 nd aO)
   (ag (gm (o:=.nx (S n)) (m:=n) 4 S nd rfl PassesOwn.leaving T.d9 (ae (aa 1 rfl) ah) ⟨by omega,by omega⟩ (Le.of ⟨rfl,rfl,rfl,rfl,trivial⟩) (by omega) (fun k hk=>?_) (by rw[aaU];exact .all rfl)) (ao (aA (aa 3 rfl)))))⟩
 have ok:=KQ c k (by omega)
 have hl:=ok.len
 have hol:=ok.ol
 have dn:pT (ls c k) < (ls c k).left.length:=KP (by omega)
 have ea:(ls c k).rest % (((ls c k).left.length:Nat):Int)=((pT (ls c k):Nat):Int):=by
   have h0:=aaB (ls c k).rest (show(((ls c k).left.length:Nat):Int)≠0 by omega)
   unfold pT;omega
 have ea1:((pT (ls c k):Nat):Int)+1=((pT (ls c k)+1:Nat):Int):=by omega
 have hb:0 < (((ls c k).left.length:Nat):Int)/\(((ls c k).left.length:Nat):Int).natAbs.log2 < 9000:=⟨by omega,by
   have:(((ls c k).left.length:Nat):Int).natAbs<=26:=by omega
   exact aaO (Nat.log2_le_self _) (by omega)⟩
 exact .nx (ag (au 5 nd (aK (cJ (aa 0 rfl) (oV T.gN (aa 2 rfl) (by omega)) (by omega)) (congrArg Dt.int ea)))
   (ag (au 0 nd (i7 (aa 0 rfl) (oV T.gN (aa 2 rfl) (by omega)) hb))
   (ag (au 3 nd (Ae (aa 3 rfl) (Af (aa 2 rfl) (aa 5 rfl) dn (by omega)) (by rw[hol];show k+1<=2000;omega)))
   (ao (au 2 nd (Ae (Fm (aa 2 rfl) (aa 5 rfl) (aa7 dn) (by omega)) (G3 (aa 2 rfl) (aK (aL (aa 5 rfl) ai) (congrArg Dt.int ea1)) dn (by omega)) (by rw[aay,aba];omega))))))) (Le.of ⟨rfl,rfl,rfl,rfl,trivial⟩)
theorem NW (T:Txt K mg t):GF P w K mg base CX 1 "_law_text" 3 SE:=by
 refine⟨_,_,_,hV T.sY.F E4 rfl fun bo A outer s H E G ds r hr hl hR=>?_,(T.g T.sY.a),T.sY.F.kp,T.sY.b⟩
 obtain⟨L,c,m,rfl,⟨hL0,hL⟩,⟨hc,Mr,hm⟩,rfl⟩:=hR
 have nd:=E4.nd
 have h0:=aaB c (show m≠0 by omega)
 have h1:=aaG c Mr
 have hmb:0 < m/\m.natAbs.log2 < 9000:=⟨Mr,aaO (Nat.log2_le_self _) (by omega)⟩
 have hLb:0 < ((L.length:Nat):Int)/\((L.length:Nat):Int).natAbs.log2 < 9000:=⟨by omega,aaO (Nat.log2_le_self _) (by omega)⟩
 let S:Nat->List Slot:=fun k=>[.val (.int (ws L c m k).1),.val (.str (tx L)),.val (.int m),.val (.str (tx (ws L c m k).2)),.val (.int (1+c % m)),.br]
 refine⟨_,.rt _,ag (au 3 nd aO) (ag (au 4 nd (aL ai (cJ (aa 0 rfl) (aa 2 rfl) Mr))) (ag (au 0 nd (i7 (aa 0 rfl) (aa 2 rfl) hmb))
   (ag (gm (m:=(1+c % m).toNat) 5 S nd rfl PassesOwn.leaving T.d9 (ae (aa 4 rfl) ah) ⟨by omega,by omega⟩ (Le.of ⟨rfl,rfl,rfl,rfl,rfl,trivial⟩) (aaa _) (fun k hk=>?_) (.all rfl)) (ao (aA (aa 3 rfl))))))⟩
 have Qz:=DM L c m k
 have h2:=aaB (ws L c m k).1 (show((L.length:Nat):Int)≠0 by omega)
 have h3:=aaG (ws L c m k).1 (show(0:Int) < (L.length:Nat) by omega)
 have ea:(ws L c m k).1 % ((L.length:Nat):Int)=((((ws L c m k).1 % (L.length:Nat)).toNat:Nat):Int):=by omega
 exact .nx (ag (au 3 nd (Ae (aa 3 rfl) (Af (aa 1 rfl) (aK (cJ (aa 0 rfl) (oV T.gN (aa 1 rfl) (by omega)) (by omega)) (congrArg Dt.int ea)) (by omega) (by omega)) (by rw[Qz];show k+1<=2000;omega)))
   (ao (au 0 nd (i7 (aa 0 rfl) (oV T.gN (aa 1 rfl) (by omega)) hLb)))) (Le.of ⟨rfl,rfl,rfl,rfl,rfl,trivial⟩)
noncomputable def FF:List Str:=["stroke","left","right","step","rest"]
noncomputable def dG (c:Int):Str:=FF.getD (c % 5).toNat ""
theorem Hd:∀ x∈FF,x∈l9:=by decide
theorem SF (c:Int):dG c∈l9:=by
 have h0:=aaB c (show(5:Int)≠0 by decide)
 have h1:=aaG c (show(0:Int) < 5 by decide)
 have hk:(c % 5).toNat < FF.length:=by show _ < 5;omega
 refine Hd _ ?_
 unfold dG
 rw[YO,k3 hk]
 exact aaP hk
noncomputable def yb (L:List Nat)(ns:List Int)(m:Int)(k:Nat):Row:=⟨L.getD k 0,dG (bw ns (3+k)),xf L (bw ns (3+k) / 5) m⟩
noncomputable def xi (L:List Nat)(ns:List Int)(m:Int):List Row:=(aam L.length).map (yb L ns m)
theorem DN (L:List Nat)(ns:List Int)(m:Int):(xi L ns m).map (·.c)=L:=by
 unfold xi
 rw[aao]
 refine List.ext_getElem (by simp) fun i h1 h2=>?_
 simp only[aaQ,List.getElem_range,Function.comp]
 show L.getD i 0=L[i]
 rw[YO,k3 h2];rfl
theorem KU {L:List Nat}(ns:List Int){m:Int}(hm:0 < m/\m<=8)(h0:0 < L.length)(h6:L.length<=6)(nd:L.Nodup)(sm:∀ x∈L,small x):bP (xi L ns m):=by
 have hl:(xi L ns m).length=L.length:=by unfold xi;rw[k5,aaI]
 have get:∀ r∈xi L ns m,∃ k,k < L.length/\r=yb L ns m k:=fun r hr=>by
   obtain⟨k,hk,e⟩:=aaR.mp hr
   exact⟨k,abr.mp hk,e.symm⟩
 refine⟨by omega,by omega,by rw[DN];exact nd,fun r hr=>?_,fun r hr=>?_,fun r hr=>?_,fun r hr x hx=>?_⟩
 . obtain⟨k,hk,rfl⟩:=get r hr
   refine sm _ ?_
   show L.getD k 0∈L
   rw[YO,k3 hk]
   exact aaP hk
 . obtain⟨k,hk,rfl⟩:=get r hr
   exact SF _
 . obtain⟨k,hk,rfl⟩:=get r hr
   have:=Au h0 (bw ns (3+k) / 5) m hm.1
   exact⟨this.1,by have:=this.2.1;show(xf _ _ _).length<=8;omega⟩
 . obtain⟨k,hk,rfl⟩:=get r hr
   rw[DN]
   exact(Au h0 (bw ns (3+k) / 5) m hm.1).2.2 x hx
noncomputable def tu (ns:List Int)(far:Int):Int:=if bw ns 1 % 8=6 then bw ns 1 / 8 % (far+1) else bw ns 1 / 8 % 13
noncomputable def qk (ns:List Int)(far:Int):Int:=if bw ns 1 % 8=7 then 200 - bw ns 1 / 8 % 100 else tu ns far
noncomputable def jz (ns:List Int):Int:=if bw ns 1 % 8=7 then 1+bw ns 0 / 2 % 2 else 1+bw ns 0 / 2 % 6
noncomputable def tw (ns:List Int):Int:=if bw ns 1 % 8=7 then 2 else 8
noncomputable def FG (ns:List Int):List Nat:=xh (bw ns 0 / 12) (jz ns).toNat
noncomputable def xj (ns:List Int):List Row:=xi (FG ns) ns (tw ns)
noncomputable def vj (ns:List Int):List Nat:=xf (FG ns) (bw ns 2) 8
noncomputable def FH (ns:List Int):Bool:=decide (bw ns 0 % 2=1)
theorem Wm (ns:List Int):4+2 * (bw ns 0 % 2)=wy (FH ns):=by
 have:bw ns 0 % 2=0\/bw ns 0 % 2=1:=by omega
 unfold FH
 rcases this with h | h <;> rw[h] <;> rfl
theorem xk (ns:List Int):1<=jz ns/\jz ns<=6:=by
 unfold jz
 split <;> omega
theorem Cn (ns:List Int):0 < tw ns/\tw ns<=8:=by
 unfold tw
 split <;> omega
theorem NX (ns:List Int){far:Int}(h0:0<=far)(h:far<=200):0<=qk ns far/\qk ns far<=200:=by
 have h1:=aaB (bw ns 1 / 8) (show far+1≠0 by omega)
 have h2:=aaG (bw ns 1 / 8) (show(0:Int) < far+1 by omega)
 unfold qk tu
 split
 . omega
 . split <;> omega
theorem DO (ns:List Int):0 < (FG ns).length/\(FG ns).length<=6/\(FG ns).Nodup/\∀ x∈FG ns,small x:=by
 have hb:=xk ns
 have ok:=Cm (bw ns 0 / 12) (n:=(jz ns).toNat) (by omega)
 unfold FG
 exact⟨by omega,by omega,ok.2.1,ok.2.2⟩
theorem SG (ns:List Int):(FG ns).length=(jz ns).toNat:=by
 have hb:=xk ns
 exact(Cm (bw ns 0 / 12) (n:=(jz ns).toNat) (by omega)).1
theorem Wn (ns:List Int):bP (xj ns):=let h:=DO ns;KU ns (Cn ns) h.1 h.2.1 h.2.2.1 h.2.2.2
theorem Wo (ns:List Int):lx (xj ns) (vj ns):=by
 have h:=DO ns
 have w:=Au h.1 (bw ns 2) 8 (by decide)
 exact⟨Wn ns,w.1,w.2.1,fun x hx=>by unfold xj;rw[DN];exact w.2.2 x hx⟩
def NY:Rl:=fun ds r=>∃ (ns:List Int) (far:Int),ds=[.o9 ns,.int far]/\(0<=far/\far<=200)/\r=.ret (.tup [.int (wy (FH ns)),.lst ((xj ns).map n9),.str (tx (vj ns)),.int (qk ns far)])
theorem KW (T:Txt K mg t):GF P w K mg base CX 2 "_law_shape" 2 NY:=by
 refine⟨_,_,_,hV T.pP.F BX rfl fun bo A outer s H E G ds r hr hl hR=>?_,(T.g T.pP.a),T.pP.F.kp,T.pP.b⟩
 obtain⟨ns,far,rfl,⟨hf0,hf⟩,rfl⟩:=hR
 have nd:=BX.nd
 have jM:=xc (P:=P) (w:=w) (base:=base) T
 have NZ:=KS (P:=P) (w:=w) (base:=base) T
 have KY:=NW (P:=P) (w:=w) (base:=base) T
 have hM:=xk ns
 have hm:=Cn ns
 have hL:=DO ns
 have hlen:=SG ns
 have eM:jz ns=(((jz ns).toNat:Nat):Int):=by omega
 let c0:=bw ns 0
 let c1:=bw ns 1
 let L:=FG ns
 let m:=tw ns
 let D:Int->Int->Int->List Slot:=fun a b c=>[.val (.o9 ns),.val (.int far),.val (.int c0),.val (.int (c1 % 8)),.val (.int a),.val (.int b),.val (.int c),.br,.br,.br,.br,.br,.br]
 let S:Nat->List Slot:=fun k=>[.val (.o9 ns),.val (.int far),.val (.int c0),.val (.int (c1 % 8)),.val (.int (qk ns far)),.val (.int (jz ns)),.val (.int m),.val (.str (tx L)),.own (.lst (((aam k).map (yb L ns m)).map n9)),.br,.br,.br,.br]
 have cl:∀ (j:Nat),j<=100->As [.o9 ns,.int j] (.ret (.int (bw ns j))):=fun j hj=>⟨ns,j,rfl,hj,rfl⟩
 refine⟨_,.rt _,ag (au 2 nd (aW jM ax hr (ae (aa 0 rfl) (ae ai ah)) (cl 0 (by decide))))
   (ag (au 3 nd (cJ (aW jM ax hr (ae (aa 0 rfl) (ae ai ah)) (cl 1 (by decide))) ai (by decide)))
   (ag (au 4 nd (cJ (i7 (aW jM ax hr (ae (aa 0 rfl) (ae ai ah)) (cl 1 (by decide))) ai ⟨by decide,by decide +kernel⟩) ai (by decide)))
   (ag (au 5 nd (aL ai (cJ (i7 (aa 2 rfl) ai ⟨by decide,by decide +kernel⟩) ai (by decide))))
   (ag (au 6 nd ai)
   (ag (dl1:=D (tu ns far) (1+c0 / 2 % 6) 8) (aI (kr (aa 3 rfl) ai) (fun h=>?_) (fun h=>?_))
   (ag (dl1:=D (qk ns far) (jz ns) m) (aI (kr (aa 3 rfl) ai) (fun h=>?_) (fun h=>?_))
   (ag (au 7 nd (d:=.str (tx L)) (aW NZ ax hr (ae (i7 (aa 2 rfl) ai ⟨by decide,by decide +kernel⟩) (ae (aK (aa 5 rfl) (congrArg Dt.int eM)) ah)) ⟨c0 / 12,(jz ns).toNat,rfl,by omega,rfl⟩))
   (ag (jQ 8 nd (qt ah AA3))
   (ag (dl1:=S L.length) (gm (o:=.nx (S L.length)) (m:=L.length) 9 S nd rfl PassesOwn.leaving T.d9 (ae (aK (aa 5 rfl) (congrArg Dt.int eM)) ah) ⟨by omega,by omega⟩ (Le.of ⟨rfl,rfl,rfl,rfl,rfl,rfl,rfl,rfl,rfl,trivial⟩) (by show(FG ns).length<=_;omega) (fun k hk=>?_) (by rw[aaU,<- hlen];exact .all rfl))
   (ag (au 12 nd (d:=.str (tx (vj ns))) (aW KY ax hr (ae (aW jM ax hr (ae (aa 0 rfl) (ae ai ah)) (cl 2 (by decide))) (ae (aa 7 rfl) (ae ai ah))) ⟨L,bw ns 2,8,rfl,⟨hL.1,by show(FG ns).length<=100;omega⟩,⟨Ck _ _,by decide,by decide⟩,rfl⟩))
   (qr (w:=.lst (((aam L.length).map (yb L ns m)).map n9)) 8 (ao (aA (aS (ae (aK (aL ai (fK ai (cJ (aa 2 rfl) ai (by decide)) (pW.ok (aaK ⟨by decide,by decide⟩)))) (congrArg Dt.int (Wm ns))) (ae (aa 8 rfl) (ae (aa 12 rfl) (ae (aa 4 rfl) ah)))) AA3))))))))))))))⟩
 . have h:=of_decide_eq_true h
   have e:tu ns far=c1 / 8 % (far+1):=if_pos h
   rw[e]
   exact ao (au 4 nd (cJ (i7 (aW jM ax hr (ae (aa 0 rfl) (ae ai ah)) (cl 1 (by decide))) ai ⟨by decide,by decide +kernel⟩) (aL (aa 1 rfl) ai) (by omega)))
 . have h:=of_decide_eq_false h
   have e:tu ns far=c1 / 8 % 13:=if_neg h
   rw[e]
   exact aT
 . have h:=of_decide_eq_true h
   have e1:qk ns far=200 - c1 / 8 % 100:=if_pos h
   have e2:jz ns=1+c0 / 2 % 2:=if_pos h
   have e3:m=2:=if_pos h
   rw[e1,e2,e3]
   exact ag (au 4 nd (gO ai (cJ (i7 (aW jM ax hr (ae (aa 0 rfl) (ae ai ah)) (cl 1 (by decide))) ai ⟨by decide,by decide +kernel⟩) ai (by decide))))
     (ag (au 5 nd (aL ai (cJ (i7 (aa 2 rfl) ai ⟨by decide,by decide +kernel⟩) ai (by decide)))) (ao (au 6 nd ai)))
 . have h:=of_decide_eq_false h
   have e1:qk ns far=tu ns far:=if_neg h
   have e2:jz ns=1+c0 / 2 % 6:=if_neg h
   have e3:m=8:=if_neg h
   rw[e1,e2,e3]
   exact aT
 . have hk:k < (FG ns).length:=hk
   have h0:=aaB (bw ns (3+k)) (show(5:Int)≠0 by decide)
   have h1:=aaG (bw ns (3+k)) (show(0:Int) < 5 by decide)
   have hnn:=Ck ns (3+k)
   have e:((aam (k+1)).map (yb L ns m)).map n9=((aam k).map (yb L ns m)).map n9 ++ [n9 (yb L ns m k)]:=by
     rw[List.range_succ,aa6,aa6];rfl
   refine .nx (ag (au 10 nd (aW jM ax hr (ae (aa 0 rfl) (ae (aK (aL ai (aa 9 rfl)) (congrArg Dt.int (show(3:Int)+(k:Int)=((3+k:Nat):Int) by omega))) ah)) (cl (3+k) (by omega))))
     (ag (au 11 nd (d:=.str (dG (bw ns (3+k)))) (aC (aS (ae aO (ae aO (ae aO (ae aO (ae aO ah))))) AA3) (cJ (aa 10 rfl) ai (by decide)) (at_getD (L:=FF) (n:=5) rfl h0 h1)))
     (ao (sD (ds:=((aam k).map (yb L ns m)).map n9) 8 (d:=n9 (yb L ns m k)) (aS (ae (Af (aa 7 rfl) (aa 9 rfl) hk (by show(FG ns).length<=2000;omega)) (ae (aa 11 rfl) (ae (aW KY ax hr (ae (i7 (aa 10 rfl) ai ⟨by decide,by decide +kernel⟩) (ae (aa 7 rfl) (ae (aa 6 rfl) ah))) ⟨L,bw ns (3+k) / 5,m,rfl,⟨hL.1,by show(FG ns).length<=100;omega⟩,⟨Int.ediv_nonneg hnn (by decide),hm.1,by have:=hm.2;show tw ns<=500;omega⟩,rfl⟩) ah))) AA3) (by rw[k5,k5,aaI];exact aaq (show k < 2000 by omega) (by decide)))))) (Le.of ⟨rfl,rfl,rfl,rfl,rfl,rfl,rfl,rfl,?_,trivial⟩)
   show Slot.own (.lst (((aam (k+1)).map (yb L ns m)).map n9))=_
   rw[e]
theorem KZ (B:List Nat)(f g:Nat->Int):(B.map fun b=>f b+g b).sum=(B.map f).sum+(B.map g).sum:=by
 induction B with
 | nil=>rfl
 | cons b B ih=>rw[aau,abp,ih,aau,abp,aau,abp];omega
theorem K0 (B:List Nat):(B.map fun _=>(0:Int)).sum=0:=by
 induction B with
 | nil=>rfl
 | cons b B ih=>rw[aau,abp,ih];rfl
theorem He (A B:List Nat)(f:Nat->Nat->Int):(A.map fun a=>(B.map fun b=>f a b).sum).sum=(B.map fun b=>(A.map fun a=>f a b).sum).sum:=by
 induction A with
 | nil=>exact(K0 B).symm
 | cons a A ih=>
   rw[aau,abp,ih,<- KZ]
   rfl
noncomputable def gP (rows:List Row):Nat->Nat->List Nat
 | 0,c=>[c]
 | r+1,c=>(wordOf rows c).flatMap (gP rows r)
theorem Z4 (rows:List Row)(r c:Nat):lT rows (r+1) c=((wordOf rows c).map (lT rows r)).sum:=by
 unfold lT
 exact(He (wordOf rows c) (rows.map (·.c)) fun y x=>cT rows r y x).symm
theorem jN {rows:List Row}(ok:bP rows){c:Nat}(hc:c∈rows.map (·.c)):(∀ y∈wordOf rows c,y∈rows.map (·.c))/\0 < (wordOf rows c).length/\(wordOf rows c).length<=8:=by
 obtain⟨q,hq,_,_,ew⟩:=eW hc
 rw[ew]
 exact⟨ok.wo q hq,ok.wp q hq⟩
theorem xl {f:Nat->List Nat}{g:Nat->Int}:∀ {w:List Nat},(∀ y∈w,(((f y).length:Nat):Int)=g y)->(((w.flatMap f).length:Nat):Int)=(w.map g).sum
 | [],_=>rfl
 | y::w,h=>by
   rw[abk,aax,aau,abp,<- h y (by simp),<- xl (f:=f) (g:=g) fun z hz=>h z (by simp[hz])]
   omega
theorem DP {rows:List Row}(ok:bP rows):∀ (r:Nat) {c:Nat},c∈rows.map (·.c)->(((gP rows r c).length:Nat):Int)=lT rows r c
 | 0,c,hc=>by rw[Wf ok hc];rfl
 | r+1,c,hc=>by
   rw[Z4]
   exact xl fun y hy=>DP ok r ((jN ok hc).1 y hy)
theorem K1 {rows:List Row}(ok:bP rows):∀ (r:Nat) {c:Nat},c∈rows.map (·.c)->0 < (gP rows r c).length
 | 0,c,hc=>by show 0 < [c].length;simp
 | r+1,c,hc=>by
   obtain⟨h1,h2,_⟩:=jN ok hc
   show 0 < ((wordOf rows c).flatMap (gP rows r)).length
   cases hw:wordOf rows c with
   | nil=>rw[hw] at h2;simp at h2
   | cons y w=>
     have:=K1 ok r (h1 y (by rw[hw];simp))
     rw[abk,aax];omega
noncomputable abbrev Pc:=Nat×Nat
noncomputable def tZ (p:Pc):Dt:=.tup [.int ((p.1:Nat):Int),.str (sg p.2)]
noncomputable def flat (rows:List Row)(st:List Pc):List Nat:=st.flatMap fun p=>gP rows p.1 p.2
noncomputable def wp (r:Nat)(w:List Nat):List Pc:=w.map fun c=>(r,c)
theorem Co (rows:List Row)(a b:List Pc):flat rows (a ++ b)=flat rows a ++ flat rows b:=List.flatMap_append
theorem Av (rows:List Row)(r:Nat)(w:List Nat):flat rows (wp r w)=w.flatMap (gP rows r):=by unfold flat wp;rw[List.flatMap_map]
theorem Wq (rows:List Row)(p:Pc):flat rows [p]=gP rows p.1 p.2:=by unfold flat;simp
theorem tE (rows:List Row)(p:Pc)(st:List Pc):flat rows (p::st)=gP rows p.1 p.2 ++ flat rows st:=by unfold flat;rw[abk]
structure PS where
 place:Nat
 st:List Pc
 bt:List Pc
noncomputable def oZ (rows:List Row)(b e:Nat)(s:PS):PS:=match s.st with
 | []=>s
 | p::st=>
   if s.place+(gP rows p.1 p.2).length<=b then ⟨s.place+(gP rows p.1 p.2).length,st,s.bt⟩
   else if b<=s.place/\s.place+(gP rows p.1 p.2).length<=e then ⟨s.place+(gP rows p.1 p.2).length,st,s.bt ++ [p]⟩
   else ⟨s.place,wp (p.1 - 1) (wordOf rows p.2) ++ st,s.bt⟩
noncomputable def run (rows:List Row)(b e:Nat)(s:PS):Nat->PS
 | 0=>s
 | k+1=>oZ rows b e (run rows b e s k)
theorem K2 (rows:List Row)(b e:Nat)(s:PS):∀ k,run rows b e s (k+1)=run rows b e (oZ rows b e s) k
 | 0=>rfl
 | k+1=>by
   show oZ rows b e (run rows b e s (k+1))=oZ rows b e (run rows b e (oZ rows b e s) k)
   rw[K2 rows b e s k]
structure TX (rows:List Row)(age b e:Nat)(W:List Nat)(s:PS):Prop where
 be:b<=e
 ew:e<=W.length
 pe:s.place<=e
 fl:flat rows s.st=W.drop s.place
 fb:flat rows s.bt=(W.take s.place).drop b
 mb:∀ p∈s.st,p.2∈rows.map (·.c)/\p.1<=age
 mt:∀ p∈s.bt,p.2∈rows.map (·.c)/\p.1<=age
noncomputable def ins (b p q:Nat):Nat:=if p < b/\b < q then 1 else 0
theorem K3 (b p q:Nat):ins b p q<=1:=by unfold ins;split <;> omega
theorem FI (b:Nat){p q r:Nat}(h1:p<=q)(h2:q<=r):ins b p q+ins b q r<=ins b p r:=by
 unfold ins
 split <;> split <;> split <;> omega
noncomputable def mu (rows:List Row)(b e:Nat):Nat->List Pc->Nat
 | _,[]=>0
 | p,x::st=>1+8 * x.1 * (ins b p (p+(gP rows x.1 x.2).length)+ins e p (p+(gP rows x.1 x.2).length))+mu rows b e (p+(gP rows x.1 x.2).length) st
theorem K4 (rows:List Row)(b e:Nat):∀ (p:Nat) (st:List Pc),st.length<=mu rows b e p st
 | _,[]=>aaa 0
 | p,x::st=>by
   have:=K4 rows b e (p+(gP rows x.1 x.2).length) st
   rw[mu,aaN];omega
theorem K5 (rows:List Row)(b e r:Nat)(st:List Pc):∀ (p:Nat) (w:List Nat),mu rows b e p (wp r w ++ st)<=w.length+8 * r * (ins b p (p+(flat rows (wp r w)).length)+ins e p (p+(flat rows (wp r w)).length))+mu rows b e (p+(flat rows (wp r w)).length) st
 | p,[]=>by
   show mu rows b e p st<=_
   have:p+(flat rows (wp r [])).length=p:=rfl
   rw[this];omega
 | p,c::w=>by
   have ih:=K5 rows b e r st (p+(gP rows r c).length) w
   have el:p+(flat rows (wp r (c::w))).length=p+(gP rows r c).length+(flat rows (wp r w)).length:=by
     show p+(flat rows ((r,c)::wp r w)).length=_
     rw[tE,aax];exact(Nat.add_assoc _ _ _).symm
   rw[el]
   have c1:=FI b (aby p (gP rows r c).length) (aby (p+(gP rows r c).length) (flat rows (wp r w)).length)
   have c2:=FI e (aby p (gP rows r c).length) (aby (p+(gP rows r c).length) (flat rows (wp r w)).length)
   have m:=Nat.mul_le_mul_left (8 * r) (Nat.add_le_add c1 c2)
   have m2:8 * r * (ins b p (p+(gP rows r c).length)+ins e p (p+(gP rows r c).length))+8 * r * (ins b (p+(gP rows r c).length) (p+(gP rows r c).length+(flat rows (wp r w)).length)+ins e (p+(gP rows r c).length) (p+(gP rows r c).length+(flat rows (wp r w)).length))<=8 * r * (ins b p (p+(gP rows r c).length+(flat rows (wp r w)).length)+ins e p (p+(gP rows r c).length+(flat rows (wp r w)).length)):=by
     rw[<- Nat.mul_add]
     refine aaA (Nat.mul_le_mul_left _ ?_) m
     omega
   show mu rows b e p ((r,c)::(wp r w ++ st))<=_
   rw[mu,aaN]
   show 1+8 * r * (ins b p (p+(gP rows r c).length)+ins e p (p+(gP rows r c).length))+mu rows b e (p+(gP rows r c).length) (wp r w ++ st)<=_
   omega
theorem DQ {rows:List Row}(ok:bP rows){age b e:Nat}{W:List Nat}{s:PS}(I:TX rows age b e W s)(hp:s.place < e):TX rows age b e W (oZ rows b e s)/\mu rows b e (oZ rows b e s).place (oZ rows b e s).st < mu rows b e s.place s.st/\(oZ rows b e s).bt.length+mu rows b e (oZ rows b e s).place (oZ rows b e s).st<=s.bt.length+mu rows b e s.place s.st/\∃ p st,s.st=p::st/\(¬ s.place+(gP rows p.1 p.2).length<=b->¬ (b<=s.place/\s.place+(gP rows p.1 p.2).length<=e)->0 < p.1):=by
 obtain⟨be,ew,pe,fl,fb,mb,mt⟩:=I
 obtain⟨place,st,bt⟩:=s
 simp only at pe fl fb mb mt hp ⊢
 cases st with
 | nil=>
   have:=congrArg abg fl
   rw[aba] at this
   have z:(flat rows []).length=0:=rfl
   omega
 | cons p st=>
   rw[tE] at fl
   have Wr:=K1 ok p.1 (mb p (by simp)).1
   have mV:∀ x∈st,x.2∈rows.map (·.c)/\x.1<=age:=fun x hx=>mb x (by simp[hx])
   have hlen:=congrArg abg fl
   rw[aba,aax] at hlen
   have fl2:flat rows st=W.drop (place+(gP rows p.1 p.2).length):=by
     rw[<- List.drop_drop,<- fl,List.drop_left]
   have ft:W.take (place+(gP rows p.1 p.2).length)=W.take place ++ gP rows p.1 p.2:=by
     rw[List.take_add,<- fl,List.take_left]
   have BB:(¬ place+(gP rows p.1 p.2).length<=b->¬ (b<=place/\place+(gP rows p.1 p.2).length<=e)->0 < p.1):=fun h1 h2=>by
     rcases Nat.eq_zero_or_pos p.1 with z | z
     . rw[z] at h1 h2
       have e1:(gP rows 0 p.2).length=1:=rfl
       rw[e1] at h1 h2
       omega
     . exact z
   refine⟨?_,?_,?_,p,st,rfl,BB⟩
   . unfold oZ
     simp only
     split
     . rename_i h
       refine⟨be,ew,by show place+_<=e;omega,fl2,?_,mV,mt⟩
       have n1:(W.take place).drop b=[]:=abK (by rw[aay];omega)
       have n2:(W.take (place+(gP rows p.1 p.2).length)).drop b=[]:=abK (by rw[aay];omega)
       show flat rows bt=(W.take (place+(gP rows p.1 p.2).length)).drop b
       rw[fb,n1,n2]
     . split
       . rename_i h1 h2
         refine⟨be,ew,h2.2,fl2,?_,mV,fun x hx=>?_⟩
         . show flat rows (bt ++ [p])=(W.take (place+(gP rows p.1 p.2).length)).drop b
           rw[Co,Wq,fb,ft,List.drop_append_of_le_length (by rw[aay];omega)]
         . rcases abe.mp hx with hx | hx
           . exact mt x hx
           . have:x=p:=by simpa using hx
             rw[this];exact mb p (by simp)
       . rename_i h1 h2
         have hz:=BB h1 h2
         refine⟨be,ew,pe,?_,fb,fun x hx=>?_,mt⟩
         . show flat rows (wp (p.1 - 1) (wordOf rows p.2) ++ st)=_
           rw[Co,Av,<- fl]
           congr 1
           obtain⟨r,hr⟩:∃ r,p.1=r+1:=⟨p.1 - 1,by omega⟩
           rw[hr];rfl
         . rcases abe.mp hx with hx | hx
           . obtain⟨y,hy,rfl⟩:=aaR.mp hx
             exact⟨(jN ok (mb p (by simp)).1).1 y hy,by have:=(mb p (by simp)).2;show p.1 - 1<=age;omega⟩
           . exact mV x hx
   all_goals
     unfold oZ
     simp only
     rw[mu]
     split
     . show _;simp only;omega
     . split
       . simp only[aax,List.length_singleton];omega
       . rename_i h1 h2
         have hz:=BB h1 h2
         have hw8:=(jN ok (mb p (by simp)).1).2.2
         have key:=K5 rows b e (p.1 - 1) st place (wordOf rows p.2)
         have ef:(flat rows (wp (p.1 - 1) (wordOf rows p.2))).length=(gP rows p.1 p.2).length:=by
           rw[Av]
           obtain⟨r,hr⟩:∃ r,p.1=r+1:=⟨p.1 - 1,by omega⟩
           rw[hr];rfl
         rw[ef] at key
         have hI:1<=ins b place (place+(gP rows p.1 p.2).length)+ins e place (place+(gP rows p.1 p.2).length):=by
           unfold ins
           split <;> split <;> omega
         generalize ins b place (place+(gP rows p.1 p.2).length)+ins e place (place+(gP rows p.1 p.2).length)=J at key hI ⊢
         have m:8+8 * (p.1 - 1) * J<=8 * p.1 * J:=by
           obtain⟨r,hr⟩:∃ r,p.1=r+1:=⟨p.1 - 1,by omega⟩
           rw[hr,Nat.add_sub_cancel,Nat.mul_add,Nat.add_mul]
           omega
         simp only
         omega
theorem Aw {rows:List Row}(ok:bP rows){age b e:Nat}{W:List Nat}{s:PS}(I:TX rows age b e W s){n:Nat}(h:∀ k,k < n->(run rows b e s k).place < e):∀ k,k<=n->TX rows age b e W (run rows b e s k)/\(run rows b e s k).bt.length+mu rows b e (run rows b e s k).place (run rows b e s k).st<=s.bt.length+mu rows b e s.place s.st
 | 0,_=>⟨I,aaa _⟩
 | k+1,hk=>by
   obtain⟨i1,i2⟩:=Aw ok I h k (by omega)
   obtain⟨j1,_,j3,_⟩:=DQ ok i1 (h k (by omega))
   exact⟨j1,aaA j3 i2⟩
theorem xm {rows:List Row}(ok:bP rows){age b e:Nat}{W:List Nat}:∀ (m:Nat) {s:PS},TX rows age b e W s->mu rows b e s.place s.st<=m->∃ n,e<=(run rows b e s n).place/\∀ k,k < n->(run rows b e s k).place < e
 | m,s,I,hm=>by
   by_cases hp:s.place < e
   . obtain⟨j1,j2,_⟩:=DQ ok I hp
     cases m with
     | zero=>omega
     | succ m=>
       obtain⟨n,h1,h2⟩:=xm ok m j1 (by omega)
       refine⟨n+1,by rw[K2];exact h1,fun k hk=>?_⟩
       cases k with
       | zero=>exact hp
       | succ k=>rw[K2];exact h2 k (by omega)
   . exact⟨0,by show e<=s.place;omega,fun k hk=>by omega⟩
noncomputable def fz (rows:List Row)(w:List Nat)(age:Nat):List Nat:=w.flatMap (gP rows age)
noncomputable def vk (w:List Nat)(age:Nat):PS:=⟨0,wp age w,[]⟩
theorem xn {rows:List Row}{w:List Nat}(ok:lx rows w){age b e:Nat}(be:b<=e)(ew:e<=(fz rows w age).length):TX rows age b e (fz rows w age) (vk w age):=
 ⟨be,ew,aaW _,Av rows age w,by show []=(List.take 0 _).drop b;simp,fun p hp=>by
   obtain⟨y,hy,rfl⟩:=aaR.mp hp
   exact⟨ok.wm y hy,aaa _⟩,fun p hp=>by cases hp⟩
theorem DR {rows:List Row}{w:List Nat}(ok:lx rows w){age b e:Nat}(ha:age<=200):mu rows b e (vk w age).place (vk w age).st<=4000:=by
 have key:=K5 rows b e age [] 0 w
 rw[aa3] at key
 have w8:=ok.w8
 have i1:=K3 b 0 (0+(flat rows (wp age w)).length)
 have i2:=K3 e 0 (0+(flat rows (wp age w)).length)
 have m:8 * age * (ins b 0 (0+(flat rows (wp age w)).length)+ins e 0 (0+(flat rows (wp age w)).length))<=8 * 200 * 2:=Nat.mul_le_mul (by omega) (by omega)
 have z:mu rows b e (0+(flat rows (wp age w)).length) []=0:=rfl
 show mu rows b e 0 (wp age w)<=4000
 omega
theorem Ax {rows:List Row}{w:List Nat}(ok:lx rows w)(age:Nat):(((fz rows w age).length:Nat):Int)=Z2 rows w age:=xl fun y hy=>DP ok.ok age (ok.wm y hy)
def SH:Rl:=fun ds r=>∃ (w:List Nat) (n:Nat),ds=[.str (tx w),.int ((n:Nat):Int)]/\w.length<=1000/\r=.own (.lst ((wp n w).reverse.map tZ))
noncomputable abbrev SI:Stmt->Scope
 | .Return (some (.ListComp _ _ sc _)) _=>sc
 | _=>af (.Pass ⟨0,0,0,0⟩)
noncomputable abbrev Ws:Scope:=SI ((aE eu).getD 0 (.Pass ⟨0,0,0,0⟩))
theorem Po:gM Ws (af eu) mM ["letter","rounds"] ["letter"] [1]=true:=by decide +kernel
def K6 (t:dR):Rl:=fun ds r=>∃ six rows w l ls N age b e n,ds=[.obj t.ar (t.gK six rows w l ls N),.int ((age:Nat):Int),.int ((b:Nat):Int),.int ((e:Nat):Int)]/\(lx rows w/\ls.map (·.2)=oY rows/\age < N/\N<=1000/\age<=200)/\(b<=e/\e<=(fz rows w age).length)/\(e<=(run rows b e (vk w age) n).place/\∀ k,k < n->(run rows b e (vk w age) k).place < e) /\
 r=.own (.lst ((run rows b e (vk w age) n).bt.map tZ))
theorem N1 (T:Txt K mg t):GF P w K mg base CX 1 "waiting_pieces" 2 SH:=by
 refine⟨_,_,_,hV T.dc.F rF rfl fun bo A outer s H E G ds r hr hl hR=>?_,(T.g T.dc.a),T.dc.F.kp,T.dc.b⟩
 obtain⟨wd,n,rfl,hw,rfl⟩:=hR
 have e1:(wd.reverse.map fun x=>Dt.str (sg x))=(Sg.signs (tx wd)).reverse:=by rw[<- dP,List.map_reverse]
 have e2:((wd.reverse.filter fun _=>true).map fun x=>Dt.tup [.int ((n:Nat):Int),.str (sg x)])=(wp n wd).reverse.map tZ:=by
   rw[aav.mpr (fun _ _=>rfl)]
   unfold wp
   rw[<- List.map_reverse,aao];rfl
 exact⟨_,.ro _,ao (lY (Ew (eh wd.reverse (fun x=>Dt.str (sg x)) (fun x=>Dt.tup [.int ((n:Nat):Int),.str (sg x)]) (fun x=>[.val (.str (sg x))]) (fun _=>true) rfl (bD Po) (M4 T.qJ (ae (aa 0 rfl) ah)) (bR (bD Po) rfl) (c6 (GP (by rw[gk];omega)) e1) (fun a _=>bY) (.nil fun _ _=>rfl)
   (fun a ha _ C fp s' H' G'=>aS (ae (aa 1 rfl) (ae (aa 0 rfl) ah)) AA3) (qO (by rw[abz];omega))) (congrArg Own.lst e2)))⟩
theorem yQ (T:Txt K mg t):MF P w K mg base CX 4 t.ar "pieces" 4 (K6 t):=by
 refine⟨T.aN.cl,_,_,_,hV T.iO.F mO rfl fun bo A outer s H E G ds r hr hl hR=>?_,T.eP,T.iO.b⟩
 obtain⟨six,rows,wd,l,ls,N,age,b,e,n,rfl,⟨ok,my,hN,hN1,gQ⟩,⟨t5,CC⟩,⟨hen,dn⟩,rfl⟩:=hR
 have K7:=N1 (P:=P) (w:=w) (base:=base) T
 have qL:=rQ (P:=P) (w:=w) (base:=base) T
 have nd:=mO.nd
 have hu:(A.deeper (envOfC "Growth.pieces" (af ip) s.heap.objs.size t.cN bo)).units+1 < cLine:=by have:=hr.units;omega
 have w8:=ok.w8
 let R:Nat->PS:=run rows b e (vk wd age)
 have Q8:=Aw ok.ok (xn ok t5 CC) dn
 have h0:(vk wd age).bt.length+mu rows b e (vk wd age).place (vk wd age).st<=4000:=by
   have:=DR ok (b:=b) (e:=e) gQ
   show 0+_<=_;omega
 have hsz:∀ k,k<=n->(R k).bt.length<=4000/\(R k).st.length<=4000:=fun k hk=>by
   have h1:=(Q8 k hk).2
   have h2:=K4 rows b e (run rows b e (vk wd age) k).place (run rows b e (vk wd age) k).st
   exact⟨by show(run rows b e (vk wd age) k).bt.length<=4000;omega,by show(run rows b e (vk wd age) k).st.length<=4000;omega⟩
 have szq:∀ {m:Nat},m<=8000->m < sizeLine:=fun h=>aaO h (by decide)
 let sf:Dt:=.obj t.ar (t.gK six rows wd l ls N)
 let S:Nat->List Slot:=fun k=>[.val sf,.val (.int ((age:Nat):Int)),.val (.int ((b:Nat):Int)),.val (.int ((e:Nat):Int)),.own (.lst ((R k).bt.map tZ)),.own (.lst ((R k).st.reverse.map tZ)),.val (.int (((R k).place:Nat):Int)),.br,.br,.br]
 refine⟨_,.ro _,ag (jQ 4 nd (qt ah AA3)) (ag (jQ 5 nd (Bo K7 ax hr (ae (aH (fs:=t.gK six rows wd l ls N) (aa 0 rfl) T.aN.cl T.gd rfl) (ae (aa 1 rfl) ah)) ⟨wd,age,rfl,by omega,rfl⟩))
   (ag (au 6 nd ai) (ag (dl1:=S n) (IL S n PassesOwn.leaving (Le.of ⟨rfl,rfl,rfl,rfl,rfl,rfl,rfl,trivial⟩) (fun k hk=>aQ (yo (aa 6 rfl) (aa 3 rfl)) (decide_eq_true ?c1)) (aQ (yo (aa 6 rfl) (aa 3 rfl)) (decide_eq_false ?c2)) (fun k hk=>?body)) (ao (Mx 4)))))⟩
 case c1=>have:=dn k hk;show(((run rows b e (vk wd age) k).place:Nat):Int) < _;omega
 case c2=>show ¬ (((run rows b e (vk wd age) n).place:Nat):Int) < _;omega
 case body=>
   have TH:=dn k hk
   obtain⟨Ik,_⟩:=Q8 k (aa7 hk)
   obtain⟨_,_,_,p,st,es,BB⟩:=DQ ok.ok Ik TH
   have eR:R (k+1)=oZ rows b e (R k):=rfl
   obtain⟨Hn,ye⟩:=hsz k (aa7 hk)
   have LU:(R k).st=p::st:=es
   have Hs:=Ik.mb p (by rw[es];simp)
   have Wr:p.1 < N:=by omega
   have hg:=DP ok.ok p.1 Hs.1
   have Z5:(R k).st.reverse.map tZ=st.reverse.map tZ ++ [tZ p]:=by rw[LU,List.reverse_cons,aa6];rfl
   have aei:st.length<=4000:=by have:=congrArg abg LU;rw[aaN] at this;omega
   let q:Nat:=(R k).place+(gP rows p.1 p.2).length
   have eq:(((R k).place:Nat):Int)+lT rows p.1 p.2=((q:Nat):Int):=by rw[<- hg];show _=(((R k).place+(gP rows p.1 p.2).length:Nat):Int);omega
   let U:List Slot:=[.val sf,.val (.int ((age:Nat):Int)),.val (.int ((b:Nat):Int)),.val (.int ((e:Nat):Int)),.own (.lst ((R k).bt.map tZ)),.own (.lst (st.reverse.map tZ)),.val (.int (((R k).place:Nat):Int)),.val (tZ p),.val (.int ((p.1:Nat):Int)),.val (.int ((q:Nat):Int))]
   have hS:S k=[.val sf,.val (.int ((age:Nat):Int)),.val (.int ((b:Nat):Int)),.val (.int ((e:Nat):Int)),.own (.lst ((R k).bt.map tZ)),.own (.lst (st.reverse.map tZ ++ [tZ p])),.val (.int (((R k).place:Nat):Int)),.br,.br,.br]:=by
     show [_,_,_,_,_,Slot.own (.lst ((R k).st.reverse.map tZ)),_,_,_,_]=_
     rw[Z5]
   rw[hS]
   refine .nx (dl':=[.val sf,.val (.int ((age:Nat):Int)),.val (.int ((b:Nat):Int)),.val (.int ((e:Nat):Int)),.own (.lst ((R (k+1)).bt.map tZ)),.own (.lst ((R (k+1)).st.reverse.map tZ)),.val (.int (((R (k+1)).place:Nat):Int)),.val (tZ p),.val (.int ((p.1:Nat):Int)),.val (.int ((q:Nat):Int))]) (ag (RF (ds:=st.reverse.map tZ) (d:=tZ p) 7 5 nd rfl) (ag (au 8 nd (aC (aa 7 rfl) ai rfl)) (ag (dl1:=U) (au 9 nd (aK (aL (aa 6 rfl) (lH hu (Dh (n:=N) (j:=1) (f:=Ao rows) (aH (fs:=t.gK six rows wd l ls N) (aa 0 rfl) T.aN.cl T.cH rfl) (aa 8 rfl) (by rw[my];rfl) Wr hN1) (aC (aa 7 rfl) ai rfl) (by rw[Pg];exact md Hs.1) (fun _ _=>rfl))) (congrArg Dt.int eq)))
     (ao (aI (u:=decide (q<=b)) (aQ (tQ (aa 9 rfl) (aa 2 rfl)) (decide_eq_decide.mpr (Int.ofNat_le (m:=q) (n:=b)))) (fun h=>?b1) (fun h=>ao (aI (u:=decide (b<=(R k).place/\q<=e)) ?cc (fun h'=>?b2) (fun h'=>?b3)))))))) (Le.of ⟨rfl,rfl,rfl,rfl,rfl,rfl,rfl,trivial⟩)
   case b1=>
     have h:q<=b:=of_decide_eq_true h
     have e1:R (k+1)=⟨q,st,(R k).bt⟩:=by rw[eR];unfold oZ;rw[LU];exact if_pos h
     rw[e1]
     exact ao (au 6 nd (aa 9 rfl))
   case cc=>
     by_cases h1:b<=(R k).place
     . by_cases h2:q<=e
       . rw[decide_eq_true (⟨h1,h2⟩:b<=(R k).place/\q<=e)]
         exact vH (vG (u:=true) (v:=true) (aQ (tQ (aa 2 rfl) (aa 6 rfl)) (decide_eq_true (by omega))) fun _=>zl (aQ (tQ (aa 9 rfl) (aa 3 rfl)) (decide_eq_true (by omega))))
       . rw[decide_eq_false (fun z:b<=(R k).place/\q<=e=>h2 z.2)]
         exact vH (vG (u:=true) (v:=false) (aQ (tQ (aa 2 rfl) (aa 6 rfl)) (decide_eq_true (by omega))) fun _=>zl (aQ (tQ (aa 9 rfl) (aa 3 rfl)) (decide_eq_false (by omega))))
     . rw[decide_eq_false (fun z:b<=(R k).place/\q<=e=>h1 z.1)]
       exact vH (vG (u:=false) (v:=false) (aQ (tQ (aa 2 rfl) (aa 6 rfl)) (decide_eq_false (by omega))) fun z=>nomatch z)
   case b2=>
     have h:¬ q<=b:=of_decide_eq_false h
     have h':=of_decide_eq_true h'
     have e1:R (k+1)=⟨q,st,(R k).bt ++ [p]⟩:=by rw[eR];unfold oZ;rw[LU];exact(if_neg h).trans (if_pos h')
     rw[e1]
     show m8 _ _ _ _ _ (.nx [_,_,_,_,.own (.lst (((R k).bt ++ [p]).map tZ)),_,_,_,_,_])
     rw[aa6]
     exact ag (sD (ds:=(R k).bt.map tZ) 4 (aa 7 rfl) (by rw[k5];exact szq (by omega))) (ao (au 6 nd (aa 9 rfl)))
   case b3=>
     have h:¬ q<=b:=of_decide_eq_false h
     have h':=of_decide_eq_false h'
     have hz:=BB h h'
     have e1:R (k+1)=⟨(R k).place,wp (p.1 - 1) (wordOf rows p.2) ++ st,(R k).bt⟩:=by rw[eR];unfold oZ;rw[LU];exact(if_neg h).trans (if_neg h')
     rw[e1]
     have hw:=jN ok.ok Hs.1
     show m8 _ _ _ _ _ (.nx [_,_,_,_,_,.own (.lst ((wp (p.1 - 1) (wordOf rows p.2) ++ st).reverse.map tZ)),_,_,_,_])
     rw[List.reverse_append,aa6]
     exact ao (GB (ds:=st.reverse.map tZ) 5 (q9 (Bo K7 ax hr (ae (bb (fs:=t.xB six rows) (aH (fs:=t.gK six rows wd l ls N) (aa 0 rfl) T.aN.cl T.cb rfl) qL ax hr (ae (aC (aa 7 rfl) ai rfl) ah) ⟨six,rows,p.2,rfl,ok.ok,Hs.1,rfl⟩) (ae (aK (gO (aa 8 rfl) ai) (congrArg Dt.int (show((p.1:Nat):Int) - 1=((p.1 - 1:Nat):Int) by omega))) ah)) ⟨wordOf rows p.2,p.1 - 1,rfl,by omega,rfl⟩)) (by
       rw[k5,k5,abz,abz]
       show st.length+((wordOf rows p.2).map fun c=>(p.1 - 1,c)).length<=_
       rw[k5]
       exact aa7 (szq (by omega))))
noncomputable def grow (rows:List Row)(w:List Nat):List Nat:=(w.map (wordOf rows)).flatten
theorem K8 (rows:List Row)(a b:List Nat):grow rows (a ++ b)=grow rows a ++ grow rows b:=by
 unfold grow;rw[aa6,abA]
theorem Ay (rows:List Row)(f:Nat->List Nat):∀ w:List Nat,grow rows (w.flatMap f)=w.flatMap fun y=>grow rows (f y)
 | []=>rfl
 | y::w=>by rw[abk,abk,K8,Ay rows f w]
theorem FJ (rows:List Row):∀ (r c:Nat),grow rows (gP rows r c)=gP rows (r+1) c
 | 0,c=>by
   show [wordOf rows c].flatten=(wordOf rows c).flatMap fun y=>[y]
   simp
 | r+1,c=>by
   show grow rows ((wordOf rows c).flatMap (gP rows r))=_
   rw[Ay]
   show _=(wordOf rows c).flatMap (gP rows (r+1))
   congr 1
   funext y
   exact FJ rows r y
theorem rW (rows:List Row)(w:List Nat)(n:Nat):grow rows (fz rows w n)=fz rows w (n+1):=by
 unfold fz
 rw[Ay]
 congr 1
 funext y
 exact FJ rows n y
theorem Cp (rows:List Row)(w:List Nat):fz rows w 0=w:=by
 show w.flatMap (fun y=>[y])=w
 simp
theorem nV {rows:List Row}(ok:bP rows){w:List Nat}(h:∀ x∈w,x∈rows.map (·.c)):∀ n,∀ x∈fz rows w n,x∈rows.map (·.c)
 | 0=>by rw[Cp];exact h
 | n+1=>fun x hx=>by
   rw[<- rW] at hx
   obtain⟨l,hl,hx⟩:=List.mem_flatten.mp hx
   obtain⟨y,hy,rfl⟩:=aaR.mp hl
   exact(jN ok (nV ok h n y hy)).1 x hx
theorem Az {rows:List Row}(ok:bP rows):∀ {w:List Nat},(∀ x∈w,x∈rows.map (·.c))->w.length<=(grow rows w).length/\(grow rows w).length<=8 * w.length
 | [],_=>⟨aaW _,aaW _⟩
 | x::w,h=>by
   have ih:=Az ok (w:=w) fun y hy=>h y (aaJ _ hy)
   have hw:=jN ok (h x (aa1 ..))
   have e:(grow rows (x::w)).length=(wordOf rows x).length+(grow rows w).length:=by
     show((wordOf rows x::w.map (wordOf rows)).flatten).length=_
     rw[aa4,aax];rfl
   rw[e,aaN];omega
theorem K9 {rows:List Row}(ok:bP rows){w:List Nat}(h:∀ x∈w,x∈rows.map (·.c))(n:Nat):∀ k,(fz rows w n).length<=(fz rows w (n+k)).length
 | 0=>aaa _
 | k+1=>aaA (K9 ok h n k) (by rw[<- Nat.add_assoc,<- rW];exact(Az ok (nV ok h (n+k))).1)
theorem tF {rows:List Row}(ok:bP rows){w:List Nat}(h:∀ x∈w,x∈rows.map (·.c)){n m:Nat}(hm:n<=m):(fz rows w n).length<=(fz rows w m).length:=by
 have:=K9 ok h n (m - n)
 rwa [Nat.add_sub_cancel' hm] at this
theorem Wt {n:Nat}(h:n<=100000):n<=sizeLine:=aaA h (by decide)
theorem vm {X:Cx}{G:Gr}{dl:List Slot}{a:Expr}{L:List Nat}{pos p:Pos}(hm:X.mg "len"=none)(ha:EE X G dl a (.str (tx L)))(hl:L.length<=100000)(hg:Gl X "len":=by rfl)(he:starEach [a] X.env=[(false,eval a X.env)]:=by rfl):EE X G dl (.Call (.Name "len" p) [a] [] pos) (.int (L.length:Nat)):=
 aK (uJ hm ha (by rw[gk];exact Wt hl) hg he) (by rw[gk])
def Wu:Rl:=fun ds r=>∃ z:Int,ds=[.int z]/\z<=400/\r=.ret .cS
def N2 (t:dR):Rl:=fun ds r=>∃ six rows w,ds=[t.x8 six rows,.str (tx w)]/\bP rows/\(∀ x∈w,x∈rows.map (·.c))/\w.length<=1000/\(grow rows w).length<=400/\r=.ret (.str (tx (grow rows w)))
def Wv (t:dR):Rl:=fun ds r=>∃ six rows w n,ds=[t.x8 six rows,.str (tx w),.int ((n:Nat):Int)]/\lx rows w/\n<=200/\(fz rows w n).length<=400/\r=.ret (.str (tx (fz rows w n)))
noncomputable abbrev SJ:Stmt->Scope
 | .Assign _ (.Call _ (.ListComp _ _ sc _::_) _ _) _=>sc
 | _=>af (.Pass ⟨0,0,0,0⟩)
noncomputable abbrev N3:Scope:=SJ ((aE v8).getD 0 (.Pass ⟨0,0,0,0⟩))
theorem FK:gM N3 (af v8) JP ["letter","rules"] ["letter"] [0]=true:=by decide +kernel
noncomputable abbrev yc (t:dR)(six:Bool)(rows:List Row)(w:List Nat)(l:Addr)(ls:km)(n:Nat):Dt:=.obj t.ar (t.gK six rows w l ls n)
def Z6 (t:dR):Rl:=fun ds r=>∃ six rows w l ls n age z,ds=[yc t six rows w l ls n,.int ((age:Nat):Int),.int z]/\lx rows w/\ls.map (·.2)=oY rows/\age<=200/\(0<=z/\z<=((fz rows w age).length:Nat))/\r=.ret .cS
def Ww (t:dR):Rl:=fun ds r=>∃ six rows w l ls n age z,ds=[yc t six rows w l ls n,.int ((age:Nat):Int),.int z]/\lx rows w/\ls.map (·.2)=oY rows/\age<=200/\(0<=z/\z < ((fz rows w age).length:Nat))/\r=.ret .cS
def Z7 (t:dR):Rl:=fun ds r=>∃ six rows w l ls n age,∃ b e:Nat,ds=[yc t six rows w l ls n,.int ((age:Nat):Int),.int (b:Int),.int (e:Int)]/\lx rows w/\ls.map (·.2)=oY rows/\age<=200/\(b<=e/\e<=(fz rows w age).length)/\r=.ret (.uH l ls (age+1))
noncomputable def cut (W:List Nat)(b e:Nat):List Nat:=(W.take e).drop b
def SK (t:dR):Rl:=fun ds r=>∃ six rows w l ls n age,∃ b e:Nat,ds=[yc t six rows w l ls n,.int ((age:Nat):Int),.int (b:Int),.int (e:Int)]/\lx rows w/\ls.map (·.2)=oY rows/\age<=200/\(b<=e/\e<=(fz rows w age).length/\e - b<=400)/\r=.ret (.str (tx (cut (fz rows w age) b e)))
def Pp (t:dR):Rl:=fun ds r=>∃ six rows w l ls n age,∃ b:Nat,ds=[yc t six rows w l ls n,.int ((age:Nat):Int),.int (b:Int)]/\lx rows w/\ls.map (·.2)=oY rows/\age<=200/\b < (fz rows w age).length/\r=.ret (.str (tx (cut (fz rows w age) b (b+1))))
noncomputable abbrev SM:Stmt->Scope
 | .Return (some (.Call _ (.ListComp _ _ sc _::_) _ _)) _=>sc
 | _=>af (.Pass ⟨0,0,0,0⟩)
noncomputable abbrev N4:Scope:=SM ((aE ij).getD 2 (.Pass ⟨0,0,0,0⟩))
theorem FL:gM N4 (af ij) qf ["rounds","letter","self"] ["rounds","letter"] [0]=true:=by decide +kernel
theorem FN (rows:List Row):∀ {st:List Pc} {p:Pc},p∈st->(gP rows p.1 p.2).length<=(flat rows st).length
 | [],_,h=>by cases h
 | q::st,p,h=>by
   rw[tE,aax]
   rcases aaH.mp h with rfl | h
   . omega
   . have:=FN rows h;omega
theorem FO (rows:List Row)(c n:Nat):fz rows [c] n=gP rows n c:=by unfold fz;simp
theorem La (T:Txt K mg t):GF P w K mg base CX 1 "check_written" 1 Wu:=by
 refine⟨_,_,_,hV T.dF.F sQ rfl fun bo A outer s H E G ds r hr hl hR=>?_,(T.g T.dF.a),T.dF.F.kp,T.dF.b⟩
 obtain⟨z,rfl,h,rfl⟩:=hR
 exact⟨_,.nx _,ao (aI (u:=false) (aQ (tR (aa 0 rfl) (jP (w:=.int 400) T.wJ ⟨_,rfl⟩ fun _=>.int 400)) (decide_eq_false (by omega))) (fun h=>nomatch h) (fun h=>aT))⟩
theorem Lb (T:Txt K mg t):GF P w K mg base CX 3 "once" 2 (N2 t):=by
 refine⟨_,_,_,hV T.sV.F E3 rfl fun bo A outer s H E G ds r hr hl hR=>?_,(T.g T.sV.a),T.sV.F.kp,T.sV.b⟩
 obtain⟨six,rows,wd,rfl,ok,hw,hn,hle,rfl⟩:=hR
 have qL:=rQ (P:=P) (w:=w) (base:=base) T
 have SN:=La (P:=P) (w:=w) (base:=base) T
 have nd:=E3.nd
 have e2:((wd.filter fun _=>true).map fun x=>Dt.str (tx (wordOf rows x)))=((wd.map (wordOf rows)).map tx).map Dt.str:=by
   rw[aav.mpr (fun _ _=>rfl),aao,aao];rfl
 exact⟨_,.rt _,ag (au 2 nd (d:=.str (tx (grow rows wd))) (lC (Ls:=wd.map (wordOf rows)) aO (eU e2 (eh wd (fun x=>Dt.str (sg x)) (fun x=>.str (tx (wordOf rows x))) (fun x=>[.val (.str (sg x))]) (fun _=>true) rfl (bD FK) (fZ (aa 1 rfl)) (bR (bD FK) rfl) (c6 (cE (ma ok hw)) (dP wd)) (fun a _=>bY) (.nil fun _ _=>rfl)
     (fun a ha _ C fp s' H' G'=>bb (fs:=t.xB six rows) (aa 1 rfl) qL ax hr (ae (aa 0 rfl) ah) ⟨six,rows,a,rfl,ok,hw a ha,rfl⟩) (qO (by omega)))) (by rw[k5];show(grow rows wd).length+_<=_;omega)))
     (ag (lX (aW SN ax hr (ae (vm T.gN (aa 2 rfl) (by omega)) ah) ⟨_,rfl,by omega,rfl⟩)) (ao (aA (aa 2 rfl))))⟩
theorem SO (T:Txt K mg t):GF P w K mg base CX 4 "written" 3 (Wv t):=by
 refine⟨_,_,_,hV T.lz.F wq rfl fun bo A outer s H E G ds r hr hl hR=>?_,(T.g T.lz.a),T.lz.F.kp,T.lz.b⟩
 obtain⟨six,rows,wd,n,rfl,ok,hn,hle,rfl⟩:=hR
 have Z8:=tY (P:=P) (w:=w) (base:=base) T
 have SA:=Pn (P:=P) (w:=w) (base:=base) T
 have SQ:=Lb (P:=P) (w:=w) (base:=base) T
 have nd:=wq.nd
 let S:Nat->List Slot:=fun k=>[.val (t.x8 six rows),.val (.str (tx wd)),.val (.int (n:Nat)),.val (.str (tx (fz rows wd k))),.br]
 refine⟨_,.rt _,ag (au 3 nd (C3 (fs:=t.xB six rows) (aa 0 rfl) Z8 ax hr (ae (aa 1 rfl) ah) ⟨six,rows,wd,8,rfl,ok.ok,ok.wm,⟨ok.w0,ok.w8,by decide⟩,rfl⟩))
     (ag (lX (aW SA ax hr (ae (aa 2 rfl) (ae ai (ae (jP (w:=.int 200) T.rO ⟨_,rfl⟩ fun _=>.int 200) ah))) ⟨_,_,_,rfl,by omega,by omega,rfl⟩))
     (ag (dl1:=S n) (gm (o:=.nx (S n)) (m:=n) 4 S nd rfl PassesOwn.leaving T.d9 (ae (aa 2 rfl) ah) ⟨by omega,by omega⟩ (Le.of ⟨rfl,rfl,rfl,by rw[Cp],trivial⟩) (by omega) (fun k hk=>?_) (by rw[aaU];exact .all rfl))
     (ao (aA (aa 3 rfl)))))⟩
 have a:=tF ok.ok ok.wm (n:=k) (m:=n) (by omega)
 have b:=tF ok.ok ok.wm (n:=k+1) (m:=n) (by omega)
 rw[<- rW] at b
 refine .nx (ao (au 3 nd (aW SQ ax hr (ae (aa 0 rfl) (ae (aa 3 rfl) ah)) ⟨six,rows,fz rows wd k,rfl,ok.ok,nV ok.ok ok.wm k,by omega,by omega,rfl⟩))) (Le.of ⟨rfl,rfl,rfl,?_,trivial⟩)
 show Slot.val (.str (tx (fz rows wd (k+1))))=Slot.val (.str (tx (grow rows (fz rows wd k))))
 rw[rW]
theorem Wx (T:Txt K mg t):MF P w K mg base CX 7 t.ar "check_place" 3 (Z6 t):=by
 refine⟨T.aN.cl,_,_,_,hV T.dO.F oh rfl fun bo A outer s H E G ds r hr hl hR=>?_,T.cP,T.dO.b⟩
 obtain⟨six,rows,wd,l,ls,n,age,z,rfl,ok,my,gQ,hz,rfl⟩:=hR
 have Cq:=Aq (P:=P) (w:=w) (base:=base) T
 have e:=Ax ok age
 exact⟨_,.nx _,ao (aI (u:=false) (vH (qW (u:=false) (v:=false) (aQ (yo (aa 2 rfl) ai) (decide_eq_false (by omega))) fun _=>(qp (aQ (tR (aa 2 rfl) (bb (fs:=t.gK six rows wd l ls n) (aa 0 rfl) Cq ax hr (ae (aa 1 rfl) ah) ⟨six,rows,wd,l,ls,n,age,rfl,ok,my,gQ,rfl⟩)) (decide_eq_false (by omega)))))) (fun h=>nomatch h) (fun h=>aT))⟩
theorem SR (T:Txt K mg t):MF P w K mg base CX 7 t.ar "check_letter_place" 3 (Ww t):=by
 refine⟨T.aN.cl,_,_,_,hV T.bV.F kG rfl fun bo A outer s H E G ds r hr hl hR=>?_,T.bI,T.bV.b⟩
 obtain⟨six,rows,wd,l,ls,n,age,z,rfl,ok,my,gQ,hz,rfl⟩:=hR
 have Cq:=Aq (P:=P) (w:=w) (base:=base) T
 have e:=Ax ok age
 exact⟨_,.nx _,ao (aI (u:=false) (vH (qW (u:=false) (v:=false) (aQ (yo (aa 2 rfl) ai) (decide_eq_false (by omega))) fun _=>(qp (aQ (Er (aa 2 rfl) (bb (fs:=t.gK six rows wd l ls n) (aa 0 rfl) Cq ax hr (ae (aa 1 rfl) ah) ⟨six,rows,wd,l,ls,n,age,rfl,ok,my,gQ,rfl⟩)) (decide_eq_false (by omega)))))) (fun h=>nomatch h) (fun h=>aT))⟩
theorem Pq (T:Txt K mg t):MF P w K mg base CX 8 t.ar "check_stretch" 4 (Z7 t):=by
 refine⟨T.aN.cl,_,_,_,hV T.cZ.F mN rfl fun bo A outer s H E G ds r hr hl hR=>?_,T.cv,T.cZ.b⟩
 obtain⟨six,rows,wd,l,ls,n,age,b,e,rfl,ok,my,gQ,⟨t5,CC⟩,rfl⟩:=hR
 have Cj:=xb (P:=P) (w:=w) (base:=base) T
 have Wy:=Wx (P:=P) (w:=w) (base:=base) T
 have e2:ls.length=2:=by have:=congrArg abg my;simpa [oY] using this
 exact⟨_,pH (nm:=["tallies","lengths"]) (tl:=[.val (.int ((age:Nat):Int)),.val (.int (b:Int)),.val (.int (e:Int))]) (by rw[e2];exact aaa 2),ag (mK (m:=age+1) (tl:=[.val (.int ((age:Nat):Int)),.val (.int (b:Int)),.val (.int (e:Int))]) (bb (fs:=t.gK six rows wd l ls n) (aa 0 rfl) Cj ax hr (ae (aa 1 rfl) ah) ⟨six,rows,wd,l,ls,n,age,rfl,ok,my,by omega,rfl⟩))
   (ag (lX (bb (fs:=t.gK six rows wd l ls (age+1)) (aa 0 rfl) Wy ax hr (ae (aa 1 rfl) (ae (aa 2 rfl) ah)) ⟨six,rows,wd,l,ls,_,age,b,rfl,ok,my,gQ,⟨by omega,by omega⟩,rfl⟩))
   (ag (aI (u:=false) (aQ (yo (aa 3 rfl) (aa 2 rfl)) (decide_eq_false (by omega))) (fun h=>nomatch h) (fun h=>aT))
   (ao (lX (bb (fs:=t.gK six rows wd l ls (age+1)) (aa 0 rfl) Wy ax hr (ae (aa 1 rfl) (ae (aa 3 rfl) ah)) ⟨six,rows,wd,l,ls,_,age,e,rfl,ok,my,gQ,⟨by omega,by omega⟩,rfl⟩)))))⟩
theorem N5 (T:Txt K mg t):MF P w K mg base CX 9 t.ar "part" 4 (SK t):=by
 refine⟨T.aN.cl,_,_,_,hV T.j8.F wu rfl fun bo A outer s H E G ds r hr hl hR=>?_,T.fP,T.j8.b⟩
 obtain⟨six,rows,wd,l,ls,n,age,b,e,rfl,ok,my,gQ,⟨t5,CC,h4⟩,rfl⟩:=hR
 have SS:=Pq (P:=P) (w:=w) (base:=base) T
 have xp:=yQ (P:=P) (w:=w) (base:=base) T
 have SN:=La (P:=P) (w:=w) (base:=base) T
 have Z9:=SO (P:=P) (w:=w) (base:=base) T
 obtain⟨k,Wz,SU⟩:=xm ok.ok _ (xn ok t5 CC) (aaa _)
 obtain⟨Ik,Jk⟩:=Aw ok.ok (xn ok t5 CC) SU k (aaa _)
 have hmu:=DR ok (b:=b) (e:=e) gQ
 generalize WA:(run rows b e (vk wd age) k).bt=bt at Ik Jk
 have hp:(run rows b e (vk wd age) k).place=e:=by have:=Ik.pe;omega
 have hfb:flat rows bt=cut (fz rows wd age) b e:=by rw[<- WA,Ik.fb,hp];rfl
 have YB:(flat rows bt).length<=400:=by rw[hfb];unfold cut;rw[aba,aay];omega
 have hb4:bt.length<=4000:=by
   have:(vk wd age).bt.length=0:=rfl
   omega
 have hmt:∀ p∈bt,p.2∈rows.map (·.c)/\p.1<=age:=by rw[<- WA];exact Ik.mt
 have e2:((bt.filter fun _=>true).map fun p=>Dt.str (tx (gP rows p.1 p.2)))=((bt.map fun p=>gP rows p.1 p.2).map tx).map Dt.str:=by
   rw[aav.mpr (fun _ _=>rfl),aao,aao];rfl
 have e3:(bt.map fun p=>gP rows p.1 p.2).flatten=cut (fz rows wd age) b e:=by rw[<- hfb];unfold flat;rw[List.flatMap_def]
 refine⟨_,.rt _,ag (mK (m:=age+1) (tl:=[.val (.int ((age:Nat):Int)),.val (.int (b:Int)),.val (.int (e:Int))]) (bb (fs:=t.gK six rows wd l ls n) (aa 0 rfl) SS ax hr (ae (aa 1 rfl) (ae (aa 2 rfl) (ae (aa 3 rfl) ah))) ⟨six,rows,wd,l,ls,n,age,b,e,rfl,ok,my,gQ,⟨t5,CC⟩,rfl⟩))
   (ag (lX (aW SN ax hr (ae (gO (aa 3 rfl) (aa 2 rfl)) ah) ⟨_,rfl,by omega,rfl⟩))
   (ao (aA (aK (lC (Ls:=bt.map fun p=>gP rows p.1 p.2) aO (eU e2 (eh bt tZ (fun p=>.str (tx (gP rows p.1 p.2))) (fun p=>[.val (.int ((p.1:Nat):Int)),.val (.str (sg p.2))]) (fun _=>true) rfl (bD FL) (ik (q9 (Ew (yr (fs:=t.gK six rows wd l ls (age+1)) (aa 0 rfl) (MB xp) ax hr (ae (aa 1 rfl) (ae (aa 2 rfl) (ae (aa 3 rfl) ah))) ⟨six,rows,wd,l,ls,age+1,age,b,e,k,rfl,⟨ok,my,by omega,by omega,gQ⟩,⟨t5,CC⟩,⟨Wz,SU⟩,rfl⟩) (by rw[WA])))) (Bv rfl (bD FL) rfl) gq (fun a _=>EF) (.nil fun _ _=>rfl)
     (fun p hp _ C fp s' H' G'=>?_) (Wt (by omega)))) (by rw[e3,k5,<- hfb];omega)) (by rw[e3])))))⟩
 obtain⟨m1,m2⟩:=hmt p hp
 have hl4:=FN rows hp
 exact aK (aW Z9 ax hr (ae (aH (fs:=t.gK six rows wd l ls (age+1)) (aa 2 rfl) T.aN.cl T.cb rfl) (ae (aa 1 rfl) (ae (aa 0 rfl) ah))) ⟨six,rows,[p.2],p.1,rfl,⟨ok.ok,by simp,by simp,fun x hx=>by
   have:x=p.2:=by simpa using hx
   rw[this];exact m1⟩,by omega,by rw[FO];omega,rfl⟩) (by rw[FO])
theorem SV (T:Txt K mg t):MF P w K mg base CX 10 t.ar "letter_at" 3 (Pp t):=by
 refine⟨T.aN.cl,_,_,_,hV T.fq.F p7 rfl fun bo A outer s H E G ds r hr hl hR=>?_,T.dj,T.fq.b⟩
 obtain⟨six,rows,wd,l,ls,n,age,b,rfl,ok,my,gQ,hb,rfl⟩:=hR
 have Cj:=xb (P:=P) (w:=w) (base:=base) T
 have WB:=SR (P:=P) (w:=w) (base:=base) T
 have SW:=N5 (P:=P) (w:=w) (base:=base) T
 exact⟨_,.rt _,ag (mK (m:=age+1) (tl:=[.val (.int ((age:Nat):Int)),.val (.int (b:Int))]) (bb (fs:=t.gK six rows wd l ls n) (aa 0 rfl) Cj ax hr (ae (aa 1 rfl) ah) ⟨six,rows,wd,l,ls,n,age,rfl,ok,my,by omega,rfl⟩))
   (ag (lX (bb (fs:=t.gK six rows wd l ls (age+1)) (aa 0 rfl) WB ax hr (ae (aa 1 rfl) (ae (aa 2 rfl) ah)) ⟨six,rows,wd,l,ls,_,age,b,rfl,ok,my,gQ,⟨by omega,by omega⟩,rfl⟩))
   (ao (aA (bb (fs:=t.gK six rows wd l ls (age+1)) (aa 0 rfl) SW ax hr (ae (aa 1 rfl) (ae (aa 2 rfl) (ae (aK (aL (aa 2 rfl) ai) (congrArg Dt.int (show(b:Int)+1=((b+1:Nat):Int) by omega))) ah))) ⟨six,rows,wd,l,ls,_,age,b,b+1,rfl,ok,my,gQ,⟨by omega,by omega,by omega⟩,rfl⟩))))⟩
theorem DS (six:Bool)(w:Int)(p q:Int×Int):iZ six w (ad p q)=iZ six w p+iZ six w q:=by
 unfold iZ ad
 cases six
 . simp only[aa2,if_false]
   split
   . rfl
   . split
     . rfl
     . split <;> omega
 . simp only[if_true]
   split
   . omega
   . split
     . omega
     . split
       . omega
       . split
         . omega
         . split <;> omega
theorem Cr (six:Bool){w:Nat}(h:w < wn six)(b:Int)(p:Int×Int):iZ six (((w:Int) - b) % wy six) p=iZ six w (tn six (b % wy six).toNat p):=by
 have hw:=wU six
 have h0:=aaB ((w:Int) - b) (abi (du six))
 have h1:=aaG ((w:Int) - b) (du six)
 have k:=Kh six h0 h1 b p
 rw[<- k]
 congr 1
 cases six with
 | false=>show(((w:Int) - b) % 4+b) % 4=w;have:w < 4:=h;omega
 | true=>show(((w:Int) - b) % 6+b) % 6=w;have:w < 6:=h;omega
theorem DT (six:Bool)(ns:List Int)(f:Int){w:Nat}(h:w < wn six):(qP six ns f).getD w 0=ns.getD (((w:Int) - f) % wy six).toNat 0:=by
 unfold qP
 rw[YO,aab,aaL h];rfl
theorem AA (six:Bool)(w:Nat)(b:Int):(((w:Int) - b) % wy six).toNat < wn six/\((((w:Int) - b) % wy six).toNat:Int)=((w:Int) - b) % wy six:=by
 have hw:=wU six
 have h0:=aaB ((w:Int) - b) (abi (du six))
 have h1:=aaG ((w:Int) - b) (du six)
 omega
theorem jO {f:Nat->Int}{n k:Nat}(h:k < n):((aam n).map f).getD k 0=f k:=by
 rw[YO,aab,aaL h];rfl
noncomputable def SY (p q:Int):Int:=if q<=p then p else q
theorem kl (six:Bool)(x y:Tr){w:Nat}(h:w < wn six):(jn six x y).reach.getD w 0=SY (x.reach.getD w 0) (y.reach.getD (((w:Int) - x.turn) % wy six).toNat 0+iZ six w x.shift):=by
 show((aam (wn six)).map (ya six x y)).getD w 0=_
 rw[jO h]
 unfold ya SY
 rw[DT six _ _ h]
theorem mU (six:Bool)(x y:Tr){w:Nat}(h:w < wn six):(jn six x y).bf.getD w 0=if y.reach.getD (((w:Int) - x.turn) % wy six).toNat 0+iZ six w x.shift<=x.reach.getD w 0 then x.bf.getD w 0 else y.bf.getD (((w:Int) - x.turn) % wy six).toNat 0+x.many:=by
 show((aam (wn six)).map (Ag six x y)).getD w 0=_
 rw[jO h]
 unfold Ag
 rw[DT six _ _ h,DT six _ _ h]
theorem Lc (six:Bool):∀ (n:Nat) (p q:Int×Int),tn six n (ad p q)=ad (tn six n p) (tn six n q)
 | 0,p,q=>rfl
 | n+1,p,q=>by
   rw[tn,tn,tn,Lc six n]
   generalize tn six n p=a
   generalize tn six n q=b
   cases six
   . simp only[Pf.tl,ad,aa2,if_false];refine Prod.ext ?_ ?_ <;> simp only <;> omega
   . simp only[Pf.tl,ad,if_true];refine Prod.ext ?_ ?_ <;> simp only <;> omega
theorem DU (six:Bool)(p:Int×Int)(b:Nat):∀ a:Nat,tn six (a+b) p=tn six a (tn six b p)
 | 0=>by rw[Nat.zero_add];rfl
 | a+1=>by
   rw[Nat.succ_add]
   show Pf.tl six (tn six (a+b) p)=Pf.tl six (tn six a (tn six b p))
   rw[DU six p b a]
theorem S5 (six:Bool)(p:Int×Int):tn six (wn six) p=p:=by
 obtain⟨x,y⟩:=p
 cases six with
 | false=>show Pf.tl false (Pf.tl false (Pf.tl false (Pf.tl false (x,y))))=_;simp[Pf.tl]
 | true=>show Pf.tl true (Pf.tl true (Pf.tl true (Pf.tl true (Pf.tl true (Pf.tl true (x,y))))))=_;simp[Pf.tl];omega
theorem Ld (six:Bool)(p:Int×Int)(r:Nat):∀ q:Nat,tn six (r+wn six * q) p=tn six r p
 | 0=>rfl
 | q+1=>by rw[Nat.mul_succ,<- Nat.add_assoc,DU,S5,Ld six p r q]
theorem Lf (six:Bool)(a b:Int)(p:Int×Int):tn six (a % wy six).toNat (tn six (b % wy six).toNat p)=tn six (((a+b) % wy six) % wy six).toNat p:=by
 rw[<- DU,<- Nat.mod_add_div ((a % wy six).toNat+(b % wy six).toNat) (wn six),Ld]
 congr 1
 have hw:=wU six
 have hp:=du six
 have h1:=aaB a (abi hp)
 have h2:=aaB b (abi hp)
 have e:((((a % wy six).toNat+(b % wy six).toNat) % wn six:Nat):Int)=((a+b) % wy six) % wy six:=by
   rw[Int.natCast_emod,hw,Int.natCast_add,Int.toNat_of_nonneg h1,Int.toNat_of_nonneg h2,Int.emod_emod,<- Int.add_emod]
 omega
theorem WC (six:Bool)(p q:Int×Int):cr (Pf.tl six p) (Pf.tl six q)=cr p q:=by
 unfold cr Pf.tl
 cases six
 . simp only[aa2,if_false]
   have h1:-p.2 * q.1=-(p.2 * q.1):=Int.neg_mul _ _
   have h2:p.1 * -q.2=-(p.1 * q.2):=Int.mul_neg _ _
   omega
 . simp only[if_true]
   have h1:-p.2 * (q.1+q.2)=-(p.2 * q.1) - p.2 * q.2:=by rw[Int.neg_mul,Int.mul_add];omega
   have h2:(p.1+p.2) * -q.2=-(p.1 * q.2) - p.2 * q.2:=by rw[Int.mul_neg,Int.add_mul];omega
   omega
theorem Pr (six:Bool):∀ (n:Nat) (p q:Int×Int),cr (tn six n p) (tn six n q)=cr p q
 | 0,_,_=>rfl
 | n+1,p,q=>by rw[tn,tn,WC,Pr six n]
theorem N6 (p q r:Int×Int):cr p (ad q r)=cr p q+cr p r:=by
 unfold cr ad
 simp only[Int.mul_add];omega
theorem N7 (p q r:Int×Int):cr (ad p q) r=cr p r+cr q r:=by
 unfold cr ad
 simp only[Int.add_mul];omega
theorem Lg (p q r:Int×Int):ad p (ad q r)=ad (ad p q) r:=by
 unfold ad
 refine Prod.ext ?_ ?_ <;> simp only <;> omega
theorem list_eq {six:Bool}{a b:List Int}(ha:a.length=wn six)(hb:b.length=wn six)(h:∀ w,w < wn six->a.getD w 0=b.getD w 0):a=b:=by
 refine List.ext_getElem (by omega) fun i h1 h2=>?_
 have:=h i (by omega)
 rw[YO,YO,k3 h1,k3 h2] at this
 exact this
theorem tG (six:Bool)(x y:Tr):(jn six x y).reach.length=wn six/\(jn six x y).bf.length=wn six:=by unfold jn;simp
theorem Lh (six:Bool)(x y z:Tr):jn six x (jn six y z)=jn six (jn six x y) z:=by
 have key:∀ w,w < wn six->∃ v u:Nat,v < wn six/\u < wn six/\(((w:Int) - x.turn) % wy six).toNat=v/\(((v:Int) - y.turn) % wy six).toNat=u/\(((w:Int) - (x.turn+y.turn) % wy six) % wy six).toNat=u/\iZ six w (tn six (x.turn % wy six).toNat y.shift)=iZ six v y.shift:=by
   intro w hw
   obtain⟨h1,h2⟩:=AA six w x.turn
   obtain⟨h3,h4⟩:=AA six (((w:Int) - x.turn) % wy six).toNat y.turn
   refine⟨_,_,h1,h3,rfl,rfl,?_,?_⟩
   . rw[h2]
     cases six with
     | false=>show(((w:Int) - (x.turn+y.turn) % 4) % 4).toNat=(((w - x.turn) % 4 - y.turn) % 4).toNat;congr 1;omega
     | true=>show(((w:Int) - (x.turn+y.turn) % 6) % 6).toNat=(((w - x.turn) % 6 - y.turn) % 6).toNat;congr 1;omega
   . rw[h2,Cr six hw]
 have hr:(jn six x (jn six y z)).reach=(jn six (jn six x y) z).reach:=by
   refine list_eq (tG _ _ _).1 (tG _ _ _).1 fun w hw=>?_
   obtain⟨v,u,hv,hu,e1,e2,e3,e4⟩:=key w hw
   rw[kl six _ _ hw,kl six _ _ hw,kl six _ _ hw,e1,kl six _ _ hv,e2]
   show _=SY _ (z.reach.getD (((w:Int) - (x.turn+y.turn) % wy six) % wy six).toNat 0+iZ six w (ad x.shift (tn six (x.turn % wy six).toNat y.shift)))
   rw[e3,DS,e4]
   unfold SY
   split <;> split <;> split <;> (try split) <;> omega
 have ht:(jn six x (jn six y z)).bf=(jn six (jn six x y) z).bf:=by
   refine list_eq (tG _ _ _).2 (tG _ _ _).2 fun w hw=>?_
   obtain⟨v,u,hv,hu,e1,e2,e3,e4⟩:=key w hw
   rw[mU six _ _ hw,mU six (jn six x y) _ hw,mU six x y hw,kl six x y hw,e1,kl six _ _ hv,mU six _ _ hv,e2]
   show _=if z.reach.getD (((w:Int) - (x.turn+y.turn) % wy six) % wy six).toNat 0+iZ six w (ad x.shift (tn six (x.turn % wy six).toNat y.shift))<=_ then _ else z.bf.getD (((w:Int) - (x.turn+y.turn) % wy six) % wy six).toNat 0+(x.many+y.many)
   rw[e3,DS,e4]
   unfold SY
   split <;> split <;> split <;> (try split) <;> (try split) <;> omega
 have e1:(jn six x (jn six y z)).turn=(jn six (jn six x y) z).turn:=by
   show(x.turn+(y.turn+z.turn) % wy six) % wy six=((x.turn+y.turn) % wy six+z.turn) % wy six
   rw[Int.add_emod_emod,Int.emod_add_emod,Int.add_assoc]
 have e2:(jn six x (jn six y z)).shift=(jn six (jn six x y) z).shift:=by
   show ad x.shift (tn six (x.turn % wy six).toNat (ad y.shift (tn six (y.turn % wy six).toNat z.shift)))=ad (ad x.shift (tn six (x.turn % wy six).toNat y.shift)) (tn six (((x.turn+y.turn) % wy six) % wy six).toNat z.shift)
   rw[Lc,Lf,Lg]
 have e3:(jn six x (jn six y z)).hE=(jn six (jn six x y) z).hE:=by
   show x.hE+(y.hE+z.hE+cr y.shift (tn six (y.turn % wy six).toNat z.shift))+cr x.shift (tn six (x.turn % wy six).toNat (ad y.shift (tn six (y.turn % wy six).toNat z.shift)))
     = x.hE+y.hE+cr x.shift (tn six (x.turn % wy six).toNat y.shift)+z.hE+cr (ad x.shift (tn six (x.turn % wy six).toNat y.shift)) (tn six (((x.turn+y.turn) % wy six) % wy six).toNat z.shift)
   have q:=Pr six (x.turn % wy six).toNat y.shift (tn six (y.turn % wy six).toNat z.shift)
   rw[Lf] at q
   rw[Lc,Lf,N6,N7,<- q]
   omega
 have e4:(jn six x (jn six y z)).many=(jn six (jn six x y) z).many:=(Int.add_assoc _ _ _).symm
 have e5:(jn six x (jn six y z)).aX=(jn six (jn six x y) z).aX:=(Int.add_assoc _ _ _).symm
 generalize jn six x (jn six y z)=a at hr ht e1 e2 e3 e4 e5
 generalize jn six (jn six x y) z=b at hr ht e1 e2 e3 e4 e5
 cases a;cases b
 simp only at hr ht e1 e2 e3 e4 e5
 subst hr ht e1 e2 e3 e4 e5
 rfl
noncomputable def hU (six:Bool)(xs:List Str)(k:Nat):Int×Int:=(b6 six (xs.take k)).shift
theorem xq (six:Bool)(xs:List Str):0<=(b6 six xs).turn/\(b6 six xs).turn < wy six:=by
 by_cases h:xs=[]
 . subst h;exact⟨Int.le_refl _,du six⟩
 . rw[<- aa9 h,jy]
   exact⟨aaB _ (abi (du six)),aaG _ (du six)⟩
noncomputable def rec (six:Bool)(xs:List Str)(w:Int):Nat->Int×Int
 | 0=>(0,0)
 | j+1=>if (rec six xs w j).1 < iZ six w (hU six xs j) then (iZ six w (hU six xs j),j) else rec six xs w j
theorem Cs (six:Bool)(xs:List Str)(d:Str)(w:Int):∀ j,j<=xs.length+1->rec six (xs ++ [d]) w j=rec six xs w j
 | 0,_=>rfl
 | j+1,h=>by
   rw[rec,rec,Cs six xs d w j (by omega)]
   have e:hU six (xs ++ [d]) j=hU six xs j:=by
     unfold hU
     rw[List.take_append_of_le_length (by omega)]
   rw[e]
theorem xu (six:Bool)(w:Int):iZ six w (0,0)=0:=by
 unfold iZ
 cases six <;> simp
theorem AB (six:Bool){w:Nat}(hw:w < wn six):∀ (n:Nat) (xs:List Str),xs.length=n->rec six xs w (n+1)=((b6 six xs).reach.getD w 0,(b6 six xs).bf.getD w 0)/\iZ six w (b6 six xs).shift<=(b6 six xs).reach.getD w 0:=by
 intro n
 induction n with
 | zero=>
   intro xs h
   have e:xs=[]:=aaZ h
   subst e
   have e1:(b6 six []).reach.getD w 0=0:=by
     show(aan (wn six) (0:Int)).getD w 0=0
     rw[YO,aaV];split <;> rfl
   have e2:(b6 six []).bf.getD w 0=0:=e1
   have e3:iZ six w (hU six [] 0)=0:=xu six w
   have e4:iZ six w (b6 six []).shift=0:=xu six w
   rw[e1,e2,e4,rec,rec,e3]
   simp
 | succ n ih=>
   intro xs h
   have AK:xs≠[]:=fun e=>by rw[e] at h;cases h
   have e:=aa9 AK
   have hl:xs.dropLast.length=n:=by rw[abo];omega
   generalize xs.getLast AK=d at e
   generalize xs.dropLast=ys at e hl
   subst e
   obtain⟨h1,h2⟩:=ih ys hl
   rw[rec,Cs six ys d w (n+1) (by omega),h1]
   have es:hU six (ys ++ [d]) (n+1)=(b6 six (ys ++ [d])).shift:=by
     unfold hU
     rw[abm (by rw[aax];simp;omega)]
   rw[es,jy,kl six _ _ hw,mU six _ _ hw]
   obtain⟨b1,b2⟩:=AA six w (b6 six ys).turn
   have r1:(one six d).reach.getD (((w:Int) - (b6 six ys).turn) % wy six).toNat 0=nS six d (((w:Int) - (b6 six ys).turn) % wy six).toNat:=jO b1
   have t1:(one six d).bf.getD (((w:Int) - (b6 six ys).turn) % wy six).toNat 0=if nS six d (((w:Int) - (b6 six ys).turn) % wy six).toNat < 1 then nS six d (((w:Int) - (b6 six ys).turn) % wy six).toNat else 1:=jO (f:=fun k=>if nS six d k < 1 then nS six d k else 1) b1
   rw[r1,t1]
   unfold nS
   rw[b2,Cr six hw]
   have ec:iZ six w (jn six (b6 six ys) (one six d)).shift=iZ six w (b6 six ys).shift+iZ six w (tn six ((b6 six ys).turn % wy six).toNat (vh six d (0,0) 0).1):=DS six w _ _
   rw[ec]
   have hm:=(Cc six n ys hl).1
   rw[hm]
   generalize iZ six w (tn six ((b6 six ys).turn % wy six).toNat (vh six d (0,0) 0).1)=D
   generalize iZ six w (b6 six ys).shift=B at h2 ⊢
   generalize (b6 six ys).reach.getD w 0=A at h2 ⊢
   generalize (b6 six ys).bf.getD w 0=U
   unfold SY
   refine⟨?_,?_⟩
   . by_cases c1:D > 0
     . simp only[if_pos c1]
       by_cases c2:D+B<=A
       . simp only[if_pos c2]
         rw[if_neg (by omega)]
       . simp only[if_neg c2]
         rw[if_pos (by omega),if_neg (by omega)]
         refine Prod.ext ?_ ?_
         . show B+D=D+B;omega
         . show((n+1:Nat):Int)=1+n;omega
     . simp only[if_neg c1]
       rw[if_neg (by omega)]
       have c2:0+B<=A:=by omega
       simp only[if_pos c2]
   . by_cases c1:D > 0
     . simp only[if_pos c1];split <;> omega
     . simp only[if_neg c1];split <;> omega
theorem S6 (six:Bool)(xs:List Str):jn six (b6 six xs) (CB six)=b6 six xs:=by
 have w:=Ak six _ xs rfl
 have tt:=xq six xs
 have z:∀ k,(CB six).reach.getD k 0=0:=fun k=>by
   show(aan (wn six) (0:Int)).getD k 0=0
   rw[YO,aaV];split <;> rfl
 have hr:(jn six (b6 six xs) (CB six)).reach=(b6 six xs).reach:=list_eq (tG _ _ _).1 w.2.2.1 fun v hv=>by
   have:=(AB six hv _ xs rfl).2
   rw[kl six _ _ hv,z]
   unfold SY
   rw[if_pos (by omega)]
 have ht:(jn six (b6 six xs) (CB six)).bf=(b6 six xs).bf:=list_eq (tG _ _ _).2 w.2.2.2 fun v hv=>by
   have:=(AB six hv _ xs rfl).2
   rw[mU six _ _ hv,z,if_pos (by omega)]
 have e1:(jn six (b6 six xs) (CB six)).turn=(b6 six xs).turn:=by
   show((b6 six xs).turn+0) % wy six=_
   rw[abn,abw tt.1 tt.2]
 have e2:(jn six (b6 six xs) (CB six)).shift=(b6 six xs).shift:=by
   show ad (b6 six xs).shift (tn six _ (0,0))=_
   rw[nT];unfold ad;simp
 have e3:(jn six (b6 six xs) (CB six)).hE=(b6 six xs).hE:=by
   show(b6 six xs).hE+0+cr (b6 six xs).shift (tn six _ (0,0))=_
   rw[nT];unfold cr;simp
 have e4:(jn six (b6 six xs) (CB six)).many=(b6 six xs).many:=abn _
 have e5:(jn six (b6 six xs) (CB six)).aX=(b6 six xs).aX:=abn _
 generalize jn six (b6 six xs) (CB six)=a at hr ht e1 e2 e3 e4 e5 ⊢
 generalize b6 six xs=b at hr ht e1 e2 e3 e4 e5 ⊢
 cases a;cases b
 simp only at hr ht e1 e2 e3 e4 e5
 subst hr ht e1 e2 e3 e4 e5
 rfl
theorem N8 (six:Bool)(xs:List Str):∀ (n:Nat) (ys:List Str),ys.length=n->jn six (b6 six xs) (b6 six ys)=b6 six (xs ++ ys):=by
 intro n
 induction n with
 | zero=>
   intro ys h
   have e:ys=[]:=aaZ h
   subst e
   rw[aa3]
   exact S6 six xs
 | succ n ih=>
   intro ys h
   have AK:ys≠[]:=fun e=>by rw[e] at h;cases h
   have e:=aa9 AK
   have hl:ys.dropLast.length=n:=by rw[abo];omega
   rw[<- e,jy,Lh,ih _ hl,<- List.append_assoc,jy]
noncomputable def uB (rows:List Row)(w:List Nat):List Str:=w.map (lO rows)
theorem Li {rows:List Row}(ok:bP rows):∀ (r:Nat) {c:Nat},c∈rows.map (·.c)->(gP rows r c).length<=8 ^ r
 | 0,_,_=>aaa _
 | r+1,c,h=>by
   obtain⟨q,hq,_,_,ew⟩:=eW h
   have hw:∀ y∈wordOf rows c,y∈rows.map (·.c):=fun y hy=>ok.wo q hq y (by rw[ew] at hy;exact hy)
   have hl:(wordOf rows c).length<=8:=by rw[ew];exact(ok.wp q hq).2
   have:∀ (w:List Nat),(∀ y∈w,y∈rows.map (·.c))->(w.flatMap (gP rows r)).length<=w.length * 8 ^ r:=by
     intro w
     induction w with
     | nil=>intro _;simp
     | cons a w ih=>
       intro h
       rw[abk,aax,aaN,Nat.add_mul,Nat.one_mul]
       have h1:=Li ok r (h a (by simp))
       have h2:=ih fun y hy=>h y (by simp[hy])
       omega
   have h3:=this _ hw
   have h4:(wordOf rows c).length * 8 ^ r<=8 * 8 ^ r:=Nat.mul_le_mul_right _ hl
   show((wordOf rows c).flatMap (gP rows r)).length<=8 ^ (r+1)
   rw[Nat.pow_succ];omega
theorem WD {rows:List Row}{w:List Nat}(ok:lx rows w){age:Nat}(h:age<=200):(fz rows w age).length < 2 ^ 990:=by
 have:∀ (v:List Nat),(∀ y∈v,y∈rows.map (·.c))->(v.flatMap (gP rows age)).length<=v.length * 8 ^ age:=by
   intro v
   induction v with
   | nil=>intro _;simp
   | cons a v ih=>
     intro h
     rw[abk,aax,aaN,Nat.add_mul,Nat.one_mul]
     have h1:=Li ok.ok age (h a (by simp))
     have h2:=ih fun y hy=>h y (by simp[hy])
     omega
 have h1:=this w ok.wm
 have h2:w.length * 8 ^ age<=8 * 8 ^ 200:=Nat.mul_le_mul ok.w8 (abQ (by decide) h)
 have h3:8 * 8 ^ 200 < 2 ^ 990:=by decide +kernel
 exact aaO (aaA h1 h2) h3
theorem aac {rows:List Row}(ok:bP rows){r c:Nat}(h:c∈rows.map (·.c))(hr:r<=200):(gP rows r c).length < 2 ^ 990:=by
 have h1:=Li ok r h
 have h2:8 ^ r<=8 ^ 200:=abQ (by decide) hr
 exact aaO (aaA h1 h2) (by decide +kernel)
noncomputable def N9 (six:Bool)(rows:List Row)(i c:Nat):Tr:=b6 six (uB rows (gP rows i c))
noncomputable def dR.qM (t:dR)(six:Bool)(rows:List Row)(i:Nat):List (Key×FD):=(rows.map (·.c)).map fun c=>(.inr (sg c),.obj t.aw (t.ZU six (N9 six rows i c)))
theorem TY (t:dR)(six:Bool)(rows:List Row)(i:Nat):oe (t.qM six rows i)=kd (rows.map (·.c)) fun c=>t.oW six (N9 six rows i c):=by unfold oe dR.qM kd;rw[aao];rfl
noncomputable abbrev dR.AD (t:dR)(six:Bool)(rows:List Row)(w:List Nat)(l':Addr)(ls':km)(n':Nat):List (Str×Dt):=TV "growth" t.ar (t.Ap six rows w) ["tallies","lengths"] l' ls' n'
noncomputable abbrev dR.DV (t:dR)(six:Bool)(rows:List Row)(w:List Nat)(l':Addr)(ls':km)(n':Nat)(l:Addr)(ls:km)(n:Nat):List (Str×Dt):=tP (t.AD six rows w l' ls' n') ["tracks"] l ls n
noncomputable abbrev dR.WE (t:dR)(six:Bool)(rows:List Row)(w:List Nat)(l':Addr)(ls':km)(n':Nat)(l:Addr)(ls:km)(n:Nat):List (Str×Dt):=pX (t.AD six rows w l' ls' n') ["tracks"] l ls n
theorem S9 {l l':Addr}{ls':km}{n':Nat}(h:l'≠l)(t:dR)(six:Bool)(rows:List Row)(w:List Nat):kM l (t.AD six rows w l' ls' n')=true:=by
 have e:sJ l (.memo l' ls' 0 n')=true/\sJ l (.memo l' ls' 1 n')=true:=by
   unfold sJ
   simp[h]
 show((sJ l (t.x8 six rows) && (sJ l (.str (tx w)) && (sJ l (.memo l' ls' 0 n') && (sJ l (.memo l' ls' 1 n') && true)))) && true)=true
 rw[DJ,e.1,e.2];rfl
theorem Lj (six:Bool)(xs:List (List Str)){k:Nat}(h:k < xs.length):jn six (b6 six (xs.take k).flatten) (b6 six xs[k])=b6 six (xs.take (k+1)).flatten:=by
 rw[N8 six _ _ _ rfl,aaY,k3 h,abA]
 simp
theorem Ta {rows:List Row}{w:List Nat}(ok:lx rows w){age b e:Nat}(gQ:age<=200)(t5:b<=e)(CC:e<=(fz rows w age).length):∃ k bt,(e<=(run rows b e (vk w age) k).place/\∀ j,j < k->(run rows b e (vk w age) j).place < e)/\(run rows b e (vk w age) k).bt=bt/\flat rows bt=cut (fz rows w age) b e/\bt.length<=4000/\∀ p∈bt,p.2∈rows.map (·.c)/\p.1<=age:=by
 obtain⟨k,Wz,SU⟩:=xm ok.ok _ (xn ok t5 CC) (aaa _)
 obtain⟨Ik,Jk⟩:=Aw ok.ok (xn ok t5 CC) SU k (aaa _)
 have hmu:=DR ok (b:=b) (e:=e) gQ
 have hp:(run rows b e (vk w age) k).place=e:=by have:=Ik.pe;omega
 refine⟨k,_,⟨Wz,SU⟩,rfl,by rw[Ik.fb,hp];rfl,?_,Ik.mt⟩
 have:(vk w age).bt.length=0:=rfl
 omega
def Hg (t:dR):Rl:=fun ds r=>∃ six rows w l ls n rest,∃ xs:List (List Str),ds=[.obj t.ay (("growth",yc t six rows w l ls n)::rest),.lst (xs.map fun x=>t.oW six (b6 six x))]/\xs.flatten.length < 2 ^ 990/\r=.ret (t.oW six (b6 six xs.flatten))
def Oa (t:dR):Rl:=fun ds r=>∃ six rows w l ls n,ds=[yc t six rows w l ls n]/\lx rows w/\r=.own (.sj t.ay (t.AD six rows w l ls n) [t.qM six rows] ["tracks"] 1)
structure Ob (t:dR)(six:Bool)(rows:List Row)(w:List Nat)(ls' ls:km):Prop where
 ok:lx rows w
 gs:ls'.map (·.2)=oY rows
 ts:ls.map (·.2)=[t.qM six rows]
def Oc (t:dR):Rl:=fun ds r=>∃ six rows w l' ls' n' l ls n age,ds=[.obj t.ay (t.DV six rows w l' ls' n' l ls n),.int ((age:Nat):Int)]/\Ob t six rows w ls' ls/\age<=200/\r=.ret (.uH l ls (age+1))
def tH (t:dR):Rl:=fun ds r=>∃ six rows w l' ls' n' l ls n age,∃ b e:Nat,ds=[.obj t.ay (t.DV six rows w l' ls' n' l ls n),.int ((age:Nat):Int),.int (b:Int),.int (e:Int)]/\Ob t six rows w ls' ls/\age<=200/\(b<=e/\e<=(fz rows w age).length)/\r=.ret (t.oW six (b6 six (uB rows (cut (fz rows w age) b e))))
noncomputable abbrev WG:Scope:=DK ((aE f7).getD 2 (.Pass ⟨0,0,0,0⟩))
theorem Pt:gM WG (af f7) oO ["letter","rules"] ["letter"] [2]=true:=by decide +kernel
noncomputable abbrev wBd:List Stmt:=Wg ((aE b7).getD 1 (.Pass ⟨0,0,0,0⟩))
noncomputable abbrev WH:Scope:=Ci (wBd.getD 2 (.Pass ⟨0,0,0,0⟩))
theorem Pu:gM WH (af b7) kJ ["younger","last"] ["younger"] [3]=true:=by decide +kernel
noncomputable abbrev WI:Scope:=KJ ((aE cF).getD 2 (.Pass ⟨0,0,0,0⟩))
theorem Pw:gM WI (af cF) lZ ["rounds","letter","self"] ["rounds","letter"] [0]=true:=by decide +kernel
theorem Lk {rows:List Row}(ok:bP rows){x:Nat}(h:x∈rows.map (·.c)):lO rows x∈l9:=by
 obtain⟨q,hq,_,e,_⟩:=eW h
 rw[e];exact ok.dd q hq
theorem xv (T:Txt K mg t):MF P w K mg base CX 6 t.ay "join_all" 2 (Hg t):=by
 refine⟨T.bT.cl,_,_,_,hV T.fk.F kI rfl fun bo A outer s H E G ds r hr hl hR=>?_,T.cX,T.fk.b⟩
 obtain⟨six,rows,wd,l,ls,n,rest,xs,rfl,hx,rfl⟩:=hR
 have Am:=Ca (P:=P) (w:=w) (base:=base) T
 have Ct:=Ar (P:=P) (w:=w) (base:=base) T
 have Ll:=Fp (P:=P) (w:=w) (base:=base) T
 have wZ:=yP (P:=P) (w:=w) (base:=base) T
 have nd:=kI.nd
 let D:Dt:=.obj t.ay (("growth",yc t six rows wd l ls n)::rest)
 let tr:List Str->Dt:=fun x=>t.oW six (b6 six x)
 let S:Nat->List Slot:=fun k=>[.val D,.val (.lst (xs.map tr)),.val (t.oW six (b6 six (xs.take k).flatten)),.br]
 have en:S (xs.map tr).length=[.val D,.val (.lst (xs.map tr)),.val (t.oW six (b6 six xs.flatten)),.br]:=by
   show [_,_,Slot.val (t.oW six (b6 six (xs.take (xs.map tr).length).flatten)),_]=_
   rw[k5,abb]
 have hle:∀ k,(xs.take k).flatten.length < 2 ^ 990:=fun k=>by
   have e:=List.take_append_drop k xs
   rw[<- e,abA,aax] at hx
   omega
 refine⟨_,.rt _,ag (au 2 nd (aW Am ax hr (ae (dq (fs:=t.xB six rows) (dq (fs:=t.gK six rows wd l ls n) (aH (fs:=("growth",yc t six rows wd l ls n)::rest) (aa 0 rfl) T.bT.cl T.b0 rfl) Ct ax hr ⟨six,rows,wd,l,ls,n,rfl,rfl⟩) Ll ax hr ⟨six,rows,rfl,rfl⟩) ah) ⟨six,rfl,rfl⟩))
   (ag (Ej (m:=(xs.map tr).length) 3 S nd rfl PassesOwn.leaving (aa 1 rfl) (Le.of ⟨rfl,rfl,rfl,trivial⟩) (aaa _) (fun k z hk hz=>?_) (.all rfl)) ?_)⟩
 . rw[k5] at hk
   rw[aab,k3 hk] at hz
   cases hz
   have h1:xs[k].length < 2 ^ 990:=by
     have:=hle (k+1)
     rw[aaY,k3 hk,abA,aax] at this
     simp at this
     omega
   refine .nx (ao (au 2 nd (bb (fs:=t.lR six (b6 six (xs.take k).flatten)) (oX (aa 2 rfl)) wZ ax hr (ae (oX (x:=b6 six xs[k]) (aa 3 rfl)) ah) ⟨six,_,b6 six xs[k],rfl,⟨Al six (hle k),Al six h1⟩,rfl⟩))) (Le.of ⟨rfl,rfl,?_,trivial⟩)
   show Slot.val (t.oW six (b6 six (xs.take (k+1)).flatten))=_
   rw[Lj six xs hk]
 . rw[en]
   exact ao (aA (aa 2 rfl))
theorem Lm (T:Txt K mg t):TL P w K mg base CX 8 "Drawing" t.ay 2 (Oa t):=by
 refine⟨_,_,_,Xc T.ju.F n6 rfl fun bo A outer s H E G z ds r hr hl hR=>?_,T.qI,(T.g T.bT.a),T.ju.b⟩
 obtain⟨six,rows,wd,l,ls,n,rfl,ok,rfl⟩:=hR
 have fH:=kj (P:=P) (w:=w) (base:=base) T
 have Ct:=Ar (P:=P) (w:=w) (base:=base) T
 have Ll:=Fp (P:=P) (w:=w) (base:=base) T
 have Tb:=Ke (P:=P) (w:=w) (base:=base) T
 have aad:=Cb (P:=P) (w:=w) (base:=base) T
 have h6:=ok.ok.le
 let L:=rows.map (·.c)
 have hL:L.length<=6:=by show(rows.map (·.c)).length<=6;rw[k5];exact h6
 have nd:=n6.nd
 have e1:((L.filter fun _=>true).map fun x=>Dt.tup [.str (sg x),t.oW six (N9 six rows 0 x)])=(oe (t.qM six rows 0)).map LI:=by
   rw[aav.mpr (fun _ _=>rfl),TY]
   exact Ce L _
 have h7:∀ x∈L,x < 128:=fun x hx=>by
   obtain⟨r,hr,rfl⟩:=aaR.mp hx
   have:=ok.ok.sm r hr
   unfold small at this;omega
 refine⟨_,.Yx (fs:=t.AD six rows wd l ls n) (gs:=[t.qM six rows]) (nm:=["tracks"]) (n:=1) rfl,ag (ky (aa 1 rfl) T.bT.cl T.b0) (ag (au 2 nd (dq (fs:=t.gK six rows wd l ls n) (aa 1 rfl) Ct ax hr ⟨six,rows,wd,l,ls,n,rfl,rfl⟩))
   (xH (f:=t.qM six rows) rfl T.bT.cl T.b5 ?_))⟩
 refine mH T.oU rfl (eU e1 (eh L (fun x=>Dt.str (sg x)) (fun x=>.tup [.str (sg x),t.oW six (N9 six rows 0 x)]) (fun x=>[.val (.str (sg x))]) (fun _=>true) rfl (bD Pt) (fZ (dq (fs:=t.xB six rows) (aa 2 rfl) fH ax hr ⟨six,rows,rfl,ok.ok,rfl⟩)) (bR (bD Pt) rfl) (c6 (cE (jx h7)) (dP L)) (fun a _=>bY) (.nil fun _ _=>rfl)
     (fun a ha _ C fp s' H' G'=>aS (ae (aa 0 rfl) (ae (aW aad ax hr (ae (dq (fs:=t.xB six rows) (aa 1 rfl) Ll ax hr ⟨six,rows,rfl,rfl⟩) (ae (q9 (qt (ae (bb (fs:=t.xB six rows) (aa 1 rfl) Tb ax hr (ae (aa 0 rfl) ah) ⟨six,rows,a,rfl,ok.ok,ha,rfl⟩) ah) AA3)) ah)) ⟨six,[lO rows a],rfl,fun d hd=>by
       have:d=lO rows a:=by simpa using hd
       rw[this];exact Lk ok.ok ha,by simp,rfl⟩) ah)) AA3) (qO (by omega)))) (by rw[TY,rV];exact lD ok.ok.nd) (by rw[TY];show(List.map _ _).length<=_;rw[k5,k5];exact qO (by omega))
theorem Ln (T:Txt K mg t):MF P w K mg base CX 7 t.ay "deepen_to" 2 (Oc t):=by
 refine⟨T.bT.cl,_,_,_,hV T.d7.F ki rfl fun bo A outer s H E G ds r hr hl hR=>?_,T.cO,T.d7.b⟩
 obtain⟨six,rows,wd,l',ls',n',l,ls,n,age,rfl,ok,gQ,rfl⟩:=hR
 have my:=ok.ts
 have Od:=ok.ok.ok
 have Ct:=Ar (P:=P) (w:=w) (base:=base) T
 have fH:=kj (P:=P) (w:=w) (base:=base) T
 have qL:=rQ (P:=P) (w:=w) (base:=base) T
 have DW:=xv (P:=P) (w:=w) (base:=base) T
 have nd:=ki.nd
 have h6:=Od.le
 let L:=rows.map (·.c)
 have hL:L.length<=6:=by show(rows.map (·.c)).length<=6;rw[k5];exact h6
 have h7:∀ x∈L,x < 128:=fun x hx=>by
   obtain⟨r,hr,rfl⟩:=aaR.mp hx
   have:=Od.sm r hr
   unfold small at this;omega
 have hu:(A.deeper (envOfC "Drawing.deepen_to" (af b7) s.heap.objs.size t.bA bo)).units+1 < cLine:=by have:=hr.units;omega
 have e1:ls.length=1:=by have:=congrArg abg my;simpa using this
 have e2:ls'.length=2:=by have:=congrArg abg ok.gs;simpa [oY] using this
 let tl:List Slot:=[.val (.int ((age:Nat):Int)),.val (t.x8 six rows),.br,.br,.br]
 refine⟨_,pH (C:=t.ay) (fs:=t.AD six rows wd l' ls' n') (nm:=["tracks"]) (tl:=tl) (by rw[e1];exact aaa 1),GQ (nm:=["tracks"]) (nm':=["tallies","lengths"]) (C:=t.ay) (C':=t.ar) (l:=l) (l':=l') (ls:=ls) (ls':=ls') (n:=n) (n':=n') (fs':=t.Ap six rows wd) (g:="growth") 0 (by decide) (by decide) (by omega) (fun AK=>?_) rfl⟩
 have hs:=S9 (ls':=ls') (n':=n') AK t six rows wd
 have ht:rA l tl=true:=by
   have:rA l [.val (t.x8 six rows),.br,.br,.br]=true:=by
     unfold rA;rw[DJ];rfl
   exact this
 refine ag (dl1:=AI t.ay (t.AD six rows wd l' ls' n') ["tracks"] l ls n tl) (au 2 nd (dq (fs:=t.gK six rows wd l' ls' n') (aH (fs:=t.DV six rows wd l' ls' n' l ls n) (aa 0 rfl) T.bT.cl T.b0 rfl) Ct ax hr ⟨six,rows,wd,l',ls',n',rfl,rfl⟩))
   (ao (yy (age:=age) PassesOwn.leaving hs ht (by decide) (by omega) (fun N G hx=>?_) (fun N hN hNa G0 hA hB=>?_)))
 . exact aQ (tQ (EX (N:=N) T.gN hx (aH (fs:=t.WE six rows wd l' ls' n' l ls n) (aa 0 rfl) T.bT.cl T.b5 rfl) (by rw[e1];rfl)) (aa 1 rfl)) (decide_eq_decide.mpr (by omega))
 . let Dk:Nat->Dt:=fun c=>t.oW six (N9 six rows N c)
   let O:Dt:=.obj t.ay (t.WE six rows wd l' ls' n' l ls n)
   let S:Nat->List Slot:=fun k=>[.val O,.val (.int ((age:Nat):Int)),.val (t.x8 six rows),.val (.dW (oe (t.qM six rows (N - 1)))),.own (.eX (kd (L.take k) Dk)),.br]
   have eS:S L.length=[.val O,.val (.int ((age:Nat):Int)),.val (t.x8 six rows),.val (.dW (oe (t.qM six rows (N - 1)))),.own (.eX (oe (t.qM six rows N))),.br]:=by
     show [_,_,_,_,Slot.own (.eX (kd (L.take L.length) Dk)),_]=_
     rw[abb,TY t six rows N]
   refine ag (au 3 nd (BG (f:=t.qM six rows) (N:=N) ak (aH (fs:=t.WE six rows wd l' ls' n' l ls n) (aa 0 rfl) T.bT.cl T.b5 rfl) (iQ ai) (by rw[my];rfl) (by rw[e1];rfl) hN)) (ag (jQ 4 nd EK)
     (ag (dl1:=S L.length) (nh (o:=.nx (S L.length)) (m:=L.length) L (fun x=>Dt.str (sg x)) (fun x dl=>dl.set 5 (.val (.str (sg x)))) S rfl PassesOwn.leaving (fZ (dq (fs:=t.xB six rows) (aa 2 rfl) fH ax hr ⟨six,rows,rfl,Od,rfl⟩)) (c6 (cE (jx h7)) (dP L)) (bC nd rfl (.inl rfl)) (fun a _=>rj) (Le.of ⟨rfl,rfl,rfl,rfl,rfl,trivial⟩) (aaa _) (fun k a hk ha=>?_) (.all rfl)) ?_))
   . rw[k3 hk] at ha
     cases ha
     have hm:L[k]∈L:=aaP hk
     obtain⟨q,hq,hc,_,ew⟩:=eW hm
     have Z0:=Od.wp q hq
     have Wj:∀ y∈wordOf rows L[k],y∈L:=fun y hy=>Od.wo q hq y (by rw[ew] at hy;exact hy)
     have Qz:(wordOf rows L[k]).length<=8:=by rw[ew];exact Z0.2
     have Vq:(kd (L.take k) Dk).length < sizeLine:=by
       unfold kd
       rw[k5,aay];exact aaq (show min k L.length < 2000 by omega) (by decide)
     let xs:List (List Str):=(wordOf rows L[k]).map fun y=>uB rows (gP rows (N - 1) y)
     have e3:(((wordOf rows L[k]).filter fun _=>true).map fun y=>t.oW six (N9 six rows (N - 1) y))=xs.map fun x=>t.oW six (b6 six x):=by
       rw[aav.mpr (fun _ _=>rfl),aao];rfl
     have WJ:xs.flatten=uB rows (gP rows N L[k]):=by
       obtain⟨M,rfl⟩:∃ M,N=M+1:=⟨N - 1,by omega⟩
       show((wordOf rows L[k]).map fun y=>uB rows (gP rows M y)).flatten=((wordOf rows L[k]).flatMap (gP rows M)).map (lO rows)
       rw[List.map_flatMap,List.flatMap_def];rfl
     have ed:Dk L[k]=t.oW six (b6 six xs.flatten):=by rw[WJ];rfl
     have hb:xs.flatten.length < 2 ^ 990:=by
       rw[WJ];unfold uB;rw[k5];exact aac Od hm (by omega)
     refine .nx (ao (EL (kds:=kd (L.take k) Dk) (d:=Dk L[k]) 4 hu (by rw[ed];exact bb (fs:=t.WE six rows wd l' ls' n' l ls n) (aa 0 rfl) DW ax hr (ae (eU e3 (eh (wordOf rows L[k]) (fun x=>Dt.str (sg x)) (fun y=>t.oW six (N9 six rows (N - 1) y)) (fun x=>[.val (.str (sg x))]) (fun _=>true) rfl (bD Pu) (fZ (bb (fs:=t.xB six rows) (aa 2 rfl) qL ax hr (ae (aa 5 rfl) ah) ⟨six,rows,L[k],rfl,Od,hm,rfl⟩)) (bR (bD Pu) rfl) (c6 (cE (ma Od Wj)) (dP _)) (fun a _=>bY) (.nil fun _ _=>rfl)
       (fun y hy _ C fp s' H' G'=>lH hu (aa 1 rfl) (aa 0 rfl) (by rw[TY];exact md (Wj y hy)) (fun _ _=>rfl)) (qO (by omega)))) ah) ⟨six,rows,wd,l',ls',n',_,xs,rfl,hb,rfl⟩) (aa 5 rfl) Vq)) (Le.of ⟨rfl,rfl,rfl,rfl,?_,trivial⟩)
     show Slot.own (.eX (kd (L.take (k+1)) Dk))=Slot.own (.eX (vQ (kd (L.take k) Dk) (.inr (sg L[k])) (Dk L[k])))
     rw[Kx Od.nd hk]
   . rw[eS]
     exact Ei (dl1:=.val (.obj t.ay (t.WE six rows wd l' ls' n' l ls n))::tl.set 3 (.own (.eX (oe (t.qM six rows N))))) (BM (f:=t.qM six rows) (tl:=tl) 3 hs ht rfl my (by omega) T.bT.cl T.b5 hA hB) (Le.of ⟨rfl,rfl,rfl,rfl,trivial⟩)
theorem xw (T:Txt K mg t):MF P w K mg base CX 9 t.ay "stretch" 4 (tH t):=by
 refine⟨T.bT.cl,_,_,_,hV T.fV.F qE rfl fun bo A outer s H E G ds r hr hl hR=>?_,T.dh,T.fV.b⟩
 obtain⟨six,rows,wd,l',ls',n',l,ls,n,age,b,e,rfl,ok,gQ,⟨t5,CC⟩,rfl⟩:=hR
 have SS:=Pq (P:=P) (w:=w) (base:=base) T
 have DL:=Ln (P:=P) (w:=w) (base:=base) T
 have DW:=xv (P:=P) (w:=w) (base:=base) T
 have xp:=yQ (P:=P) (w:=w) (base:=base) T
 have hu:(A.deeper (envOfC "Drawing.stretch" (af cF) s.heap.objs.size t.bZ bo)).units+1 < cLine:=by have:=hr.units;omega
 obtain⟨k,bt,⟨Wz,SU⟩,WA,YB,hb4,hmt⟩:=Ta ok.ok gQ t5 CC
 let xs:List (List Str):=bt.map fun p=>uB rows (gP rows p.1 p.2)
 have e3:((bt.filter fun _=>true).map fun p=>t.oW six (N9 six rows p.1 p.2))=xs.map fun x=>t.oW six (b6 six x):=by
   rw[aav.mpr (fun _ _=>rfl),aao];rfl
 have WJ:xs.flatten=uB rows (cut (fz rows wd age) b e):=by
   rw[<- YB]
   show(bt.map fun p=>uB rows (gP rows p.1 p.2)).flatten=(bt.flatMap fun p=>gP rows p.1 p.2).map (lO rows)
   rw[List.map_flatMap,List.flatMap_def];rfl
 have hb:xs.flatten.length < 2 ^ 990:=by
   rw[WJ];unfold uB cut
   rw[k5,aba,aay]
   have:=WD ok.ok gQ
   omega
 rw[<- WJ]
 refine⟨_,.rt _,ag (GR (m:=age+1) (tl:=[.val (.int ((age:Nat):Int)),.val (.int (b:Int)),.val (.int (e:Int))]) (bb (fs:=t.gK six rows wd l' ls' n') (aH (fs:=t.DV six rows wd l' ls' n' l ls n) (aa 0 rfl) T.bT.cl T.b0 rfl) SS ax hr (ae (aa 1 rfl) (ae (aa 2 rfl) (ae (aa 3 rfl) ah))) ⟨six,rows,wd,l',ls',n',age,b,e,rfl,ok.ok,ok.gs,gQ,⟨t5,CC⟩,rfl⟩))
   (ag (mK (m:=age+1) (fs:=t.AD six rows wd l' ls' (age+1)) (nm:=["tracks"]) (tl:=[.val (.int ((age:Nat):Int)),.val (.int (b:Int)),.val (.int (e:Int))]) (bb (fs:=t.DV six rows wd l' ls' (age+1) l ls n) (aa 0 rfl) DL ax hr (ae (aa 1 rfl) ah) ⟨six,rows,wd,l',ls',_,l,ls,n,age,rfl,ok,gQ,rfl⟩))
   (ao (aA (bb (fs:=t.DV six rows wd l' ls' (age+1) l ls (age+1)) (aa 0 rfl) DW ax hr (ae (eU e3 (eh bt tZ (fun p=>t.oW six (N9 six rows p.1 p.2)) (fun p=>[.val (.int ((p.1:Nat):Int)),.val (.str (sg p.2))]) (fun _=>true) rfl (bD Pw) (ik (q9 (Ew (yr (fs:=t.gK six rows wd l' ls' (age+1)) (aH (fs:=t.DV six rows wd l' ls' (age+1) l ls (age+1)) (aa 0 rfl) T.bT.cl T.b0 rfl) (MB xp) ax hr (ae (aa 1 rfl) (ae (aa 2 rfl) (ae (aa 3 rfl) ah))) ⟨six,rows,wd,l',ls',age+1,age,b,e,k,rfl,⟨ok.ok,ok.gs,by omega,by omega,gQ⟩,⟨t5,CC⟩,⟨Wz,SU⟩,rfl⟩) (by rw[WA])))) (Bv rfl (bD Pw) rfl) gq (fun a _=>EF) (.nil fun _ _=>rfl)
     (fun p hp _ C fp s' H' G'=>?_) (aaA hb4 (by decide)))) ah) ⟨six,rows,wd,l',ls',age+1,_,xs,rfl,hb,rfl⟩))))⟩
 obtain⟨m1,m2⟩:=hmt p hp
 exact lH hu (Dh (n:=age+1) (j:=0) (f:=t.qM six rows) (aH (fs:=t.DV six rows wd l' ls' (age+1) l ls (age+1)) (aa 2 rfl) T.bT.cl T.b5 rfl) (aa 0 rfl) (by rw[ok.ts];rfl) (by omega) (by omega)) (aa 1 rfl) (by rw[TY];exact md m1) (fun _ _=>rfl)
noncomputable def Lo (ns:List Int)(k:Nat):Int:=(bw ns k % 10 ^ 59 * 10 ^ 59+bw ns (k+1) % 10 ^ 59) * 10 ^ 59+bw ns (k+2) % 10 ^ 59
def WK:Rl:=fun ds r=>∃ (ns:List Int) (k:Nat),ds=[.o9 ns,.int k]/\k<=90/\r=.ret (.int (Lo ns k))
theorem Tc (T:Txt K mg t):GF P w K mg base CX 2 "_law_big" 2 WK:=by
 refine⟨_,_,_,hV T.yF.F JR rfl fun bo A outer s H E G ds r hr hl hR=>?_,(T.g T.yF.a),T.yF.F.kp,T.yF.b⟩
 obtain⟨ns,k,rfl,hk,rfl⟩:=hR
 have jM:=xc (P:=P) (w:=w) (base:=base) T
 have nd:=JR.nd
 have cl:∀ (j:Nat),j<=100->As [.o9 ns,.int j] (.ret (.int (bw ns j))):=fun j hj=>⟨ns,j,rfl,hj,rfl⟩
 have fb:∀ z:Int,0<=z % 10 ^ 59/\z % 10 ^ 59 < 10 ^ 59:=fun z=>⟨aaB _ (by decide),aaG _ (by decide)⟩
 have f59:(10 ^ 59:Int) < 2 ^ 200:=by decide
 have ael:(10 ^ 59 * 10 ^ 59:Int) < 2 ^ 400:=by decide
 have h1:=fb (bw ns k)
 have h2:=fb (bw ns (k+1))
 exact⟨_,.rt _,ag (au 2 nd (d:=.int (10 ^ 59)) (Ii ai ai ⟨by decide,by decide,by decide⟩))
   (ag (au 3 nd (aL (fK (cJ (aW jM ax hr (ae (aa 0 rfl) (ae (aa 1 rfl) ah)) (cl k (by omega))) (aa 2 rfl) (by decide)) (aa 2 rfl) (Ft (m:=200) (n:=200) (by omega) (by decide) (by decide))) (cJ (aW jM ax hr (ae (aa 0 rfl) (ae (aK (aL (aa 1 rfl) ai) (congrArg Dt.int (show(k:Int)+1=((k+1:Nat):Int) by omega))) ah)) (cl (k+1) (by omega))) (aa 2 rfl) (by decide))))
   (ao (aA (aL (fK (aa 3 rfl) (aa 2 rfl) (Ft (m:=401) (n:=200) (by omega) (by decide) (by decide))) (cJ (aW jM ax hr (ae (aa 0 rfl) (ae (aK (aL (aa 1 rfl) ai) (congrArg Dt.int (show(k:Int)+2=((k+2:Nat):Int) by omega))) ah)) (cl (k+2) (by omega))) (aa 2 rfl) (by decide))))))⟩
noncomputable def Oe (six:Bool)(p:Int×Int):List Dt:=if six then [.int (2 * p.1+p.2),.int (p.1+2 * p.2),.int (p.2 - p.1),.int (-2 * p.1 - p.2),.int (-p.1 - 2 * p.2),.int (p.1 - p.2)] else [.int p.1,.int p.2,.int (-p.1),.int (-p.2)]
theorem Lp (six:Bool)(p:Int×Int){z:Int}(h0:0<=z)(h1:z < wy six):oy (Oe six p) z=some (.int (iZ six z p)):=by
 cases six with
 | false=>exact V7 p h0 h1
 | true=>exact V8 p h0 h1
def Lq:Rl:=fun ds r=>∃ six p,ds=[.int (wy six),sp p]/\r=.own (.lst (Oe six p))
theorem Hh (T:Txt K mg t):GF P w K mg base CX 1 "_law_along" 2 Lq:=by
 refine⟨_,_,_,hV T.pQ.F BY rfl fun bo A outer s H E G ds r hr hl hR=>?_,(T.g T.pQ.a),T.pQ.F.kp,T.pQ.b⟩
 obtain⟨six,p,rfl,rfl⟩:=hR
 have nd:=BY.nd
 cases six with
 | false=>
   exact⟨_,.ro _,ag (uM 2 3 nd rfl (aa 1 rfl)) (i8 (aI (u:=true) (aQ (kr (aa 0 rfl) ai) (decide_eq_true rfl)) (fun h=>ao (lY (qt (ae (aa 2 rfl) (ae (aa 3 rfl) (ae (iQ (aa 2 rfl)) (ae (iQ (aa 3 rfl)) ah)))) AA3))) (fun h=>nomatch h)))⟩
 | true=>
   exact⟨_,.ro _,ag (uM 2 3 nd rfl (aa 1 rfl)) (ag (aI (u:=false) (aQ (kr (aa 0 rfl) ai) (decide_eq_false (by decide))) (fun h=>nomatch h) (fun h=>aT))
     (ao (lY (qt (ae (aL (fK ai (aa 2 rfl) (pW.ok (aaK ⟨by decide,by decide⟩))) (aa 3 rfl)) (ae (aL (aa 2 rfl) (fK ai (aa 3 rfl) (pW.ok (aaK ⟨by decide,by decide⟩)))) (ae (gO (aa 3 rfl) (aa 2 rfl)) (ae (gO (fK (iQ ai) (aa 2 rfl) (pW.ok (aaK ⟨by decide,by decide⟩))) (aa 3 rfl)) (ae (gO (iQ (aa 2 rfl)) (fK ai (aa 3 rfl) (pW.ok (aaK ⟨by decide,by decide⟩)))) (ae (gO (aa 2 rfl) (aa 3 rfl)) ah)))))) AA3))))⟩
theorem FP (six:Bool)(xs:List Str)(w:Int):∀ n,∃ r,∃ tn:Nat,rec six xs w (n+1)=(r,(tn:Int))/\tn<=n/\iZ six w (hU six xs tn)=r/\(∀ k,k<=n->iZ six w (hU six xs k)<=r)/\∀ k,k < tn->iZ six w (hU six xs k) < r
 | 0=>by
   have e:iZ six w (hU six xs 0)=0:=xu six w
   refine⟨0,0,?_,aaa _,e,fun k hk=>?_,fun k hk=>absurd hk (Nat.not_lt_zero _)⟩
   . rw[rec,e,rec];rfl
   . have:k=0:=by omega
     subst this;omega
 | n+1=>by
   obtain⟨r,tn,e,h1,h2,h3,h4⟩:=FP six xs w n
   rw[rec,e]
   by_cases c:r < iZ six w (hU six xs (n+1))
   . refine⟨_,n+1,if_pos c,aaa _,rfl,fun k hk=>?_,fun k hk=>?_⟩
     . by_cases z:k=n+1
       . subst z;exact Int.le_refl _
       . have:=h3 k (by omega);omega
     . have:=h3 k (by omega);omega
   . refine⟨r,tn,if_neg c,by omega,h2,fun k hk=>?_,h4⟩
     by_cases z:k=n+1
     . subst z;omega
     . exact h3 k (by omega)
theorem xx:∀ xs:List Int,Gp (xs.map Dt.int)=xs.map PyData.int
 | []=>by simp[Gp]
 | x::xs=>by rw[aau,Gp,xx xs];simp[pd]
theorem Cu (xs:List Int):OL (.lst (xs.map .int)):=by
 have h1:mi (xs.map Dt.int)=true:=by
   induction xs with
   | nil=>simp[mi]
   | cons x xs ih=>rw[aau,mi,ih];simp[Sg.plain]
 have h2:∀ ys:List Int,PyData.canLayAll0 (ys.map PyData.int)=true/\PyData.depthAll (ys.map PyData.int)=0:=by
   intro ys
   induction ys with
   | nil=>simp[PyData.canLayAll0,PyData.depthAll]
   | cons y ys ih=>rw[aau];simp[PyData.canLayAll0,PyData.depthAll,PyData.canLay0,PyData.depth,ih]
 refine⟨by rw[Sg.plain];exact h1,?_⟩
 unfold SeqAt.shaped
 rw[pd,xx]
 simp[PyData.canLay0,PyData.depth,h2 xs]
noncomputable def Lr (x:Tr):Dt:=.tup [.int x.many,.int x.turn,sp x.shift,.int x.aX,.lst (x.reach.map .int),.lst (x.bf.map .int),.int x.hE]
def Hi:Rl:=fun ds r=>∃ six p b,ds=[.int (wy six),sp p,.int b]/\r=.ret (sp (tn six (b % wy six).toNat p))
theorem xy (T:Txt K mg t):GF P w K mg base CX 1 "_law_turned" 3 Hi:=by
 refine⟨_,_,_,hV T.mS.F yE rfl fun bo A outer s H E G ds r hr hl hR=>?_,(T.g T.mS.a),T.mS.F.kp,T.mS.b⟩
 obtain⟨six,p,b,rfl,rfl⟩:=hR
 have nd:=yE.nd
 have VG:=aaB b (abi (du six))
 have Y5:=aaG b (du six)
 have hb3:wy six<=6:=by cases six <;> decide
 refine⟨_,.rt _,ag (uM 3 4 nd rfl (aa 1 rfl)) (ag (gm 5 (fun k=>[.val (.int (wy six)),.br,.val (.int b),.val (.int (tn six k p).1),.val (.int (tn six k p).2),.br]) nd rfl PassesOwn.leaving T.d9
   (ae (cJ (aa 2 rfl) (aa 0 rfl) (du six)) ah) ⟨by omega,by omega⟩ (Le.of ⟨rfl,rfl,rfl,rfl,trivial⟩) (aaa _) (fun k hk=>?_) (.all rfl)) (ao (aA (aS (ae (aa 3 rfl) (ae (aa 4 rfl) ah)) AA3))))⟩
 cases six with
 | false=>exact .nx (ao (aI (kr (aa 0 rfl) ai) (fun h=>ao (IT 3 4 nd rfl (ae (iQ (aa 4 rfl)) (ae (aa 3 rfl) ah)))) (fun h=>absurd h (by decide)))) (Le.of ⟨rfl,rfl,rfl,rfl,trivial⟩)
 | true=>exact .nx (ao (aI (kr (aa 0 rfl) ai) (fun h=>absurd h (by decide)) (fun h=>ao (IT 3 4 nd rfl (ae (iQ (aa 4 rfl)) (ae (aL (aa 3 rfl) (aa 4 rfl)) ah)))))) (Le.of ⟨rfl,rfl,rfl,rfl,trivial⟩)
theorem FQ:∀ ns:List Int,(∀ z∈ns,z.natAbs < 2 ^ 100)->PyData.weightAll (ns.map PyData.int)<=101 * ns.length
 | [],_=>by simp[PyData.weightAll]
 | z::ns,h=>by
   have h1:=FQ ns fun y hy=>h y (aaJ _ hy)
   have h2:=h z aa1
   rw[aau,PyData.weightAll,aaN]
   have h3:PyData.weight (.int z)<=100:=by
     rw[PyData.weight]
     split
     . omega
     . rename_i c
       have:z.natAbs≠0:=fun e=>c (by rw[Int.natAbs_eq_zero.mp e];rfl)
       have:=(Nat.log2_lt this).mpr h2
       omega
   omega
theorem lay_ints {ns:List Int}(h:∀ z∈ns,z.natAbs < 2 ^ 100)(hl:ns.length<=1000):PyData.layable0 (.list (ns.map .int))=true:=by
 have c:=SeqAt.canLay_of_shaped (Cu ns).2
 have d:=SeqAt.depth_of_shaped (Cu ns).2
 rw[pd,xx] at c d
 have w:=FQ ns h
 unfold PyData.layable0
 rw[c,decide_eq_true d,decide_eq_true (show PyData.weight (.list (ns.map .int))<=2 ^ 20 by rw[PyData.weight];omega)];rfl
theorem Hj {ns:List Int}{r:Int}{k:Nat}(hk:k < ns.length)(h1:ns[k]=r)(h2:∀ j (hj:j < k),ns[j]≠r):ns.idxOf r=k:=by
 induction ns generalizing k with
 | nil=>simp at hk
 | cons a ns ih=>
   cases k with
   | zero=>simp at h1;rw[h1];simp
   | succ k=>
     have h3:a≠r:=h2 0 (Nat.succ_pos k)
     rw[List.idxOf_cons,show(a == r)=false from beq_eq_false_iff_ne.mpr h3]
     have:=ih (k:=k) (by simpa using hk) (by simpa using h1) fun j hj=>by
       have:=h2 (j+1) (by omega)
       simpa using this
     simp[this]
noncomputable def FR (six:Bool)(xs:List Str)(v:Int):List Int:=(aam (xs.length+1)).map fun j=>iZ six v (hU six xs j)
theorem WL (six:Bool)(v:Int)(p:Int×Int)(n:Nat)(h:p.1.natAbs<=n/\p.2.natAbs<=n):(iZ six v p).natAbs<=3 * n:=by
 unfold iZ
 cases six
 . simp only[aa2,if_false]
   split
   . omega
   . split
     . omega
     . split <;> omega
 . simp only[if_true]
   split
   . omega
   . split
     . omega
     . split
       . omega
       . split
         . omega
         . split <;> omega
theorem WM {six:Bool}{xs:List Str}(h:xs.length<=999)(v:Int):∀ z∈FR six xs v,z.natAbs < 2 ^ 100:=fun z hz=>by
 obtain⟨j,hj,rfl⟩:=aaR.mp hz
 have h1:=Ak six _ (xs.take j) rfl
 have h2:(xs.take j).length<=999:=by rw[aay];omega
 have h3:=WL six v (hU six xs j) 999 ⟨aaA h1.1 h2,aaA h1.2.1 h2⟩
 exact aaO h3 (by decide)
theorem FT (six:Bool)(xs:List Str){v:Nat}(hv:v < wn six):yC (FR six xs v)=(b6 six xs).reach.getD v 0/\(b6 six xs).reach.getD v 0∈FR six xs v/\(((FR six xs v).idxOf ((b6 six xs).reach.getD v 0):Nat):Int)=(b6 six xs).bf.getD v 0:=by
 have e:=(AB six hv _ xs rfl).1
 obtain⟨r,tn,e1,h1,h2,h3,h4⟩:=FP six xs v xs.length
 rw[e] at e1
 have er:(b6 six xs).reach.getD v 0=r:=(Prod.mk.inj e1).1
 have et:(b6 six xs).bf.getD v 0=(tn:Int):=(Prod.mk.inj e1).2
 have hl:(FR six xs v).length=xs.length+1:=by unfold FR;simp
 have at_:∀ j (hj:j < (FR six xs v).length),(FR six xs v)[j]=iZ six v (hU six xs j):=fun j hj=>by simp only[FR,aaQ,List.getElem_range]
 have hm:r∈FR six xs v:=aaX.mpr ⟨tn,by omega,by rw[at_,h2]⟩
 rw[er,et]
 refine⟨JH (by omega) hm fun x hx=>?_,hm,congrArg _ (Hj (by omega) (by rw[at_,h2]) fun j hj=>?_)⟩
 . obtain⟨j,hj,rfl⟩:=aaX.mp hx
   rw[at_];exact h3 j (by omega)
 . rw[at_];exact Int.ne_of_lt (h4 j hj)
def Td:Rl:=fun ds r=>∃ rows q,ds=[.lst (rows.map n9),.str (sg q.c)]/\bP rows/\q∈rows/\r=.ret (n9 q)
def Of:Rl:=fun ds r=>∃ six rows w,ds=[.int (wy six),.lst (rows.map n9),.str (tx w)]/\bP rows/\(∀ x∈w,x∈rows.map (·.c))/\w.length<=900/\r=.ret (Lr (b6 six (uB rows w)))
noncomputable abbrev WN:Stmt->Scope
 | .Assign _ (.ListComp (.Call _ (.ListComp _ _ sc _::_) _ _) _ _ _) _=>sc
 | _=>af (.Pass ⟨0,0,0,0⟩)
noncomputable abbrev WO:Stmt->Scope
 | .Assign _ (.ListComp (.Call (.Attribute (.ListComp _ _ sc _) _ _) _ _ _) _ _ _) _=>sc
 | _=>af (.Pass ⟨0,0,0,0⟩)
noncomputable abbrev WQ (i:Nat):Stmt:=(aE kO).getD i (.Pass ⟨0,0,0,0⟩)
noncomputable abbrev WR:Scope:=OP (WQ 6)
noncomputable abbrev Px:Scope:=OP (WQ 7)
noncomputable abbrev Te:Scope:=WN (WQ 7)
noncomputable abbrev Py:Scope:=OP (WQ 8)
noncomputable abbrev Tf:Scope:=WO (WQ 8)
theorem Pz:gM WR (af kO) uT ["_law_one","_law_ways"] ["_law_one"] [0]=true:=by decide +kernel
theorem PB:BF Px (af kO) uT ["_law_w","_law_alongs"] "_law_w" [11]=true:=by decide +kernel
theorem Lu:gM Te (relabel Px (Ss (af kO))) ["_law_w","_law_alongs"] ["_law_along_here","_law_w"] ["_law_along_here"] [0]=true:=by decide +kernel
theorem PD:BF Py (af kO) uT ["_law_w","_law_alongs","_law_reach"] "_law_w" [11,12]=true:=by decide +kernel
theorem Lv:gM Tf (relabel Py (Ss (af kO))) ["_law_w","_law_alongs","_law_reach"] ["_law_along_here","_law_w"] ["_law_along_here"] [0]=true:=by decide +kernel
theorem AE (T:Txt K mg t):GF P w K mg base CX 1 "_law_row" 2 Td:=by
 refine⟨_,_,_,hV T.yG.F JS rfl fun bo A outer s H E G ds r hr hl hR=>?_,(T.g T.yG.a),T.yG.F.kp,T.yG.b⟩
 obtain⟨rows,q,rfl,ok,hq,rfl⟩:=hR
 have nd:=JS.nd
 obtain⟨m,hm,rfl⟩:=aaX.mp hq
 have AK:∀ k (hk:k < m),rows[k].c≠rows[m].c:=fun k hk z=>by
   have:=aa0.mp ok.nd k m (by rw[k5];omega) (by rw[k5];exact hm) hk
   rw[aaQ,aaQ] at this
   exact this z
 let S:Nat->List Slot:=fun _=>[.val (.lst (rows.map n9)),.val (.str (sg rows[m].c)),.br]
 refine⟨_,.rt _,i8 (nh (m:=m) rows n9 (fun r dl=>dl.set 2 (.val (n9 r))) S rfl PassesOwn.leaving (ik (aa 0 rfl)) gq (bC nd rfl (.inl rfl)) (fun a _=>rj) (Le.of ⟨rfl,rfl,trivial⟩) (aa7 hm) (fun k a hk ha=>?_) (.rt (d:=n9 rows[m]) hm ?_))⟩
 . rw[k3 (by omega)] at ha
   cases ha
   exact .nx (ao (aI (u:=false) (aQ (cK (aC (aa 2 rfl) ai rfl) (aa 1 rfl)) (decide_eq_false fun z=>AK k hk (qK z))) (fun h=>nomatch h) (fun h=>aT))) (Le.of ⟨rfl,rfl,trivial⟩)
 . rw[k3 hm]
   exact ao (aI (u:=true) (aQ (cK (aC (aa 2 rfl) ai rfl) (aa 1 rfl)) (decide_eq_true rfl)) (fun h=>ao (aA (aa 2 rfl))) (fun h=>nomatch h))
theorem Lw (T:Txt K mg t):GF P w K mg base CX 2 "_law_drawn" 3 Of:=by
 refine⟨_,_,_,hV T.pR.F BZ rfl fun bo A outer s H E G ds r hr hl hR=>?_,(T.g T.pR.a),T.pR.F.kp,T.pR.b⟩
 obtain⟨six,rows,wd,rfl,ok,hw,hl9,rfl⟩:=hR
 have xA:=AE (P:=P) (w:=w) (base:=base) T
 have Tg:=xy (P:=P) (w:=w) (base:=base) T
 have aae:=Hh (P:=P) (w:=w) (base:=base) T
 have nd:=BZ.nd
 have ewn:=wU six
 have w6:wn six<=6:=by cases six <;> decide
 obtain⟨xs,Nm⟩:∃ xs,xs=uB rows wd:=⟨_,rfl⟩
 have Et:xs.length=wd.length:=by rw[Nm];unfold uB;rw[k5]
 rw[<- Nm]
 let X:Nat->Tr:=fun k=>b6 six (xs.take k)
 have hX:∀ k (h:k < xs.length),X (k+1)=jn six (X k) (one six xs[k]):=fun k h=>by
   show b6 six (xs.take (k+1))=_
   rw[aaY,k3 h];exact jy six _ _
 have hpj:∀ k (h:k < xs.length),pj (X (k+1))=ZX six (pj (X k)) xs[k]:=fun k h=>by rw[hX k h];exact Pb six _ _
 have mV:∀ k (h:k < xs.length),(X (k+1)).aX=(X k).aX+(if xs[k]="stroke" then 1 else 0):=fun k h=>by rw[hX k h];rfl
 let rD:Dt:=.lst (rows.map n9)
 let PF:Nat->List Dt:=fun k=>(aam (k+1)).map fun j=>sp (hU six xs j)
 have aaf:∀ k,PF k ++ [sp (X (k+1)).shift]=PF (k+1):=fun k=>by
   show(aam (k+1)).map _ ++ _=(aam (k+1+1)).map _
   rw[List.range_succ (n:=k+1),aa6];rfl
 let S:Nat->List Slot:=fun k=>[.val (.int (wy six)),.val rD,.val (.str (tx wd)),.val (.int (X k).turn),.val (sp (X k).shift),.val (.int (X k).aX),.val (.int (X k).hE),.own (.lst (PF k)),.br,.br,.br,.br,.br,.br]
 have sz:∀ n:Nat,n<=2000->n<=sizeLine:=fun n h=>aaA h (by decide)
 have h7:∀ x∈wd,x < 128:=fun x hx=>by
   obtain⟨q,hq,hc⟩:=aaR.mp (hw x hx)
   have:=ok.sm q hq
   rw[hc] at this
   unfold small at this;omega
 refine⟨_,.rt _,ag (au 3 nd ai) (ag (au 4 nd (d:=sp (0,0)) (aS (ae ai (ae ai ah)) AA3)) (ag (au 5 nd ai) (ag (au 6 nd ai) (ag (jQ 7 nd (qt (ae (aa 4 rfl) ah) AA3))
   (ag (dl1:=S wd.length) (nh (o:=.nx (S wd.length)) (m:=wd.length) wd (fun x=>Dt.str (sg x)) (fun x dl=>dl.set 8 (.val (.str (sg x)))) S rfl PassesOwn.leaving (fZ (aa 2 rfl)) (c6 (cE (jx h7)) (dP wd)) (bC nd rfl (.inl rfl)) (fun a _=>rj) (Le.of ⟨rfl,rfl,rfl,rfl,rfl,rfl,rfl,rfl,trivial⟩) (aaa _) (fun k a hk ha=>?_) (.all rfl)) ?_)))))⟩
 . rw[k3 hk] at ha
   cases ha
   have hkx:k < xs.length:=by omega
   obtain⟨q,hq,hc,ed,_⟩:=eW (hw _ (aaP hk))
   have exk:xs[k]=q.d:=by
     have:xs[k]?=some (lO rows wd[k]):=by
       rw[Nm];unfold uB;rw[aab,k3 hk];rfl
     rw[k3 hkx,ed] at this
     exact Option.some.inj this
   have XB:q.d∈l9:=ok.dd q hq
   have hP:=hpj k hkx
   have hS:=mV k hkx
   rw[exk] at hP hS
   obtain⟨d,hdq⟩:∃ d,d=q.d:=⟨_,rfl⟩
   rw[<- hdq] at hP hS XB
   obtain⟨st,tJ⟩:∃ st,st=tn six ((X k).turn % wy six).toNat (if d∈x9 then (1,0) else (0,0)):=⟨_,rfl⟩
   have hun:st.1.natAbs<=1/\st.2.natAbs<=1:=by
     rw[tJ]
     by_cases c:d∈x9
     . rw[if_pos c];exact FC six _
     . rw[if_neg c,nT];decide
   have e1:(X (k+1)).turn=((X k).turn+fW d) % wy six:=congrArg (·.1) hP
   have e2:(X (k+1)).shift=ad (X k).shift st:=by rw[tJ];exact congrArg (·.2.1) hP
   have e3:(X (k+1)).hE=(X k).hE+((X k).shift.1 * st.2 - (X k).shift.2 * st.1):=by rw[tJ];exact congrArg (·.2.2) hP
   let B:List Slot:=[.val (.int (wy six)),.val rD,.val (.str (tx wd)),.val (.int (X k).turn),.val (sp (X k).shift),.val (.int (X k).aX),.val (.int (X k).hE),.own (.lst (PF k)),.val (.str (sg wd[k])),.val (.str d),.val (sp (0,0)),.br,.br,.br]
   let B1:Int->Int->Int×Int->List Slot:=fun a b s=>[.val (.int (wy six)),.val rD,.val (.str (tx wd)),.val (.int a),.val (sp (X k).shift),.val (.int b),.val (.int (X k).hE),.own (.lst (PF k)),.val (.str (sg wd[k])),.val (.str d),.val (sp s),.br,.br,.br]
   have LF:(PF k).length < sizeLine:=by
     show((aam (k+1)).map _).length < _
     rw[k5,aaI];exact aaq (show k+1 < 2000 by omega) (by decide)
   refine .nx (ag (au 9 nd (d:=.str d) (aC (ds:=[.str (sg q.c),.str q.d,.str (tx q.w)]) (aW xA ax hr (ae (aa 1 rfl) (ae (aa 8 rfl) ah)) ⟨rows,q,by rw[hc],ok,hq,rfl⟩) ai (by rw[hdq];rfl))) (ag (au 10 nd (d:=sp (0,0)) (aS (ae ai (ae ai ah)) AA3))
     (ag (dl1:=B1 (X (k+1)).turn (X (k+1)).aX st) ?iF (ag (au 6 nd (d:=.int (X (k+1)).hE) (aK (gO (aL (aa 6 rfl) (fK (aC (ds:=[.int (X k).shift.1,.int (X k).shift.2]) (aa 4 rfl) ai rfl) (aC (ds:=[.int st.1,.int st.2]) (aa 10 rfl) ai rfl) (pW.ok (aaD ⟨by omega,by omega⟩)))) (fK (aC (ds:=[.int (X k).shift.1,.int (X k).shift.2]) (aa 4 rfl) ai rfl) (aC (ds:=[.int st.1,.int st.2]) (aa 10 rfl) ai rfl) (pW.ok (aaD ⟨by omega,by omega⟩)))) (congrArg Dt.int (by rw[e3];omega))))
     (ag (au 4 nd (d:=sp (X (k+1)).shift) (aK (aS (ae (aL (aC (ds:=[.int (X k).shift.1,.int (X k).shift.2]) (aa 4 rfl) ai rfl) (aC (ds:=[.int st.1,.int st.2]) (aa 10 rfl) ai rfl)) (ae (aL (aC (ds:=[.int (X k).shift.1,.int (X k).shift.2]) (aa 4 rfl) ai rfl) (aC (ds:=[.int st.1,.int st.2]) (aa 10 rfl) ai rfl)) ah)) AA3) (by rw[e2];rfl)))
     (ao (sD 7 (aa 4 rfl) LF))))))) (Le.of ⟨rfl,rfl,rfl,rfl,rfl,rfl,rfl,by rw[aaf k],trivial⟩)
   case iF=>
     show ES _ _ _ B _ (.nx (B1 (X (k+1)).turn (X (k+1)).aX st))
     have c5:d="stroke"\/d="step"\/d="left"\/d="right"\/d="rest":=by simpa [l9] using XB
     have ht:=xq six (xs.take k)
     have em:(X k).turn % wy six=(X k).turn:=abw ht.1 ht.2
     by_cases c:d∈x9
     . have c2:d="stroke"\/d="step":=by simpa [x9] using c
       have n1:d≠"left":=by rcases c2 with h | h <;> rw[h] <;> decide
       have n2:d≠"right":=by rcases c2 with h | h <;> rw[h] <;> decide
       have n3:d≠"rest":=by rcases c2 with h | h <;> rw[h] <;> decide
       have t0:fW d=0:=by unfold fW;rw[if_neg n1,if_neg n2]
       rw[if_pos c] at tJ
       rw[e1,t0,abn,em]
       refine aI (u:=false) (aQ (cK (aa 9 rfl) aO) (decide_eq_false n1)) (fun h=>nomatch h) (fun _=>ao (aI (u:=false) (aQ (cK (aa 9 rfl) aO) (decide_eq_false n2)) (fun h=>nomatch h) (fun _=>ao (aI (u:=true) (aQ (Iu (aa 9 rfl) aO) (by rw[decide_eq_false n3];rfl)) (fun _=>ag (au 10 nd (d:=sp st) (aK (aW Tg ax hr (ae (aa 0 rfl) (ae (aS (ae ai (ae ai ah)) AA3) (ae (aa 3 rfl) ah))) ⟨six,(1,0),(X k).turn,rfl,rfl⟩) (by rw[tJ])))
         (ao (au 5 nd (d:=.int (X (k+1)).aX) (aK (aL (aa 5 rfl) (EN T.B4 (QR (aa 9 rfl) aO))) (congrArg Dt.int (by rw[hS];simp)))))) (fun h=>nomatch h)))))
     . have n0:d≠"stroke":=fun h=>c (by rw[h];decide)
       have s0:(X (k+1)).aX=(X k).aX:=by rw[hS,if_neg n0,abn]
       have z0:st=(0,0):=by rw[tJ,if_neg c,nT]
       rw[e1,s0,z0]
       rcases c5 with h | h | h | h | h
       . exact absurd h n0
       . exact absurd (show d∈x9 by rw[h];decide) c
       . have t0:fW d=1:=by rw[h];decide
         rw[t0]
         exact aI (u:=true) (aQ (cK (aa 9 rfl) aO) (decide_eq_true h)) (fun _=>ao (au 3 nd (cJ (aL (aa 3 rfl) ai) (aa 0 rfl) (du six)))) (fun h=>nomatch h)
       . have t0:fW d=-1:=by rw[h];decide
         rw[t0]
         exact aI (u:=false) (aQ (cK (aa 9 rfl) aO) (decide_eq_false (by rw[h];decide))) (fun h=>nomatch h) (fun _=>ao (aI (u:=true) (aQ (cK (aa 9 rfl) aO) (decide_eq_true h)) (fun _=>ao (au 3 nd (cJ (gO (aa 3 rfl) ai) (aa 0 rfl) (du six)))) (fun h=>nomatch h)))
       . have t0:fW d=0:=by rw[h];decide
         rw[t0,abn,em]
         exact aI (u:=false) (aQ (cK (aa 9 rfl) aO) (decide_eq_false (by rw[h];decide))) (fun h=>nomatch h) (fun _=>ao (aI (u:=false) (aQ (cK (aa 9 rfl) aO) (decide_eq_false (by rw[h];decide))) (fun h=>nomatch h) (fun _=>ao (aI (u:=false) (aQ (Iu (aa 9 rfl) aO) (by rw[decide_eq_true h];rfl)) (fun h=>nomatch h) (fun _=>aT)))))
 . have hX0:X wd.length=b6 six xs:=by show b6 six (xs.take wd.length)=_;rw[<- Et,abb]
   have LB:PF wd.length=(aam (xs.length+1)).map fun j=>sp (hU six xs j):=by show(aam (wd.length+1)).map _=_;rw[Et]
   obtain⟨x,hx⟩:∃ x,x=b6 six xs:=⟨_,rfl⟩
   let J:=aam (xs.length+1)
   have hJ:J.length<=2000:=by show(aam (xs.length+1)).length<=2000;rw[aaI];omega
   let S0:List Slot:=[.val (.int (wy six)),.val rD,.val (.str (tx wd)),.val (.int x.turn),.val (sp x.shift),.val (.int x.aX),.val (.int x.hE),.own (.lst (J.map fun j=>sp (hU six xs j))),.br,.br,.br,.br,.br,.br]
   have eS:S wd.length=S0:=by
     show [_,_,_,Slot.val (.int (X wd.length).turn),Slot.val (sp (X wd.length).shift),Slot.val (.int (X wd.length).aX),Slot.val (.int (X wd.length).hE),Slot.own (.lst (PF wd.length)),_,_,_,_,_,_]=_
     rw[hX0,LB,<- hx]
   rw[eS]
   have wfx:x.reach.length=wn six/\x.bf.length=wn six:=by rw[hx];have:=Ak six _ xs rfl;exact this.2.2
   let aD:List Dt:=J.map fun j=>Dt.lst (Oe six (hU six xs j))
   have eA:((J.filter fun _=>true).map fun j=>Dt.lst (Oe six (hU six xs j)))=aD:=by rw[aav.mpr (fun _ _=>rfl)]
   have eV:∀ v:Nat,((J.filter fun _=>true).map fun j=>Dt.int (iZ six v (hU six xs j)))=(FR six xs v).map .int:=fun v=>by
     rw[aav.mpr (fun _ _=>rfl)];unfold FR;rw[aao];rfl
   have lV:∀ v:Nat,(FR six xs v).length=xs.length+1:=fun v=>by unfold FR;simp
   have eR:(((aam (wn six)).filter fun _=>true).map fun v=>Dt.int (x.reach.getD v 0))=x.reach.map .int:=by
     rw[aav.mpr (fun _ _=>rfl),show(fun v=>Dt.int (x.reach.getD v 0))=Dt.int ∘ fun v=>x.reach.getD v 0 from rfl,<- aao]
     exact congrArg (List.map Dt.int) (list_eq (six:=six) (by simp) wfx.1 fun v hv=>by rw[jO hv])
   have eT:(((aam (wn six)).filter fun _=>true).map fun v=>Dt.int (x.bf.getD v 0))=x.bf.map .int:=by
     rw[aav.mpr (fun _ _=>rfl),show(fun v=>Dt.int (x.bf.getD v 0))=Dt.int ∘ fun v=>x.bf.getD v 0 from rfl,<- aao]
     exact congrArg (List.map Dt.int) (list_eq (six:=six) (by simp) wfx.2 fun v hv=>by rw[jO hv])
   have em:x.many=(wd.length:Int):=by rw[hx,(Cc six _ xs rfl).1,Et]
   refine qr 7 (w:=.lst (J.map fun j=>sp (hU six xs j))) (ag (jQ 11 nd (eh J (fun j=>sp (hU six xs j)) (fun j=>Dt.lst (Oe six (hU six xs j))) (fun j=>[.val (sp (hU six xs j))]) (fun _=>true) rfl (bD Pz) (ik (aa 7 rfl)) (bR (bD Pz) rfl) gq (fun a _=>bY) (.nil fun _ _=>rfl)
     (fun j hj _ C fp s' H' G'=>q9 (Bo aae ax hr (ae (aa 1 rfl) (ae (aa 0 rfl) ah)) ⟨six,hU six xs j,rfl,rfl⟩)) (sz _ hJ))) ?_)
   rw[eA]
   refine qr 11 (w:=.lst aD) (ag (jQ 12 nd (Jo (aam (wn six)) (fun(v:Nat)=>Dt.int (v:Nat)) (fun v=>Dt.int (x.reach.getD v 0)) (fun(v:Nat)=>[.val (.int (v:Nat))]) (fun _=>true) rfl (yw PB) (mB rfl T.d9 (ae (aK (aa 0 rfl) (congrArg Dt.int ewn.symm)) ah)) (vX (yw PB)) (tS (j:=wn six) ⟨by omega,by omega⟩) (fun a _=>bY) (.nil fun _ _=>rfl)
     (fun v hv _ cc C fp s' H' G'=>?iR) (sz _ (by rw[aaI];omega)))) ?_)
   case iR=>
     have OF:v < wn six:=abr.mp hv
     have h3:=FT six xs OF
     rw[<- hx] at h3
     exact aK (M7 T.Ff rfl (eU (eV v) (eh J (fun j=>Dt.lst (Oe six (hU six xs j))) (fun j=>Dt.int (iZ six v (hU six xs j))) (fun j=>[.val (.lst (Oe six (hU six xs j)))]) (fun _=>true) rfl (bD Lu) (ik (aa 1 rfl)) (bR (bD Lu) rfl) gq (fun a _=>bY) (.nil fun _ _=>rfl)
       (fun j hj _ C2 Vo s2 H2 G2=>zm (aa 0 rfl) (aa 1 rfl) (Lp six _ (by omega) (by omega))) (sz _ hJ))) (by rw[lV];omega)) (congrArg Dt.int h3.1)
   rw[eR]
   refine qr 12 (w:=.lst (x.reach.map .int)) (ag (Rc 13 (aam (wn six)) (fun(v:Nat)=>Dt.int (v:Nat)) (fun v=>Dt.int (x.bf.getD v 0)) (fun(v:Nat)=>[.val (.int (v:Nat))]) (fun _=>true) rfl nd (yw PD) (mB rfl T.d9 (ae (aK (aa 0 rfl) (congrArg Dt.int ewn.symm)) ah)) (vX (yw PD)) (tS (j:=wn six) ⟨by omega,by omega⟩) (fun a _=>bY) (.nil fun _ _=>rfl)
     (fun v hv _ cc C fp s' H' G'=>?iT) (sz _ (by rw[aaI];omega))) ?_)
   case iT=>
     have OF:v < wn six:=abr.mp hv
     have h3:=FT six xs OF
     rw[<- hx] at h3
     exact aK (JG (k:=x.reach.getD v 0) (eU (eV v) (eh J (fun j=>Dt.lst (Oe six (hU six xs j))) (fun j=>Dt.int (iZ six v (hU six xs j))) (fun j=>[.val (.lst (Oe six (hU six xs j)))]) (fun _=>true) rfl (bD Lv) (ik (aa 1 rfl)) (bR (bD Lv) rfl) gq (fun a _=>bY) (.nil fun _ _=>rfl)
       (fun j hj _ C2 Vo s2 H2 G2=>zm (aa 0 rfl) (aa 1 rfl) (Lp six _ (by omega) (by omega))) (sz _ hJ))) (zm (aa 2 rfl) (aa 0 rfl) (NG (by omega) (by omega))) (lay_ints (WM (by omega) v) (by rw[lV];omega)) h3.2.1) (congrArg Dt.int h3.2.2)
   rw[eT]
   refine qr 13 (w:=.lst (x.bf.map .int)) (ao (aA (aK (aS (ae (oV T.gN (aa 2 rfl) (by omega)) (ae (aa 3 rfl) (ae (aa 4 rfl) (ae (aa 5 rfl) (ae (aa 12 rfl) (ae (aa 13 rfl) (ae (aa 6 rfl) ah))))))) AA3) ?_)))
   rw[<- hx];unfold Lr;rw[em];rfl
section
variable {X:Cx}{G:Gr}{dl:List Slot}{a b c:Expr}{d1 d2 d3:Dt}{pos:Pos}{u v:Bool}{i j k:Int}
theorem Lx {op CI:CmpOp}{r r':R2}(ho:oi X (compareOp op) r)(CD:oi X (compareOp CI) r')(h1:CA X.K r d1 d2 (.bl u))(h2:CA X.K r' d2 d3 (.bl v))(ha:EE X G dl a d1)(hb:EE X G dl b d2)(hc:EE X G dl c d3)(hm:lastMarks [op,CI] [b,c]=false:=by with_unfolding_all rfl):EB X G dl (.Compare a [op,CI] [b,c] pos) (u && v):=
 UN (HM ho CD ha hb hc hm) fun st H Q zq=>Bn zq fun Hf zq=>have S:=zq.1;have k:=zq.2;⟨Hf,S,fun x Hf1 H1 g1 r1=>⟨Hf1,S.grow g1,fun y bX H2 g2 r2=>h1 x y bX H2 _ g2.sub (r1.mono g2.bG) r2 fun z jA H3 g3 r3=>by
   cases r3
   refine⟨u,rfl,?_⟩
   cases u with
   | false=>exact zg ⟨false,rfl,k jA H3 ((g1.trans g2).trans g3)⟩
   | true=>exact zh ⟨jA,((S.grow g1).grow g2).grow g3,fun w Hq H4 g4 r4=>h2 y w Hq H4 _ g4.sub (r2.mono (g3.bG.trans g4.bG)) r4 fun q uN H5 g5 r5=>by cases r5;exact⟨v,rfl,k uN H5 ((((g1.trans g2).trans g3).trans g4).trans g5)⟩⟩⟩⟩
theorem Ly (ha:EE X G dl a (.int i))(hb:EE X G dl b (.int j))(hc:EE X G dl c (.int k))(hm:lastMarks [.LtE,.Lt] [b,c]=false:=by with_unfolding_all rfl):EB X G dl (.Compare a [.LtE,.Lt] [b,c] pos) (decide (i<=j) && decide (j < k)):=
 Lx D6 OC (oE (g':=fun i j=>.bl (decide (i<=j))) fun _ _ _ _=>.bl _) (oE (g':=fun i j=>.bl (decide (i < j))) fun _ _ _ _=>.bl _) ha hb hc hm
end
theorem Og {W:List Nat}{b:Nat}(h:b < W.length):cut W b (b+1)=[W.getD b 0]:=by
 unfold cut
 rw[aaY,k3 h,List.drop_append_of_le_length (by rw[aay];omega),abK (by rw[aay];omega),YO,k3 h]
 rfl
def Th:Rl:=fun ds r=>∃ rows w age m,ds=[.lst (rows.map n9),.str (tx w),.int ((age:Nat):Int),.int 400]/\lx rows w/\(m<=age/\age<=200)/\(fz rows w m).length<=400/\(m=age\/(m < age/\400 < (fz rows w (m+1)).length))/\r=.ret (.tup [.str (tx (fz rows w m)),.int ((m:Nat):Int)])
noncomputable abbrev Oh:Scope:=match (aE BQ).getD 0 (.Pass ⟨0,0,0,0⟩) with
 | .For _ _ (.Assign _ (.Call _ (.ListComp _ _ sc _::_) _ _) _::_) _ _=>sc
 | _=>af (.Pass ⟨0,0,0,0⟩)
theorem pU:gM Oh (af BQ) O7 ["_law_letter","_law_rows"] ["_law_letter"] [0]=true:=by decide +kernel
theorem Ti {rows:List Row}{w:List Nat}(ok:lx rows w)(age:Nat):∃ m,m<=age/\(fz rows w m).length<=400/\(m=age\/(m < age/\400 < (fz rows w (m+1)).length)):=by
 have h0:(fz rows w 0).length<=400:=by rw[Cp];have:=ok.w8;omega
 induction age with
 | zero=>exact⟨0,aaa _,h0,.inl rfl⟩
 | succ a ih=>
   obtain⟨m,h1,h2,h3⟩:=ih
   rcases h3 with rfl | h3
   . by_cases h:(fz rows w (m+1)).length<=400
     . exact⟨m+1,aaa _,h,.inl rfl⟩
     . exact⟨m,by omega,h2,.inr ⟨by omega,by omega⟩⟩
   . exact⟨m,by omega,h2,.inr ⟨by omega,h3.2⟩⟩
theorem Oi (T:Txt K mg t):GF P w K mg base CX 2 "_law_out" 4 Th:=by
 refine⟨_,_,_,hV T.yH.F JT rfl fun bo A outer s H E G ds r hr hl hR=>?_,(T.g T.yH.a),T.yH.F.kp,T.yH.b⟩
 obtain⟨rows,wd,age,m,rfl,ok,⟨hma,gQ⟩,hle,aah,rfl⟩:=hR
 have xA:=AE (P:=P) (w:=w) (base:=base) T
 have nd:=JT.nd
 let S:Nat->List Slot:=fun k=>[.val (.lst (rows.map n9)),.val (.str (tx (fz rows wd k))),.val (.int ((age:Nat):Int)),.val (.int 400),.br,.br]
 rcases aah with rfl | ⟨dn,Yr⟩
 . refine⟨_,.rt _,ag (dl1:=S m) (gm (o:=.nx (S m)) (m:=m) 4 S nd rfl PassesOwn.leaving T.d9 (ae (aa 2 rfl) ah) ⟨by omega,by omega⟩ (Le.of ⟨rfl,by rw[Cp],rfl,rfl,trivial⟩) (by omega) (fun k hk=>?_) (by rw[aaU];exact .all rfl)) (ao (aA (aS (ae (aa 1 rfl) (ae (aa 2 rfl) ah)) AA3)))⟩
   have a:=tF ok.ok ok.wm (n:=k) (m:=m) (by omega)
   have b:=tF ok.ok ok.wm (n:=k+1) (m:=m) (by omega)
   rw[<- rW] at b
   have qv:=nV ok.ok ok.wm k
   have e2:(((fz rows wd k).filter fun _=>true).map fun x=>Dt.str (tx (wordOf rows x)))=(((fz rows wd k).map (wordOf rows)).map tx).map Dt.str:=by
     rw[aav.mpr (fun _ _=>rfl),aao,aao];rfl
   refine .nx (ag (au 5 nd (d:=.str (tx (grow rows (fz rows wd k)))) (lC (Ls:=(fz rows wd k).map (wordOf rows)) aO (eU e2 (eh (fz rows wd k) (fun x=>Dt.str (sg x)) (fun x=>.str (tx (wordOf rows x))) (fun x=>[.val (.str (sg x))]) (fun _=>true) rfl (bD pU) (fZ (aa 1 rfl)) (bR (bD pU) rfl) (c6 (cE (ma ok.ok qv)) (dP _)) (fun a _=>bY) (.nil fun _ _=>rfl)
     (fun a ha _ C fp s' H' G'=>?l1) (qO (by omega)))) (by rw[k5];show(grow rows (fz rows wd k)).length+_<=_;omega)))
     (ag (aI (u:=false) (aQ (tR (vm T.gN (aa 5 rfl) (by omega)) (aa 3 rfl)) (decide_eq_false (by omega))) (fun h=>nomatch h) (fun h=>aT)) (ao (au 1 nd (aa 5 rfl))))) (Le.of ⟨rfl,?_,rfl,rfl,trivial⟩)
   case l1=>
     obtain⟨q,hq,hc,_,ew⟩:=eW (qv a ha)
     exact aK (aC (aW xA ax hr (ae (aa 1 rfl) (ae (aK (aa 0 rfl) (by rw[hc])) ah)) ⟨rows,q,rfl,ok.ok,hq,rfl⟩) ai rfl) (show Dt.str (tx q.w)=Dt.str (tx (wordOf rows a)) by rw[ew])
   show Slot.val (.str (tx (fz rows wd (k+1))))=Slot.val (.str (tx (grow rows (fz rows wd k))))
   rw[rW]
 . . refine⟨_,.rt _,i8 (gm (o:=.rt (.tup [.str (tx (fz rows wd m)),.int ((m:Nat):Int)])) (m:=m) 4 S nd rfl PassesOwn.leaving T.d9 (ae (aa 2 rfl) ah) ⟨by omega,by omega⟩ (Le.of ⟨rfl,by rw[Cp],rfl,rfl,trivial⟩) (by omega) (fun k hk=>?l2) ?en)⟩
     case l2=>
       have a:=tF ok.ok ok.wm (n:=k) (m:=m) (by omega)
       have b:=tF ok.ok ok.wm (n:=k+1) (m:=m) (by omega)
       rw[<- rW] at b
       have qv:=nV ok.ok ok.wm k
       have e2:(((fz rows wd k).filter fun _=>true).map fun x=>Dt.str (tx (wordOf rows x)))=(((fz rows wd k).map (wordOf rows)).map tx).map Dt.str:=by
         rw[aav.mpr (fun _ _=>rfl),aao,aao];rfl
       refine .nx (ag (au 5 nd (d:=.str (tx (grow rows (fz rows wd k)))) (lC (Ls:=(fz rows wd k).map (wordOf rows)) aO (eU e2 (eh (fz rows wd k) (fun x=>Dt.str (sg x)) (fun x=>.str (tx (wordOf rows x))) (fun x=>[.val (.str (sg x))]) (fun _=>true) rfl (bD pU) (fZ (aa 1 rfl)) (bR (bD pU) rfl) (c6 (cE (ma ok.ok qv)) (dP _)) (fun a _=>bY) (.nil fun _ _=>rfl)
         (fun a ha _ C fp s' H' G'=>?l1) (qO (by omega)))) (by rw[k5];show(grow rows (fz rows wd k)).length+_<=_;omega)))
         (ag (aI (u:=false) (aQ (tR (vm T.gN (aa 5 rfl) (by omega)) (aa 3 rfl)) (decide_eq_false (by omega))) (fun h=>nomatch h) (fun h=>aT)) (ao (au 1 nd (aa 5 rfl))))) (Le.of ⟨rfl,?_,rfl,rfl,trivial⟩)
       case l1=>
         obtain⟨q,hq,hc,_,ew⟩:=eW (qv a ha)
         exact aK (aC (aW xA ax hr (ae (aa 1 rfl) (ae (aK (aa 0 rfl) (by rw[hc])) ah)) ⟨rows,q,rfl,ok.ok,hq,rfl⟩) ai rfl) (show Dt.str (tx q.w)=Dt.str (tx (wordOf rows a)) by rw[ew])
       show Slot.val (.str (tx (fz rows wd (k+1))))=Slot.val (.str (tx (grow rows (fz rows wd k))))
       rw[rW]
     case en=>
       rw[aaU]
       have qv:=nV ok.ok ok.wm m
       have h8:=(Az ok.ok qv).2
       rw[<- rW] at Yr
       have e2:(((fz rows wd m).filter fun _=>true).map fun x=>Dt.str (tx (wordOf rows x)))=(((fz rows wd m).map (wordOf rows)).map tx).map Dt.str:=by
         rw[aav.mpr (fun _ _=>rfl),aao,aao];rfl
       refine .rt dn (ag (au 5 nd (d:=.str (tx (grow rows (fz rows wd m)))) (lC (Ls:=(fz rows wd m).map (wordOf rows)) aO (eU e2 (eh (fz rows wd m) (fun x=>Dt.str (sg x)) (fun x=>.str (tx (wordOf rows x))) (fun x=>[.val (.str (sg x))]) (fun _=>true) rfl (bD pU) (fZ (aa 1 rfl)) (bR (bD pU) rfl) (c6 (cE (ma ok.ok qv)) (dP _)) (fun a _=>bY) (.nil fun _ _=>rfl)
         (fun a ha _ C fp s' H' G'=>?l1) (qO (by omega)))) (by rw[k5];show(grow rows (fz rows wd m)).length+_<=_;omega)))
         (i8 (aI (u:=true) (aQ (tR (vm T.gN (aa 5 rfl) (by omega)) (aa 3 rfl)) (decide_eq_true (by omega))) (fun h=>ao (aA (aS (ae (aa 1 rfl) (ae (aa 4 rfl) ah)) AA3))) (fun h=>nomatch h))))
       case l1=>
         obtain⟨q,hq,hc,_,ew⟩:=eW (qv a ha)
         exact aK (aC (aW xA ax hr (ae (aa 1 rfl) (ae (aK (aa 0 rfl) (by rw[hc])) ah)) ⟨rows,q,rfl,ok.ok,hq,rfl⟩) ai rfl) (show Dt.str (tx q.w)=Dt.str (tx (wordOf rows a)) by rw[ew])
noncomputable def i0 (x:Tr):Dt:=.tup [sp x.shift,.int x.turn]
def AF (t:dR):Rl:=fun ds r=>∃ six rows w l' ls' n' l ls n age,∃ e:Nat,ds=[.obj t.ay (t.DV six rows w l' ls' n' l ls n),.int ((age:Nat):Int),.int (e:Int)]/\Ob t six rows w ls' ls/\age<=200/\e<=(fz rows w age).length/\r=.ret (i0 (b6 six (uB rows (cut (fz rows w age) 0 e))))
theorem Lz (T:Txt K mg t):MF P w K mg base CX 10 t.ay "pen_at" 3 (AF t):=by
 refine⟨T.bT.cl,_,_,_,hV T.gH.F l3 rfl fun bo A outer s H E G ds r hr hl hR=>?_,T.dt,T.gH.b⟩
 obtain⟨six,rows,wd,l',ls',n',l,ls,n,age,e,rfl,ok,gQ,CC,rfl⟩:=hR
 have Tj:=xw (P:=P) (w:=w) (base:=base) T
 have rT:=yO (P:=P) (w:=w) (base:=base) T
 have wX:=Aj (P:=P) (w:=w) (base:=base) T
 have nd:=l3.nd
 obtain⟨x,hx⟩:∃ x,x=b6 six (uB rows (cut (fz rows wd age) 0 e)):=⟨_,rfl⟩
 rw[<- hx]
 have e0:tn six ((0:Int) % wy six).toNat x.shift=x.shift:=by cases six <;> rfl
 refine⟨_,.rt _,ag (au 3 nd (d:=t.oW six x) (bb (fs:=t.DV six rows wd l' ls' n' l ls n) (aa 0 rfl) Tj ax hr (ae (aa 1 rfl) (ae ai (ae (aa 2 rfl) ah))) ⟨six,rows,wd,l',ls',n',l,ls,n,age,0,e,rfl,ok,gQ,⟨aaW _,CC⟩,by rw[hx]⟩))
   (ao (aA (aK (aS (ae (Ex (fs:=t.lR six x) (oX (aa 3 rfl)) rT ax hr ⟨six,x,0,rfl,rfl⟩) (ae (dq (fs:=t.lR six x) (oX (aa 3 rfl)) wX ax hr ⟨six,x,rfl,rfl⟩) ah)) AA3) (by rw[e0];rfl))))⟩
section
variable {X:Cx}{G:Gr}{E:XK}{dl:List Slot}{e:Expr}{d1 d2 d3:Dt}{pos:Pos}
theorem Oj (n1 n2 n3:Nat){a b c:Str}{pa pb pc tp tq:Pos}{cx cy:Nat}(hN:X.N.Nodup)(hc:X.calm=true)(he:EE X G dl e (.tup [.tup [d1,d2],d3]))(Vf:X.N[n1]?=some a:=by rfl)(Vg:X.N[n2]?=some b:=by rfl)(ZI:X.N[n3]?=some c:=by rfl)(Vh:Loc X.env.scope a:=by first | exact aaK rfl | exact aaD rfl)(QC:Loc X.env.scope b:=by first | exact aaK rfl | exact aaD rfl)(ZJ:Loc X.env.scope c:=by first | exact aaK rfl | exact aaD rfl)(Vi:X.fn a=true\/X.env.scope.names.lookup a=some .local:=by first | exact .inl rfl | exact .inr rfl)(Vj:X.fn b=true\/X.env.scope.names.lookup b=some .local:=by first | exact .inl rfl | exact .inr rfl)(ZK:X.fn c=true\/X.env.scope.names.lookup c=some .local:=by first | exact .inl rfl | exact .inr rfl)(hn:(assignEach [.Name a pa,.Name b pb] X.env).length=2:=by rfl)(mV:(assignEach [.Name a pa,.Name b pb] X.env).findIdx? (·.1)=none:=by rfl)(Ow:(assignEach [.Tuple [.Name a pa,.Name b pb] cx tp,.Name c pc] X.env).length=2:=by rfl)(tJ:(assignEach [.Tuple [.Name a pa,.Name b pb] cx tp,.Name c pc] X.env).findIdx? (·.1)=none:=by rfl)(q1:(assignEach [.Name a pa,.Name b pb] X.env).map (·.2)=assign (.Name a pa) X.env::(assignEach [.Name b pb] X.env).map (·.2):=by rfl)(q2:(assignEach [.Name b pb] X.env).map (·.2)=assign (.Name b pb) X.env::(assignEach [] X.env).map (·.2):=by rfl)(q3:(assignEach [.Tuple [.Name a pa,.Name b pb] cx tp,.Name c pc] X.env).map (·.2)=assign (.Tuple [.Name a pa,.Name b pb] cx tp) X.env::(assignEach [.Name c pc] X.env).map (·.2):=by rfl)(q4:(assignEach [.Name c pc] X.env).map (·.2)=assign (.Name c pc) X.env::(assignEach [] X.env).map (·.2):=by rfl)(hs:swapsWithSole [.Tuple [.Tuple [.Name a pa,.Name b pb] cx tp,.Name c pc] cy tq] e pos.line X.env=pure false:=by rfl)(hw:swappedStores [.Tuple [.Tuple [.Name a pa,.Name b pb] cx tp,.Name c pc] cy tq] e X.env=pure none:=by rfl)(h1:(assignEach [.Tuple [.Tuple [.Name a pa,.Name b pb] cx tp,.Name c pc] cy tq] X.env).map (·.2)=[assign (.Tuple [.Tuple [.Name a pa,.Name b pb] cx tp,.Name c pc] cy tq) X.env]:=by rfl):ES X G E dl (.Assign [.Tuple [.Tuple [.Name a pa,.Name b pb] cx tp,.Name c pc] cy tq] e pos) (.nx (((dl.set n1 (.val d1)).set n2 (.val d2)).set n3 (.val d3))):=
 sk (yV he (ql hc (cQ (ql hc (cQ (bC (pos:=pa) hN Vf Vh Vi) (cQ (bC (pos:=pb) hN Vg QC Vj) m5 q2) q1) hn mV) (cQ (bC (pos:=pc) hN ZI ZJ ZK) m5 q4) q3) Ow tJ) hs hw h1) fun D st H zq=>Bn zq fun Hf zq=>have S:=zq.1;have k:=zq.2;⟨Hf,S,fun v Hf1 H1 g1 r1=>by
   cases r1 with
   | @tup q vs _ hq rp=>
     cases rp with
     | cons r1 t1=>cases t1 with
       | cons r3 t2=>
         cases t2
         cases r1 with
         | @tup q' vs' _ Ql rp'=>
           cases rp' with
           | cons r1 t1=>cases t1 with
             | cons r2 t2=>
               cases t2
               exact⟨q,_,rfl,de g1.sub hq,rfl,_,_,rfl,⟨q',_,rfl,de g1.sub Ql,rfl,_,_,rfl,_,_,rfl,rfl,_,_,rfl,rfl,k _ Hf1 H1 g1.bG ((((S.grow g1).set r1).set r2).set r3)⟩⟩⟩
end
theorem ly (x:Tr):OL (i0 x):=⟨rfl,rfl⟩
def Tn:Rl:=fun ds r=>∃ six x d,ds=[.int (wy six),i0 x,.str d]/\d∈l9/\(0<=x.turn/\x.turn < wy six)/\r=.ret (i0 (jn six x (one six d)))
def WS:Rl:=fun ds r=>∃ six x,ds=[i0 x,.int (wy six)]/\(0<=x.turn/\x.turn < wy six)/\r=.ret (.bl true)
theorem Ol (T:Txt K mg t):GF P w K mg base CX 2 "_law_next" 3 Tn:=by
 refine⟨_,_,_,hV T.sZ.F E5 rfl fun bo A outer s H E G ds r hr hl hR=>?_,(T.g T.sZ.a),T.sZ.F.kp,T.sZ.b⟩
 obtain⟨six,x,d,rfl,XB,ht,rfl⟩:=hR
 have Tg:=xy (P:=P) (w:=w) (base:=base) T
 have nd:=E5.nd
 have hP:=Pb six x d
 obtain⟨y,hy⟩:∃ y,y=jn six x (one six d):=⟨_,rfl⟩
 rw[<- hy] at hP ⊢
 obtain⟨st,tJ⟩:∃ st,st=tn six (x.turn % wy six).toNat (if d∈x9 then (1,0) else (0,0)):=⟨_,rfl⟩
 have e1:y.turn=(x.turn+fW d) % wy six:=congrArg (·.1) hP
 have e2:y.shift=ad x.shift st:=by rw[tJ];exact congrArg (·.2.1) hP
 have em:x.turn % wy six=x.turn:=abw ht.1 ht.2
 have c5:d="stroke"\/d="step"\/d="left"\/d="right"\/d="rest":=by simpa [l9] using XB
 let pD:Dt:=.tup [.tup [.int x.shift.1,.int x.shift.2],.int x.turn]
 let B:List Slot:=[.val (.int (wy six)),.val pD,.val (.str d),.val (.int x.shift.1),.val (.int x.shift.2),.val (.int x.turn),.br]
 have a0:ad x.shift (0,0)=x.shift:=by unfold ad;simp
 refine⟨_,.rt _,ag (dl1:=B) (Oj 3 4 5 nd rfl (aa 1 rfl)) ?_⟩
 by_cases c:d∈x9
 . have c2:d="stroke"\/d="step":=by simpa [x9] using c
   have n1:d≠"left":=by rcases c2 with h | h <;> rw[h] <;> decide
   have n2:d≠"right":=by rcases c2 with h | h <;> rw[h] <;> decide
   have n3:d≠"rest":=by rcases c2 with h | h <;> rw[h] <;> decide
   have t0:fW d=0:=by unfold fW;rw[if_neg n1,if_neg n2]
   rw[if_pos c] at tJ
   rw[t0,abn,em] at e1
   refine ag (aI (u:=false) (aQ (cK (aa 2 rfl) aO) (decide_eq_false n1)) (fun h=>nomatch h) (fun _=>aT)) (ag (aI (u:=false) (aQ (cK (aa 2 rfl) aO) (decide_eq_false n2)) (fun h=>nomatch h) (fun _=>aT)) (ag (aI (u:=false) (aQ (cK (aa 2 rfl) aO) (decide_eq_false n3)) (fun h=>nomatch h) (fun _=>aT))
     (ag (au 6 nd (d:=sp st) (aK (aW Tg ax hr (ae (aa 0 rfl) (ae (aS (ae ai (ae ai ah)) AA3) (ae (aa 5 rfl) ah))) ⟨six,(1,0),x.turn,rfl,rfl⟩) (by rw[tJ])))
     (ao (aA (aK (aS (ae (aS (ae (aL (aa 3 rfl) (aC (ds:=[.int st.1,.int st.2]) (aa 6 rfl) ai rfl)) (ae (aL (aa 4 rfl) (aC (ds:=[.int st.1,.int st.2]) (aa 6 rfl) ai rfl)) ah)) AA3) (ae (aa 5 rfl) ah)) AA3) (by unfold i0;rw[e1,e2];rfl)))))))
 . have z0:st=(0,0):=by rw[tJ,if_neg c,nT]
   rw[z0,a0] at e2
   rcases c5 with h | h | h | h | h
   . exact absurd (show d∈x9 by rw[h];decide) c
   . exact absurd (show d∈x9 by rw[h];decide) c
   . have t0:fW d=1:=by rw[h];decide
     rw[t0] at e1
     exact i8 (aI (u:=true) (aQ (cK (aa 2 rfl) aO) (decide_eq_true h)) (fun _=>ao (aA (aK (aS (ae (aS (ae (aa 3 rfl) (ae (aa 4 rfl) ah)) AA3) (ae (cJ (aL (aa 5 rfl) ai) (aa 0 rfl) (du six)) ah)) AA3) (by unfold i0;rw[e1,e2];rfl)))) (fun h=>nomatch h))
   . have t0:fW d=-1:=by rw[h];decide
     rw[t0] at e1
     exact ag (aI (u:=false) (aQ (cK (aa 2 rfl) aO) (decide_eq_false (by rw[h];decide))) (fun h=>nomatch h) (fun _=>aT)) (i8 (aI (u:=true) (aQ (cK (aa 2 rfl) aO) (decide_eq_true h)) (fun _=>ao (aA (aK (aS (ae (aS (ae (aa 3 rfl) (ae (aa 4 rfl) ah)) AA3) (ae (cJ (gO (aa 5 rfl) ai) (aa 0 rfl) (du six)) ah)) AA3) (by unfold i0;rw[e1,e2];rfl)))) (fun h=>nomatch h)))
   . have t0:fW d=0:=by rw[h];decide
     rw[t0,abn,em] at e1
     exact ag (aI (u:=false) (aQ (cK (aa 2 rfl) aO) (decide_eq_false (by rw[h];decide))) (fun h=>nomatch h) (fun _=>aT)) (ag (aI (u:=false) (aQ (cK (aa 2 rfl) aO) (decide_eq_false (by rw[h];decide))) (fun h=>nomatch h) (fun _=>aT)) (i8 (aI (u:=true) (aQ (cK (aa 2 rfl) aO) (decide_eq_true h)) (fun _=>ao (aA (aK (aa 1 rfl) (by unfold i0;rw[e1,e2];rfl)))) (fun h=>nomatch h))))
theorem Om (T:Txt K mg t):GF P w K mg base CX 2 "_law_pen" 2 WS:=by
 refine⟨_,_,_,hV T.yI.F RU rfl fun bo A outer s H E G ds r hr hl hR=>?_,(T.g T.yI.a),T.yI.F.kp,T.yI.b⟩
 obtain⟨six,x,rfl,ht,rfl⟩:=hR
 have AG:=KO (P:=P) (w:=w) (base:=base) T
 exact⟨_,.rt _,ag (aI (u:=false) (vH (qW (u:=false) (v:=false) (sq (u:=true) (vF (zp (d:=i0 x) T.gJ (aa 0 rfl) (Em T.rP Sg.boot_tuple) rfl trivial rfl))) fun _=>(qW (u:=false) (v:=false) (aQ (Ir (Eo (ds:=[sp x.shift,.int x.turn]) T.gN (aa 0 rfl)) ai) rfl) fun _=>
     (qW (u:=false) (v:=false) (sq (u:=true) (vF (zp (d:=sp x.shift) T.gJ (aC (ds:=[sp x.shift,.int x.turn]) (aa 0 rfl) ai rfl) (Em T.rP Sg.boot_tuple) rfl trivial rfl))) fun _=>(qp (aQ (Ir (Eo (ds:=[.int x.shift.1,.int x.shift.2]) T.gN (aC (ds:=[sp x.shift,.int x.turn]) (aa 0 rfl) ai rfl)) ai) rfl)))))) (fun h=>nomatch h) (fun h=>aT))
   (ag (aI (u:=false) (vH (qW (u:=false) (v:=false) (sq (u:=true) (vF (aW AG ax hr (ae (aC (ds:=[sp x.shift,.int x.turn]) (aa 0 rfl) ai rfl) ah) ⟨x.turn,rfl,rfl⟩))) fun _=>(qp (sq (u:=true) (aQ (Ly ai (aC (ds:=[sp x.shift,.int x.turn]) (aa 0 rfl) ai rfl) (aa 1 rfl)) (by rw[decide_eq_true ht.1,decide_eq_true ht.2];rfl)))))) (fun h=>nomatch h) (fun h=>aT))
   (ao (aA (vI (u:=true) (v:=true) (aW AG ax hr (ae (aC (ds:=[.int x.shift.1,.int x.shift.2]) (aC (ds:=[sp x.shift,.int x.turn]) (aa 0 rfl) ai rfl) ai rfl) ah) ⟨x.shift.1,rfl,rfl⟩) fun _=>(qX (aW AG ax hr (ae (aC (ds:=[.int x.shift.1,.int x.shift.2]) (aC (ds:=[sp x.shift,.int x.turn]) (aa 0 rfl) ai rfl) ai rfl) ah) ⟨x.shift.2,rfl,rfl⟩))))))⟩
theorem To (T:Txt K mg t):ke P w K mg base CX 12 t.rK t.wA ["_law_script"] (KL K):=by
 refine hV T.B3.F JV rfl fun bo A outer s H E G ds r hr hl hR=>?_
 obtain⟨ns,hlen,rfl,rfl⟩:=hR
 have jM:=xc (P:=P) (w:=w) (base:=base) T
 have WT:=Tc (P:=P) (w:=w) (base:=base) T
 have Oo:=KW (P:=P) (w:=w) (base:=base) T
 have xA:=AE (P:=P) (w:=w) (base:=base) T
 have WU:=Oi (P:=P) (w:=w) (base:=base) T
 have Oq:=Lw (P:=P) (w:=w) (base:=base) T
 have Tp:=Ol (P:=P) (w:=w) (base:=base) T
 have Kb:=Om (P:=P) (w:=w) (base:=base) T
 have Ot:=Ka (P:=P) (w:=w) (base:=base) T
 have Tq:=KG (P:=P) (w:=w) (base:=base) T
 have aai:=Lm (P:=P) (w:=w) (base:=base) T
 have Cq:=Aq (P:=P) (w:=w) (base:=base) T
 have WV:=SV (P:=P) (w:=w) (base:=base) T
 have Tj:=xw (P:=P) (w:=w) (base:=base) T
 have Ts:=Lz (P:=P) (w:=w) (base:=base) T
 have rT:=yO (P:=P) (w:=w) (base:=base) T
 have wX:=Aj (P:=P) (w:=w) (base:=base) T
 have nd:=JV.nd
 let six:=FH ns
 let rows:=xj ns
 let wd:=vj ns
 have LO:lx rows wd:=Wo ns
 have ok:bP rows:=LO.ok
 have hb:=NX ns (far:=16) (by decide) (by decide)
 obtain⟨age,gQ⟩:∃ age:Nat,qk ns 16=((age:Nat):Int):=⟨(qk ns 16).toNat,by omega⟩
 have LG:age<=200:=by omega
 obtain⟨W,hW⟩:∃ W:List Nat,W=fz rows wd age:=⟨_,rfl⟩
 obtain⟨sz,hsz⟩:∃ sz:Nat,sz=W.length:=⟨_,rfl⟩
 have esz:((sz:Nat):Int)=Z2 rows wd age:=by rw[hsz,hW];exact Ax LO age
 have hWm:∀ x∈W,x∈rows.map (·.c):=fun x hx=>by rw[hW] at hx;exact nV ok LO.wm age x hx
 obtain⟨b,eb,hbs⟩:∃ b:Nat,Lo ns 9 % (((sz:Nat):Int)+1)=((b:Nat):Int)/\b<=sz:=by
   have a:=aaB (Lo ns 9) (show((sz:Nat):Int)+1≠0 by omega)
   have b:=aaG (Lo ns 9) (show(0:Int) < ((sz:Nat):Int)+1 by omega)
   generalize Lo ns 9 % (((sz:Nat):Int)+1)=y at a b ⊢
   exact⟨y.toNat,by omega,by omega⟩
 obtain⟨m,hm,Mr⟩:∃ m:Int,oy [Dt.int 4,Dt.int 2] (if decide ((24:Int) < ((age:Nat):Int))=true then 1 else 0)=some (.int m)/\0 < m:=by
   by_cases c:(24:Int) < ((age:Nat):Int)
   . rw[decide_eq_true c];exact⟨2,rfl,by decide⟩
   . rw[decide_eq_false c];exact⟨4,rfl,by decide⟩
 obtain⟨e,ee,t5,hes⟩:∃ e:Nat,(if bw ns 12 % m+((b:Nat):Int) < ((sz:Nat):Int) then bw ns 12 % m+((b:Nat):Int) else ((sz:Nat):Int))=((e:Nat):Int)/\b<=e/\e<=sz:=by
   have a:=aaB (bw ns 12) (show m≠0 by omega)
   generalize bw ns 12 % m=y at a ⊢
   split
   . exact⟨(y+(b:Int)).toNat,by omega,by omega,by omega⟩
   . exact⟨sz,rfl,hbs,aaa _⟩
 let nD:Nat->Dt:=fun a=>.int ((a:Nat):Int)
 let X:Nat->Tr:=fun p=>b6 six (uB rows (cut W 0 p))
 have tX:∀ p,0<=(X p).turn/\(X p).turn < wy six:=fun p=>xq six _
 have hX:∀ p (h:p < sz),X (p+1)=jn six (X p) (one six (lO rows (W.getD p 0))):=fun p h=>by
   show b6 six (uB rows (cut W 0 (p+1)))=jn six (b6 six (uB rows (cut W 0 p))) _
   have e1:cut W 0 (p+1)=cut W 0 p ++ [W.getD p 0]:=by
     have h':p < W.length:=by omega
     unfold cut
     rw[abJ,abJ,aaY,YO,k3 h'];rfl
   rw[e1]
   unfold uB
   rw[aa6]
   exact jy six _ _
 have XC:∀ x:Tr,PyData.eqv (pd (i0 x)) (pd (i0 x))=true:=fun x=>eqv_refl _ (ly x).1
 have eX0:i0 (X 0)=.tup [.tup [.int 0,.int 0],.int 0]:=by
   show i0 (b6 six (uB rows (cut W 0 0)))=_
   have:cut W 0 0=[]:=by unfold cut;simp
   rw[this];rfl
 refine⟨_,.rt _,?_⟩
 refine ag (M3 1 2 3 4 nd rfl (aK (aW Oo ax hr (ae (aa 0 rfl) (ae ai ah)) ⟨ns,16,rfl,⟨by decide,by decide⟩,rfl⟩) (by rw[gQ]))) ?_
 refine ag (au 5 nd (d:=t.ZZ six rows wd 1) (Mw (Bm Tq ax hr (ae (U3 (uK Ot ax hr (ae (aa 1 rfl) (ae (q9 (My T.Ac (aa 2 rfl))) ah)) ⟨six,rows,rfl,ok,rfl⟩)) (ae (aa 3 rfl) ah)) ⟨six,rows,wd,rfl,LO,rfl⟩))) ?_
 refine BI 5 fun l' ls' my=>?_
 refine ag (au 6 nd (d:=.vB t.ay (t.AD six rows wd l' ls' 1) [t.qM six rows] ["tracks"] 1) (Mw (Bm aai ax hr (ae (aa 5 rfl) ah) ⟨six,rows,wd,l',ls',1,rfl,LO,rfl⟩))) ?_
 refine BI 6 fun l ls hts=>?_
 have dok:Ob t six rows wd ls' ls:=⟨LO,my,hts⟩
 let gE:Dt:=yc t six rows wd l' ls' 1
 let dE:Dt:=.obj t.ay (t.DV six rows wd l' ls' 1 l ls 1)
 let D:Slot->Slot->Slot->Slot->Slot->Slot->Slot->Slot->Slot->List Slot:=fun a7 a8 a9 a10 a11 a12 a13 a14 a15=>[.val (.o9 ns),.val (.int (wy six)),.val (.lst (rows.map n9)),.val (.str (tx wd)),.val (nD age),.val gE,.val dE,a7,a8,a9,a10,a11,a12,a13,a14,a15]
 have paR:∀ p:Nat,p<=sz->AF t [dE,nD age,nD p] (.ret (i0 (X p))):=fun p h=>by
   show AF t [dE,nD age,nD p] (.ret (i0 (b6 six (uB rows (cut W 0 p)))))
   rw[hsz,hW] at h
   rw[hW]
   exact⟨six,rows,wd,l',ls',1,l,ls,1,age,p,rfl,dok,LG,h,rfl⟩
 show m8 _ _ _ (D .br .br .br .br .br .br .br .br .br) _ _
 refine ag (dl1:=D (.val (nD sz)) .br .br .br .br .br .br .br .br) (au 7 nd (bb (fs:=t.gK six rows wd l' ls' 1) (aa 5 rfl) Cq ax hr (ae (aa 4 rfl) ah) ⟨six,rows,wd,l',ls',1,age,rfl,LO,my,LG,by show Res.ret (.int ((sz:Nat):Int))=_;rw[esz]⟩)) ?_
 refine ag (dl1:=D (.val (nD sz)) (.val (nD b)) .br .br .br .br .br .br .br) (au 8 nd (aK (cJ (aW WT ax hr (ae (aa 0 rfl) (ae ai ah)) ⟨ns,9,rfl,by decide,rfl⟩) (aL (aa 7 rfl) ai) (by omega)) (congrArg Dt.int eb))) ?_
 refine ag (dl1:=D (.val (nD sz)) (.val (nD b)) (.val (i0 (X b))) .br .br .br .br .br .br) (au 9 nd (bb (fs:=t.DV six rows wd l' ls' 1 l ls 1) (aa 6 rfl) Ts ax hr (ae (aa 4 rfl) (ae (aa 8 rfl) ah)) (paR b hbs))) ?_
 refine ag (aI (u:=false) (vH (qW (u:=false) (v:=false) (sq (u:=true) (vF (aW Kb ax hr (ae (aa 9 rfl) (ae (aa 1 rfl) ah)) ⟨six,X b,rfl,tX b,rfl⟩))) fun _=>(qp (Ep (d1:=i0 (X 0)) (d2:=i0 (X 0)) hr.units (bb (fs:=t.DV six rows wd l' ls' 1 l ls 1) (aa 6 rfl) Ts ax hr (ae (aa 4 rfl) (ae ai ah)) (paR 0 (aaW _))) (aK (aS (ae (aS (ae ai (ae ai ah)) AA3) (ae ai ah)) AA3) eX0.symm) (ly _) (ly _) (by rw[XC];rfl))))) (fun h=>nomatch h) (fun h=>aT)) ?_
 have stR:tH t [dE,nD age,.int 0,nD b] (.ret (t.oW six (X b))):=by
   show tH t [dE,nD age,.int 0,nD b] (.ret (t.oW six (b6 six (uB rows (cut W 0 b)))))
   have h:=hbs
   rw[hsz,hW] at h
   rw[hW]
   exact⟨six,rows,wd,l',ls',1,l,ls,1,age,0,b,rfl,dok,LG,⟨aaW _,h⟩,rfl⟩
 have e0:tn six ((0:Int) % wy six).toNat (X b).shift=(X b).shift:=by cases six <;> rfl
 refine ag (dl1:=D (.val (nD sz)) (.val (nD b)) (.val (i0 (X b))) (.val (t.oW six (X b))) .br .br .br .br .br) (au 10 nd (bb (fs:=t.DV six rows wd l' ls' 1 l ls 1) (aa 6 rfl) Tj ax hr (ae (aa 4 rfl) (ae ai (ae (aa 8 rfl) ah))) stR)) ?_
 refine ag (aI (u:=false) (Ep (d1:=i0 (X b)) (d2:=i0 (X b)) hr.units (aa 9 rfl) (aK (aS (ae (Ex (fs:=t.lR six (X b)) (oX (aa 10 rfl)) rT ax hr ⟨six,X b,0,rfl,rfl⟩) (ae (dq (fs:=t.lR six (X b)) (oX (aa 10 rfl)) wX ax hr ⟨six,X b,rfl,rfl⟩) ah)) AA3) (by rw[e0];rfl)) (ly _) (ly _) (by rw[XC];rfl)) (fun h=>nomatch h) (fun h=>aT)) ?_
 obtain⟨mm,Xl,Xm,hm3⟩:=Ti LO age
 let tD:Dt:=.str (tx (fz rows wd mm))
 refine ag (dl1:=D (.val (nD sz)) (.val (nD b)) (.val (i0 (X b))) (.val (t.oW six (X b))) (.val tD) (.val (nD mm)) .br .br .br) (uM 11 12 nd rfl (aW WU ax hr (ae (aa 2 rfl) (ae (aa 3 rfl) (ae (aa 4 rfl) (ae ai ah)))) ⟨rows,wd,age,mm,rfl,LO,⟨Xl,LG⟩,Xm,hm3,rfl⟩)) ?_
 let S:Nat->List Slot:=fun k=>D (.val (nD sz)) (.val (nD b)) (.val (i0 (X (b+k)))) (.val (t.oW six (X b))) (.val tD) (.val (nD mm)) .br .br .br
 refine ag (dl1:=S 0) ?i10 ?_
 case i10=>
   by_cases c:mm=age
   . subst c
     have ht:cut (fz rows wd mm) 0 b=(fz rows wd mm).take b:=by unfold cut;rw[abJ]
     have qv:∀ x∈(fz rows wd mm).take b,x∈rows.map (·.c):=fun x hx=>hWm x (by rw[hW];exact List.mem_of_mem_take hx)
     have hle:b<=(fz rows wd mm).length:=by rw[<- hW];omega
     have hxb:b6 six (uB rows ((fz rows wd mm).take b))=X b:=by show _=b6 six (uB rows (cut W 0 b));rw[hW,ht]
     refine aI (u:=true) (aQ (kr (aa 12 rfl) (aa 4 rfl)) (decide_eq_true rfl)) (fun _=>Il (ag (au 13 nd (d:=Lr (X b)) (aK (aW Oq ax hr (ae (aa 1 rfl) (ae (aa 2 rfl) (ae (Fm (aa 11 rfl) (aa 8 rfl) hle (by omega)) ah))) ⟨six,rows,(fz rows wd mm).take b,rfl,ok,qv,by rw[aay];omega,rfl⟩) (by rw[hxb])))
       (ao (aI (u:=false) (Ep (d1:=i0 (X b)) (d2:=i0 (X b)) hr.units (aa 9 rfl) (aS (ae (aC (ds:=[.int (X b).many,.int (X b).turn,sp (X b).shift,.int (X b).aX,.lst ((X b).reach.map .int),.lst ((X b).bf.map .int),.int (X b).hE]) (aa 13 rfl) ai rfl) (ae (aC (ds:=[.int (X b).many,.int (X b).turn,sp (X b).shift,.int (X b).aX,.lst ((X b).reach.map .int),.lst ((X b).bf.map .int),.int (X b).hE]) (aa 13 rfl) ai rfl) ah)) AA3) (ly _) (ly _) (by rw[XC];rfl)) (fun h=>nomatch h) (fun h=>aT)))) (Le.of ⟨rfl,rfl,rfl,rfl,rfl,rfl,rfl,rfl,rfl,rfl,rfl,rfl,rfl,trivial⟩)) (fun h=>nomatch h)
   . exact aI (u:=false) (aQ (kr (aa 12 rfl) (aa 4 rfl)) (decide_eq_false (by omega))) (fun h=>nomatch h) (fun _=>aT)
 have hN:((((e:Nat):Int) - ((b:Nat):Int)).toNat)=e - b:=by omega
 refine ag (dl1:=S (aam (((e:Nat):Int) - ((b:Nat):Int)).toNat).length) (nh (o:=.nx (S (aam (((e:Nat):Int) - ((b:Nat):Int)).toNat).length)) (m:=(aam (((e:Nat):Int) - ((b:Nat):Int)).toNat).length) (aam (((e:Nat):Int) - ((b:Nat):Int)).toNat) (fun(k:Nat)=>Dt.int (((b:Nat):Int)+(k:Nat))) (fun(k:Nat) dl=>dl.set 14 (.val (.int (((b:Nat):Int)+(k:Nat))))) S rfl PassesOwn.leaving (GV rfl T.d9 (ae (aa 8 rfl) (ae (aK (ID T.Fg rfl (ae (aa 7 rfl) (ae (aL (aa 8 rfl) (cJ (aW jM ax hr (ae (aa 0 rfl) (ae ai ah)) ⟨ns,12,rfl,by decide,rfl⟩) (zm (q9 (qt (ae ai (ae ai ah)) AA3)) (EN T.B4 (UP (aa 4 rfl) ai)) hm) Mr)) ah))) (congrArg Dt.int (by rw[<- ee,Int.add_comm]))) ah))) BP (bC nd rfl (.inl rfl)) (fun a _=>rj) (Le.of ⟨rfl,rfl,rfl,rfl,rfl,rfl,rfl,rfl,rfl,rfl,rfl,rfl,rfl,trivial⟩) (aaa _) (fun k a hk ha=>?_) (.all rfl)) (ao (aA UO))
 have TH:a=k/\b+k < sz:=by
   rw[aaI,hN] at hk
   rw[hN,aaL hk] at ha
   exact⟨(Option.some.inj ha).symm,by omega⟩
 obtain⟨rfl,hks⟩:=TH
 obtain⟨q,hq,hc,ed,_⟩:=eW (hWm (W.getD (b+a) 0) (by
   rw[YO,k3 (show b+a < W.length by omega)];exact aaP _))
 have laR:Pp t [gE,nD age,.int (((b+a:Nat)):Int)] (.ret (.str (sg q.c))):=by
   refine⟨six,rows,wd,l',ls',1,age,b+a,rfl,LO,my,LG,by rw[<- hW];omega,?_⟩
   rw[<- hW,Og (show b+a < W.length by omega),hc];rfl
 have ek:((b:Nat):Int)+((a:Nat):Int)=((b+a:Nat):Int):=by omega
 have ek1:((b:Nat):Int)+((a:Nat):Int)+1=((b+(a+1):Nat):Int):=by omega
 have eJ:i0 (jn six (X (b+a)) (one six q.d))=i0 (X (b+(a+1))):=by rw[<- ed,<- hX (b+a) hks];rfl
 refine .nx (ag (au 15 nd (d:=i0 (X (b+(a+1)))) (bb (fs:=t.DV six rows wd l' ls' 1 l ls 1) (aa 6 rfl) Ts ax hr (ae (aa 4 rfl) (ae (aK (aL (aa 14 rfl) ai) (congrArg Dt.int ek1)) ah)) (paR (b+(a+1)) (by omega))))
   (ag (aI (u:=false) (Ep (d1:=i0 (X (b+(a+1)))) (d2:=i0 (X (b+(a+1)))) hr.units (aa 15 rfl) (aK (aW Tp ax hr (ae (aa 1 rfl) (ae (aa 9 rfl) (ae (aC (d:=.str q.d) (ds:=[.str (sg q.c),.str q.d,.str (tx q.w)]) (aW xA ax hr (ae (aa 2 rfl) (ae (bb (fs:=t.gK six rows wd l' ls' 1) (aa 5 rfl) WV ax hr (ae (aa 4 rfl) (ae (aK (aa 14 rfl) (congrArg Dt.int ek)) ah)) laR) ah)) ⟨rows,q,rfl,ok,hq,rfl⟩) ai rfl) ah))) ⟨six,X (b+a),q.d,rfl,ok.dd q hq,tX _,rfl⟩) eJ) (ly _) (ly _) (by rw[XC];rfl)) (fun h=>nomatch h) (fun h=>aT))
   (ao (au 9 nd (aa 15 rfl))))) (Le.of ⟨rfl,rfl,rfl,rfl,rfl,rfl,rfl,rfl,rfl,rfl,rfl,rfl,rfl,trivial⟩)
end Pf
end
local macro_rules | `(tactic| walk_at "b")=>`(tactic| first
 | exact fun _ _ _ _ _ _ us hl=>match us,hl with | [_],_=>rfl
 | exact fun _ _ _ _ _ _ us hl=>match us,hl with | [_,_],_=>rfl
 | exact fun _ _ _ _ _ _ us hl=>match us,hl with | [_,_,_],_=>rfl
 | exact fun _ _ _ _ _ _ us hl=>match us,hl with | [_,_,_,_],_=>rfl
 | exact fun _ _ _ _ _ _ us hl=>match us,hl with | [_,_,_,_,_],_=>rfl
 | exact fun _ _ _ _ _ _ us hl=>match us,hl with | [_,_,_,_,_,_],_=>rfl
 | exact fun _ _ _ _ _ _ us hl=>match us,hl with | [_,_,_,_,_,_,_],_=>rfl
 | exact fun _ _ _ _ _ _ us hl=>match us,hl with | [_,_,_,_,_,_,_,_],_=>rfl
 | exact fun _ _ _ _ _ _ us hl=>match us,hl with | [_,_,_,_,_,_,_,_,_],_=>rfl
 | exact fun _ _ _ _ _ _ us hl=>match us,hl with | [],_=>rfl)
local macro_rules | `(tactic| walk_at "z")=>`(tactic| first
 | (refine' Pf.RN ?a ?l ?c ?k ?b;(case a=>k_is);(case l=>k_is);(case c=>k_is);(case k=>k_is);(case b=>walk_at "b"))
 | (refine' Pf.RK ?l ?c ?k ?b;(case l=>k_is);(case c=>k_is);(case k=>k_is);(case b=>walk_at "b"))
 | (refine' Pf.RL ?l ?c ?k ?b;(case l=>k_is);(case c=>k_is);(case k=>k_is);(case b=>walk_at "b"))
 | (refine' Pf.RO ?a ?p ?h ?o ?s ?k;(case a=>k_is);(case p=>k_is);(case h=>k_is);(case o=>k_is);(case s=>k_is);(case k=>k_is))
 | (refine' L2.Meth.mk ?a ?i ?k;(case a=>k_is);(case i=>k_is);(case k=>k_is))
 | (refine' L2.Mk.mk ?a ?i ?f ?k;(case a=>k_is);(case i=>k_is);(case f=>k_is);(case k=>k_is))
 | (refine' Sg.QL.mk ?a ?i ?k;(case a=>k_is);(case i=>k_is);(case k=>k_is))
 | k_is | kernel_rfl)
namespace PySem.W.Fast
theorem tw7228481480637604797:True:=⟨⟩
theorem tw9643266186760002503:True:=⟨⟩
theorem tw3951637362306865672:True:=⟨⟩
theorem tw12244655427350885947:True:=⟨⟩
theorem tw12910402052683096725:True:=⟨⟩
theorem tw11733295673038467557:True:=⟨⟩
theorem tw8339004292508504955:True:=⟨⟩
theorem tw8796454895571161387:True:=⟨⟩
theorem tw14276712658345099308:True:=⟨⟩
theorem tw10692457757387366308:True:=⟨⟩
theorem tw12268973438404517934:True:=⟨⟩
theorem tw10731133834196040821:True:=⟨⟩
theorem tw12460619431599993461:True:=⟨⟩
theorem tw3420131163698982635:True:=⟨⟩
theorem tw623692508139905107:True:=⟨⟩
theorem tw3711265416509990698:True:=⟨⟩
theorem tw6083753817847830360:True:=⟨⟩
theorem tw12340437299324672259:True:=⟨⟩
theorem tw14658298582483207188:True:=⟨⟩
theorem tw12248317239078926577:True:=⟨⟩
theorem tw3133658190872762834:True:=⟨⟩
theorem tw13810214791797957576:True:=⟨⟩
theorem tw82467520350434800:True:=⟨⟩
theorem tw16671947526919716683:True:=⟨⟩
theorem tw548749101103347709:True:=⟨⟩
theorem tw16197523913282423651:True:=⟨⟩
theorem tw18040127306960234124:True:=⟨⟩
theorem tw9078905277800954691:True:=⟨⟩
theorem tw12345252128105366379:True:=⟨⟩
theorem tw12849484390755210495:True:=⟨⟩
theorem tw3085373259753970581:True:=⟨⟩
theorem tw937667885208504630:True:=⟨⟩
theorem tw6370844593159789272:True:=⟨⟩
theorem tw11595096688250119828:True:=⟨⟩
theorem tw8468401329939582685:True:=⟨⟩
theorem tw1935837423702594599:True:=⟨⟩
theorem tw10043161317741590963:True:=⟨⟩
theorem tw7385360301275847219:True:=⟨⟩
theorem tw2667542875891744533:True:=⟨⟩
theorem tw6361076921955650933:True:=⟨⟩
theorem tw1272363511548761097:True:=⟨⟩
theorem tw478355381176959432:True:=⟨⟩
theorem tw9050225971291327555:True:=⟨⟩
theorem tw17351021189972313570:True:=⟨⟩
theorem tw15421257618196628031:True:=⟨⟩
theorem tw6535746058231064710:True:=⟨⟩
theorem tw2858557883744474329:True:=⟨⟩
theorem tw17479869194398902887:True:=⟨⟩
theorem tw14218903343671926826:True:=⟨⟩
theorem tw2068147113227390256:True:=⟨⟩
theorem tw3839963573401094202:True:=⟨⟩
theorem tw2291231826769345245:True:=⟨⟩
theorem tw4161698165839413441:True:=⟨⟩
theorem tw13014677737419331328:True:=⟨⟩
theorem tw8033925100086540797:True:=⟨⟩
theorem tw2384234210303516571:True:=⟨⟩
theorem tw12798310180795184684:True:=⟨⟩
theorem tw1700180986380148310:True:=⟨⟩
theorem tw2803535720490511356:True:=⟨⟩
theorem tw749990231610110021:True:=⟨⟩
theorem tw12561360145251259837:True:=⟨⟩
theorem tw12080618829299404902:True:=⟨⟩
theorem tw5458259388702626840:True:=⟨⟩
theorem tw14768776716987385009:True:=⟨⟩
theorem tw10364621493354973790:True:=⟨⟩
theorem tw295921040362295349:True:=⟨⟩
theorem tw4276621485745000637:True:=⟨⟩
theorem tw3341223290661362259:True:=⟨⟩
theorem tw13536345565655627828:True:=⟨⟩
theorem tw4053400635060040303:True:=⟨⟩
theorem tw18102734736295420638:True:=⟨⟩
theorem tw9891556942579122304:True:=⟨⟩
theorem tw12674020746575815836:True:=⟨⟩
theorem tw14691013983205271690:True:=⟨⟩
theorem tw3267287653356562686:True:=⟨⟩
theorem tw6700244856021749454:True:=⟨⟩
theorem tw13948348509497148991:True:=⟨⟩
theorem tw14946002095451626966:True:=⟨⟩
theorem tw17875131110454100814:True:=⟨⟩
theorem tw17336429561270520042:True:=⟨⟩
theorem tw7755284324250699761:True:=⟨⟩
theorem tw16701127409301995945:True:=⟨⟩
theorem tw14622722742470637543:True:=⟨⟩
theorem tw5777449874523910470:True:=⟨⟩
theorem tw13803923817463869913:True:=⟨⟩
theorem tw5469779506684074377:True:=⟨⟩
theorem tw12708426122336558577:True:=⟨⟩
theorem tw12022241034007169401:True:=⟨⟩
theorem tw2387719562476273292:True:=⟨⟩
theorem tw3529455117391613811:True:=⟨⟩
theorem tw770355446139377632:True:=⟨⟩
theorem tw10573866872577915800:True:=⟨⟩
theorem tw2689700386043711641:True:=⟨⟩
theorem tw10983066928077818219:True:=⟨⟩
theorem tw12385372970107254272:True:=⟨⟩
theorem tw9702651149903490774:True:=⟨⟩
theorem tw3656177309213749904:True:=⟨⟩
theorem tw12344594597086750467:True:=⟨⟩
theorem tw14865179673054286292:True:=⟨⟩
theorem tw393610955030547653:True:=⟨⟩
theorem tw1005319293365096994:True:=⟨⟩
theorem tw3033197401501430302:True:=⟨⟩
theorem tw8981416834358867771:True:=⟨⟩
theorem tw3223666521779586434:True:=⟨⟩
theorem tw8984287580907686767:True:=⟨⟩
theorem tw1716350330308367399:True:=⟨⟩
theorem tw16214681620381083995:True:=⟨⟩
theorem tw2277767557931123273:True:=⟨⟩
theorem tw665975720392020802:True:=⟨⟩
theorem tw12910560293280140049:True:=⟨⟩
theorem tw14818448566085555833:True:=⟨⟩
theorem tw5062013999611897782:True:=⟨⟩
theorem tw8972255308437270329:True:=⟨⟩
theorem tw3665324154710015351:True:=⟨⟩
theorem tw12406945753937653981:True:=⟨⟩
theorem tw15724605806845298748:True:=⟨⟩
theorem tw2953172666105896944:True:=⟨⟩
theorem tw9007146551093660957:True:=⟨⟩
theorem tw2464084458928426093:True:=⟨⟩
theorem tw10139082556724060689:True:=⟨⟩
theorem tw16645302359726813702:True:=⟨⟩
theorem tw4119763573062094287:True:=⟨⟩
theorem tw3089454685742504692:True:=⟨⟩
theorem tw13506879303730947254:True:=⟨⟩
theorem tw4984451137977935354:True:=⟨⟩
theorem tw11081691592869617541:True:=⟨⟩
theorem tw2561303680544865627:True:=⟨⟩
theorem tw10438499936526094660:True:=⟨⟩
theorem tw14658191028350270986:True:=⟨⟩
theorem tw18151405665384641975:True:=⟨⟩
theorem tw16081507447509908425:True:=⟨⟩
theorem tw12146496665419817491:True:=⟨⟩
theorem tw9686415174630107162:True:=⟨⟩
theorem tw11584495339804767603:True:=⟨⟩
theorem tw17455886060270677130:True:=⟨⟩
theorem tw6248252096192641674:True:=⟨⟩
theorem tw9064179742483427085:True:=⟨⟩
theorem tw14533858818621206710:True:=⟨⟩
theorem tw7677055323948183261:True:=⟨⟩
theorem tw14649779305638928520:True:=⟨⟩
theorem tw16591418563831184086:True:=⟨⟩
theorem tw3773750457542817406:True:=⟨⟩
theorem tw7264454518141147523:True:=⟨⟩
theorem tw11997247472433890145:True:=⟨⟩
theorem tw382297865631915750:True:=⟨⟩
theorem tw4603406516848527825:True:=⟨⟩
theorem tw12360421528265851385:True:=⟨⟩
theorem tw15922393272365356306:True:=⟨⟩
theorem tw2551853618041922683:True:=⟨⟩
theorem tw2040923829347763435:True:=⟨⟩
theorem tw3435671058841108634:True:=⟨⟩
theorem tw6861490427468797492:True:=⟨⟩
theorem tw12822113194858834341:True:=⟨⟩
theorem tw10538150091951076293:True:=⟨⟩
theorem tw14674780061167366405:True:=⟨⟩
theorem tw8122249222872834536:True:=⟨⟩
theorem tw4252375345947655784:True:=⟨⟩
theorem tw7645547493069478504:True:=⟨⟩
theorem tw1278105974216667032:True:=⟨⟩
theorem tw16317742659167318957:True:=⟨⟩
theorem tw5970610628965777006:True:=⟨⟩
theorem tw9224459123094758486:True:=⟨⟩
theorem tw16394789284084026351:True:=⟨⟩
theorem tw13570279295633449200:True:=⟨⟩
theorem tw601286744851029689:True:=⟨⟩
theorem tw4575231593460167667:True:=⟨⟩
theorem tw3145746137049921100:True:=⟨⟩
theorem tw267616035901262555:True:=⟨⟩
theorem tw11132242943475715057:True:=⟨⟩
theorem tw4360084074518514992:True:=⟨⟩
theorem tw10535037546028288560:True:=⟨⟩
theorem tw14396934993462508627:True:=⟨⟩
theorem tw9200896948215360408:True:=⟨⟩
theorem tw9631961915691610551:True:=⟨⟩
theorem tw11754278010043312039:True:=⟨⟩
theorem tw9144938532118294054:True:=⟨⟩
theorem tw10543616886155524317:True:=⟨⟩
theorem tw977431316436278709:True:=⟨⟩
theorem tw2160641861947202514:True:=⟨⟩
theorem tw4759165162522899448:True:=⟨⟩
theorem tw12914497837335470804:True:=⟨⟩
theorem tw7759690724206637810:True:=⟨⟩
theorem tw877776467143497053:True:=⟨⟩
theorem tw7348746675707296033:True:=⟨⟩
theorem tw16711768612903506061:True:=⟨⟩
theorem tw3128548604347094146:True:=⟨⟩
theorem tw3072545636329291090:True:=⟨⟩
theorem tw10692741384922407236:True:=⟨⟩
theorem tw6997073193529325440:True:=⟨⟩
theorem tw3372648854997500827:True:=⟨⟩
theorem tw1003258925558906077:True:=⟨⟩
theorem tw1533541047653730732:True:=⟨⟩
theorem tw9521716285816994525:True:=⟨⟩
theorem tw9726012224359879003:True:=⟨⟩
theorem tw1001348856132385959:True:=⟨⟩
theorem tw3583311374006310295:True:=⟨⟩
theorem tw11011278915717469262:True:=⟨⟩
theorem tw13468269986788491215:True:=⟨⟩
theorem tw9466183569652001302:True:=⟨⟩
theorem tw778949372602802161:True:=⟨⟩
theorem tw7939026972735767470:True:=⟨⟩
theorem tw612792334331727267:True:=⟨⟩
theorem tw6535830819648260327:True:=⟨⟩
theorem tw16707431222260628724:True:=⟨⟩
theorem tw10187230056222273084:True:=⟨⟩
theorem tw15675569236416956026:True:=⟨⟩
theorem tw8315468291556569135:True:=⟨⟩
theorem tw6122824078852871019:True:=⟨⟩
theorem tw664764817949695052:True:=⟨⟩
theorem tw7684700026808581691:True:=⟨⟩
theorem tw15467219052272643956:True:=⟨⟩
theorem tw12922116247645794468:True:=⟨⟩
theorem tw953011855224093662:True:=⟨⟩
theorem tw642761118357599195:True:=⟨⟩
theorem tw4131798128437943509:True:=⟨⟩
theorem tw15087819290530453628:True:=⟨⟩
theorem tw15496196739598415453:True:=⟨⟩
theorem tw13906640624914101471:True:=⟨⟩
theorem tw137053037141690961:True:=⟨⟩
theorem tw12964352954773873553:True:=⟨⟩
theorem tw15942921011802713536:True:=⟨⟩
theorem tw17016391127166112614:True:=⟨⟩
theorem tw16931476314727393408:True:=⟨⟩
theorem tw15345055550980275951:True:=⟨⟩
theorem tw14908487587185403120:True:=⟨⟩
theorem tw6618068365060176960:True:=⟨⟩
theorem tw5111808663009993606:True:=⟨⟩
theorem tw6941046150621105336:True:=⟨⟩
theorem tw14877403109649415234:True:=⟨⟩
theorem tw278273640413369542:True:=⟨⟩
theorem tw5199927024896328445:True:=⟨⟩
theorem tw18197216280746470043:True:=⟨⟩
theorem tw16885003396317729549:True:=⟨⟩
theorem tw6643249123218387272:True:=⟨⟩
theorem tw7162024889274057691:True:=⟨⟩
theorem tw9104912442634332771:True:=⟨⟩
theorem tw16254137996084436761:True:=⟨⟩
theorem tw3302169284732540390:True:=⟨⟩
theorem tw2290035046390811745:True:=⟨⟩
theorem tw8154199843828152089:True:=⟨⟩
theorem tw16336407101508803766:True:=⟨⟩
theorem tw4662623475482488970:True:=⟨⟩
theorem tw3204409664809670157:True:=⟨⟩
theorem tw13994278053583282981:True:=⟨⟩
theorem tw18348859857519350088:True:=⟨⟩
theorem tw4479495940810661032:True:=⟨⟩
theorem tw188706719534614855:True:=⟨⟩
theorem tw16682972901223694425:True:=⟨⟩
theorem tw7958088686093215712:True:=⟨⟩
theorem tw5369279212583076788:True:=⟨⟩
theorem tw10797292778818581077:True:=⟨⟩
theorem tw5562318747703990407:True:=⟨⟩
theorem tw2188606836129023447:True:=⟨⟩
theorem tw627049107300518045:True:=⟨⟩
theorem tw14998502976573875525:True:=⟨⟩
theorem tw11759296040134201338:True:=⟨⟩
theorem tw6529074670608761287:True:=⟨⟩
theorem tw12510361598869704271:True:=⟨⟩
theorem tw8883601231265878047:True:=⟨⟩
theorem tw10531170090471871144:True:=⟨⟩
theorem tw13530681686553221418:True:=⟨⟩
theorem tw15076619518685204232:True:=⟨⟩
theorem tw13337150444471226174:True:=⟨⟩
theorem tw11912693905416795390:True:=⟨⟩
theorem tw10187106185553788161:True:=⟨⟩
theorem tw16826831237179300892:True:=⟨⟩
theorem tw6549865763268417340:True:=⟨⟩
theorem tw12464701347938542823:True:=⟨⟩
theorem tw12145703715352375714:True:=⟨⟩
theorem tw4041510747665196098:True:=⟨⟩
theorem tw11653392131959317924:True:=⟨⟩
theorem tw11260341987803374125:True:=⟨⟩
theorem tw1066730056132552399:True:=⟨⟩
theorem tw17057965500796972047:True:=⟨⟩
theorem tw15905374701351174368:True:=⟨⟩
theorem tw17795623932417767957:True:=⟨⟩
theorem tw7727513584519835325:True:=⟨⟩
theorem tw14255122518361297593:True:=⟨⟩
theorem tw7200571956105434023:True:=⟨⟩
theorem tw597316150324278641:True:=⟨⟩
theorem tw8149606939855620195:True:=⟨⟩
theorem tw5072385757334164228:True:=⟨⟩
theorem tw5890729835252708032:True:=⟨⟩
theorem tw6246981181438671366:True:=⟨⟩
theorem tw1762682628924658818:True:=⟨⟩
theorem tw7702988976197763452:True:=⟨⟩
theorem tw15366456802124277969:True:=⟨⟩
theorem tw1019061748674443355:True:=⟨⟩
theorem tw2979012284543603161:True:=⟨⟩
theorem tw17804271336023754649:True:=⟨⟩
theorem tw14771942274844693612:True:=⟨⟩
theorem tw9228795764607762088:True:=⟨⟩
theorem tw4511584190766875983:True:=⟨⟩
theorem tw2404822342145971999:True:=⟨⟩
theorem tw3302820352913286316:True:=⟨⟩
theorem tw397879413593124285:True:=⟨⟩
theorem tw609956585114277804:True:=⟨⟩
theorem tw9044127725353573610:True:=⟨⟩
theorem tw16011526057715031419:True:=⟨⟩
theorem tw18091385437317249845:True:=⟨⟩
theorem tw5356698601013845000:True:=⟨⟩
theorem tw16973653956130702582:True:=⟨⟩
theorem tw5405397741414279972:True:=⟨⟩
theorem tw3928058167980612795:True:=⟨⟩
theorem tw15727845299420829899:True:=⟨⟩
theorem tw5216504390607997623:True:=⟨⟩
theorem tw6553493987710681053:True:=⟨⟩
theorem tw568656330859300904:True:=⟨⟩
theorem tw8526436951777243247:True:=⟨⟩
theorem tw4459172598131083299:True:=⟨⟩
theorem tw15395179727376948043:True:=⟨⟩
theorem tw11196541342933017156:True:=⟨⟩
theorem tw14579503527063205158:True:=⟨⟩
theorem tw11964734986690859747:True:=⟨⟩
theorem tw3488559296480927536:True:=⟨⟩
theorem tw11618660109928429560:True:=⟨⟩
theorem tw2438599777395283196:True:=⟨⟩
theorem tw17100715069605139005:True:=⟨⟩
theorem tw1837283135093729718:True:=⟨⟩
theorem tw388088716097820718:True:=⟨⟩
theorem tw16649130762365344290:True:=⟨⟩
theorem tw11356868028873317969:True:=⟨⟩
theorem tw6999076901429974381:True:=⟨⟩
theorem tw10765263255604281092:True:=⟨⟩
theorem tw12839946727802735985:True:=⟨⟩
theorem tw176252012143133277:True:=⟨⟩
theorem tw6856046171226817552:True:=⟨⟩
theorem tw8411320965635041285:True:=⟨⟩
theorem tw2142436103971114945:True:=⟨⟩
theorem tw1911506241760426269:True:=⟨⟩
theorem tw6203869916202832975:True:=⟨⟩
theorem tw17512059093204348426:True:=⟨⟩
theorem tw15485876308951781996:True:=⟨⟩
theorem tw15836330044835871869:True:=⟨⟩
theorem tw9064346441302056403:True:=⟨⟩
theorem tw1703300646687702066:True:=⟨⟩
theorem tw16561425484827871850:True:=⟨⟩
theorem tw16650615734872909092:True:=⟨⟩
theorem tw16741227223084173005:True:=⟨⟩
theorem tw17415484131553501945:True:=⟨⟩
theorem tw14812393254113663066:True:=⟨⟩
theorem tw5179562621523397915:True:=⟨⟩
theorem tw13067865584039890656:True:=⟨⟩
theorem tw14048816738574647288:True:=⟨⟩
theorem tw10900855554741209061:True:=⟨⟩
theorem tw4032044687857209487:True:=⟨⟩
theorem tw1476662055909417890:True:=⟨⟩
theorem tw16766422851080632689:True:=⟨⟩
theorem tw4670191161362096492:True:=⟨⟩
theorem tw1094241012063208704:True:=⟨⟩
theorem tw2025842451083514329:True:=⟨⟩
theorem tw6978494456612603470:True:=⟨⟩
theorem tw3088479429023275819:True:=⟨⟩
theorem tw4722269201700533134:True:=⟨⟩
theorem tw16067949035931154870:True:=⟨⟩
theorem tw17994643644941764863:True:=⟨⟩
theorem tw3682207134137809095:True:=⟨⟩
theorem tw12368432679962637914:True:=⟨⟩
theorem tw14245679313396481256:True:=⟨⟩
theorem tw6513274324098991062:True:=⟨⟩
theorem tw17834390797145443763:True:=⟨⟩
theorem tw10418679252601477472:True:=⟨⟩
theorem tw3252759097212607962:True:=⟨⟩
theorem tw16615390358369698093:True:=⟨⟩
theorem tw3929900732112988943:True:=⟨⟩
theorem tw17631133424750718632:True:=⟨⟩
theorem tw3726805882698557080:True:=⟨⟩
theorem tw7510823821568014831:True:=⟨⟩
theorem tw6532737940944743195:True:=⟨⟩
theorem tw4952007902662709507:True:=⟨⟩
theorem tw10996325600168009452:True:=⟨⟩
theorem tw1592109524711139798:True:=⟨⟩
theorem tw17123057309018127951:True:=⟨⟩
theorem tw390374574756737646:True:=⟨⟩
theorem tw16926324009773971987:True:=⟨⟩
theorem tw6407668983051857646:True:=⟨⟩
theorem tw17655962041734768642:True:=⟨⟩
theorem tw10357573273702678125:True:=⟨⟩
theorem tw4280148046963534085:True:=⟨⟩
theorem tw8097990223208324114:True:=⟨⟩
theorem tw7488988709105854499:True:=⟨⟩
theorem tw1992406747931663361:True:=⟨⟩
theorem tw9940237807985722164:True:=⟨⟩
theorem tw6290115131161525441:True:=⟨⟩
theorem tw18340991131593206895:True:=⟨⟩
theorem tw11546442184268519085:True:=⟨⟩
theorem tw12175242057732478876:True:=⟨⟩
theorem tw348781686884308411:True:=⟨⟩
theorem tw11378991180895434661:True:=⟨⟩
theorem tw12813410562920625257:True:=⟨⟩
theorem tw6040866551672030754:True:=⟨⟩
theorem tw17829999833086721236:True:=⟨⟩
theorem tw3574792901401584632:True:=⟨⟩
theorem tw13103325228069498973:True:=⟨⟩
theorem tw12693275681112771564:True:=⟨⟩
theorem tw14283659467830221158:True:=⟨⟩
theorem tw10912845085727209477:True:=⟨⟩
theorem tw15462021508601744982:True:=⟨⟩
theorem tw1327534956195805160:True:=⟨⟩
theorem tw6404284284980957610:True:=⟨⟩
theorem tw1156587578428984372:True:=⟨⟩
theorem tw16133822039151032411:True:=⟨⟩
theorem tw13668464785801710154:True:=⟨⟩
theorem tw8632197630933434486:True:=⟨⟩
theorem tw13772504074663865817:True:=⟨⟩
theorem tw1746031713355837310:True:=⟨⟩
theorem tw512479514899730825:True:=⟨⟩
theorem tw10429555838848067316:True:=⟨⟩
theorem tw5191512251887004656:True:=⟨⟩
theorem tw8938226409289926520:True:=⟨⟩
theorem tw15352015921239653071:True:=⟨⟩
theorem tw13702548735985762408:True:=⟨⟩
theorem tw7590767288738808298:True:=⟨⟩
theorem tw7747061100918438025:True:=⟨⟩
theorem tw15155157592598203033:True:=⟨⟩
theorem tw16620160847420159861:True:=⟨⟩
theorem tw22538477701179775:True:=⟨⟩
theorem tw3946193473664028172:True:=⟨⟩
theorem tw7517622887166279517:True:=⟨⟩
theorem tw16514863643906802866:True:=⟨⟩
theorem tw6070036359818348056:True:=⟨⟩
theorem tw2108827795644304546:True:=⟨⟩
theorem tw2761919629578808458:True:=⟨⟩
theorem tw10337286214063191762:True:=⟨⟩
theorem tw6366029408239882246:True:=⟨⟩
theorem tw6854264138936118325:True:=⟨⟩
theorem tw13560309965196246937:True:=⟨⟩
theorem tw7661131617623355461:True:=⟨⟩
theorem tw14066159727659893827:True:=⟨⟩
theorem tw2344977803491954731:True:=⟨⟩
theorem tw15270409048503878934:True:=⟨⟩
theorem tw14037852325160743184:True:=⟨⟩
theorem tw10185835298608335217:True:=⟨⟩
theorem tw17288151597788629235:True:=⟨⟩
theorem tw17949058737474757119:True:=⟨⟩
theorem tw7174434908505464577:True:=⟨⟩
theorem tw16125693281414358105:True:=⟨⟩
theorem tw3526975136728698928:True:=⟨⟩
theorem tw16039840508828576943:True:=⟨⟩
theorem tw17473194813959342500:True:=⟨⟩
theorem tw9768242707993088584:True:=⟨⟩
theorem tw12610381074346803962:True:=⟨⟩
theorem tw9351444585206621862:True:=⟨⟩
theorem tw537439709137457250:True:=⟨⟩
theorem tw11367484366419384371:True:=⟨⟩
theorem tw11510424020381279013:True:=⟨⟩
theorem tw10715878764039172485:True:=⟨⟩
theorem tw695206093797751145:True:=⟨⟩
theorem tw12652863105384344267:True:=⟨⟩
theorem tw8695408804350078239:True:=⟨⟩
theorem tw17858389252480095810:True:=⟨⟩
theorem tw17818463725725346556:True:=⟨⟩
theorem tw13043714885248594492:True:=⟨⟩
theorem tw11954885251392915253:True:=⟨⟩
theorem tw1898535006611486268:True:=⟨⟩
theorem tw18054736951455586597:True:=⟨⟩
theorem tw13385045326060627922:True:=⟨⟩
theorem tw15619072881078391116:True:=⟨⟩
theorem tw14156829276231970584:True:=⟨⟩
theorem tw17313272851237693857:True:=⟨⟩
theorem tw14852429264942302965:True:=⟨⟩
theorem tw2271196471750244451:True:=⟨⟩
theorem tw4401638250495127537:True:=⟨⟩
theorem tw14307230574182231211:True:=⟨⟩
theorem tw3392267746042350429:True:=⟨⟩
theorem tw12878742096214680259:True:=⟨⟩
theorem tw9279259267286843806:True:=⟨⟩
theorem tw9601107851618684550:True:=⟨⟩
theorem tw14384513180897495292:True:=⟨⟩
theorem tw163448311458343267:True:=⟨⟩
theorem tw10398296343850752399:True:=⟨⟩
theorem tw436393879782165267:True:=⟨⟩
theorem tw3806245240590072795:True:=⟨⟩
theorem tw5136542474851127282:True:=⟨⟩
theorem tw10314085641902337883:True:=⟨⟩
theorem tw18200067824960275686:True:=⟨⟩
theorem tw7951258853443842678:True:=⟨⟩
theorem tw11901865539484132768:True:=⟨⟩
theorem tw17801140999204994122:True:=⟨⟩
theorem tw6528453951914318927:True:=⟨⟩
theorem tw2030693817243246848:True:=⟨⟩
theorem tw16186572860384627209:True:=⟨⟩
theorem tw15548278701676878160:True:=⟨⟩
theorem tw10208790411219140291:True:=⟨⟩
theorem tw3917913106866387192:True:=⟨⟩
theorem tw14103590877283758572:True:=⟨⟩
theorem tw3261157277432091552:True:=⟨⟩
theorem tw6665573861627203368:True:=⟨⟩
theorem tw123242968215811740:True:=⟨⟩
theorem tw12912805263843265415:True:=⟨⟩
theorem tw14389544293022672683:True:=⟨⟩
theorem tw12706395478332018077:True:=⟨⟩
theorem tw10294653355902200764:True:=⟨⟩
theorem tw12961381475446435502:True:=⟨⟩
theorem tw16224832371854772270:True:=⟨⟩
theorem tw5669442791815828314:True:=⟨⟩
theorem tw3735100616238303591:True:=⟨⟩
theorem tw6438606935725497215:True:=⟨⟩
theorem tw8394631744210401739:True:=⟨⟩
theorem tw3235069315098379684:True:=⟨⟩
theorem tw1246476067306882817:True:=⟨⟩
theorem tw9751280617186298906:True:=⟨⟩
theorem tw3074081708507179267:True:=⟨⟩
theorem tw6087357068184674006:True:=⟨⟩
theorem tw13571499131681102938:True:=⟨⟩
theorem tw13070951932035892755:True:=⟨⟩
theorem tw17162639435374358983:True:=⟨⟩
theorem tw9857742388602252789:True:=⟨⟩
theorem tw9033793847098661826:True:=⟨⟩
theorem tw4755135647665532346:True:=⟨⟩
theorem tw6719969773502008017:True:=⟨⟩
theorem tw4497153898725458828:True:=⟨⟩
theorem tw4818862737958767232:True:=⟨⟩
theorem tw15380633505588999659:True:=⟨⟩
theorem tw11471131307469326375:True:=⟨⟩
theorem tw11003885401063232250:True:=⟨⟩
theorem tw6687620965227825054:True:=⟨⟩
theorem tw1245876812551073549:True:=⟨⟩
theorem tw4526822609585294627:True:=⟨⟩
theorem tw523127098674976200:True:=⟨⟩
theorem tw17654428351931866887:True:=⟨⟩
theorem tw10860316385967859596:True:=⟨⟩
theorem tw3049895702005984561:True:=⟨⟩
theorem tw4695066999827567659:True:=⟨⟩
theorem tw14819992165608283755:True:=⟨⟩
theorem tw4740023826906040436:True:=⟨⟩
theorem tw6843434983405979659:True:=⟨⟩
theorem tw3196230374894751045:True:=⟨⟩
theorem tw667942600903420672:True:=⟨⟩
theorem tw12597708789944471299:True:=⟨⟩
theorem tw9874460099254898275:True:=⟨⟩
theorem tw8314031799280354092:True:=⟨⟩
theorem tw6667101932727966829:True:=⟨⟩
theorem tw14022873202661531246:True:=⟨⟩
theorem tw12746983814197082232:True:=⟨⟩
theorem tw9576519451192574276:True:=⟨⟩
theorem tw4888506237478819187:True:=⟨⟩
theorem tw1433191774287231911:True:=⟨⟩
theorem tw11871274834225343650:True:=⟨⟩
theorem tw17565691341360732261:True:=⟨⟩
theorem tw11386114138860071239:True:=⟨⟩
theorem tw1635031756121637787:True:=⟨⟩
theorem tw7731877461732797768:True:=⟨⟩
theorem tw7675417813389197860:True:=⟨⟩
theorem tw11515513319214560730:True:=⟨⟩
theorem tw11903263762516724399:True:=⟨⟩
theorem tw34781661956862299:True:=⟨⟩
theorem tw17840360644103849211:True:=⟨⟩
theorem tw7686531901231966377:True:=⟨⟩
theorem tw419355686684749654:True:=⟨⟩
theorem tw17675654653675292086:True:=⟨⟩
theorem tw6293737770030845906:True:=⟨⟩
theorem tw15190795451571859483:True:=⟨⟩
theorem tw8826868448606603641:True:=⟨⟩
theorem tw4730226885585971950:True:=⟨⟩
theorem tw10574470904167255196:True:=⟨⟩
theorem tw5869435136479145855:True:=⟨⟩
theorem tw16389535907773189800:True:=⟨⟩
theorem tw10260703174515765964:True:=⟨⟩
theorem tw18258324083805751108:True:=⟨⟩
theorem tw15457306850091410369:True:=⟨⟩
theorem tw10681234550984924124:True:=⟨⟩
theorem tw13596068902930615658:True:=⟨⟩
theorem tw8913970055980025015:True:=⟨⟩
theorem tw16195038079853069570:True:=⟨⟩
theorem tw5655837920127874912:True:=⟨⟩
theorem tw11771485101797172631:True:=⟨⟩
theorem tw9638401598730770070:True:=⟨⟩
theorem tw791088681535998260:True:=⟨⟩
theorem tw3156941236129563970:True:=⟨⟩
theorem tw16871640218187524467:True:=⟨⟩
theorem tw15816282296266817071:True:=⟨⟩
theorem tw4758266388985929605:True:=⟨⟩
theorem tw9578841332952748902:True:=⟨⟩
theorem tw14200764652955120322:True:=⟨⟩
theorem tw13401864464315190606:True:=⟨⟩
theorem tw10605256394592009973:True:=⟨⟩
theorem tw6251385296121375729:True:=⟨⟩
theorem tw9419005588317082245:True:=⟨⟩
theorem tw15447652241333987831:True:=⟨⟩
theorem tw12824239674057086993:True:=⟨⟩
theorem tw12522965574672189153:True:=⟨⟩
theorem tw4749321991428607894:True:=⟨⟩
theorem tw17073619828496038715:True:=⟨⟩
theorem tw15917526214300040840:True:=⟨⟩
theorem tw10636810194417084632:True:=⟨⟩
theorem tw5306090744319905636:True:=⟨⟩
theorem tw17301158675432884161:True:=⟨⟩
theorem tw17720199950143774416:True:=⟨⟩
theorem tw4592712358213067609:True:=⟨⟩
theorem tw13251490183702797960:True:=⟨⟩
theorem tw11267271824024408369:True:=⟨⟩
theorem tw14929239769404911631:True:=⟨⟩
theorem tw14311086026096231941:True:=⟨⟩
theorem tw7890462399463634652:True:=⟨⟩
theorem tw12963660308623244785:True:=⟨⟩
theorem tw12724417309738926437:True:=⟨⟩
theorem tw11957815294909548397:True:=⟨⟩
theorem tw10289776800496316744:True:=⟨⟩
theorem tw8833511699547225198:True:=⟨⟩
theorem tw6451345686731158890:True:=⟨⟩
theorem tw4470399688497573111:True:=⟨⟩
theorem tw2418943345849885480:True:=⟨⟩
theorem tw11189461241007055206:True:=⟨⟩
theorem tw14871342629400976736:True:=⟨⟩
theorem tw13980314409077191019:True:=⟨⟩
theorem tw12602555240794362520:True:=⟨⟩
theorem tw12257658254429180710:True:=⟨⟩
theorem tw12773381939364271437:True:=⟨⟩
theorem tw12944611603205797133:True:=⟨⟩
theorem tw11360129775619598075:True:=⟨⟩
theorem tw805076149033325751:True:=⟨⟩
theorem tw10616554420370840222:True:=⟨⟩
theorem tw8596456963126587078:True:=⟨⟩
theorem tw4832684049329563627:True:=⟨⟩
theorem tw4717475621005318024:True:=⟨⟩
theorem tw7514350133271499848:True:=⟨⟩
theorem tw9613072800167955371:True:=⟨⟩
theorem tw8907403856491856979:True:=⟨⟩
theorem tw17686661311701082741:True:=⟨⟩
theorem tw10667756915629137581:True:=⟨⟩
theorem tw17879921626728527768:True:=⟨⟩
theorem tw11998161703809770396:True:=⟨⟩
theorem tw2429165904348009466:True:=⟨⟩
theorem tw9254663975392625150:True:=⟨⟩
theorem tw5354464195796258896:True:=⟨⟩
theorem tw10121643435453610973:True:=⟨⟩
theorem tw15768060336096332893:True:=⟨⟩
theorem tw14729846550844617269:True:=⟨⟩
theorem tw17305856742702847076:True:=⟨⟩
theorem tw8984465869455246198:True:=⟨⟩
theorem tw6648138298266609525:True:=⟨⟩
theorem tw5077571304699216766:True:=⟨⟩
theorem tw14934780760383506463:True:=⟨⟩
theorem tw16413523384200231069:True:=⟨⟩
theorem tw12629032124451228856:True:=⟨⟩
theorem tw15796420478822210830:True:=⟨⟩
theorem tw15474708998259584788:True:=⟨⟩
theorem tw14310667773865996477:True:=⟨⟩
theorem tw14422354624155267153:True:=⟨⟩
theorem tw6998507824645053688:True:=⟨⟩
theorem tw1396919156095643821:True:=⟨⟩
theorem tw14887684509938063082:True:=⟨⟩
theorem tw2512659056328687208:True:=⟨⟩
theorem tw8520339081566968584:True:=⟨⟩
theorem tw13949095145670916832:True:=⟨⟩
theorem tw12509039745544037629:True:=⟨⟩
theorem tw2055350308667829406:True:=⟨⟩
theorem tw1933030712206727755:True:=⟨⟩
theorem tw13568590328244318183:True:=⟨⟩
theorem tw11222098355991672955:True:=⟨⟩
theorem tw17644963968039603740:True:=⟨⟩
theorem tw9042186811108009671:True:=⟨⟩
theorem tw16012905746646013393:True:=⟨⟩
theorem tw15783066969601932792:True:=⟨⟩
theorem tw18090383474041223057:True:=⟨⟩
theorem tw3689339949535185474:True:=⟨⟩
theorem tw1709097655418164098:True:=⟨⟩
theorem tw8928140854278299933:True:=⟨⟩
theorem tw7530135118007888988:True:=⟨⟩
theorem tw2203840828146234319:True:=⟨⟩
theorem tw6586427850872569168:True:=⟨⟩
theorem tw16366271290603286203:True:=⟨⟩
theorem tw7445337713352698040:True:=⟨⟩
theorem tw1060346890217079375:True:=⟨⟩
theorem tw2273433842284473612:True:=⟨⟩
theorem tw14378439025595003271:True:=⟨⟩
theorem tw6854055110123935510:True:=⟨⟩
theorem tw12591951713271996476:True:=⟨⟩
theorem tw6090235988290450668:True:=⟨⟩
theorem tw14361534046670082189:True:=⟨⟩
theorem tw16795410144582977840:True:=⟨⟩
theorem tw17244563395506175874:True:=⟨⟩
theorem tw18028691312958184247:True:=⟨⟩
theorem tw7577856087828490798:True:=⟨⟩
theorem tw9506254268050180492:True:=⟨⟩
theorem tw4471737856644019780:True:=⟨⟩
theorem tw3572989568418475792:True:=⟨⟩
theorem tw17673041134002524174:True:=⟨⟩
theorem tw9211186601753764786:True:=⟨⟩
theorem tw4353262069222681320:True:=⟨⟩
theorem tw10493791049689786674:True:=⟨⟩
theorem tw11577121944376982233:True:=⟨⟩
theorem tw11639144241101294788:True:=⟨⟩
theorem tw10994564138513095410:True:=⟨⟩
theorem tw12406854118471884938:True:=⟨⟩
theorem tw10108605213481467239:True:=⟨⟩
theorem tw1067059044713336110:True:=⟨⟩
theorem tw10664282854848840744:True:=⟨⟩
theorem tw2160162342130536718:True:=⟨⟩
theorem tw16467900040130566993:True:=⟨⟩
theorem tw16097410440376052352:True:=⟨⟩
theorem tw4857816299281493861:True:=⟨⟩
theorem tw7482721009255611675:True:=⟨⟩
theorem tw15489345972024030779:True:=⟨⟩
theorem tw15477689381928906338:True:=⟨⟩
theorem tw5203069649560867712:True:=⟨⟩
theorem tw1215942917431544148:True:=⟨⟩
theorem tw9419621628018177514:True:=⟨⟩
theorem tw1323389016952936791:True:=⟨⟩
theorem tw3133433108878101232:True:=⟨⟩
theorem tw3727541245910343586:True:=⟨⟩
theorem tw14204588373988795854:True:=⟨⟩
theorem tw1935634003023423703:True:=⟨⟩
theorem tw9987062852557173897:True:=⟨⟩
theorem tw9799149137373367385:True:=⟨⟩
theorem tw14964479069876614627:True:=⟨⟩
theorem tw15728183410869176246:True:=⟨⟩
theorem tw7127453386438139467:True:=⟨⟩
theorem tw9057446135800891649:True:=⟨⟩
theorem tw5873505839945440345:True:=⟨⟩
theorem tw17002739123886354237:True:=⟨⟩
theorem tw14710322996690828143:True:=⟨⟩
theorem tw7912912789187007799:True:=⟨⟩
theorem tw10338366987057815972:True:=⟨⟩
theorem tw4797889128194302158:True:=⟨⟩
theorem tw1080084088268714307:True:=⟨⟩
theorem tw11582773452636560777:True:=⟨⟩
theorem tw5156053760560910165:True:=⟨⟩
theorem tw6717320911230154647:True:=⟨⟩
theorem tw1137399642516405265:True:=⟨⟩
theorem tw1409696627176737435:True:=⟨⟩
theorem tw12657823197248999805:True:=⟨⟩
theorem tw12066571055151866631:True:=⟨⟩
theorem tw4856785601650862444:True:=⟨⟩
theorem tw8235535576525276554:True:=⟨⟩
theorem tw5934450118632241957:True:=⟨⟩
theorem tw2475217209528096982:True:=⟨⟩
theorem tw2548270137455131631:True:=⟨⟩
theorem tw12239774361027930014:True:=⟨⟩
theorem tw2735304721435822131:True:=⟨⟩
theorem tw2740268698716152089:True:=⟨⟩
theorem tw6395056409539581745:True:=⟨⟩
theorem tw3347460093497973299:True:=⟨⟩
theorem tw17654350555791332808:True:=⟨⟩
theorem tw12986017143023517155:True:=⟨⟩
theorem tw6441365351092373752:True:=⟨⟩
theorem tw16576109836590790684:True:=⟨⟩
theorem tw11288543533975400559:True:=⟨⟩
theorem tw4627779765970311589:True:=⟨⟩
theorem tw1453250313173421103:True:=⟨⟩
theorem tw16728603882501707767:True:=⟨⟩
theorem tw16038405735336112077:True:=⟨⟩
theorem tw10151542549343025215:True:=⟨⟩
theorem tw18028430060275136871:True:=⟨⟩
theorem tw8428890950904980009:True:=⟨⟩
theorem tw15963384846382493800:True:=⟨⟩
theorem tw17431248377752969790:True:=⟨⟩
theorem tw10507057728043087325:True:=⟨⟩
theorem tw12753747803325503499:True:=⟨⟩
theorem tw4337770878444046105:True:=⟨⟩
theorem tw3112511109512213266:True:=⟨⟩
theorem tw8515130753246819548:True:=⟨⟩
theorem tw15329176639133275623:True:=⟨⟩
theorem tw243651793271145234:True:=⟨⟩
theorem tw11094761247212074648:True:=⟨⟩
theorem tw11044677228248442346:True:=⟨⟩
theorem tw3680487812848405245:True:=⟨⟩
theorem tw12689642737051240736:True:=⟨⟩
theorem tw14819098641011580913:True:=⟨⟩
theorem tw12414217721767803733:True:=⟨⟩
theorem tw13539400767683973483:True:=⟨⟩
theorem tw17312289824961225250:True:=⟨⟩
theorem tw12633036545071070776:True:=⟨⟩
theorem tw383652227072128329:True:=⟨⟩
theorem tw15257799835607120363:True:=⟨⟩
theorem tw16000591352126505078:True:=⟨⟩
theorem tw12788556731987528307:True:=⟨⟩
theorem tw8067924155570356382:True:=⟨⟩
theorem tw10909527412704703784:True:=⟨⟩
theorem tw6386936364046994180:True:=⟨⟩
theorem tw18073485807969459756:True:=⟨⟩
theorem tw13152020367542557999:True:=⟨⟩
theorem tw1119132213663218660:True:=⟨⟩
theorem tw8815321962639874183:True:=⟨⟩
theorem tw13217170957539006146:True:=⟨⟩
theorem tw16917340118650714042:True:=⟨⟩
theorem tw365089007594666706:True:=⟨⟩
theorem tw17209743966287733543:True:=⟨⟩
theorem tw4576239633688465327:True:=⟨⟩
theorem tw12064140476023122699:True:=⟨⟩
theorem tw10882138134981511155:True:=⟨⟩
theorem tw13524733122862561913:True:=⟨⟩
theorem tw3263447055010748545:True:=⟨⟩
theorem tw10497926853345102966:True:=⟨⟩
theorem tw17698485135449073762:True:=⟨⟩
theorem tw4622938223749119231:True:=⟨⟩
theorem tw11255041885192239613:True:=⟨⟩
theorem tw4204851697006944740:True:=⟨⟩
theorem tw17844605868888010426:True:=⟨⟩
theorem tw8452976861961869357:True:=⟨⟩
theorem tw15662629615022325242:True:=⟨⟩
theorem tw9637719680370972840:True:=⟨⟩
theorem tw8183182032979003511:True:=⟨⟩
theorem tw606115547267479030:True:=⟨⟩
theorem tw16703042732923436594:True:=⟨⟩
theorem tw18238921554498500445:True:=⟨⟩
theorem tw17303883255603667298:True:=⟨⟩
theorem tw14174823129220545355:True:=⟨⟩
theorem tw1122269054893032276:True:=⟨⟩
theorem tw1031520953657874905:True:=⟨⟩
theorem tw1840245312505265791:True:=⟨⟩
theorem tw6664442405615505283:True:=⟨⟩
theorem tw8932671912910335363:True:=⟨⟩
theorem tw6104756500194396602:True:=⟨⟩
theorem tw7150512268320400853:True:=⟨⟩
theorem tw10974582343624469384:True:=⟨⟩
theorem tw4959039047592723386:True:=⟨⟩
theorem tw15386106914530120186:True:=⟨⟩
theorem tw9925224319206688572:True:=⟨⟩
theorem tw14125612067091923437:True:=⟨⟩
theorem tw10693868402538108136:True:=⟨⟩
theorem tw7282560409962957418:True:=⟨⟩
theorem tw2807237706809507310:True:=⟨⟩
theorem tw5442605860694575184:True:=⟨⟩
theorem tw11114479712728408006:True:=⟨⟩
theorem tw7736670840773472223:True:=⟨⟩
theorem tw11976640840566547478:True:=⟨⟩
theorem tw7574267688068411587:True:=⟨⟩
theorem tw13019583013471285112:True:=⟨⟩
theorem tw5862059779456031988:True:=⟨⟩
theorem tw5377377849786823945:True:=⟨⟩
theorem tw1041671378962250136:True:=⟨⟩
theorem tw11263199037518964077:True:=⟨⟩
theorem tw15518938707856436568:True:=⟨⟩
theorem tw6956795248212282821:True:=⟨⟩
theorem tw5461382811799864262:True:=⟨⟩
theorem tw12552831217363897539:True:=⟨⟩
theorem tw8794184286773727320:True:=⟨⟩
theorem tw8548445597369636925:True:=⟨⟩
theorem tw7696958162837612567:True:=⟨⟩
theorem tw373915704445544588:True:=⟨⟩
theorem tw12144467160201177008:True:=⟨⟩
theorem tw8820865441319145919:True:=⟨⟩
theorem tw6248903109865444781:True:=⟨⟩
theorem tw15990877363000182404:True:=⟨⟩
theorem tw2595430432163902999:True:=⟨⟩
theorem tw3948567695478935744:True:=⟨⟩
theorem tw14911194517475826091:True:=⟨⟩
theorem tw14814059097779130330:True:=⟨⟩
theorem tw276555951012195453:True:=⟨⟩
theorem tw3107616720515347004:True:=⟨⟩
theorem tw5183239066894097741:True:=⟨⟩
theorem tw10124515324471164802:True:=⟨⟩
theorem tw8718185908282151933:True:=⟨⟩
theorem tw17650199558095487539:True:=⟨⟩
theorem tw5521681267151292927:True:=⟨⟩
theorem tw8086446333870794480:True:=⟨⟩
theorem tw2749444251968188542:True:=⟨⟩
theorem tw3819301894015555533:True:=⟨⟩
theorem tw16244091577368541466:True:=⟨⟩
theorem tw18240615574025236073:True:=⟨⟩
theorem tw13116996113366239131:True:=⟨⟩
theorem tw13103388802679352605:True:=⟨⟩
theorem tw9084908090135032124:True:=⟨⟩
theorem tw7287680919367592270:True:=⟨⟩
theorem tw6289240178364580977:True:=⟨⟩
theorem tw4409427859331328209:True:=⟨⟩
theorem tw13725003071073469525:True:=⟨⟩
theorem tw2487812631168954270:True:=⟨⟩
theorem tw18084184045721517579:True:=⟨⟩
theorem tw16354946998207262261:True:=⟨⟩
theorem tw5255391457423996370:True:=⟨⟩
theorem tw2508318954567756792:True:=⟨⟩
theorem tw10793912617243845412:True:=⟨⟩
theorem tw12867353199144461745:True:=⟨⟩
theorem tw5228839748131153828:True:=⟨⟩
theorem tw6157307801328805589:True:=⟨⟩
theorem tw15177996097826787253:True:=⟨⟩
theorem tw1642420525689939079:True:=⟨⟩
theorem tw16811421738439988539:True:=⟨⟩
theorem tw16823511095522958006:True:=⟨⟩
theorem tw1940924618612648092:True:=⟨⟩
end PySem.W.Fast
open PySem PySem.W PyProof.Rows
set_option maxRecDepth 100000 in
set_option maxHeartbeats 0 in
theorem PySem.Challenge.cw_strokegrow_k54_pen_at_holds : PySem.Challenge.rw_strokegrow_k54_pen_at.Holds := by
 w_on;o_law;k_head;(case hw=>w_witness2)
 k_fill
 refine L2.Ic (l:=PySem.Challenge.rw_strokegrow_k54_pen_at) (n:=63) (k:=12) (x:="_law_script") (CX:=Pf.CX) (sp:=fun K=>Pf.KL K) rfl (by decide) rfl ⟨rfl,by decide,by decide⟩ (fun w h Y=>PySem.W.kIn_of Y) ?F ?S ?C
 case F=>
   intro w mg fa h KX G UH
   have T:∃ t,Pf.Txt (L2.KOf KX) mg t∧t.rK=fa:=by
     dsimp only [L2.KOf]
     obtain⟨t,T,e⟩:∃ t,Pf.Txt _ mg t∧t.rK=_:=by
       refine' Pf.RV KX G ?_ ?_ ?_ ?_ ?_ ?_ ?_ ?_ ?_ ?_ ?_ ?_ ?_ ?_ ?_ ?_ ?_ ?_ ?_ ?_ ?_ ?_ ?_ ?_ ?_ ?_ ?_ ?_ ?_ ?_ ?_ ?_ ?_ ?_ ?_ ?_ ?_ ?_ ?_ ?_ ?_ ?_ ?_ ?_ ?_ ?_ ?_ ?_ ?_ ?_ ?_ ?_ ?_ ?_ ?_ ?_ ?_ ?_ ?_ ?_ ?_ ?_ ?_ ?_ ?_ ?_ ?_ ?_ ?_ ?_ ?_ ?_ ?_ ?_ ?_ ?_ ?_ ?_ ?_ ?_ ?_ ?_ ?_ ?_ ?_ ?_ ?_ ?_ ?_ ?_ ?_ ?_ ?_ ?_ ?_ ?_ ?_ ?_ ?_ ?_ ?_ ?_ ?_ ?_ ?_ ?_ ?_ ?_ ?_ ?_ ?_ ?_ ?_ ?_ ?_ ?_ ?_ ?_ ?_ ?_ ?_ ?_ ?_ ?_ ?_ ?_ ?_ ?_ ?_ ?_ ?_ ?_ ?_ ?_ ?_ ?_ ?_ ?_ ?_ ?_ ?_ ?_ ?_ ?_ ?_ ?_ ?_ ?_ ?_ ?_ ?_ ?_ ?_ ?_ ?_ ?_ ?_ ?_ ?_ ?_ ?_ ?_ ?_ ?_ ?_ ?_ ?_ ?_ ?_ ?_ ?_ ?_ ?_ ?_ ?_ ?_ ?_ ?_ ?_
       any_goals walk_at "z"
     refine⟨t,T,?_⟩
     have e0:=UH.symm.trans (T.g T.B3.a)
     cases e0
     rfl
   obtain⟨t,T,e⟩:=T
   subst e
   refine' ⟨t.wA,?b,fun base kb nb=>Pf.To T⟩
   exact Pf.RW T
 case S=>exact fun K H a ns hl hO hS=>Pf.SD hl hS
 case C=>exact fun H s e s' h=>h
