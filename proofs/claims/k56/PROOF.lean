import PyProof.Rows.All
import Wide.All
import OpenK.AllK
import Wide.FinOn
import Lean
import PyProof.EqAt
import PyProof.EqKinds
import PyProof.TupleCall
import PyProof.WalksEnum
import PyProof.EnumMake
import PyProof.ZipIter
import PyProof.ReprStr
import PyProof.StrBlockG
import PyProof.StrWalks
import PyProof.FString5
import PyProof.ConsumeWalk
import PyProof.SumAny
import PyProof.StrCalls2
import KE.KDictList
import PyProof.Draws
import PyProof.StrBlock2
import PyProof.DictIter
import PyProof.ExcInit
import PyProof.ExcClass3
import PyProof.FString
import PyProof.FitsInt
import PyProof.StrLawsRepr
import PyProof.Rows.Range3
import PyProof.StrCalls
import PyProof.ListRange
import PyProof.AttrMissHeap
import KE.KDictOf
import PyProof.StrCalls3
import PyProof.FactsAll.dict_2
import PyProof.MeetsIn
import PyProof.Cells
import KE.KDictSum
import PyProof.DictWalks
import KE.KRevIter
import PyProof.FactsAll.subtypes_3
import PyProof.Rows.SortWalk
import KE.KSortedM
import PyProof.Rows.SortStr
import PyProof.MinMaxWalk
import PyProof.WalkInts
import PyProof.SeqI3
import PyProof.Rows.CallKwBuiltin
import KE.KUnpack
import PyProof.Rows.SeqMore2
import PyProof.LongRange
import PySem.Challenge.RW_strokegrow_k56_whole_written_out
theorem jpp (h:True:=by rfl):True:=h
def jp:Lean.Syntax:=jpp._auto_1
theorem znp (h:True:=by decide):True:=h
def zn:Lean.Syntax:=znp._auto_1
theorem xzp (h:True:=by first | exact aaR rfl | exact aaB rfl):True:=h
def xz:Lean.Syntax:=xzp._auto_1
theorem xLp (h:True:=by first | exact aaR rfl | exact aaB (aaR rfl) | exact aaB (aaB rfl)):True:=h
def xL:Lean.Syntax:=xLp._auto_1
theorem v6p (h:True:=by intro _;rfl):True:=h
def v6:Lean.Syntax:=v6p._auto_1
theorem wfp (h:True:=by first | exact .inl rfl | exact .inr rfl | assumption):True:=h
def wf:Lean.Syntax:=wfp._auto_1
theorem wlp (h:True:=by intro _ _;rfl):True:=h
def wl:Lean.Syntax:=wlp._auto_1
theorem wrp (h:True:=by first | exact .inl rfl | exact .inr rfl):True:=h
def wr:Lean.Syntax:=wrp._auto_1
theorem wvp (h:True:=by with_unfolding_all rfl):True:=h
def wv:Lean.Syntax:=wvp._auto_1
theorem AA3 {a b:Nat}(h:autoParam (Nat.ble a b=true) jp):a<=b:=Nat.le_of_ble_eq_true h
set_option Elab.async false
set_option linter.all false
set_option maxRecDepth 100000
section
set_option genSizeOf false
set_option genInjectivity false
open List renaming getElem?_eq_getElem→k3, length_map→k5, getD_eq_getElem?_getD→Bn, getElem?_map→aab, getElem?_eq_some_iff→aae, getElem?_set_self→aaf, getElem?_set_ne→aag, range→aah, map_map→aai, replicate→aaj, filter_eq_self→aan, map_cons→aao, size_toArray→aap, length_append→aaq, length_take→aas, mem_append_right→aav, getElem?_append_left→aay, mem_cons_of_mem→aaC, getElem?_append_right→aaE, getElem?_eq_none→aaG, length_cons→aaI, mem_cons→aaJ, getElem_map→aaL, mem_map→aaQ, length_range→aaV, getElem_mem→aaY, getElem?_range→aa0, mem_iff_getElem→aa8, lookup_cons→abe, mem_cons_self→abk, getElem?_replicate→abq, pairwise_iff_getElem→abt, length_drop→abu, map_append→abv, append_nil→abx, take_add_one→aby, eq_nil_of_length_eq_zero→abz, length→abB, flatten_cons→abC, getElem?_cons_succ→abD, take_length→abF, flatMap_cons→abH, mem_append→abI, dropLast_concat_getLast→abJ, count_append→abL, replicate_succ→abM, sum_cons→abP, mem_of_getElem?→abQ, find?_cons→abR, length_reverse→abS, take_of_length_le→abT, length_dropLast→abV, mem_range→abX, nodup_cons→ab1, getElem_take→ab2, range'→ab4, flatten_append→ab7, any_cons→ab8, lookup→ab9, filter_cons_of_neg→aca, filter_cons_of_pos→acb, drop_eq_nil_of_le→acg, reverse_cons→ach, all_eq_true→acm, all_cons→acn, mem_of_mem_take→acp, length_set→acr, filterMap_cons→acs, toList_toArray→acu, map_congr_left→acv
open Exists renaming elim→ZL
open Nat renaming le_refl→aaa, lt_of_lt_of_le→aal, ne_of_lt→aat, le_trans→aau, lt_of_le_of_lt→aaT, le_of_ble_eq_true→aaW, zero_le→aa1, le_of_lt→abw, lt_irrefl→abA, le_succ→abG, lt_succ_self→abN, succ_ne_self→ab5, le_add_right→ab6, ne_of_gt→acd, lt_succ_of_lt→acf, le_of_not_lt→ack, pow_le_pow_right→aco
open PySem.Heap renaming get?_push_of_some→aac, lt_size→aak, get?_push_size→aar, size_push→abK, SameBut→abY, get?_update_other→ace, get?_update_self→aci
open Bool renaming false_ne_true→aam, and_eq_true→aa9, false_eq_true→abE, eq_iff_iff→acq
open Or renaming inr→aaB, inl→aaR
open Int renaming emod_nonneg→aaF, emod_lt_of_pos→aaK, toNat_natCast→aaS, ne_of_gt→abO, add_zero→abZ, emod_eq_of_lt→ab3
open Array renaming getElem?_eq_getElem→abU, length_toList→abW, getElem?_toList→acj
namespace L2
open PySem PySem.Spec PyProof.Rows
noncomputable abbrev Key:=Sum Int Str
noncomputable def zb:Key->Value->Bool
 | .inl k,v=>Value.isInt k v
 | .inr x,v=>Value.isStrOf x v
noncomputable def YM (w:World):Key->Int
 | .inl k=>hashInt k
 | .inr x=>hashStr w x
theorem dh:∀ {k:Key} {v:Value},zb k v=true->(∃ i t,k=Sum.inl i/\v=Value.int i t)\/(∃ x t,k=Sum.inr x/\v=Value.str x t)
 | .inl i,v,h=>by
   obtain⟨t,e⟩:=Value.isInt_shape (k:=i) (v:=v) h;exact .inl ⟨i,t,rfl,e⟩
 | .inr x,v,h=>by
   obtain⟨t,e⟩:=Value.isStrOf_shape (x:=x) (v:=v) h;exact .inr ⟨x,t,rfl,e⟩
theorem Hj (i:Int)(t:Tok):zb (.inl i) (.int i t)=true:=by simp[zb,Value.isInt]
theorem Hk (x:Str)(t:Tok):zb (.inr x) (.str x t)=true:=by simp[zb,Value.isStrOf]
theorem QH (a b:Int):decide ((Sum.inl a:Key)=Sum.inl b)=(a == b):=by
 by_cases e:a=b
 . subst e;simp
 . have h:¬ (Sum.inl a:Key)=Sum.inl b:=fun q=>e (Sum.inl.inj q)
   rw[decide_eq_false h];exact(beq_eq_false_iff_ne.mpr e).symm
theorem QI (a b:Str):decide ((Sum.inr a:Key)=Sum.inr b)=decide (a=b):=by
 by_cases e:a=b
 . subst e;simp
 . have h:¬ (Sum.inr a:Key)=Sum.inr b:=fun q=>e (Sum.inr.inj q)
   rw[decide_eq_false h,decide_eq_false e]
theorem QJ (a:Int)(b:Str):decide ((Sum.inl a:Key)=Sum.inr b)=false:=decide_eq_false (fun q=>nomatch q)
theorem QK (a:Str)(b:Int):decide ((Sum.inr a:Key)=Sum.inl b)=false:=decide_eq_false (fun q=>nomatch q)
noncomputable def bF (prog:Program)(w:World):PySem.KeyKind prog w Key where
 is:=zb
 hash:=YM w
 inj:=fun v a b ha hb=>by
   rcases dh ha with⟨i,t,rfl,rfl⟩ | ⟨x,t,rfl,rfl⟩
   . rcases dh hb with⟨j,u,rfl,e⟩ | ⟨y,u,rfl,e⟩
     . injection e with e1 _;rw[e1]
     . exact nomatch e
   . rcases dh hb with⟨j,u,rfl,e⟩ | ⟨y,u,rfl,e⟩
     . exact nomatch e
     . injection e with e1 _;rw[e1]
 byValue:=fun k v h=>by
   rcases dh h with⟨i,t,rfl,rfl⟩ | ⟨x,t,rfl,rfl⟩ <;> rfl
 pyHash:=fun hv h=>by
   rcases dh hv with⟨i,t,rfl,rfl⟩ | ⟨x,t,rfl,rfl⟩
   . exact wpAny_pyHash_int h
   . exact wpAny_pyHash_str h
 eqBool:=fun hu hv h=>by
   rcases dh hu with⟨i,t,rfl,rfl⟩ | ⟨x,t,rfl,rfl⟩
   . rcases dh hv with⟨j,u,rfl,rfl⟩ | ⟨y,u,rfl,rfl⟩
     . rw[QH] at h;exact wpAny_eqBool_int h
     . rw[QJ] at h;exact SeqAt.EqAt.int_str i t y u _ _ _ _ h
   . rcases dh hv with⟨j,u,rfl,rfl⟩ | ⟨y,u,rfl,rfl⟩
     . rw[QK] at h;exact SeqAt.EqAt.str_int x t j u _ _ _ _ h
     . rw[QI] at h;exact wpAny_eqBool_str h
 «strs»:=fun k x t v h=>by
   rcases dh h with⟨i,u,rfl,e⟩ | ⟨y,u,rfl,e⟩
   . exact nomatch e
   . injection e with e1 _
     subst e1;cases v <;> rfl
theorem BK (prog:Program)(w:World)(i:Int)(t:Tok):(bF prog w).is (.inl i) (.int i t)=true:=Hj i t
theorem BL (prog:Program)(w:World)(x:Str)(t:Tok):(bF prog w).is (.inr x) (.str x t)=true:=Hk x t
set_option genInjectivity true in
inductive V where
 | dk | bl (b:Bool) | int (i:Int) | str (x:Str) | IV (b:Array UInt8) | Us (b:UInt64) | ref (a:Addr) | ty (n:String)
 deriving DecidableEq
def RelV:V->Value->Prop
 | .dk,u=>u=Value.none
 | .bl b,u=>u=Value.bool b
 | .int i,u=>∃ t,u=Value.int i t
 | .str x,u=>∃ t,u=Value.str x t
 | .IV b,u=>∃ t,u=Value.bytes b t
 | .Us b,u=>∃ t,u=Value.float b t
 | .ref a,u=>u=Value.ref a
 | .ty n,u=>u=Value.type n
abbrev Vals:List V->List Value->Prop:=Paired RelV
theorem Vals.length {xs:List V}{us:List Value}(r:Vals xs us):xs.length=us.length:=Paired.length r
theorem Vals.get:∀ {xs:List V} {us:List Value} {i:Nat} {x:V},Vals xs us->xs[i]?=some x->∃ u,us[i]?=some u/\RelV x u
 | _,_,_,_,.nil,e=>by simp at e
 | _,_,0,_,.cons r _,e=>by simp at e;subst e;exact⟨_,rfl,r⟩
 | _,_,i+1,x,.cons _ t,e=>by
   obtain⟨u,h1,h2⟩:=Vals.get (i:=i) (x:=x) t (by simpa using e);exact⟨u,by simpa using h1,h2⟩
theorem Vals.set {x:V}{u:Value}(r:RelV x u):∀ {xs:List V} {us:List Value} (i:Nat),Vals xs us->Vals (xs.set i x) (us.set i u)
 | _,_,_,.nil=>.nil
 | _,_,0,.cons _ t=>.cons r t
 | _,_,i+1,.cons q t=>.cons q (Vals.set r i t)
theorem Vals.append:∀ {xs ys:List V} {us ws:List Value},Vals xs us->Vals ys ws->Vals (xs ++ ys) (us ++ ws)
 | _,_,_,_,.nil,s=>s
 | _,_,_,_,.cons r t,s=>.cons r (Vals.append t s)
theorem Vals.take:∀ {xs:List V} {us:List Value} (n:Nat),Vals xs us->Vals (xs.take n) (us.take n)
 | _,_,0,_=>.nil
 | _,_,_+1,.nil=>.nil
 | _,_,n+1,.cons r t=>.cons r (Vals.take n t)
theorem Vals.drop:∀ {xs:List V} {us:List Value} (n:Nat),Vals xs us->Vals (xs.drop n) (us.drop n)
 | _,_,0,r=>r
 | _,_,_+1,.nil=>.nil
 | _,_,n+1,.cons _ t=>Vals.drop n t
def qP:Option V->Option Value->Prop
 | some v,some u=>RelV v u
 | none,none=>True
 | _,_=>False
def KV {κ:Type}:List (κ×V)->List (κ×Value)->Prop:=Paired fun(p:κ×V) (q:κ×Value)=>p.1=q.1/\RelV p.2 q.2
noncomputable def kV:Key->V
 | .inl i=>.int i
 | .inr x=>.str x
inductive FD where
 | int (i:Int)
 | cZ (kds:List (Key×Int))
 | lst (ns:List Int)
 | tup (K:W.Frag) (ns:List Int)
 | obj (C:Addr) (fs:List (Str×FD))
noncomputable abbrev k7:=List (Addr×(Nat->List (Key×FD)))
set_option genInjectivity true in
inductive HO where
   | lst (xs:List V)
   | tup (xs:List V)
   | dK (kvs:List (Key×V)) | dT (kvs:List (List Key×V))
   | set (S:Int->Bool) (n:Nat)
   | ins (C dx:Addr) (fs:List (Str×V))
   | own (x:Addr)
   | xd (fs:List (Str×V))
   | met (f x:Addr)
   | YN (lo hi:Int)
   | bU (o:Obj) (u:HO)
   | QL (ps:Array Value)
   | ext (φ:Heap->Prop)
   | memo (ls:k7)
 | bN (ls:k7) (ns:List Nat)
   | part (p:Addr)
   | kd (tg:Option (Addr×Nat)) (o:Obj) (kvs:List (Key×V))
   | kx (o:Obj) (u:HO)
noncomputable abbrev Hp:=Addr->Option HO
noncomputable def upd (H:Hp)(a:Addr)(o:HO):Hp:=fun b=>if b=a then some o else H b
theorem ak {H:Hp}{a:Addr}{o:HO}:upd H a o a=some o:=by unfold upd;rw[if_pos rfl]
theorem ai {H:Hp}{a b:Addr}{o:HO}(h:b≠a):upd H a o b=H b:=by unfold upd;rw[if_neg h]
theorem vC {H:Hp}{a:Addr}{o u:HO}:upd (upd H a o) a u=upd H a u:=by
 funext b;unfold upd;split <;> rfl
theorem UR {H:Hp}{a b:Addr}{o u:HO}(h:H a=some o)(h':H b=some u)(d:o≠u):a≠b:=by
 intro e;subst e;rw[h] at h';exact d (Option.some.inj h')
theorem ax {H:Hp}{a b:Addr}{o:HO}(h:H a=some o)(h':H b=none):a≠b:=by
 intro e;subst e;rw[h] at h';cases h'
def mU:Option HO->Prop
 | some (.memo _)=>True
 | some (.bN _ _)=>True
 | some (.part _)=>True
 | _=>False
def Kept:HO->Prop
 | .kd _ _ _=>True
 | .kx _ _=>True
 | .tup _=>True
 | _=>False
def TupAt (K:W.Frag)(H:Hp)(a:Addr)(xs:List V):Prop:=
 H a=some (.tup xs) \/
   ∃ (o:Obj) (aH:Array Value) (n:Nat),K.lookup a=some o/\o.cls=.type "tuple"/\o.data=.seq aH n/\aH.size<=sizeLine/\Vals xs aH.toList
mutual
inductive Fz (H:Hp):V->FD->Prop
 | int (i:Int):Fz H (.int i) (.int i)
 | cZ {a:Addr} {tg:Option (Addr×Nat)} {o:Obj} {kds:List (Key×Int)}:H a=some (.kd tg o (kds.map fun kd=>(kd.1,V.int kd.2)))->Fz H (.ref a) (.cZ kds)
 | lst {a:Addr} {o:Obj} {ns:List Int}:H a=some (.kx o (.lst (ns.map V.int)))->Fz H (.ref a) (.lst ns)
 | tup {a:Addr} {K:W.Frag} {ns:List Int}:TupAt K H a (ns.map V.int)->Fz H (.ref a) (.tup K ns)
 | obj {a C dx:Addr} {o:Obj} {fv:List (Str×V)} {fs:List (Str×FD)}:H a=some (.kx o (.ins C dx fv))->Jf H fv fs->Fz H (.ref a) (.obj C fs)
inductive Jf (H:Hp):List (Str×V)->List (Str×FD)->Prop
 | nil:Jf H [] []
 | cons {k:Str} {v:V} {d:FD} {vs:List (Str×V)} {ds:List (Str×FD)}:Fz H v d->Jf H vs ds->Jf H ((k,v)::vs) ((k,d)::ds)
end
inductive tJ (H:Hp):List (Key×V)->List (Key×FD)->Prop
 | nil:tJ H [] []
 | cons {k:Key} {v:V} {d:FD} {kvs:List (Key×V)} {kds:List (Key×FD)}:Fz H v d->tJ H kvs kds->tJ H ((k,v)::kvs) ((k,d)::kds)
def QM (H:Hp)(p:Addr)(i:Nat)(aH:List Value)(fd:List (Key×FD)):Prop:=∃ q o kvs,aH[i]?=some (.ref q)/\H q=some (.kd (some (p,i)) o kvs)/\tJ H kvs fd
def Fm (H:Hp)(h:Heap)(p:Addr)(f:Nat->List (Key×FD))(n:Nat):Prop:=∃ aH c,h.get? p=some { cls:=.type "list",data:=.seq (aH:List Value).toArray c}/\aH.length=n/\∀ i,i < n->QM H p i aH (f i)
def wt (H:Hp)(h:Heap)(a:Addr)(ls:k7)(ns:List Nat):Prop:=(∃ f,ls[0]?=some (a,f))/\ls.length=ns.length/\(∀ (j:Nat) (p:Addr) (f:Nat->List (Key×FD)),ls[j]?=some (p,f)->(p=a\/H p=some (.part a)))/\(ls.map (·.1)).Nodup/\(∀ n∈ns,n<=10000)/\∀ (j:Nat) (p:Addr) (f:Nat->List (Key×FD)) (n:Nat),ls[j]?=some (p,f)->ns[j]?=some n->Fm H h p f n
section
variable (P:Program)(w:World)
def aV (H:Hp)(h:Heap)(a:Addr):HO->Prop
 | .lst xs=>xs.length<=sizeLine/\∃ (aH:List Value) (n:Nat),Vals xs aH/\h.get? a=some { cls:=.type "list",data:=.seq aH.toArray n}
 | .tup xs=>xs.length<=sizeLine/\∃ aH:List Value,Vals xs aH/\IsTup h a aH.toArray
 | .dK kvs=>kvs.length<=sizeLine/\(a == sysModules)=false/\∃ vs,KV kvs vs/\h.DictOf (bF P w) a vs
 | .dT kvs=>kvs.length<=sizeLine/\(a == sysModules)=false/\∃ xs:List (List Key×Addr×Value),
     Paired (fun(p:List Key×V) (q:List Key×Addr×Value)=>p.1=q.1/\H q.2.1=some (.tup (p.1.map kV))/\RelV p.2 q.2.2) kvs xs /\
     ∃ o es ep,h.get? a=some o/\o.ExactDict/\o.data=.dict es ep/\es.toList=xs.map (entryOfKey (tupleKind (bF P w)))/\(xs.map (·.1)).Nodup
 | .set S n=>h.SetOf (intKind P w) a S n
 | .ins C dx fs=>H dx=some (.own a)/\fs.length<=1000/\dx≠a/\h.get? a=some (W.instObj C dx) /\
     ∃ mA,h.Ns1 dx mA/\(∀ f,qP (fs.lookup f) (mA f))/\PySem.Within mA (fs.map (·.1))
 | .own _=>∃ o,h.get? a=some o
 | .xd fs=>∃ mA,h.Ns1 a mA/\∀ f,qP (fs.lookup f) (mA f)
 | .YN lo hi=>∃ t u v,h.get? a=some { cls:=.type "range",data:=.fields #[.int lo t,.int hi u,.int 1 v]}
 | .bU o u=>h.get? a=some o/\aV H h a u
 | .QL ps=>h.get? a=some { cls:=.none,data:=.fields ps}
 | .met f x=>h.get? a=some (W.methodObj (.ref f) (.ref x))
 | .ext φ=>φ h/\(∃ o,h.get? a=some o)/\∀ h1 h2:Heap,φ h1->(∀ o,h1.get? a=some o->h2.get? a=some o)->φ h2
 | .memo ls=>(∃ o,h.get? a=some o)/\∃ n,0 < n/\wt H h a ls (aaj ls.length n)
 | .bN ls ns=>(∃ o,h.get? a=some o)/\wt H h a ls ns
 | .part _=>∃ o,h.get? a=some o
 | .kd tg o kvs=>h.get? a=some o/\(kvs.length<=sizeLine/\(a == sysModules)=false/\∃ vs,KV kvs vs/\h.DictOf (bF P w) a vs) /\
     ∀ p i,tg=some (p,i)->mU (H p)/\∃ aH c,h.get? p=some { cls:=.type "list",data:=.seq (aH:List Value).toArray c}/\aH[i]?=some (.ref a)
 | .kx o u=>h.get? a=some o/\aV H h a u
def r6 (H:Hp)(h:Heap):Prop:=∀ a o,H a=some o->aV P w H h a o
end
section
variable {P:Program}{w:World}{H H':Hp}{h h':Heap}{a:Addr}{o:HO}
theorem aV.lt (x:aV P w H h a o):a < h.objs.size:=by
 cases o with
 | lst xs=>obtain⟨_,_,_,_,e⟩:=x;exact aak e
 | tup xs=>obtain⟨_,_,_,p⟩:=x;exact p.lt
 | dK kvs=>obtain⟨_,_,_,_,o,_,_,e,_⟩:=x;exact aak e
 | dT kvs=>obtain⟨_,_,_,_,o,_,_,e,_⟩:=x;exact aak e
 | set S n=>obtain⟨o,_,_,_,e,_⟩:=x;exact aak e
 | ins C dx fs=>obtain⟨_,_,_,e,_⟩:=x;exact aak e
 | own y=>obtain⟨_,e⟩:=x;exact aak e
 | xd fs=>obtain⟨_,⟨_,_,_,e,_⟩,_⟩:=x;exact aak e
 | YN lo hi=>obtain⟨_,_,_,e⟩:=x;exact aak e
 | bU ob u=>obtain⟨e,_⟩:=x;exact aak e
 | QL ps=>exact aak (show h.get? a=some _ from x)
 | met f y=>exact aak (show h.get? a=some _ from x)
 | ext φ=>obtain⟨_,⟨_,e⟩,_⟩:=x;exact aak e
 | memo ls=>obtain⟨⟨_,e⟩,_⟩:=x;exact aak e
 | bN ls ns=>obtain⟨⟨_,e⟩,_⟩:=x;exact aak e
 | part y=>obtain⟨_,e⟩:=x;exact aak e
 | kd tg ob kvs=>exact aak x.1
 | kx ob u=>exact aak x.1
theorem Paired.QN {α β:Type}{F G:α->β->Prop}:∀ {l₁:List α} {l₂:List β},Paired F l₁ l₂->(∀ a b,F a b->G a b)->Paired G l₁ l₂
 | _,_,.nil,_=>.nil
 | _,_,.cons r t,f=>.cons (f _ _ r) (Paired.QN t f)
structure Kp (H H':Hp):Prop where
 st:∀ b u,H b=some u->Kept u->H' b=some u
 mem:∀ b,mU (H b)->mU (H' b)
 part:∀ b x,H b=some (.part x)->H' b=some (.part x)
theorem Kp.kd (kp:Kp H H')(b:Addr)(tg:Option (Addr×Nat))(o:Obj)(kvs:List (Key×V))(e:H b=some (.kd tg o kvs)):H' b=some (.kd tg o kvs):=kp.st b _ e trivial
theorem Kp.refl:Kp H H:=⟨fun _ _ e _=>e,fun _ e=>e,fun _ _ e=>e⟩
theorem Kp.of (s:∀ b u,H b=some u->H' b=some u):Kp H H':=⟨fun _ _ e _=>s _ _ e,fun b e=>by
 cases q:H b with
 | none=>rw[q] at e;exact e.elim
 | some u=>rw[s b u q,<- q];exact e,fun _ _ e=>s _ _ e⟩
theorem TupAt.kp {K:W.Frag}{xs:List V}(k:∀ b u,H b=some u->Kept u->H' b=some u)(h:TupAt K H a xs):TupAt K H' a xs:=h.imp (fun e=>k _ _ e trivial) id
mutual
theorem Fz.st (k:∀ b u,H b=some u->Kept u->H' b=some u):∀ {v:V} {d:FD},Fz H v d->Fz H' v d
 | _,_,.int i=>.int i
 | _,_,.cZ e=>.cZ (k _ _ e trivial)
 | _,_,.lst e=>.lst (k _ _ e trivial)
 | _,_,.tup e=>.tup (e.kp k)
 | _,_,.obj e f=>.obj (k _ _ e trivial) (Jf.st k f)
theorem Jf.st (k:∀ b u,H b=some u->Kept u->H' b=some u):∀ {v:List (Str×V)} {d:List (Str×FD)},Jf H v d->Jf H' v d
 | _,_,.nil=>.nil
 | _,_,.cons h t=>.cons (Fz.st k h) (Jf.st k t)
end
theorem Fz.kp (kp:Kp H H'){v:V}{d:FD}(h:Fz H v d):Fz H' v d:=h.st kp.st
theorem tJ.kp (kp:Kp H H'):∀ {kvs:List (Key×V)} {kds:List (Key×FD)},tJ H kvs kds->tJ H' kvs kds
 | _,_,.nil=>.nil
 | _,_,.cons h t=>.cons (h.kp kp) (tJ.kp kp t)
theorem Fm.kp {p:Addr}{f:Nat->List (Key×FD)}{n:Nat}(kp:Kp H H')(x:Fm H h p f n)(k:∀ u,h.get? p=some u->h'.get? p=some u):Fm H' h' p f n:=by
 obtain⟨aH,c,e,hl,hi⟩:=x;exact⟨aH,c,k _ e,hl,fun i hn=>let ⟨q,o,kvs,h1,h2,h3⟩:=hi i hn;⟨q,o,kvs,h1,kp.kd _ _ _ _ h2,h3.kp kp⟩⟩
theorem wt.kp {ls:k7}{ns:List Nat}(kp:Kp H H')(x:wt H h a ls ns)(k:∀ b u,b=a\/H b=some (.part a)->h.get? b=some u->h'.get? b=some u):wt H' h' a ls ns:=by
 obtain⟨h1,h2,h3,h4,h5,h6⟩:=x;exact⟨h1,h2,fun j p f e=>(h3 j p f e).imp id fun z=>kp.part _ _ z,h4,h5,fun j p f n e1 e2=>(h6 j p f n e1 e2).kp kp fun u e=>k p u (h3 j p f e1) e⟩
def US (h:Heap)(p:Addr)(i:Nat)(c:Addr):Prop:=∃ aH n,h.get? p=some { cls:=.type "list",data:=.seq (aH:List Value).toArray n}/\aH[i]?=some (.ref c)
theorem aV.Pu (x:aV P w H h a o)(k:∀ b u,(b=a\/H b=some (.own a)\/H b=some (.part a))->h.get? b=some u->h'.get? b=some u)(ho:∀ b,H b=some (.own a)->H' b=some (.own a))(ht:∀ b xs,H b=some (.tup xs)->H' b=some (.tup xs))(kp:Kp H H')(hl:∀ p i c,mU (H p)->US h p i c->US h' p i c):aV P w H' h' a o:=by
 induction o with
 | lst xs=>obtain⟨z,aH,n,r,e⟩:=x;exact⟨z,aH,n,r,k _ _ (.inl rfl) e⟩
 | tup xs=>obtain⟨z,aH,r,ob,e,c⟩:=x;exact⟨z,aH,r,ob,k _ _ (.inl rfl) e,c⟩
 | dK kvs=>obtain⟨z,y,vs,r,ob,es,ep,e,c⟩:=x;exact⟨z,y,vs,r,ob,es,ep,k _ _ (.inl rfl) e,c⟩
 | dT kvs=>
   obtain⟨z,y,xs,r,ob,es,ep,e,c⟩:=x;exact⟨z,y,xs,Paired.QN r fun p q z=>⟨z.1,ht _ _ z.2.1,z.2.2⟩,ob,es,ep,k _ _ (.inl rfl) e,c⟩
 | set S n=>obtain⟨ob,es,ep,t,e,c⟩:=x;exact⟨ob,es,ep,t,k _ _ (.inl rfl) e,c⟩
 | ins C dx fs=>
   obtain⟨d,z,ne,e,mA,⟨od,es,ep,e2,c⟩,r⟩:=x;exact⟨ho _ d,z,ne,k _ _ (.inl rfl) e,mA,⟨od,es,ep,k _ _ (.inr (.inl d)) e2,c⟩,r⟩
 | own y=>obtain⟨ob,e⟩:=x;exact⟨ob,k _ _ (.inl rfl) e⟩
 | xd fs=>obtain⟨mA,⟨od,es,ep,e,c⟩,r⟩:=x;exact⟨mA,⟨od,es,ep,k _ _ (.inl rfl) e,c⟩,r⟩
 | YN lo hi=>obtain⟨t,u,v,e⟩:=x;exact⟨t,u,v,k _ _ (.inl rfl) e⟩
 | bU ob u ih=>obtain⟨e,q⟩:=x;exact⟨k _ _ (.inl rfl) e,ih q⟩
 | QL ps=>
   have e:h.get? a=some { cls:=.none,data:=.fields ps}:=x;show h'.get? a=some { cls:=.none,data:=.fields ps};exact k a _ (.inl rfl) e
 | met f y=>
   have e:h.get? a=some (W.methodObj (.ref f) (.ref y)):=x;show h'.get? a=some (W.methodObj (.ref f) (.ref y));exact k a _ (.inl rfl) e
 | ext φ=>obtain⟨p,⟨o,e⟩,st⟩:=x;exact⟨st _ _ p fun o q=>k _ _ (.inl rfl) q,⟨o,k _ _ (.inl rfl) e⟩,st⟩
 | memo ls=>
   obtain⟨⟨o,e⟩,n,hn,q⟩:=x;refine⟨⟨o,k _ _ (.inl rfl) e⟩,n,hn,q.kp kp fun b u hb=>k b u ?_⟩;rcases hb with z | z
   . exact .inl z
   . exact .inr (.inr z)
 | bN ls ns=>
   obtain⟨⟨o,e⟩,q⟩:=x;refine⟨⟨o,k _ _ (.inl rfl) e⟩,q.kp kp fun b u hb=>k b u ?_⟩;rcases hb with z | z
   . exact .inl z
   . exact .inr (.inr z)
 | part y=>obtain⟨o,e⟩:=x;exact⟨o,k _ _ (.inl rfl) e⟩
 | kd tg ob kvs=>
   obtain⟨e,⟨z,y,vs,r,ob',es,ep,e',c⟩,q⟩:=x;refine⟨k _ _ (.inl rfl) e,⟨z,y,vs,r,ob',es,ep,k _ _ (.inl rfl) e',c⟩,fun p i ht=>?_⟩;obtain⟨q1,q2⟩:=q p i ht;exact⟨kp.mem _ q1,hl p i _ q1 q2⟩
 | kx ob u ih=>obtain⟨e,q⟩:=x;exact⟨k _ _ (.inl rfl) e,ih q⟩
theorem aV.zX (x:aV P w H h a o)(k:∀ b u,(b=a\/H b=some (.own a)\/mU (H b))->h.get? b=some u->h'.get? b=some u)(ho:∀ b,H b=some (.own a)->H' b=some (.own a))(ht:∀ b xs,H b=some (.tup xs)->H' b=some (.tup xs))(kp:Kp H H'):aV P w H' h' a o:=
 x.Pu (fun b u hb=>k b u (by
   rcases hb with z | z | z
   . exact .inl z
   . exact .inr (.inl z)
   . exact .inr (.inr (by rw[z];trivial)))) ho ht kp fun p i c hm ⟨aH,n,e,q⟩=>⟨aH,n,k p _ (.inr (.inr hm)) e,q⟩
theorem r6.lt (x:r6 P w H h)(e:H a=some o):a < h.objs.size:=(x a o e).lt
theorem r6.fresh (x:r6 P w H h)(e:h.objs.size<=a):H a=none:=by
 cases q:H a with
 | none=>rfl
 | some u=>exact absurd (aal (x.lt q) e) (abA _)
theorem r6.kept (x:r6 P w H h)(k:∀ b u,h.get? b=some u->h'.get? b=some u):r6 P w H h':=fun a o e=>
 (x a o e).zX (fun b u _ q=>k b u q) (fun _ q=>q) (fun _ _ q=>q) .refl
theorem r6.laid (x:r6 P w H h)(k:∀ b u,h.get? b=some u->h'.get? b=some u)(hp:h.objs.size<=a)(new:aV P w (upd H a o) h' a o):r6 P w (upd H a o) h':=fun b u e=>by
 have hn:=x.fresh hp;by_cases hb:b=a
 . subst hb;rw[ak] at e;cases e;exact new
 . rw[ai hb] at e
   exact(x b u e).zX (fun c v _ q=>k c v q) (fun c q=>by rw[ai (ax q hn)];exact q) (fun c xs q=>by rw[ai (ax q hn)];exact q) (.of fun c u q=>by rw[ai (ax q hn)];exact q)
end
def Rd (H:Hp)(a:Addr)(u:HO):Prop:=H a=some u\/(∃ o,H a=some (.bU o u))\/(∃ tg o kvs,H a=some (.kd tg o kvs)/\u=.dK kvs)\/∃ o,H a=some (.kx o u)
theorem Rd.of {H:Hp}{a:Addr}{u:HO}(h:H a=some u):Rd H a u:=.inl h
theorem Rd.ok {P:Program}{w:World}{H:Hp}{h:Heap}{a:Addr}{u:HO}(r:Rd H a u)(x:r6 P w H h):aV P w H h a u:=by
 rcases r with r | ⟨o,r⟩ | ⟨tg,o,kvs,r,rfl⟩ | ⟨o,r⟩
 . exact x a u r
 . obtain⟨_,q⟩:=x a _ r
   exact q
 . obtain⟨_,q,_⟩:=x a _ r
   exact q
 . obtain⟨_,q⟩:=x a _ r
   exact q
def Ut:Option HO->Prop
 | some (.lst _)=>True
 | some (.dK _)=>True
 | some (.dT _)=>True
 | some (.set _ _)=>True
 | some (.ins _ _ _)=>True
 | some (.ext _)=>True
 | _=>False
section
variable {P:Program}{w:World}{H:Hp}{h h':Heap}{x e:Addr}{o':HO}
theorem r6.write (ok:r6 P w H h)(mu:Ut (H x))(he:e=x\/H e=some (.own x))(k:∀ b u,b≠e->h.get? b=some u->h'.get? b=some u)(Uu:∃ u,h'.get? e=some u)(new:aV P w (upd H x o') h' x o'):r6 P w (upd H x o') h':=fun b u q=>by
 have zY:∀ c y,H c=some (.own y)->c≠x:=fun c y r z=>by subst z;rw[r] at mu;exact mu
 have YO:∀ c xs,H c=some (.tup xs)->c≠x:=fun c xs r z=>by subst z;rw[r] at mu;exact mu
 by_cases hb:b=x
 . subst hb;rw[ak] at q;cases q;exact new
 . rw[ai hb] at q
   by_cases tG:b=e
   . have q':H b=some (.own x):=by
       rcases he with z | z
       . exact absurd (tG.trans z) hb
       . rw[tG];exact z
     rw[q] at q';cases q';obtain⟨v,hv⟩:=Uu;exact⟨v,by rw[tG];exact hv⟩
   . have nkd:∀ c u,H c=some u->¬ Ut (some u)->c≠x:=fun c u r nm z=>by subst z;rw[r] at mu;exact nm mu
     have nmm:∀ c,mU (H c)->c≠x:=fun c r z=>by
       subst z;cases qq:H c with
       | none=>rw[qq] at r;exact r
       | some u=>rw[qq] at r mu;cases u <;> first | exact mu | exact r
     refine(ok b u q).zX (fun c v hc r=>k c v ?_ r) (fun c r=>by rw[ai (zY c b r)];exact r) (fun c xs r=>by rw[ai (YO c xs r)];exact r) ⟨fun c u r kq=>by rw[ai (nkd c _ r (by cases u <;> first | exact(show False from kq).elim | exact fun z=>z))];exact r,fun c r=>by rw[ai (nmm c r)];exact r,fun c y r=>by rw[ai (nkd c _ r fun z=>z)];exact r⟩;rcases hc with rfl | hc | hc
     . exact tG
     . rintro rfl
       rcases he with z | z
       . exact zY c b hc z
       . rw[hc] at z;cases z;exact hb rfl
     . rintro rfl
       rcases he with z | z
       . exact nmm c hc z
       . rw[z] at hc;exact hc
end
structure Un (fs ex:List Addr)(H H':Hp)(h h':Heap):Prop where
 keep:∀ b o,h.get? b=some o->H b=none->b ∉ fs->b ∉ ex->h'.get? b=some o
 slot:∀ b o,h.get? b=some o->H b=none->b∈fs->b ∉ ex->∃ sl,h'.get? b=some { o with slots:=sl}
 free:∀ b o,h.get? b=some o->H b=none->b ∉ ex->H' b=none
 there:∀ b o,h.get? b=some o->b ∉ ex->∃ o',h'.get? b=some o'
 BM:∀ b xs,H b=some (.tup xs)->H' b=some (.tup xs)
 zZ:∀ b o u,H b=some (.bU o u)->H' b=some (.bU o u)
 BN:∀ b ps,H b=some (.QL ps)->∃ more,H' b=some (.QL (ps ++ more))
section
variable {fs ex:List Addr}{H H1:Hp}{h h1 h':Heap}{a x e:Addr}{o:HO}
theorem Un.any (u:Un fs ex H H1 h h1){b:Addr}{ob:Obj}(q:h.get? b=some ob)(n:H b=none)(hx:b ∉ ex):∃ sl,h1.get? b=some { ob with slots:=sl}:=by
 by_cases hb:b∈fs
 . exact u.slot b ob q n hb hx
 . exact⟨ob.slots,u.keep b ob q n hb hx⟩
theorem Un.kept (k:∀ b u,h.get? b=some u->h'.get? b=some u):Un fs ex H H h h':=
 ⟨fun b ob q _ _ _=>k b ob q,fun b ob q _ _ _=>⟨ob.slots,k b ob q⟩,fun _ _ _ n _=>n,fun b ob q _=>⟨ob,k b ob q⟩,fun _ _ q=>q,fun _ _ _ q=>q,fun _ ps q=>⟨#[],by rw[q];simp⟩⟩
theorem Un.refl:Un fs ex H H h h:=Un.kept fun _ _ q=>q
theorem Un.laid (k:∀ b u,h.get? b=some u->h'.get? b=some u)(hp:h.objs.size<=a)(hn:H a=none):Un fs ex H (upd H a o) h h' where
 keep:=fun b u q _ _ _=>k b u q
 slot:=fun b u q _ _ _=>⟨u.slots,k b u q⟩
 free:=fun b u q n _=>by rw[ai (aat (aal (aak q) hp))];exact n
 there:=fun b u q _=>⟨u,k b u q⟩
 BM:=fun b xs q=>by rw[ai (ax q hn)];exact q
 zZ:=fun b u xs q=>by rw[ai (ax q hn)];exact q
 BN:=fun b ps q=>⟨#[],by rw[ai (ax q hn),q];simp⟩
theorem Un.write (mu:Ut (H x))(he:e=x\/H e=some (.own x))(k:∀ b u,b≠e->h.get? b=some u->h'.get? b=some u)(Uu:∃ u,h'.get? e=some u):Un fs ex H (upd H x o) h h':=by
 have hx:∀ b,H b=none->b≠x:=fun b n z=>by subst z;rw[n] at mu;exact mu
 have hb:∀ b,H b=none->b≠e:=fun b n z=>by
   subst z;rcases he with r | r
   . exact hx b n r
   . rw[n] at r;cases r
 have hm:∀ b u,H b=some u->¬ Ut (some u)->b≠x:=fun b u q nm z=>by subst z;rw[q] at mu;exact nm mu
 refine⟨fun b u q n _ _=>k b u (hb b n) q,fun b u q n _ _=>⟨u.slots,k b u (hb b n) q⟩,fun b u q n _=>by rw[ai (hx b n)];exact n,fun b u q _=>?_,
   fun b xs q=>by rw[ai (hm b _ q fun z=>z)];exact q,fun b u xs q=>by rw[ai (hm b _ q fun z=>z)];exact q,fun b ps q=>⟨#[],by rw[ai (hm b _ q fun z=>z),q];simp⟩⟩
 by_cases tG:b=e
 . subst tG;exact Uu
 . exact⟨u,k b u tG q⟩
end
noncomputable def cm (h:Heap)(H:Hp):List Addr:=(aah h.objs.size).filter fun a=>(H a).isSome
noncomputable def z5 (h:Heap)(H:Hp):Heap:=PySem.W.hideAll h (cm h H)
theorem Hl (h:Heap)(H:Hp):(z5 h H).objs.size=h.objs.size:=W.hideAll_size _ _
theorem Jg {h:Heap}{H:Hp}{b:Addr}{o:Obj}(e:h.get? b=some o)(n:H b=none):(z5 h H).get? b=some o:=
 W.hideAll_get _ e fun hm=>by
   have q:(H b).isSome=true:=(List.mem_filter.mp hm).2;rw[n] at q;simp at q
theorem M5 {h:Heap}{H:Hp}{b:Addr}{o:Obj}(e:(z5 h H).get? b=some o):h.get? b=some o/\H b=none:=by
 have e':h.get? b=some o:=W.of_hideAll (cm h H) e;refine⟨e',?_⟩;cases q:H b with
 | none=>rfl
 | some x=>
   have hm:b∈cm h H:=List.mem_filter.mpr ⟨abX.mpr (aak e'),by simp[q]⟩;have z:(z5 h H).get? b=none:=W.hideAll_none (cm h H) hm;rw[z] at e;cases e
noncomputable def M6 (g h:Heap)(L:Addr):List (Addr×Obj):=(aah h.objs.size).filterMap fun a=>if a=L\/(g.get? a).isSome=true then none else (h.get? a).map fun o=>(a,o)
noncomputable def rest (g h:Heap)(L d:Addr):List (Addr×Obj):=(M6 g h L).filter fun p=>decide (p.1≠d)
structure Mod (K:W.Frag)(mg:Str->Option Value)(base:Heap):Prop where
 UT:K.In base
 glob:base.Ns mainGlobals mg
 blt:∃ mb,base.Ns builtinsNs mb/\∀ x:Str,x≠"__name__"->mb x=bootBuiltins x
 nolimit:base.NoLimit
structure Cx where
 prog:Program
 w:World
 K:W.Frag
 mg:Str->Option Value
 base:Heap
 A:Around
 N:List Str
 s₀:Shared
 H₀:Hp
 env:Env
 outer:List Env
 stack:List Env
 ex:List Addr
 fn:Str->Bool
 calm:Bool
 pn:List (Addr×Obj)
 xe:Value->Shared->Prop
noncomputable def Jh (l:List Env):List Addr:=l.filterMap (·.frame)
noncomputable abbrev Cx.fs (X:Cx):List Addr:=Jh X.outer
def wu (sc:Scope)(x:Str):Prop:=sc.names.lookup x=some .local\/sc.names.lookup x=some .cell\/sc.names.lookup x=some .free
def Loc (sc:Scope)(x:Str):Prop:=sc.names.lookup x=some .local\/sc.names.lookup x=some .cell
def Look (env:Env)(h:Heap)(m:Str->Option Value)(x:Str)(u:Value):Prop:=
 (env.kindOf x=some .local/\m x=some u)\/((env.kindOf x=some .cell\/env.kindOf x=some .free)/\∃ c,env.cells.lookup x=some c/\h.IsCell c (some u))
structure Cx.Ok (X:Cx):Prop where
 mod:Mod X.K X.mg X.base
 kind:X.env.scope.kind=.function
 glob:X.env.globals=mainGlobals
 blt:X.env.builtins=builtinsNs
 above:X.s₀.heap.objs.size<=X.env.locals
 inj:∀ x y c,X.env.cells.lookup x=some c->X.env.cells.lookup y=some c->x=y
 has:∀ x,(X.env.kindOf x=some .cell\/X.env.kindOf x=some .free)->∃ c,X.env.cells.lookup x=some c
 Uv:∀ x c,X.fn x=true->X.env.cells.lookup x=some c->X.s₀.heap.objs.size<=c
 hd:X.calm=true->X.A.handled=none
 frames:X.A.frames=some X.stack
 UU:X.stack=X.outer\/(X.stack=X.env::X.outer/\X.env.frame=some X.env.locals)
 M7:∀ b∈X.ex,b≠X.env.locals/\∀ x c,X.env.cells.lookup x=some c->c≠b
 bs:∀ b o,X.base.get? b=some o->X.s₀.heap.get? b=some o/\X.H₀ b=none
 Fn:X.base.objs.size<=X.s₀.heap.objs.size
 BO:∀ b o,X.base.get? b=some o->b ∉ X.ex
 BP:∀ b∈X.ex,b ∉ X.fs
 tK:X.s₀.heap.FunFrames X.base X.outer
 Pw:∀ b∈X.fs,X.H₀ b=none
structure Inv (X:Cx)(pins:List (Addr×Obj))(σ:List (Option V))(H:Hp)(s:Shared):Prop where
 ok:X.Ok
 os:s.os=X.s₀.os
 bare:AllBare s.gens
 base:Un X.fs X.ex X.H₀ H X.s₀.heap s.heap
 loc:∃ m,s.heap.Ns X.env.locals m/\∀ (i:Nat) (x:Str) (v:V),X.N[i]?=some x->σ[i]?=some (some v)->wu X.env.scope x->∃ u,RelV v u/\Look X.env s.heap m x u
 cell:∀ x c,X.env.cells.lookup x=some c->∃ v,s.heap.IsCell c v
 free:H X.env.locals=none
 qW:∀ x c,X.env.cells.lookup x=some c->H c=none
 pin:∀ p∈X.pn ++ pins,s.heap.get? p.1=some p.2/\H p.1=none/\p.1≠X.env.locals/\p.1 ∉ X.fs/\∀ v,p.2.data≠.cell v
 bO:r6 X.prog X.w H s.heap
 len:σ.length=X.N.length
section
variable {X:Cx}{pins:List (Addr×Obj)}{σ:List (Option V)}{H H':Hp}{s:Shared}{h':Heap}
theorem Cx.Ok.QO (ok:X.Ok){b:Addr}{o:Obj}(e:X.base.get? b=some o):b ∉ X.fs:=fun hb=>by
 have:=(ok.tK.mem hb).1;rw[e] at this;cases this
theorem Inv.bs (I:Inv X pins σ H s):∀ b o,X.base.get? b=some o->s.heap.get? b=some o/\H b=none:=fun b o e=>
 ⟨I.base.keep b o (I.ok.bs b o e).1 (I.ok.bs b o e).2 (I.ok.QO e) (I.ok.BO b o e),I.base.free b o (I.ok.bs b o e).1 (I.ok.bs b o e).2 (I.ok.BO b o e)⟩
theorem Inv.bk (I:Inv X pins σ H s):∀ b o,X.base.get? b=some o->s.heap.get? b=some o:=fun b o e=>(I.bs b o e).1
theorem Inv.mod (I:Inv X pins σ H s):Mod X.K X.mg X.base:=I.ok.mod
theorem Inv.BQ (I:Inv X pins σ H s):X.K.In s.heap:=I.ok.mod.UT.keeps I.bk
theorem Inv.lt (I:Inv X pins σ H s):X.env.locals < s.heap.objs.size:=let ⟨_,hn,_⟩:=I.loc;hn.lt
theorem Inv.sz (I:Inv X pins σ H s):X.s₀.heap.objs.size<=s.heap.objs.size:=aau I.ok.above (abw I.lt)
theorem Inv.YQ (I:Inv X pins σ H s){a:Addr}(h:s.heap.objs.size<=a):a ∉ X.fs:=fun hb=>by
 obtain⟨_,o,ho,_⟩:=I.ok.tK.mem hb;exact absurd (aal (aak ho) (aau I.sz h)) (abA _)
theorem Inv.DF (I:Inv X pins σ H s):∀ x c,X.env.cells.lookup x=some c->c≠X.env.locals:=fun x c e z=>by
 obtain⟨v,o,ho,hd⟩:=I.cell x c e;obtain⟨m,⟨o',es,ep,Ji,Uw,_⟩,_⟩:=I.loc;rw[z,Ji] at ho;cases ho;rw[Uw] at hd;cases hd
theorem Inv.tK (I:Inv X pins σ H s):s.heap.FunFrames X.base X.outer:=by
 have all:∀ (l:List Env),(∀ b∈Jh l,b∈X.fs)->X.s₀.heap.FunFrames X.base l->s.heap.FunFrames X.base l:=by
   intro l
   induction l with
   | nil=>intro _ _;trivial
   | cons env r ih=>
     intro hs hl;obtain⟨hk,⟨L,o,hf,hn,ho,hd⟩,hr⟩:=hl;have hL:L∈X.fs:=hs L (by unfold Jh;rw[acs,hf];exact abk);obtain⟨sl,e⟩:=I.base.slot L o ho (I.ok.Pw L hL) hL fun z=>I.ok.BP L z hL
     exact⟨hk,⟨L,_,hf,hn,e,hd⟩,ih (fun b hb=>hs b (by unfold Jh;rw[acs,hf];exact aaC _ hb)) hr⟩
 exact all X.outer (fun _ hb=>hb) I.ok.tK
theorem Inv.stack (I:Inv X pins σ H s):s.heap.FunFrames X.base X.stack:=by
 rcases I.ok.UU with e | ⟨e,hf⟩
 . rw[e];exact I.tK
 . rw[e]
   obtain⟨m,hn,_⟩:=I.loc;refine .cons (by rw[I.ok.kind];decide) hf hn ?_ I.tK;exact Heap.get?_none_of_le (aau I.ok.Fn I.ok.above)
theorem Inv.wz (I:Inv X pins σ H s):∀ b∈Jh X.stack,b∈X.env.locals::X.fs:=fun b hb=>by
 rcases I.ok.UU with e | ⟨e,hf⟩
 . rw[e] at hb;exact aaC _ hb
 . rw[e] at hb
   unfold Jh at hb;rw[acs,hf] at hb;exact hb
theorem Inv.vD (I:Inv X pins σ H s):∀ b∈Jh X.stack,H b=none:=fun b hb=>by
 rcases aaJ.mp (I.wz b hb) with e | hb
 . rw[e];exact I.free
 . obtain⟨_,o,ho,_⟩:=I.ok.tK.mem hb
   exact I.base.free b o ho (I.ok.Pw b hb) fun z=>I.ok.BP b z hb
theorem Inv.step {g':Array GenState}{t':Nat}{d':Drawn}{ch:List Addr}(I:Inv X pins σ H s)(BG:∀ b∈ch,(b∈X.ex\/X.s₀.heap.objs.size<=b)/\b≠X.env.locals/\(∀ x c,X.env.cells.lookup x=some c->c≠b)/\∀ p∈X.pn ++ pins,p.1≠b)(keep:∀ b o,b≠X.env.locals->b ∉ X.fs->b ∉ ch->s.heap.get? b=some o->H b=none->h'.get? b=some o)(slot:∀ b o,b≠X.env.locals->b∈X.fs->b ∉ ch->s.heap.get? b=some o->H b=none->∃ sl,h'.get? b=some { o with slots:=sl})(free:∀ b o,b ∉ ch->s.heap.get? b=some o->H b=none->H' b=none)(there:∀ b o,b ∉ ch->s.heap.get? b=some o->∃ o',h'.get? b=some o')(BM:∀ b xs,H b=some (.tup xs)->H' b=some (.tup xs))(zZ:∀ b o u,H b=some (.bU o u)->H' b=some (.bU o u))(BN:∀ b ps,H b=some (.QL ps)->∃ more,H' b=some (.QL (ps ++ more)))(ns:∀ m,s.heap.Ns X.env.locals m->h'.Ns X.env.locals m)(bO:r6 X.prog X.w H' h')(hg:AllBare g'):Inv X pins σ H' { s with heap:=h',gens:=g',drawn:=d',toks:=t'}:=by
 have neL:∀ b o,X.s₀.heap.get? b=some o->b≠X.env.locals:=fun b o e=>aat (aal (aak e) I.ok.above)
 have X4:∀ b o,X.s₀.heap.get? b=some o->b ∉ X.ex->b ∉ ch:=fun b o e hx hb=>by
   rcases (BG b hb).1 with z | z
   . exact hx z
   . exact absurd (aal (aak e) z) (abA _)
 have cellK:∀ x c,X.env.cells.lookup x=some c->∀ v,s.heap.IsCell c v->h'.IsCell c v:=fun x c e v ⟨o,ho,hd⟩=>by
   have UW:c ∉ ch:=fun z=>(BG c z).2.2.1 x c e rfl
   by_cases hc:c∈X.fs
   . obtain⟨sl,q⟩:=slot c o (I.DF x c e) hc UW ho (I.qW x c e)
     exact⟨_,q,hd⟩
   . exact⟨o,keep c o (I.DF x c e) hc UW ho (I.qW x c e),hd⟩
 refine⟨I.ok,I.os,hg,⟨fun b o e n hb hx=>?_,fun b o e n hb hx=>?_,fun b o e n hx=>?_,fun b o e hx=>?_,fun b xs e=>BM b xs (I.base.BM b xs e),fun b o xs e=>zZ b o xs (I.base.zZ b o xs e),fun b ps e=>?_⟩,?_,fun x c e=>?_,?_,fun x c e=>?_,fun p hp=>?_,bO,I.len⟩
 . exact keep b o (neL b o e) hb (X4 b o e hx) (I.base.keep b o e n hb hx) (I.base.free b o e n hx)
 . obtain⟨sl,e1⟩:=I.base.slot b o e n hb hx
   obtain⟨sl',e2⟩:=slot b _ (neL b o e) hb (X4 b o e hx) e1 (I.base.free b o e n hx);exact⟨sl',e2⟩
 . obtain⟨o',e1⟩:=I.base.there b o e hx
   exact free b o' (X4 b o e hx) e1 (I.base.free b o e n hx)
 . obtain⟨o',e1⟩:=I.base.there b o e hx
   exact there b o' (X4 b o e hx) e1
 . obtain⟨m1,e1⟩:=I.base.BN b ps e
   obtain⟨m2,e2⟩:=BN b _ e1;exact⟨m1 ++ m2,by rw[e2,Array.append_assoc]⟩
 . obtain⟨m,hn,hl⟩:=I.loc
   refine⟨m,ns m hn,fun i x v e1 e2 e3=>?_⟩;obtain⟨u,r,l⟩:=hl i x v e1 e2 e3;refine⟨u,r,?_⟩;rcases l with l | ⟨k,c,e,z⟩
   . exact .inl l
   . exact .inr ⟨k,c,e,cellK x c e _ z⟩
 . obtain⟨v,z⟩:=I.cell x c e
   exact⟨v,cellK x c e v z⟩
 . obtain⟨m,⟨o,_,_,ho,_⟩,_⟩:=I.loc
   exact free _ o (fun z=>(BG _ z).2.1 rfl) ho I.free
 . obtain⟨v,o,ho,hd⟩:=I.cell x c e
   exact free c o (fun z=>(BG c z).2.2.1 x c e rfl) ho (I.qW x c e)
 . obtain⟨e,n,ne,nf,d⟩:=I.pin p hp
   have UW:p.1 ∉ ch:=fun z=>(BG p.1 z).2.2.2 p hp rfl
   exact⟨keep p.1 p.2 ne nf UW e n,free p.1 p.2 UW e n,ne,nf,d⟩
theorem Inv.un {t':Nat}(I:Inv X pins σ H s)(u:Un X.fs [] H H' s.heap h')(bO:r6 X.prog X.w H' h'):Inv X pins σ H' { s with heap:=h',toks:=t'}:=by
 obtain⟨m,⟨o,es,ep,ho,r⟩,_⟩:=id I.loc;obtain⟨sl,hL⟩:=u.any ho I.free (by simp);exact I.step (g':=s.gens) (d':=s.drawn) (ch:=[]) (fun _ z=>nomatch z) (fun b o _ hb _ e n=>u.keep b o e n hb (by simp)) (fun b o _ hb _ e n=>u.slot b o e n hb (by simp)) (fun b o _ e n=>u.free b o e n (by simp)) (fun b o _ e=>u.there b o e (by simp)) u.BM u.zZ u.BN (fun m' hm=>by
   obtain⟨o',M8,YR,Ji,r'⟩:=hm;rw[ho] at Ji;cases Ji;exact⟨_,M8,YR,hL,r'⟩) bO I.bare
theorem Inv.call {g':Array GenState}{t':Nat}{d':Drawn}{ch:List Addr}(I:Inv X pins σ H s)(u:Un (Jh X.stack) ch H H' s.heap h')(bO:r6 X.prog X.w H' h')(hg:AllBare g')(BG:∀ b∈ch,(b∈X.ex\/X.s₀.heap.objs.size<=b)/\b≠X.env.locals/\(∀ x c,X.env.cells.lookup x=some c->c≠b)/\∀ p∈X.pn ++ pins,p.1≠b):Inv X pins σ H' { s with heap:=h',gens:=g',drawn:=d',toks:=t'}:=by
 obtain⟨m,⟨o,es,ep,ho,r⟩,_⟩:=id I.loc;obtain⟨sl,hL⟩:=u.any ho I.free fun z=>(BG _ z).2.1 rfl
 exact I.step (ch:=ch) BG (fun b o hL hb hc e n=>u.keep b o e n (fun z=>(aaJ.mp (I.wz b z)).elim hL hb) hc) (fun b o _ _ hc e n=>u.any e n hc) (fun b o hc e n=>u.free b o e n hc) (fun b o hc e=>u.there b o e hc) u.BM u.zZ u.BN (fun m' hm=>by
   obtain⟨o',M8,YR,Ji,r'⟩:=hm;rw[ho] at Ji;cases Ji;exact⟨_,M8,YR,hL,r'⟩) bO hg
theorem Inv.turned {t':Nat}{it:Addr}(I:Inv X pins σ H s)(k:∀ b o,b≠it->s.heap.get? b=some o->h'.get? b=some o)(hn:H it=none)(hL:it≠X.env.locals)(h1:it∈X.ex\/X.s₀.heap.objs.size<=it)(h2:∀ x c,X.env.cells.lookup x=some c->c≠it)(h3:∀ p∈X.pn ++ pins,p.1≠it):Inv X pins σ H { s with heap:=h',toks:=t'}:=by
 have UX:∀ b u,H b=some u->b≠it:=fun b u e z=>by rw[z,hn] at e;cases e
 refine I.step (g':=s.gens) (d':=s.drawn) (ch:=[it]) (fun b hb=>?_) (fun b o _ _ hc e _=>k b o (fun z=>hc (by simp[z])) e) (fun b o _ _ hc e _=>⟨o.slots,k b o (fun z=>hc (by simp[z])) e⟩) (fun _ _ _ _ n=>n)
   (fun b o hc e=>⟨o,k b o (fun z=>hc (by simp[z])) e⟩) (fun _ _ e=>e) (fun _ _ _ e=>e) (fun b ps e=>⟨#[],by rw[e];simp⟩) (fun m hm=>?_) (fun b u e=>?_) I.bare
 . have e:b=it:=by simpa using hb
   subst e;exact⟨h1,hL,h2,h3⟩
 . obtain⟨o,es,ep,ho,r⟩:=hm
   exact⟨o,es,ep,k _ o (Ne.symm hL) ho,r⟩
 . refine(I.bO b u e).zX (fun c v hc q=>k c v ?_ q) (fun _ q=>q) (fun _ _ q=>q) .refl
   rcases hc with z | z | z
   . rw[z];exact UX b u e
   . exact UX c _ z
   . exact fun z'=>by rw[z',hn] at z;exact z
theorem Inv.tok (I:Inv X pins σ H s)(t:Nat):Inv X pins σ H { s with toks:=t}:=I.un (h':=s.heap) (t':=t) Un.refl I.bO
theorem Inv.kept {t':Nat}(I:Inv X pins σ H s)(k:∀ b u,s.heap.get? b=some u->h'.get? b=some u):Inv X pins σ H { s with heap:=h',toks:=t'}:=I.un (Un.kept k) (I.bO.kept k)
theorem Inv.laid {a:Addr}{o:HO}{t':Nat}(I:Inv X pins σ H s)(k:∀ b u,s.heap.get? b=some u->h'.get? b=some u)(hp:s.heap.objs.size<=a)(new:aV X.prog X.w (upd H a o) h' a o):Inv X pins σ (upd H a o) { s with heap:=h',toks:=t'}:=I.un (Un.laid k hp (I.bO.fresh hp)) (I.bO.laid k hp new)
theorem Inv.write {x e:Addr}{o:HO}{t':Nat}(I:Inv X pins σ H s)(mu:Ut (H x))(he:e=x\/H e=some (.own x))(k:∀ b u,b≠e->s.heap.get? b=some u->h'.get? b=some u)(Uu:∃ u,h'.get? e=some u)(new:aV X.prog X.w (upd H x o) h' x o):Inv X pins σ (upd H x o) { s with heap:=h',toks:=t'}:=I.un (Un.write mu he k Uu) (I.bO.write mu he k Uu new)
theorem Inv.Fp {Jj:List (Addr×Obj)}(I:Inv X pins σ H s)(h:∀ p∈Jj,s.heap.get? p.1=some p.2/\H p.1=none/\p.1≠X.env.locals/\p.1 ∉ X.fs/\∀ v,p.2.data≠.cell v):Inv X Jj σ H s:=
 ⟨I.ok,I.os,I.bare,I.base,I.loc,I.cell,I.free,I.qW,fun p hp=>(abI.mp hp).elim (fun z=>I.pin p (List.mem_append_left _ z)) (h p),I.bO,I.len⟩
theorem BR {N:List Str}(hN:N.Nodup){i j:Nat}{x:Str}(a:N[i]?=some x)(b:N[j]?=some x):i=j:=by
 obtain⟨h1,e1⟩:=aae.mp a;obtain⟨h2,e2⟩:=aae.mp b;exact(List.getElem_inj hN).mp (e1.trans e2.symm)
theorem qe {M:Model}{A:Around}{E:Value->Shared->Prop}{i:Nat}{x:Str}{v:V}{u:Value}{Q:Unit->Shared->Prop}(I:Inv X pins σ H s)(hN:X.N.Nodup)(hi:X.N[i]?=some x)(hx:Loc X.env.scope x)(r:RelV v u)(h:∀ s',Inv X pins (σ.set i (some v)) H s'->(∃ a,abY a s.heap s'.heap/\(a=X.env.locals\/X.env.cells.lookup x=some a))->Q () s')(hf:autoParam (X.fn x=true\/X.env.scope.names.lookup x=some .local) wf):wpAny M A (storeName X.env x u) Q E s:=by
 obtain⟨m,hn,hl⟩:=id I.loc;have YS:(X.env.scope.kind == .class || (X.env.scope.kind == .module && X.env.locals != X.env.globals))=false:=by rw[I.ok.kind];rfl
 have hiσ:i < σ.length:=by rw[I.len];exact(aae.mp hi).1
 have DF:=I.DF;have tracked:∀ {a:Addr} {h':Heap},(∃ o,s.heap.get? a=some o/\H a=none)->abY a s.heap h'->r6 X.prog X.w H h':=fun {a h'} ha hs b ob e=>by
   obtain⟨_,_,Jl⟩:=ha;refine(I.bO b ob e).zX (fun c w' hc q=>(hs.2 c ?_).trans q) (fun _ q=>q) (fun _ _ q=>q) .refl
   rintro rfl
   rcases hc with rfl | hc | hc
   . rw[Jl] at e;cases e
   . rw[Jl] at hc;cases hc
   . rw[Jl] at hc;exact hc
 rcases hx with hk | hk
 . refine wpAny_storeName_local hk hn (fun h' Ux hs=>?_) YS
   obtain⟨oL,_,_,hoL,_⟩:=id hn;refine h _ ⟨I.ok,I.os,I.bare,⟨fun b o e n hb hx=>?_,fun b o e n hb hx=>?_,I.base.free,fun b o e hx=>?_,I.base.BM,I.base.zZ,I.base.BN⟩,⟨_,Ux,fun j y v' e1 e2 e3=>?_⟩,fun y c e=>?_,I.free,I.qW,fun p hp=>?_,tracked ⟨oL,hoL,I.free⟩ hs,by simpa using I.len⟩ ⟨_,hs,.inl rfl⟩
   . exact(hs.2 b (aat (aal (aak e) I.ok.above))).trans (I.base.keep b o e n hb hx)
   . obtain⟨sl,e1⟩:=I.base.slot b o e n hb hx
     exact⟨sl,(hs.2 b (aat (aal (aak e) I.ok.above))).trans e1⟩
   . obtain⟨o',e1⟩:=I.base.there b o e hx
     exact⟨o',(hs.2 b (aat (aal (aak e) I.ok.above))).trans e1⟩
   . by_cases hj:j=i
     . subst hj
       rw[hi] at e1;cases e1;rw[aaf hiσ] at e2;cases e2;exact⟨u,r,.inl ⟨hk,by simp⟩⟩
     . rw[aag (Ne.symm hj)] at e2
       obtain⟨u',r',q⟩:=hl j y v' e1 e2 e3;refine⟨u',r',?_⟩;rcases q with⟨k,e⟩ | ⟨k,c,e,z⟩
       . refine .inl ⟨k,?_⟩
         have:y≠x:=fun e=>hj (BR hN e1 (e ▸ hi))
         simp[this,e]
       . exact .inr ⟨k,c,e,z.sameBut hs (DF y c e)⟩
   . obtain⟨w',z⟩:=I.cell y c e
     exact⟨w',z.sameBut hs (DF y c e)⟩
   . obtain⟨e,n,ne,nf,d⟩:=I.pin p hp
     exact⟨(hs.2 p.1 ne).trans e,n,ne,nf,d⟩
 . have YT:X.fn x=true:=by
     rcases hf with z | z
     . exact z
     . rw[z] at hk;cases hk
   obtain⟨c,hc⟩:=I.ok.has x (.inl hk);obtain⟨w',z⟩:=I.cell x c hc;refine wpAny_storeName_cell I.ok.kind hk hc z (fun h' DG hs=>?_);obtain⟨oc,Fq,YU⟩:=id z;refine h { s with heap:=h'} ⟨I.ok,I.os,I.bare,⟨fun b o e n hb hx=>?_,fun b o e n hb hx=>?_,I.base.free,fun b o e hx=>?_,I.base.BM,I.base.zZ,I.base.BN⟩,⟨m,hn.sameBut hs (Ne.symm (DF x c hc)),fun j y v' e1 e2 e3=>?_⟩,fun y c' e=>?_,I.free,I.qW,fun p hp=>?_,tracked ⟨oc,Fq,I.qW x c hc⟩ hs,by simpa using I.len⟩ ⟨c,hs,.inr hc⟩
   . exact(hs.2 b (aat (aal (aak e) (I.ok.Uv x c YT hc)))).trans (I.base.keep b o e n hb hx)
   . obtain⟨sl,e1⟩:=I.base.slot b o e n hb hx
     exact⟨sl,(hs.2 b (aat (aal (aak e) (I.ok.Uv x c YT hc)))).trans e1⟩
   . obtain⟨o',e1⟩:=I.base.there b o e hx
     exact⟨o',(hs.2 b (aat (aal (aak e) (I.ok.Uv x c YT hc)))).trans e1⟩
   . by_cases hj:j=i
     . subst hj
       rw[hi] at e1;cases e1;rw[aaf hiσ] at e2;cases e2;exact⟨u,r,.inr ⟨.inl hk,c,hc,DG⟩⟩
     . rw[aag (Ne.symm hj)] at e2
       obtain⟨u',r',q⟩:=hl j y v' e1 e2 e3;refine⟨u',r',?_⟩;rcases q with q | ⟨k,c',e,z'⟩
       . exact .inl q
       . refine .inr ⟨k,c',e,z'.sameBut hs ?_⟩
         rintro rfl
         exact hj (BR hN e1 (I.ok.inj _ _ _ e hc ▸ hi))
   . by_cases UY:c'=c
     . subst UY;exact⟨_,DG⟩
     . obtain⟨w2,z2⟩:=I.cell y c' e
       exact⟨w2,z2.sameBut hs UY⟩
   . obtain⟨e,n,ne,nf,d⟩:=I.pin p hp
     refine⟨(hs.2 p.1 ?_).trans e,n,ne,nf,d⟩;intro q;rw[q,Fq] at e;have q':oc=p.2:=Option.some.inj e;exact d w' (by rw[<- q'];exact YU)
theorem sd {M:Model}{A:Around}{E:Value->Shared->Prop}{i:Nat}{x:Str}{v:V}{u:Value}{Q:Unit->Shared->Prop}(I:Inv X pins σ H s)(hN:X.N.Nodup)(hi:X.N[i]?=some x)(hx:Loc X.env.scope x)(r:RelV v u)(h:∀ s',Inv X pins (σ.set i (some v)) H s'->Q () s')(hf:autoParam (X.fn x=true\/X.env.scope.names.lookup x=some .local) wf):wpAny M A (storeName X.env x u) Q E s:=
 qe I hN hi hx r (fun s' I' _=>h s' I') hf
theorem Inv.Jm {s':Shared}{ch:List Addr}(I:Inv X pins σ H s)(ho:s'.os=s.os)(u:Un (Jh X.stack) ch H H' s.heap s'.heap)(bO:r6 X.prog X.w H' s'.heap)(hg:AllBare s'.gens)(BG:∀ b∈ch,(b∈X.ex\/X.s₀.heap.objs.size<=b)/\b≠X.env.locals/\(∀ x c,X.env.cells.lookup x=some c->c≠b)/\∀ p∈X.pn ++ pins,p.1≠b):Inv X pins σ H' s':=by
 obtain⟨h',g',d',t',o'⟩:=s';have e:o'=s.os:=ho;subst e;exact I.call (g':=g') (t':=t') (d':=d') u bO hg BG
end
abbrev XK:=Value->Option Addr->Hp->Prop
noncomputable abbrev St:=List (Option V)
abbrev VK:=V->Hp->Prop
abbrev TE:=St->Hp->VK->Prop
abbrev TT:=St->Hp->(Bool->Hp->Prop)->Prop
abbrev TA:=St->Hp->(List V->Hp->Prop)->Prop
structure Ends where
 nx:St->Hp->Prop
 rt:VK
 bk:St->Hp->Prop:=fun _ _=>False
 ct:St->Hp->Prop:=fun _ _=>False
abbrev TS:=Ends->St->Hp->Prop
def EP (X:Cx)(pins:List (Addr×Obj))(σ:St)(Q:VK)(u:Value)(s':Shared):Prop:=∃ v H',Inv X pins σ H' s'/\RelV v u/\Q v H'
def TP (X:Cx)(pins:List (Addr×Obj))(σ:St)(Q:Bool->Hp->Prop)(b:Bool)(s':Shared):Prop:=∃ H',Inv X pins σ H' s'/\Q b H'
def AP (X:Cx)(pins:List (Addr×Obj))(σ:St)(Q:List V->Hp->Prop)(us:List Value)(s':Shared):Prop:=∃ vs H',Inv X pins σ H' s'/\Vals vs us/\Q vs H'
def SP (X:Cx)(pins:List (Addr×Obj))(D:Ends)(f:Flow)(s':Shared):Prop:=
 match f with
 | .next=>∃ σ' H',Inv X pins σ' H' s'/\D.nx σ' H'
 | .brk=>∃ σ' H',Inv X pins σ' H' s'/\D.bk σ' H'
 | .cont=>∃ σ' H',Inv X pins σ' H' s'/\D.ct σ' H'
 | .ret u=>∃ v σ' H',Inv X pins σ' H' s'/\RelV v u/\D.rt v H'
def PE (X:Cx)(e:Expr)(t:TE):Prop:=
 ∀ (pins:List (Addr×Obj)) (s:Shared) (σ:St) (H:Hp) (Q:VK),Inv X pins σ H s->t σ H Q->wpAny (model X.prog X.w) X.A (eval e X.env) (EP X pins σ Q) X.xe s
def PT (X:Cx)(e:Expr)(t:TT):Prop:=
 ∀ (pins:List (Addr×Obj)) (s:Shared) (σ:St) (H:Hp) (Q:Bool->Hp->Prop),Inv X pins σ H s->t σ H Q->wpAny (model X.prog X.w) X.A (isTrue e X.env (eval e X.env)) (TP X pins σ Q) X.xe s
def PW (X:Cx)(e:Expr)(t:TT):Prop:=
 ∀ (whole:Sem Value) (pins:List (Addr×Obj)) (s:Shared) (σ:St) (H:Hp) (Q:Bool->Hp->Prop),Inv X pins σ H s->t σ H Q->wpAny (model X.prog X.w) X.A (isTrue e X.env whole) (TP X pins σ Q) X.xe s
theorem PW.pt {X:Cx}{e:Expr}{t:TT}(h:PW X e t):PT X e t:=h _
def PA (X:Cx)(es:List Expr)(t:TA):Prop:=
 ∀ (pos:Pos) (pins:List (Addr×Obj)) (s:Shared) (σ:St) (H:Hp) (Q:List V->Hp->Prop),Inv X pins σ H s->t σ H Q->wpAny (model X.prog X.w) X.A (spliced (backTo pos (starEach es X.env))) (AP X pins σ Q) X.xe s
def PS (X:Cx)(st:Stmt)(t:TS):Prop:=
 ∀ (pins:List (Addr×Obj)) (s:Shared) (σ:St) (H:Hp) (D:Ends),Inv X pins σ H s->t D σ H->wpAny (model X.prog X.w) X.A (exec st X.env) (SP X pins D) X.xe s
def DN (X:Cx)(st:List Stmt)(t:TS):Prop:=
 ∀ (pins:List (Addr×Obj)) (s:Shared) (σ:St) (H:Hp) (D:Ends),Inv X pins σ H s->t D σ H->wpAny (model X.prog X.w) X.A (execs st X.env) (SP X pins D) X.xe s
theorem cn {α:Type}{t:Sem α}{Q Q':α->Shared->Prop}{M:Model}{A:Around}{E:Value->Shared->Prop}{s:Shared}(h:wpAny M A t Q E s)(hQ:∀ a s,Q a s->Q' a s):wpAny M A t Q' E s:=wpAny_mono h hQ fun _ _ x=>x
section
variable {X:Cx}
def YV (i:Nat):TE:=fun σ H Q=>∃ v,σ[i]?=some (some v)/\Q v H
def tC (v:V):TE:=fun _ H Q=>Q v H
theorem ke {i:Nat}{x:Str}{pos:Pos}(hN:X.N[i]?=some x)(hv:wu X.env.scope x)(hd:autoParam ((x == ("__debug__":Str))=false) zn)(nz:autoParam ((x == ("__classdict__":Str))=false) zn):PE X (.Name x pos) (YV i):=by
 intro pins s σ H Q I h;obtain⟨v,e,h⟩:=h;obtain⟨m,hn,hl⟩:=I.loc;obtain⟨u,r,l⟩:=hl i x v hN e hv;have fin:EP X pins σ Q u s:=⟨v,H,I,r,h⟩
 rcases l with⟨hk,hm⟩ | ⟨hk,c,hc,Px⟩
 . exact wpAny_Name (wpAny_loadName_local I.ok.kind hk hn hm fin) hd
 . rcases hk with hk | hk
   . exact wpAny_Name (wpAny_loadName_cell I.ok.kind hk hc Px fin) hd
   . exact wpAny_Name (wpAny_loadName_free I.ok.kind hk hc Px fin nz) hd
theorem QP {i j pos}:PE X (.Constant (.int i) j pos) (tC (.int i)):=fun _ _ _ H _ I h=>wpAny_Constant_int ⟨.int i,H,I.tok _,⟨_,rfl⟩,h⟩
theorem QQ {x j pos}:PE X (.Constant (.str x) j pos) (tC (.str x)):=fun _ _ _ H _ I h=>Calls.Constant_str ⟨.str x,H,I.tok _,⟨_,rfl⟩,h⟩
def Gl (X:Cx)(x:Str):Prop:=X.env.kindOf x=some .globalImplicit
theorem vE {E:Value->Shared->Prop}{pins:List (Addr×Obj)}{s:Shared}{σ:St}{H:Hp}{x:Str}{u:Value}{pos:Pos}{Q:Value->Shared->Prop}(I:Inv X pins σ H s)(hg:Gl X x)(hm:X.mg x=some u)(h:Q u s)(hd:autoParam ((x == ("__debug__":Str))=false) zn):wpAny (model X.prog X.w) X.A (eval (.Name x pos) X.env) Q E s:=
 Calls.Name_function_global I.ok.kind hg (Calls.loadGlobal_global (by rw[I.ok.glob];exact I.mod.glob.keeps I.bk) hm h) hd
theorem tL {E:Value->Shared->Prop}{pins:List (Addr×Obj)}{s:Shared}{σ:St}{H:Hp}{x:Str}{u:Value}{pos:Pos}{Q:Value->Shared->Prop}(I:Inv X pins σ H s)(hg:Gl X x)(hm:X.mg x=none)(hv:bootBuiltins x=some u)(h:Q u s)(hn:autoParam (x≠"__name__") zn)(hd:autoParam ((x == ("__debug__":Str))=false) zn):wpAny (model X.prog X.w) X.A (eval (.Name x pos) X.env) Q E s:=by
 obtain⟨mb,h1,h2⟩:=I.mod.blt;exact Calls.Name_function_global I.ok.kind hg (Calls.loadGlobal_builtin (by rw[I.ok.glob];exact I.mod.glob.keeps I.bk) hm (by rw[I.ok.blt];exact h1.keeps I.bk) ((h2 x hn).trans hv) h) hd
theorem M9 {x:Str}{v:V}{u:Value}{pos:Pos}(hg:Gl X x)(hm:X.mg x=some u)(r:RelV v u)(hd:autoParam ((x == ("__debug__":Str))=false) zn):PE X (.Name x pos) (tC v):=
 fun _ _ _ H _ I h=>vE I hg hm ⟨v,H,I,r,h⟩ hd
variable {a b:Expr}{ta tb:TE}{pos:Pos}
def PC (X:Cx)(op:CmpOp)(a b:Expr)(t:TE):Prop:=
 ∀ (pins:List (Addr×Obj)) (s:Shared) (σ:St) (H:Hp) (Q:VK),Inv X pins σ H s->t σ H Q ->
   wpAny (model X.prog X.w) X.A (eval a X.env) (fun v s₁=>wpAny (model X.prog X.w) X.A (eval b X.env) (fun u s₂=>wpAny (model X.prog X.w) X.A (compareOp op v u) (EP X pins σ Q) X.xe s₂) X.xe s₁) X.xe s
def tB (t:TE):TT:=fun σ H Q=>t σ H fun x H1=>∃ c,x=.bl c/\Q c H1
theorem Jn {op:CmpOp}{t:TE}(h:PC X op a b t)(h1:behindInMarks op b=false:=by first | exact UZ _ (by decide) (by decide) | rfl):PT X (.Compare a [op] [b] pos) (tB t):=by
 intro pins s σ H Q I hw;refine wpAny_isTrue_Compare1 (cn (h pins s σ H _ I hw) fun v s1 h1=>cn h1 fun u s2 h2=>cn h2 fun c s3 zq=>Exists.elim zq fun x zq=>Exists.elim zq fun H1 zq=>have I1:=zq.1;have r1:=zq.2.1;have q1:=zq.2.2;?_) h1;obtain⟨d,rfl,q⟩:=q1;cases r1;exact wpAny_truthy_bool ⟨H1,I1,q⟩
theorem QR {e:Expr}{t:TE}(h:PE X e t)(he:autoParam (∀ whole,isTrue e X.env whole=(do let v <- whole;standAt e.pos;holding [v] (truthy v))) v6):PT X e (tB t):=by
 intro pins s σ H Q I hw;refine isTrue_plain (cn (h pins s σ H _ I hw) fun v s1 zq=>Exists.elim zq fun x zq=>Exists.elim zq fun H1 zq=>have I1:=zq.1;have r1:=zq.2.1;have q1:=zq.2.2;?_) (he _);obtain⟨d,rfl,q⟩:=q1;cases r1;exact wpAny_truthy_bool ⟨H1,I1,q⟩
variable {tA X5:TT}{rest:List Expr}
def YW (t u:TT):TT:=fun σ H Q=>t σ H fun c H1=>if c=true then u σ H1 Q else Q false H1
def tOr (t u:TT):TT:=fun σ H Q=>t σ H fun c H1=>if c=true then Q true H1 else u σ H1 Q
def YX (t:TT):TT:=fun σ H Q=>t σ H fun c H1=>Q (!c) H1
theorem pw_and1 (ha:PT X a tA):PW X (.BoolOp .And [a] pos) tA:=by
 intro wh pins s σ H Q I h;refine isTrue_and (cn (ha pins s σ H Q I h) fun c s1 e=>?_);cases c with
 | true=>exact isTrue_and_nil e
 | false=>exact e
theorem pw_or1 (ha:PT X a tA):PW X (.BoolOp .Or [a] pos) tA:=by
 intro wh pins s σ H Q I h;refine isTrue_or (cn (ha pins s σ H Q I h) fun c s1 e=>?_);cases c with
 | false=>exact isTrue_or_nil e
 | true=>exact e
theorem pw_and (ha:PT X a tA)(hb:PW X (.BoolOp .And (b::rest) pos) X5):PW X (.BoolOp .And (a::b::rest) pos) (YW tA X5):=by
 intro wh pins s σ H Q I h;refine isTrue_and (cn (ha pins s σ H _ I h) fun c s1 zq=>Exists.elim zq fun H1 zq=>have I1:=zq.1;have q1:=zq.2;?_);cases c with
 | true=>exact hb wh pins s1 σ H1 Q I1 q1
 | false=>exact⟨H1,I1,q1⟩
theorem pw_or (ha:PT X a tA)(hb:PW X (.BoolOp .Or (b::rest) pos) X5):PW X (.BoolOp .Or (a::b::rest) pos) (tOr tA X5):=by
 intro wh pins s σ H Q I h;refine isTrue_or (cn (ha pins s σ H _ I h) fun c s1 zq=>Exists.elim zq fun H1 zq=>have I1:=zq.1;have q1:=zq.2;?_);cases c with
 | true=>exact⟨H1,I1,q1⟩
 | false=>exact hb wh pins s1 σ H1 Q I1 q1
theorem QT (ha:PT X a tA):PT X (.UnaryOp .Not a pos) (YX tA):=by
 intro pins s σ H Q I h;exact isTrue_not (ha pins s σ H (fun c H1=>Q (!c) H1) I h)
def U0 (ta tb:TE):TE:=fun σ H Q=>ta σ H fun x H1=>∃ c,x=.bl c/\if c=true then tb σ H1 Q else Q (.bl false) H1
theorem QU {op}{t:TE}(h:PE X a t):PE X (.BoolOp op [a] pos) t:=fun pins s σ H Q I hw=>BoolOp_one (h pins s σ H Q I hw)
theorem Jo (ha:PE X a ta)(hb:PE X (.BoolOp .And (b::rest) pos) tb):PE X (.BoolOp .And (a::b::rest) pos) (U0 ta tb):=by
 intro pins s σ H Q I h;refine BoolOp_and (cn (ha pins s σ H _ I h) fun v s1 zq=>Exists.elim zq fun x zq=>Exists.elim zq fun H1 zq=>have I1:=zq.1;have r1:=zq.2.1;have q1:=zq.2.2;?_);obtain⟨c,rfl,q1⟩:=q1;cases r1;refine wpAny_truthy_bool ?_;cases c with
 | true=>exact hb pins s1 σ H1 Q I1 q1
 | false=>exact⟨.bl false,H1,I1,rfl,q1⟩
def tIf (t:TT)(ta tb:TE):TE:=fun σ H Q=>t σ H fun c H1=>if c=true then ta σ H1 Q else tb σ H1 Q
theorem BS {c:Expr}(hc:PT X c tA)(ha:PE X a ta)(hb:PE X b tb):PE X (.IfExp c a b pos) (tIf tA ta tb):=by
 intro pins s σ H Q I h;refine wpAny_IfExp (cn (hc pins s σ H _ I h) fun d s1 zq=>Exists.elim zq fun H1 zq=>have I1:=zq.1;have q1:=zq.2;?_);cases d with
 | true=>exact ha pins s1 σ H1 Q I1 q1
 | false=>exact hb pins s1 σ H1 Q I1 q1
end
def nA (K:PySem.W.Frag)(H:Hp)(a:Addr)(xs:List V):Prop:=
 Rd H a (.lst xs) \/
   ∃ (o:Obj) (aH:Array Value) (n:Nat),K.lookup a=some o/\o.cls=.type "list"/\o.dict=none/\o.data=.seq aH n/\aH.size<=sizeLine/\Vals xs aH.toList
abbrev DH (K:PySem.W.Frag)(H:Hp)(a:Addr)(xs:List V):Prop:=TupAt K H a xs
noncomputable def YY:Value->Option V
 | .none=>some .dk
 | .bool b=>some (.bl b)
 | .int i _=>some (.int i)
 | .str x _=>some (.str x)
 | .bytes b _=>some (.IV b)
 | .float b _=>some (.Us b)
 | .ref a=>some (.ref a)
 | .type n=>some (.ty n)
 | _=>none
theorem RelV.abs {x:V}{u:Value}(r:RelV x u):YY u=some x:=by
 cases x with
 | dk=>cases r;rfl
 | bl _=>cases r;rfl
 | int _=>obtain⟨t,rfl⟩:=r;rfl
 | str _=>obtain⟨t,rfl⟩:=r;rfl
 | IV _=>obtain⟨t,rfl⟩:=r;rfl
 | Us _=>obtain⟨t,rfl⟩:=r;rfl
 | ref _=>cases r;rfl
 | ty _=>cases r;rfl
theorem RelV.inj {x y:V}{u:Value}(r:RelV x u)(q:RelV y u):x=y:=Option.some.inj (r.abs.symm.trans q.abs)
theorem Vals.inj:∀ {xs ys:List V} {us:List Value},Vals xs us->Vals ys us->xs=ys
 | _,_,_,.nil,.nil=>rfl
 | _,_,_,.cons r t,.cons r' t'=>by rw[r.inj r',Vals.inj t t']
section
variable {X:Cx}{pins:List (Addr×Obj)}{σ:St}{H:Hp}{s:Shared}{a:Addr}{xs ys:List V}
theorem nA.of {K:W.Frag}(h:H a=some (.lst xs)):nA K H a xs:=.inl (.inl h)
theorem DH.of {K:W.Frag}(h:H a=some (.tup xs)):DH K H a xs:=.inl h
theorem Inv.list (I:Inv X pins σ H s)(h:nA X.K H a xs):∃ aH:List Value,Vals xs aH/\PlainL s.heap a aH.toArray/\xs.length<=sizeLine:=by
 rcases h with h | ⟨o,aH,n,hk,hc,hd,hs,hz,r⟩
 . obtain⟨z,aH,n,r,e⟩:=h.ok I.bO
   exact⟨aH,r,⟨_,n,e,rfl,rfl,rfl⟩,z⟩
 . refine⟨aH.toList,r,⟨o,n,I.BQ a o hk,hc,hd,by simpa using hs⟩,?_⟩
   have e:=r.length;simp only[abW] at e;omega
theorem Inv.tuple (I:Inv X pins σ H s)(h:DH X.K H a xs):∃ aH:List Value,Vals xs aH/\IsTup s.heap a aH.toArray/\xs.length<=sizeLine:=by
 rcases h with h | ⟨o,aH,n,hk,hc,hs,hz,r⟩
 . obtain⟨z,aH,r,p⟩:=(show aV X.prog X.w H s.heap a (.tup xs) from I.bO a _ h)
   exact⟨aH,r,p,z⟩
 . refine⟨aH.toList,r,⟨o,I.BQ a o hk,hc,n,by simpa using hs⟩,?_⟩
   have e:=r.length;simp only[abW] at e;omega
theorem Inv.BU (I:Inv X pins σ H s)(h:nA X.K H a xs)(h':nA X.K H a ys):xs=ys:=by
 obtain⟨aH,r,⟨o,n,e,_,_,d⟩,_⟩:=I.list h;obtain⟨its',r',⟨o',n',e',_,_,d'⟩,_⟩:=I.list h';rw[e] at e';cases e';rw[d] at d';injection d' with d1 _
 have:aH=its':=by simpa using congrArg Array.toList d1
 subst this;exact r.inj r'
end
section
variable {X:Cx}{st:Stmt}{rest:List Stmt}{t u:TS}{e:Expr}{te:TE}{pos:Pos}
def U1:TS:=fun D σ H=>D.nx σ H
def YZ (t u:TS):TS:=fun D σ H=>t { D with nx:=u D} σ H
theorem Na:DN X [] U1:=fun _ _ σ H _ I h=>wpAny_execs_nil ⟨σ,H,I,h⟩
theorem pD (h1:PS X st t)(h2:DN X rest u):DN X (st::rest) (YZ t u):=by
 intro pins s σ H D I h;refine wpAny_execs_cons (cn (h1 pins s σ H { D with nx:=u D} I h) fun f s1 q=>?_);cases f with
 | next=>
   obtain⟨σ',H',I',q⟩:=q;exact h2 pins s1 σ' H' D I' q
 | ret v=>exact q
 | brk=>exact q
 | cont=>exact q
theorem n6 (h1:PS X st t):DN X [st] t:=by
 intro pins s σ H D I h;refine wpAny_execs_cons (cn (h1 pins s σ H D I h) fun f s1 q=>?_);cases f with
 | next=>exact wpAny_execs_nil q
 | ret v=>exact q
 | brk=>exact q
 | cont=>exact q
theorem Inv.quiet {pins:List (Addr×Obj)}{σ:St}{H:Hp}{s:Shared}(I:Inv X pins σ H s):interactive X.env=false:=by simp[interactive,I.ok.kind]
def U2 (te:TE):TS:=fun D σ H=>te σ H fun _ H1=>D.nx σ H1
theorem mG (he:PE X e te)(hs:autoParam (swapsWith e none pos.line X.env=pure false) jp):PS X (.Expr e pos) (U2 te):=by
 intro pins s σ H D I h;exact wpAny_Expr_any (cn (he pins s σ H _ I h) fun v s1 zq=>Exists.elim zq fun x zq=>Exists.elim zq fun H1 zq=>have I1:=zq.1;have r1:=zq.2.1;have q1:=zq.2.2;⟨σ,H1,I1,q1⟩) I.quiet hs
def Y0 (te:TE):TS:=fun D σ H=>te σ H D.rt
theorem DO (he:PE X e te):PS X (.Return (some e) pos) (Y0 te):=by
 intro pins s σ H D I h;exact wpAny_Return_some (cn (he pins s σ H _ I h) fun v s1 zq=>Exists.elim zq fun x zq=>Exists.elim zq fun H1 zq=>have I1:=zq.1;have r1:=zq.2.1;have q1:=zq.2.2;⟨x,σ,H1,I1,r1,q1⟩)
def Y1 (c:TT)(t u:TS):TS:=fun D σ H=>c σ H fun b H1=>if b=true then t D σ H1 else u D σ H1
theorem Py {c:Expr}{a b:List Stmt}{tc:TT}(hc:PT X c tc)(ha:DN X a t)(hb:DN X b u):PS X (.If c a b pos) (Y1 tc t u):=by
 intro pins s σ H D I h;refine wpAny_If (cn (hc pins s σ H _ I h) fun d s1 zq=>Exists.elim zq fun H1 zq=>have I1:=zq.1;have q1:=zq.2;?_);cases d with
 | true=>exact ha pins s1 σ H1 D I1 q1
 | false=>exact hb pins s1 σ H1 D I1 q1
def QV:TS:=fun _ _ _=>False
theorem tM {sts:List Stmt}:DN X sts QV:=fun _ _ _ _ _ _ h=>h.elim
end
abbrev TG:=V->St->Hp->(St->Hp->Prop)->Prop
abbrev Nb:=List V->St->Hp->(St->Hp->Prop)->Prop
def PG (X:Cx)(target:Expr)(t:TG):Prop:=
 ∀ (pins:List (Addr×Obj)) (s:Shared) (σ:St) (H:Hp) (v:V) (u:Value) (Q:St->Hp->Prop),Inv X pins σ H s->RelV v u->t v σ H Q ->
   wpAny (model X.prog X.w) X.A (assign target X.env u) (fun _ s'=>∃ σ' H',Inv X pins σ' H' s'/\Q σ' H') X.xe s
def U3 (X:Cx)(ts:List Expr)(t:Nb):Prop:=
 ∀ (pins:List (Addr×Obj)) (s:Shared) (σ:St) (H:Hp) (vs:List V) (us:List Value) (Q:St->Hp->Prop),Inv X pins σ H s->Vals vs us->t vs σ H Q ->
   wpAny (model X.prog X.w) X.A (assignInOrder ((assignEach ts X.env).map (·.2)) us) (fun _ s'=>∃ σ' H',Inv X pins σ' H' s'/\Q σ' H') X.xe s
abbrev QW:=V->V->V->Hp->(Hp->Prop)->Prop
def U4 (X:Cx)(t:QW):Prop:=
 ∀ (pins:List (Addr×Obj)) (s:Shared) (σ:St) (H:Hp) (o i v:V) (ov iv u:Value) (Q:Hp->Prop),Inv X pins σ H s->RelV o ov->RelV i iv->RelV v u->t o i v H Q ->
   wpAny (model X.prog X.w) X.A (setItem ov iv u) (fun _ s'=>∃ H',Inv X pins σ H' s'/\Q H') X.xe s
section
variable {X:Cx}{pos:Pos}
def nB (i:Nat):TG:=fun v σ H Q=>Q (σ.set i (some v)) H
theorem bo {i:Nat}{x:Str}(hN:X.N.Nodup)(hi:X.N[i]?=some x)(hx:Loc X.env.scope x)(hf:autoParam (X.fn x=true\/X.env.scope.names.lookup x=some .local) wf):PG X (.Name x pos) (nB i):=by
 intro pins s σ H v u Q I r h;exact wpAny_assign_Name (sd I hN hi hx r (fun s' I'=>⟨_,H,I',h⟩) hf)
def Nc:Nb:=fun vs σ H Q=>vs=[]/\Q σ H
def uN (t:TG)(u:Nb):Nb:=fun vs σ H Q=>∃ v r,vs=v::r/\t v σ H fun σ' H'=>u r σ' H' Q
theorem n8:U3 X [] Nc:=by
 intro pins s σ H vs us Q I r h;obtain⟨e,h⟩:=h;subst e;cases r;exact assignInOrder_nil ⟨σ,H,I,h⟩
theorem cN {e:Expr}{es:List Expr}{t:TG}{u:Nb}(h1:PG X e t)(h2:U3 X es u)(hs:autoParam ((assignEach (e::es) X.env).map (·.2)=assign e X.env::(assignEach es X.env).map (·.2)) jp):U3 X (e::es) (uN t u):=by
 intro pins s σ H vs us Q I r h;obtain⟨v,vr,e1,h⟩:=h;subst e1;cases r with
 | cons r rr=>
   rw[hs];refine assignInOrder_cons (cn (h1 pins s σ H _ _ _ I r h) fun _ s1 ⟨σ1,H1,I1,q1⟩=>?_);exact h2 pins s1 σ1 H1 _ _ Q I1 rr q1
def Nd (K:W.Frag)(n:Nat)(t:Nb):TG:=fun v σ H Q=>∃ a xs,v=.ref a/\DH K H a xs/\xs.length=n/\t xs σ H Q
theorem tN {es:List Expr}{k:Nat}{t:Nb}{n:Nat}(hc:X.calm=true)(h:U3 X es t)(hn:autoParam ((assignEach es X.env).length=n) jp)(ny:autoParam ((assignEach es X.env).findIdx? (·.1)=none) jp):PG X (.Tuple es k pos) (Nd X.K n t):=by
 intro pins s σ H v u Q I r hw;obtain⟨a,xs,e1,hq,hl,hw⟩:=hw;subst e1;cases r;obtain⟨aH,rv,ht,hz⟩:=I.tuple hq;refine assign_Tuple_tuple (I.ok.hd hc) ht (by simp[hn,<- hl,rv.length]) ny fun h' hx=>?_
 have I1:Inv X pins σ H { s with heap:=h'}:=I.kept (t':=s.toks) fun b o e=>hx b o (aat (aak e)) e
 exact h pins _ σ H xs _ Q I1 (by simpa using rv) hw
def Y2 (to ti:TE)(t:QW):TG:=fun v σ H Q=>to σ H fun o H1=>ti σ H1 fun i H2=>t o i v H2 fun H3=>Q σ H3
theorem QX {o i:Expr}{to ti:TE}{t:QW}(ho:PE X o to)(hi:PE X i ti)(hs:U4 X t)
   (ha:autoParam (∀ v,assign (.Subscript o i pos) X.env v=(do
     let ov <- holding [v] (eval o X.env);let iv <- holding [v,ov] (eval i X.env)
     standAt pos
     holding [v,ov,iv] (setItem ov iv v)
     release [v,ov,iv] [])) v6):PG X (.Subscript o i pos) (Y2 to ti t):=by
 intro pins s σ H v u Q I r h;rw[ha];refine wpAny_bind (wpAny_holding (cn (ho pins s σ H _ I h) fun ov s1 zq=>Exists.elim zq fun x zq=>Exists.elim zq fun H1 zq=>have I1:=zq.1;have r1:=zq.2.1;have q1:=zq.2.2;?_));refine wpAny_bind (wpAny_holding (cn (hi pins s1 σ H1 _ I1 q1) fun iv s2 zq=>Exists.elim zq fun y zq=>Exists.elim zq fun H2 zq=>have I2:=zq.1;have r2:=zq.2.1;have q2:=zq.2.2;?_));refine wpAny_bind (wpAny_standAt (wpAny_bind (wpAny_holding (cn (hs pins s2 σ H2 x y v ov iv u _ I2 r1 r2 r q2) fun _ s3 zq=>Exists.elim zq fun H3 zq=>have I3:=zq.1;have q3:=zq.2;?_))));exact wpAny_release ⟨σ,H3,I3,q3⟩
def U5 (te:TE)(g:TG):TS:=fun D σ H=>te σ H fun x H1=>g x σ H1 D.nx
theorem z6 {tg e:Expr}{te:TE}{g:TG}(he:PE X e te)(hg:PG X tg g)(hs:autoParam (swapsWithSole [tg] e pos.line X.env=pure false) jp)(hw:autoParam (swappedStores [tg] e X.env=pure none) jp)(h1:autoParam ((assignEach [tg] X.env).map (·.2)=[assign tg X.env]) jp):PS X (.Assign [tg] e pos) (U5 te g):=by
 intro pins s σ H D I h;refine wpAny_Assign_stores (cn (he pins s σ H _ I h) fun v s1 zq=>Exists.elim zq fun x zq=>Exists.elim zq fun H1 zq=>have I1:=zq.1;have r1:=zq.2.1;have q1:=zq.2.2;?_) hs hw;rw[h1];exact cn (hg pins s1 σ H1 x v _ I1 r1 q1) fun _ s2 q=>q
theorem DP {i:Nat}{x:Str}{e:Expr}{te:TE}{pos':Pos}(hN:X.N.Nodup)(hi:X.N[i]?=some x)(hx:Loc X.env.scope x)(he:PE X e te)(hs:autoParam (swapsWith e (some (.Name x pos')) pos.line X.env=pure false) jp)(hf:autoParam (X.fn x=true\/X.env.scope.names.lookup x=some .local) wf):PS X (.Assign [.Name x pos'] e pos) (U5 te (nB i)):=by
 intro pins s σ H D I h;refine wpAny_Assign_Name (cn (he pins s σ H _ I h) fun v s1 zq=>Exists.elim zq fun y zq=>Exists.elim zq fun H1 zq=>have I1:=zq.1;have r1:=zq.2.1;have q1:=zq.2.2;?_) hs;exact sd I1 hN hi hx r1 (fun s2 I2=>⟨_,H1,I2,q1⟩) hf
def Y3 (i j:Nat)(ta:TA):TS:=fun D σ H=>ta σ H fun vs H1=>∃ v w,vs=[v,w]/\D.nx ((σ.set i (some v)).set j (some w)) H1
theorem QY {i j:Nat}{x y:Str}{a b:Expr}{ta:TA}{px py pt:Pos}{kt k2 QZ}(hc:X.calm=true)(hN:X.N.Nodup)(hi:X.N[i]?=some x)(hj:X.N[j]?=some y)(U6:i≠j)(hx:X.env.scope.names.lookup x=some .local)(hy:X.env.scope.names.lookup y=some .local)(ha:PA X [a,b] ta)(hw:swappedStores [.Tuple [.Name x px,.Name y py] kt pt] (.Tuple [a,b] k2 QZ) X.env=pure (some [x,y]))(hs:autoParam (swapsWithSole [.Tuple [.Name x px,.Name y py] kt pt] (.Tuple [a,b] k2 QZ) pos.line X.env=pure false) jp):PS X (.Assign [.Tuple [.Name x px,.Name y py] kt pt] (.Tuple [a,b] k2 QZ) pos) (Y3 i j ta):=by
 intro pins s σ H D I h;rw[exec_Assign_arm];refine wpAny_bind (wpAny_standAt ?_);rw[hs];refine wpAny_bind (wpAny_pure ?_);rw[if_neg (by decide)];refine wpAny_bind (Tuple_ (cn (ha _ pins s σ H _ I h) fun us s1 zq=>Exists.elim zq fun vs zq=>Exists.elim zq fun H1 zq=>have I1:=zq.1;have r1:=zq.2.1;have q1:=zq.2.2;?_));obtain⟨v,w,e1,q1⟩:=q1;subst e1;obtain⟨u1,u2,rfl,rv,Jp⟩:∃ u1 u2,us=[u1,u2]/\RelV v u1/\RelV w u2:=by
   cases r1 with
   | cons p q=>
     cases q with
     | cons p' q'=>
       cases q';exact⟨_,_,rfl,p,p'⟩
 refine wpAny_newObj_type ?_ (by show 2<=sizeLine;decide);have I2:Inv X pins σ H1 { s1 with heap:=s1.heap.push { cls:=.type "tuple",data:=.seq [u1,u2].toArray}}:=I1.kept (t':=s1.toks) fun b o e=>aac _ e
 rw[hw];refine wpAny_bind (wpAny_pure ?_);show wpAny (model X.prog X.w) X.A (do rule "assign.swapped-stores";let items <- unpackItems (.ref s1.heap.objs.size) 2 none;assignInOrder [fun v=>bindName X.env y v,fun v=>bindName X.env x v] items.reverse;pure Flow.next) _ _ _;refine wpAny_bind (wpAny_rule (wpAny_bind (unpackItems_tuple (items:=#[u1,u2]) (I.ok.hd hc) (IsTup.new s1.heap _) fun h' Fs=>?_)));have I3:=I2.kept (h':=h') (t':=s1.toks) fun b o e=>Fs b o (aat (aak e)) e
 show wpAny _ _ (assignInOrder [fun v=>bindName X.env y v,fun v=>bindName X.env x v] [u2,u1] >>= fun _=>pure Flow.next) _ _ _;refine wpAny_bind (assignInOrder_cons (wpAny_bindName (sd I3 hN hj (.inl hy) Jp (fun s2 I4=>?_) (.inr hy))));refine assignInOrder_cons (wpAny_bindName (sd I4 hN hi (.inl hx) rv (fun s3 I5=>assignInOrder_nil (wpAny_pure ?_)) (.inr hx)));rw[List.set_comm _ _ (Ne.symm U6)] at I5;exact⟨_,H1,I5,q1⟩
end
section
variable {X:Cx}{pos:Pos}
def Q0 (c:TT)(tb:TS):TS:=fun D σ H=>∃ W:Nat->St->Hp->Prop,(∃ m,W m σ H)/\∀ m σ H,W m σ H ->
 c σ H fun b H1=>if b=true then ∃ N:St->Hp->Prop,(∀ σ' H',N σ' H'->∃ m',m' < m/\W m' σ' H')/\tb { D with nx:=N,ct:=N,bk:=D.nx} σ H1 else D.nx σ H1
theorem BV {c:Expr}{body:List Stmt}{tc:TT}{tb:TS}(hp:PassesOwn (model X.prog X.w) X.A X.env X.xe)(hc:PT X c tc)(hb:DN X body tb):PS X (.While c body [] pos) (Q0 tc tb):=by
 intro pins s σ H D I h;obtain⟨W,⟨m0,w0⟩,turn⟩:=h;refine wpAny_While (codeAny_whileLoop (fun n s'=>∃ σ' H',Inv X pins σ' H' s'/\W n σ' H') ?_ m0 ⟨σ,H,I,w0⟩)
 rintro n s1 ⟨σ1,H1,I1,w1⟩
 refine wpAny_passesOwn hp (cn (hc pins s1 σ1 H1 _ I1 (turn n σ1 H1 w1)) fun b s2 zq=>Exists.elim zq fun H2 zq=>have I2:=zq.1;have q2:=zq.2;?_);cases b with
 | true=>
   obtain⟨N,hN,q2⟩:=q2;rw[if_pos rfl];refine wpAny_passesOwn hp (cn (hb pins s2 σ1 H2 _ I2 q2) fun f s3 q3=>?_);cases f with
   | next=>
     obtain⟨σ3,H3,I3,n3⟩:=q3;obtain⟨m',hm,w3⟩:=hN σ3 H3 n3;exact⟨m',hm,σ3,H3,I3,w3⟩
   | cont=>
     obtain⟨σ3,H3,I3,n3⟩:=q3;obtain⟨m',hm,w3⟩:=hN σ3 H3 n3;exact⟨m',hm,σ3,H3,I3,w3⟩
   | brk=>exact q3
   | ret v=>exact q3
 | false=>
   rw[if_neg aam];exact wpAny_execs_nil ⟨σ1,H2,I2,q2⟩
end
structure It where
 go:Nat->Hp->Prop
 Jq:Nat->Hp->V->Hp->Prop
 stop:Nat->Hp->Prop
def mi (X:Cx)(pins:List (Addr×Obj))(H:Hp)(b:Addr):Prop:=
 H b=none/\b≠X.env.locals/\b ∉ X.fs/\(b∈X.ex\/X.s₀.heap.objs.size<=b)/\(∀ x c,X.env.cells.lookup x=some c->c≠b)/\∀ p∈X.pn ++ pins,p.1≠b
theorem Inv.yu {X:Cx}{pins:List (Addr×Obj)}{σ:St}{H H':Hp}{s:Shared}{b:Addr}(I:Inv X pins σ H s)(hb:s.heap.objs.size<=b)(hn:H' b=none):mi X pins H' b:=by
 refine⟨hn,acd (aal I.lt hb),I.YQ hb,.inr (aau I.sz hb),fun x c e z=>?_,fun p hp z=>?_⟩
 . obtain⟨v,q⟩:=I.cell x c e
   exact absurd (aal q.lt (by rw[z];exact hb)) (abA _)
 . exact absurd (aal (aak (I.pin p hp).1) (by rw[z];exact hb)) (abA _)
structure Turn (P:Program)(w:World)(K:W.Frag)(tg:Expr)(J:It)(fp:List Addr)(it:Addr)(tn:Nat->Heap->Prop):Prop where
 mem:it∈fp
 obj:∀ i h,tn i h->∀ b∈fp,∃ o,h.get? b=some o/\∀ v,o.data≠.cell v
 keep:∀ i h h',tn i h->(∀ b∈fp,∀ o,h.get? b=some o->h'.get? b=some o)->tn i h'
 item:∀ (X:Cx),X.prog=P->X.w=w->X.K=K->X.calm=true->∀ (i:Nat) (pins:List (Addr×Obj)) (s:Shared) (σ:St) (H:Hp) (E:Value->Shared->Prop),Inv X pins σ H s->(∀ b∈fp,mi X pins H b)->tn i s.heap->J.go i H ->
   wpAny (model P w) X.A (pyNext (.ref it)) (fun r s1=>∃ u,r=some u /\
     wpAny (model P w) X.A (letOwnedTupleGo tg (.ref it) u) (fun _ s2=>∃ x H',Inv X pins σ H' s2/\RelV x u/\J.Jq i H x H'/\tn (i+1) s2.heap/\∀ b∈fp,H' b=none) E s1) E s
 done:∀ (X:Cx),X.prog=P->X.w=w->X.K=K->X.calm=true->∀ (i:Nat) (pins:List (Addr×Obj)) (s:Shared) (σ:St) (H:Hp) (E:Value->Shared->Prop),Inv X pins σ H s->(∀ b∈fp,mi X pins H b)->tn i s.heap->J.stop i H ->
   wpAny (model P w) X.A (pyNext (.ref it)) (fun r s1=>r=none/\Inv X pins σ H s1) E s
 self:∀ (A:Around) (i:Nat) (s:Shared) (Q:Value->Shared->Prop) (E:Value->Shared->Prop),tn i s.heap->Q (.ref it) s->wpAny (model P w) A (pyIter (.ref it)) Q E s
abbrev TI:=St->Hp->(It->Hp->Prop)->Prop
def PIE (X:Cx)(pins:List (Addr×Obj))(σ:St)(tg:Expr)(R:It->Hp->Prop)(Pz:Value)(s2:Shared):Prop:=
 ∃ (it:Addr) (fp:List Addr) (tn:Nat->Heap->Prop) (J:It) (H':Hp),Pz=.ref it/\Inv X pins σ H' s2/\Turn X.prog X.w X.K tg J fp it tn/\tn 0 s2.heap/\(∀ b∈fp,mi X pins H' b)/\R J H'
def PI (X:Cx)(tg iter:Expr)(wi:TI):Prop:=
 ∀ (pins:List (Addr×Obj)) (s:Shared) (σ:St) (H:Hp) (R:It->Hp->Prop),Inv X pins σ H s->wi σ H R ->
   wpAny (model X.prog X.w) X.A (eval iter X.env) (fun v s1=>wpAny (model X.prog X.w) X.A (pyIter v) (PIE X pins σ tg R) X.xe s1) X.xe s
theorem Ft {M:Model}{A:Around}{E:Value->Shared->Prop}{s:Shared}{tg:Expr}{it:Addr}{u:Value}{o:Obj}{n:String}{vs:Array Value}{Q:Unit->Shared->Prop}(ho:s.heap.get? it=some o)(hc:o.cls=.type n)(hd:o.data=.fields vs)(hn:["enumerate","zip","dict_itemiterator","dict_reverseitemiterator","odict_iterator","itertools.zip_longest","itertools.pairwise"].contains n=false)(hQ:Q () s):wpAny M A (letOwnedTupleGo tg (.ref it) u) Q E s:=by
 unfold letOwnedTupleGo;cases tg <;> first
   | exact wpAny_pure hQ
   | (cases u <;> first
       | exact wpAny_pure hQ
       | (refine wpAny_bind (wpAny_load ho ?_)
          rw[hc,hd];show wpAny M A (if (["enumerate","zip","dict_itemiterator","dict_reverseitemiterator","odict_iterator","itertools.zip_longest","itertools.pairwise"].contains n && vs[0]? == some (rawInt _))=true then _ else _) Q E s;rw[if_neg (by intro h;rw[hn,Bool.false_and] at h;cases h)];exact wpAny_pure hQ))
noncomputable def U7 (K:W.Frag)(a:Addr):It:=
 ⟨fun i H=>∃ xs x,nA K H a xs/\xs[i]?=some x,fun i H x H'=>H'=H/\∀ xs,nA K H a xs->xs[i]?=some x,fun i H=>∃ xs,nA K H a xs/\xs.length<=i⟩
noncomputable def ML (lo:Int)(n:Nat):It:=⟨fun i _=>i < n,fun i H x H'=>H'=H/\x=.int (lo+i),fun i _=>n<=i⟩
theorem Hm {P:Program}{w:World}{K:W.Frag}{tg:Expr}(a it:Addr):Turn P w K tg (U7 K a) [it] it (fun i h=>h.IsListIter it a i) where
 mem:=by simp
 obj:=fun i h st b hb=>by
   have e:b=it:=by simpa using hb
   subst e;obtain⟨o,e,c,d⟩:=st;exact⟨o,e,fun v z=>by rw[d] at z;cases z⟩
 keep:=fun i h h' st k=>st.at fun o e=>k it (by simp) o e
 item:=by
   intro X hP hw hK hc i pins s σ H E I hf st hg;subst hP hw hK;obtain⟨xs,x,hq,hx⟩:=hg;obtain⟨aH,rv,p,hz⟩:=I.list hq;obtain⟨u,hu,ru⟩:=rv.get hx;obtain⟨f0,f1,f2,f3,f4,f5⟩:=hf it (by simp);refine wpAny_pyNext_list_item st p.isList (x:=u) (by simpa using hu) fun h' kA sb=>?_
   have I1:Inv X pins σ H { s with heap:=h'}:=I.turned (t':=s.toks) (fun b o hb e=>(sb.2 b hb).trans e) f0 f1 f3 f4 f5;obtain⟨o,e,c,d⟩:=id kA;exact⟨u,rfl,Ft (s:={ s with heap:=h'}) e c d (by decide) ⟨x,H,I1,ru,⟨rfl,fun ys hy=>by rw[I.BU hy hq];exact hx⟩,kA,fun b hb=>(hf b hb).1⟩⟩
 done:=by
   intro X hP hw hK hc i pins s σ H E I hf st hg;subst hP hw hK;obtain⟨xs,hq,hx⟩:=hg;obtain⟨aH,rv,p,hz⟩:=I.list hq;obtain⟨f0,f1,f2,f3,f4,f5⟩:=hf it (by simp);have hl:=rv.length;exact wpAny_pyNext_list_end (I.ok.hd hc) st p.isList (by simp;omega) fun h' eb=>⟨rfl,I.turned (t':=s.toks) (fun b o hb e=>eb b o hb e) f0 f1 f3 f4 f5⟩
 self:=fun _ _ _ _ _ st h=>wpAny_pyIter_listiter st h
theorem DQ {P:Program}{w:World}{K:PySem.W.Frag}{tg:Expr}(it:Addr)(lo:Int)(n:Nat):Turn P w K tg (ML lo n) [it] it (fun i h=>IsRangeIter h it (lo+(i:Nat) * 1) ((n:Int) - (i:Nat)) 1) where
 mem:=by simp
 obj:=fun i h st b hb=>by
   have e:b=it:=by simpa using hb
   subst e;exact⟨_,st,fun v z=>by
     have z':Data.fields _=Data.cell v:=z;cases z'⟩
 keep:=fun i h h' st k=>k it (by simp) _ st
 item:=by
   intro X hP hw hK hc i pins s σ H E I hf st hg;subst hP hw hK;obtain⟨f0,f1,f2,f3,f4,f5⟩:=hf it (by simp);have W:=Walks.range (prog:=X.prog) (w:=X.w) (I.ok.hd hc) it lo 1 n;refine W.item i s _ _ hg st fun v h' tk hv kA kk=>?_
   obtain⟨t,rfl⟩:=hv;have I1:Inv X pins σ H { s with heap:=h',toks:=tk}:=I.turned (fun b o hb e=>kk b o (by simpa using hb) e) f0 f1 f3 f4 f5;refine⟨_,rfl,Ft (s:={ s with heap:=h',toks:=tk}) (n:="range_iterator") kA rfl rfl (by decide) ⟨.int (lo+i),H,I1,⟨t,?_⟩,⟨rfl,rfl⟩,kA,fun b hb=>(hf b hb).1⟩⟩;rw[Int.mul_one]
 done:=by
   intro X hP hw hK hc i pins s σ H E I hf st hg;subst hP hw hK;obtain⟨f0,f1,f2,f3,f4,f5⟩:=hf it (by simp);exact wpAny_pyNext_range_end (I.ok.hd hc) st (by have:n<=i:=hg;omega) fun h' eb=>⟨rfl,I.turned (t':=s.toks) (fun b o hb e=>eb b o hb e) f0 f1 f3 f4 f5⟩
 self:=fun _ _ _ _ _ st h=>wpAny_pyIter_rangeiter st h
section
variable {X:Cx}{tg:Expr}
def Jr (K:W.Frag)(tl:TE):TI:=fun σ H R=>tl σ H fun x H1=>∃ a,x=.ref a/\(∃ xs,nA K H1 a xs)/\R (U7 K a) H1
theorem fE {l:Expr}{tl:TE}(hl:PE X l tl):PI X tg l (Jr X.K tl):=by
 intro pins s σ H R I h;refine cn (hl pins s σ H _ I h) fun v s1 zq=>Exists.elim zq fun x zq=>Exists.elim zq fun H1 zq=>have I1:=zq.1;have r1:=zq.2.1;have q1:=zq.2.2;?_
 obtain⟨a,e,⟨xs,hq⟩,q⟩:=q1;subst e;cases r1;obtain⟨aH,rv,p,hz⟩:=I1.list hq;refine wpAny_pyIter_list p.isList ?_;refine⟨s1.heap.objs.size,[s1.heap.objs.size],_,_,H1,rfl,I1.kept (t':=s1.toks) fun b o e=>aac _ e,Hm a _,⟨_,aar _ rfl,rfl,rfl⟩,fun b hb=>?_,q⟩;have e:b=s1.heap.objs.size:=by simpa using hb
 subst e;exact I1.yu (aaa _) (I1.bO.fresh (aaa _))
theorem Js {pins:List (Addr×Obj)}{σ:St}{H:Hp}{s:Shared}{R:It->Hp->Prop}{E:Value->Shared->Prop}{lo hi:Int}{t u v:Tok}{tk:Nat}(I:Inv X pins σ H s)(h1:-(2 ^ 62)<=lo)(h2:lo < 2 ^ 62)(h3:-(2 ^ 62)<=hi)(h4:hi < 2 ^ 62)(q:R (ML lo (hi - lo).toNat) H):wpAny (model X.prog X.w) X.A (pyIter (.ref s.heap.objs.size)) (PIE X pins σ tg R) E { s with heap:=s.heap.push { cls:=.type "range",data:=.fields #[.int lo t,.int hi u,.int 1 v]},toks:=tk}:=by
 refine wpAny_pyIter_range (IsRange.new ..) (small_one h1 h2 h3 h4) ?_;have I1:Inv X pins σ H { s with heap:=s.heap.push { cls:=.type "range",data:=.fields #[.int lo t,.int hi u,.int 1 v]},toks:=tk}:=I.kept fun b o e=>aac _ e
 refine⟨(s.heap.push { cls:=.type "range",data:=.fields #[.int lo t,.int hi u,.int 1 v]}).objs.size,[(s.heap.push { cls:=.type "range",data:=.fields #[.int lo t,.int hi u,.int 1 v]}).objs.size],_,_,H,rfl,
   I1.kept (t':=tk) fun b o e=>aac _ e,DQ _ lo (hi - lo).toNat,?_,fun b hb=>?_,q⟩
 . have e1:lo+((0:Nat):Int) * 1=lo:=by simp
   have e2:(((hi - lo).toNat:Nat):Int) - ((0:Nat):Int)=Builtin.Range.rangeSize lo hi 1:=by rw[rangeSize_one];split <;> omega
   show IsRangeIter _ _ (lo+((0:Nat):Int) * 1) ((((hi - lo).toNat:Nat):Int) - ((0:Nat):Int)) 1;rw[e1,e2];exact aar _ rfl
 . have e:b=(s.heap.push { cls:=.type "range",data:=.fields #[.int lo t,.int hi u,.int 1 v]}).objs.size:=by simpa using hb
   subst e;exact I1.yu (aaa _) (I1.bO.fresh (aaa _))
def Jt (ta:TA):TI:=fun σ H R=>ta σ H fun vs H1=>∃ j:Int,vs=[.int j]/\-(2 ^ 62)<=j/\j < 2 ^ 62/\R (ML 0 j.toNat) H1
theorem nC {a:Expr}{ta:TA}{p pos:Pos}(hg:Gl X "range")(hm:X.mg "range"=none)(ha:PA X [a] ta)(hs:autoParam (starEach [a] X.env=[(false,eval a X.env)]) jp):PI X tg (.Call (.Name "range" p) [a] [] pos) (Jt ta):=by
 intro pins s σ H R I h;refine Call_ (tL I hg hm boot_range (PyProof.Rows.callWith_type1 (cn (ha pos pins s σ H _ I h) fun us s1 zq=>Exists.elim zq fun vs zq=>Exists.elim zq fun H1 zq=>have I1:=zq.1;have r1:=zq.2.1;have q1:=zq.2.2;?_) hs rfl));obtain⟨j,e,q1,q2,q⟩:=q1;subst e;cases r1 with
 | cons r rr=>
   cases rr;obtain⟨t,rfl⟩:=r;exact call_range_1 (Js I1 (by omega) (by omega) q1 q2 (by simpa using q))
def Y4 (wi:TI)(g:TG)(tb:TS):TS:=fun D σ H=>wi σ H fun J H1=>∃ W:Nat->Nat->St->Hp->Prop,(∃ m,W 0 m σ H1)/\∀ i m σ H,W i m σ H ->
 (J.stop i H/\D.nx σ H)\/(J.go i H/\∃ N:St->Hp->Prop,(∀ σ' H',N σ' H'->∃ m',m' < m/\W (i+1) m' σ' H')/\∀ x H',J.Jq i H x H'->g x σ H' fun σ2 H2=>tb { D with nx:=N,ct:=N,bk:=D.nx} σ2 H2)
noncomputable def tP (fp:List Addr)(h:Heap):List (Addr×Obj):=fp.filterMap fun b=>(h.get? b).map fun o=>(b,o)
theorem gF {fp:List Addr}{h:Heap}{b:Addr}{o:Obj}(hb:b∈fp)(e:h.get? b=some o):(b,o)∈tP fp h:=List.mem_filterMap.mpr ⟨b,hb,by rw[e];rfl⟩
theorem Hn {fp:List Addr}{h:Heap}{p:Addr×Obj}(hp:p∈tP fp h):p.1∈fp/\h.get? p.1=some p.2:=by
 obtain⟨b,hb,e⟩:=List.mem_filterMap.mp hp;cases q:h.get? b with
 | none=>rw[q] at e;cases e
 | some o=>
   rw[q] at e;have e':(b,o)=p:=Option.some.inj e;subst e';exact⟨hb,q⟩
theorem Inv.pinned {pins:List (Addr×Obj)}{σ:St}{H:Hp}{s:Shared}{fp:List Addr}(I:Inv X pins σ H s)(hf:∀ b∈fp,mi X pins H b)(ho:∀ b∈fp,∃ o,s.heap.get? b=some o/\∀ v,o.data≠.cell v):Inv X (pins ++ tP fp s.heap) σ H s:=
 I.Fp fun p hp=>(abI.mp hp).elim (fun z=>I.pin p (aav _ z)) fun z=>by
   obtain⟨hb,e⟩:=Hn z;obtain⟨f0,f1,f2,_⟩:=hf p.1 hb;obtain⟨o,e',d⟩:=ho p.1 hb;rw[e] at e';cases e';exact⟨e,f0,f1,f2,d⟩
theorem Inv.kT {pins pl:List (Addr×Obj)}{σ:St}{H:Hp}{s:Shared}(I:Inv X (pins ++ pl) σ H s):Inv X pins σ H s:=I.Fp fun p hp=>I.pin p (aav _ (List.mem_append_left _ hp))
theorem z7 {iter:Expr}{body:List Stmt}{wi:TI}{g:TG}{tb:TS}{pos:Pos}(hp:PassesOwn (model X.prog X.w) X.A X.env X.xe)(hc:X.calm=true)(hi:PI X tg iter wi)(hg:PG X tg g)(hb:DN X body tb)(hs:autoParam (∀ x,foldedSetIterable iter X.env x=pure x) v6):PS X (.For tg iter body [] pos) (Y4 wi g tb):=by
 intro pins s σ H D I h;refine wpAny_For (cn (hi pins s σ H _ I h) fun v s1 h1=>cn h1 fun Pz s2 h2=>?_) hs;obtain⟨it,fp,tn,J,H2,e,I2,T,Fu,f2,W,⟨m0,w0⟩,turn⟩:=h2;subst e;have rF:∀ {H':Hp},(∀ b∈fp,H' b=none)->∀ b∈fp,mi X pins H' b:=fun hn b hb=>⟨hn b hb,(f2 b hb).2⟩
 refine codeAny_forLoop_any (fun n s'=>∃ i σ' H',Inv X pins σ' H' s'/\tn i s'.heap/\(∀ b∈fp,H' b=none)/\W i n σ' H') ?_ m0 ⟨0,σ,H2,I2,Fu,fun b hb=>(f2 b hb).1,w0⟩
 rintro n s3 ⟨i,σ3,H3,I3,X6,fr3,w3⟩
 rcases turn i n σ3 H3 w3 with⟨stop,qn⟩ | ⟨go,N,hN,step⟩
 . refine wpAny_passesOwn hp (cn (T.done X rfl rfl rfl hc i pins s3 σ3 H3 X.xe I3 (rF fr3) X6 stop) fun r s4 ⟨hr,I4⟩=>?_)
   subst hr;exact wpAny_execs_nil ⟨σ3,H3,I4,qn⟩
 . refine wpAny_passesOwn hp (cn (T.item X rfl rfl rfl hc i pins s3 σ3 H3 X.xe I3 (rF fr3) X6 go) fun r s4 ⟨u,hr,h4⟩=>?_)
   subst hr;refine wpAny_passesOwn hp (cn h4 fun _ s5 ⟨x,H5,I5,r5,y5,IW,MN⟩=>?_);have I5':=I5.pinned (rF MN) (T.obj _ _ IW);refine wpAny_passesOwn hp (cn (hg _ s5 σ3 H5 x u _ I5' r5 (step x H5 y5)) fun _ s6 ⟨σ6,H6,I6,q6⟩=>?_);refine wpAny_passesOwn hp (cn (hb _ s6 σ6 H6 _ I6 q6) fun f s7 q7=>?_);have again:∀ {σ7:St} {H7:Hp},Inv X (pins ++ tP fp s5.heap) σ7 H7 s7->N σ7 H7->∃ m,m < n/\∃ i σ' H',Inv X pins σ' H' s7/\tn i s7.heap/\(∀ b∈fp,H' b=none)/\W i m σ' H':=fun {σ7 H7} I7 n7=>by
     obtain⟨m',hm,w7⟩:=hN σ7 H7 n7;refine⟨m',hm,i+1,σ7,H7,I7.kT,T.keep _ _ _ IW fun b hb o e=>(I7.pin (b,o) (aav _ (aav _ (gF hb e)))).1,fun b hb=>?_,w7⟩;obtain⟨o,e,d⟩:=T.obj _ _ IW b hb;exact(I7.pin (b,o) (aav _ (aav _ (gF hb e)))).2.1
   cases f with
   | next=>obtain⟨σ7,H7,I7,n7⟩:=q7;exact again I7 n7
   | cont=>obtain⟨σ7,H7,I7,n7⟩:=q7;exact again I7 n7
   | brk=>obtain⟨σ7,H7,I7,q7⟩:=q7;exact⟨σ7,H7,I7.kT,q7⟩
   | ret v=>obtain⟨x7,σ7,H7,I7,r7,q7⟩:=q7;exact⟨x7,σ7,H7,I7.kT,r7,q7⟩
end
theorem BW {K:PySem.W.Frag}{a:Addr}{xs:List V}{g:TG}{tb:TS}{D:Ends}{σ:St}{H:Hp}(Pv:Nat->St->Hp->Prop)(h0:Pv 0 σ H)(hl:∀ i σ H,i<=xs.length->Pv i σ H->nA K H a xs)(hs:∀ i x σ H,xs[i]?=some x->Pv i σ H->g x σ H fun σ2 H2=>tb { D with nx:=Pv (i+1),ct:=Pv (i+1),bk:=D.nx} σ2 H2)(hd:∀ σ H,Pv xs.length σ H->D.nx σ H):∃ W:Nat->Nat->St->Hp->Prop,(∃ m,W 0 m σ H)/\∀ i m σ H,W i m σ H->((U7 K a).stop i H/\D.nx σ H)\/((U7 K a).go i H/\∃ N:St->Hp->Prop,(∀ σ' H',N σ' H'->∃ m',m' < m/\W (i+1) m' σ' H')/\∀ x H',(U7 K a).Jq i H x H'->g x σ H' fun σ2 H2=>tb { D with nx:=N,ct:=N,bk:=D.nx} σ2 H2):=by
 refine⟨fun i m σ H=>m=xs.length - i/\i<=xs.length/\Pv i σ H,⟨xs.length,by simp,aa1 _,h0⟩,?_⟩
 rintro i m σ H ⟨rfl,hi,p⟩
 have q:=hl i σ H hi p;by_cases di:i < xs.length
 . refine .inr ⟨⟨xs,xs[i],q,by simp[di]⟩,Pv (i+1),fun σ' H' p'=>⟨xs.length - (i+1),by omega,rfl,di,p'⟩,fun x H' y=>?_⟩
   obtain⟨e,y⟩:=y;subst e;exact hs i x σ _ (y xs q) p
 . have e:i=xs.length:=by omega
   subst e;exact .inl ⟨⟨xs,q,aaa _⟩,hd σ H p⟩
theorem Ho {lo:Int}{n:Nat}{g:TG}{tb:TS}{D:Ends}{σ:St}{H:Hp}(Pv:Nat->St->Hp->Prop)(h0:Pv 0 σ H)(hs:∀ i σ H,i < n->Pv i σ H->g (.int (lo+i)) σ H fun σ2 H2=>tb { D with nx:=Pv (i+1),ct:=Pv (i+1),bk:=D.nx} σ2 H2)(hd:∀ σ H,Pv n σ H->D.nx σ H):∃ W:Nat->Nat->St->Hp->Prop,(∃ m,W 0 m σ H)/\∀ i m σ H,W i m σ H->((ML lo n).stop i H/\D.nx σ H)\/((ML lo n).go i H/\∃ N:St->Hp->Prop,(∀ σ' H',N σ' H'->∃ m',m' < m/\W (i+1) m' σ' H')/\∀ x H',(ML lo n).Jq i H x H'->g x σ H' fun σ2 H2=>tb { D with nx:=N,ct:=N,bk:=D.nx} σ2 H2):=by
 refine⟨fun i m σ H=>m=n - i/\i<=n/\Pv i σ H,⟨n,by simp,aa1 _,h0⟩,?_⟩
 rintro i m σ H ⟨rfl,hi,p⟩
 by_cases di:i < n
 . refine .inr ⟨di,Pv (i+1),fun σ' H' p'=>⟨n - (i+1),by omega,rfl,di,p'⟩,fun x H' y=>?_⟩
   obtain⟨e,y⟩:=y;subst e y;exact hs i σ _ di p
 . have e:i=n:=by omega
   subst e;exact .inl ⟨aaa _,hd σ H p⟩
abbrev R2:=V->V->Hp->VK->Prop
def qf (X:Cx)(f:Value->Value->Sem Value)(r:R2):Prop:=
 ∀ (pins:List (Addr×Obj)) (s:Shared) (σ:St) (H:Hp) (x y:V) (v u:Value) (Q:VK),Inv X pins σ H s->RelV x v->RelV y u->r x y H Q ->
   wpAny (model X.prog X.w) X.A (f v u) (EP X pins σ Q) X.xe s
def Y5 (X:Cx)(f:Value->Sem Value)(r:V->Hp->VK->Prop):Prop:=
 ∀ (pins:List (Addr×Obj)) (s:Shared) (σ:St) (H:Hp) (x:V) (v:Value) (Q:VK),Inv X pins σ H s->RelV x v->r x H Q ->
   wpAny (model X.prog X.w) X.A (f v) (EP X pins σ Q) X.xe s
def kU (X:Cx)(f:Value)(r:List V->Hp->VK->Prop):Prop:=
 ∀ (pins:List (Addr×Obj)) (s:Shared) (σ:St) (H:Hp) (xs:List V) (us:List Value) (Q:VK),Inv X pins σ H s->Vals xs us->r xs H Q ->
   wpAny (model X.prog X.w) X.A (call f us) (EP X pins σ Q) X.xe s
def U8 (r:R2)(ta tb:TE):TE:=fun σ H Q=>ta σ H fun x H1=>tb σ H1 fun y H2=>r x y H2 Q
def tUn (r:V->Hp->VK->Prop)(ta:TE):TE:=fun σ H Q=>ta σ H fun x H1=>r x H1 Q
def rI (C:Int->Int->Prop)(g:Int->Int->V):R2:=fun x y H Q=>∃ i j,x=.int i/\y=.int j/\C i j/\Q (g i j) H
def Nf (g:Int->Int->V):R2:=fun x y H Q=>∃ i j,x=.int i/\y=.int j/\Q (g i j) H
def rU (g:Int->V):V->Hp->VK->Prop:=fun x H Q=>∃ i,x=.int i/\Q (g i) H
section
variable {X:Cx}{a b:Expr}{ta tb:TE}{pos:Pos}
theorem Q1 (ha:PE X a ta)(hb:PE X b tb){pins:List (Addr×Obj)}{s:Shared}{σ:St}{H:Hp}{R:V->V->Hp->Prop}(I:Inv X pins σ H s)(h:ta σ H fun x H1=>tb σ H1 fun y H2=>R x y H2){Q:Value->Shared->Prop}{f:Value->Value->Sem Value}(hf:∀ v u s2 x y H2,Inv X pins σ H2 s2->RelV x v->RelV y u->R x y H2->wpAny (model X.prog X.w) X.A (f v u) Q X.xe s2):wpAny (model X.prog X.w) X.A (eval a X.env) (fun v s₁=>wpAny (model X.prog X.w) X.A (eval b X.env) (fun u s₂=>wpAny (model X.prog X.w) X.A (f v u) Q X.xe s₂) X.xe s₁) X.xe s:=by
 refine cn (ha pins s σ H _ I h) fun v s1 zq=>Exists.elim zq fun x zq=>Exists.elim zq fun H1 zq=>have I1:=zq.1;have r1:=zq.2.1;have q1:=zq.2.2;?_
 refine cn (hb pins s1 σ H1 _ I1 q1) fun u s2 zq=>Exists.elim zq fun y zq=>Exists.elim zq fun H2 zq=>have I2:=zq.1;have r2:=zq.2.1;have q2:=zq.2.2;?_
 exact hf v u s2 x y H2 I2 r1 r2 q2
theorem PB {op:Operator}{r:R2}(ho:qf X (binaryOp op) r)(ha:PE X a ta)(hb:PE X b tb):PE X (.BinOp a op b pos) (U8 r ta tb):=by
 intro pins s σ H Q I h;exact wpAny_BinOp (Q1 ha hb I h fun v u s2 x y H2 I2 rx ry q=>ho pins s2 σ H2 x y v u Q I2 rx ry q)
theorem U9 {op:UnaryOp}{r:V->Hp->VK->Prop}(ho:Y5 X (unaryOp op) r)(ha:PE X a ta):PE X (.UnaryOp op a pos) (tUn r ta):=by
 intro pins s σ H Q I h;exact UnaryOp_ (cn (ha pins s σ H _ I h) fun v s1 zq=>Exists.elim zq fun x zq=>Exists.elim zq fun H1 zq=>have I1:=zq.1;have r1:=zq.2.1;have q1:=zq.2.2;ho pins s1 σ H1 x v Q I1 r1 q1)
theorem X7 {f:Value->Value->Sem Value}{C:Int->Int->Prop}{g:Int->Int->Int}(rule:∀ (i j:Int) (t u:Tok) (s:Shared) (Q:Value->Shared->Prop) (E:Value->Shared->Prop),C i j->Q (.int (g i j) s.toks) { s with toks:=s.toks+1}->wpAny (model X.prog X.w) X.A (f (.int i t) (.int j u)) Q E s):qf X f (rI C fun i j=>.int (g i j)):=by
 intro pins s σ H x y v u Q I rx ry h;obtain⟨i,j,rfl,rfl,hc,q⟩:=h;obtain⟨t,rfl⟩:=rx;obtain⟨t',rfl⟩:=ry;exact rule i j t t' s _ _ hc ⟨.int (g i j),H,I.tok _,⟨_,rfl⟩,q⟩
theorem Va {f:Value->Value->Sem Value}{g:Int->Int->Int}(rule:∀ (i j:Int) (t u:Tok) (s:Shared) (Q:Value->Shared->Prop) (E:Value->Shared->Prop),Q (.int (g i j) s.toks) { s with toks:=s.toks+1}->wpAny (model X.prog X.w) X.A (f (.int i t) (.int j u)) Q E s):qf X f (Nf fun i j=>.int (g i j)):=by
 intro pins s σ H x y v u Q I rx ry h;obtain⟨i,j,rfl,rfl,q⟩:=h;obtain⟨t,rfl⟩:=rx;obtain⟨t',rfl⟩:=ry;exact rule i j t t' s _ _ ⟨.int (g i j),H,I.tok _,⟨_,rfl⟩,q⟩
theorem Ng {f:Value->Value->Sem Value}{g:Int->Int->Bool}(rule:∀ (i j:Int) (t u:Tok) (s:Shared) (Q:Value->Shared->Prop) (E:Value->Shared->Prop),Q (.bool (g i j)) s->wpAny (model X.prog X.w) X.A (f (.int i t) (.int j u)) Q E s):qf X f (Nf fun i j=>.bl (g i j)):=by
 intro pins s σ H x y v u Q I rx ry h;obtain⟨i,j,rfl,rfl,q⟩:=h;obtain⟨t,rfl⟩:=rx;obtain⟨t',rfl⟩:=ry;exact rule i j t t' s _ _ ⟨.bl (g i j),H,I,rfl,q⟩
def Vb (i j:Int):Prop:=0<=j/\j<=1000000/\i.natAbs < 2 ^ 64
def qQ (i j:Int):Prop:=(-(2 ^ 64) < i/\i < 2 ^ 64)\/(-(2 ^ 64) < j/\j < 2 ^ 64)
theorem qQ.ok {i j:Int}(h:qQ i j):IntMulOk i j:=by
 rcases h with⟨h1,h2⟩ | ⟨h1,h2⟩
 . exact .of_left (intBits_le_64 h1 h2)
 . exact .of_right (intBits_le_64 h1 h2)
theorem Q2:qf X (binaryOp .Add) (Nf fun i j=>.int (i+j)):=Va fun _ _ _ _ _ _ _ q=>add_int q
theorem Q3:qf X (binaryOp .Sub) (Nf fun i j=>.int (i - j)):=Va fun _ _ _ _ _ _ _ q=>sub_int q
theorem Q4:qf X (binaryOp .Mod) (rI (fun _ j=>0 < j) fun i j=>.int (i % j)):=X7 fun i j _ _ _ _ _ hc q=>by
 have h1:(0:Int) < j:=hc;exact mod_int' (by omega) (by rw[Int.fmod_eq_emod_of_nonneg i (by omega)];exact q)
theorem Q5:qf X (binaryOp .Pow) (rI Vb fun i j=>.int (i ^ j.toNat)):=X7 fun _ _ _ _ _ _ _ hc q=>pow_int_small hc.1 hc.2.1 hc.2.2 q
theorem unI {f:Value->Sem Value}{g:Int->Int}(rule:∀ (i:Int) (t:Tok) (s:Shared) (Q:Value->Shared->Prop) (E:Value->Shared->Prop),Q (.int (g i) s.toks) { s with toks:=s.toks+1}->wpAny (model X.prog X.w) X.A (f (.int i t)) Q E s):Y5 X f (rU fun i=>.int (g i)):=by
 intro pins s σ H x v Q I rx h;obtain⟨i,rfl,q⟩:=h;obtain⟨t,rfl⟩:=rx;exact rule i t s _ _ ⟨.int (g i),H,I.tok _,⟨_,rfl⟩,q⟩
theorem Q6:Y5 X (unaryOp .USub) (rU fun i=>.int (-i)):=unI fun _ _ _ _ _ q=>neg_int q
end
noncomputable def Nh:V->V->Bool
 | .dk,.dk=>true | .dk,.int _=>true | .int _,.dk=>true | .dk,.bl _=>true | .bl _,.dk=>true | .dk,.str _=>true | .str _,.dk=>true
 | .int _,.int _=>true | .bl _,.bl _=>true | .str _,.str _=>true | .IV _,.IV _=>true
 | .int _,.str _=>true | .str _,.int _=>true | .bl _,.str _=>true | .str _,.bl _=>true
 | _,_=>false
def rEq:R2:=fun x y H Q=>Nh x y=true/\Q (.bl (decide (x=y))) H
def rNe:R2:=fun x y H Q=>Nh x y=true/\Q (.bl (!decide (x=y))) H
theorem qg {i j:Int}:decide (V.int i=V.int j)=(i == j):=by
 rw[acq];simp
theorem Ju {i j:Bool}:decide (V.bl i=V.bl j)=(i == j):=by
 rw[acq];simp
theorem qh {i j:Str}:decide (V.str i=V.str j)=(i == j):=by
 rw[acq];simp
theorem Fv {i j:Array UInt8}:decide (V.IV i=V.IV j)=(i.toList == j.toList):=by
 rw[acq];cases i;cases j;simp
section
variable {X:Cx}{a b c:Expr}{ta tb tc:TE}{pos:Pos}
theorem bP {pins:List (Addr×Obj)}{σ:St}{H:Hp}{s:Shared}{Q:VK}{k k':Bool}(I:Inv X pins σ H s)(q:Q (.bl k) H)(e:k=k'):EP X pins σ Q (.bool k') s:=by
 subst e;exact⟨.bl k,H,I,rfl,q⟩
theorem Fw:qf X (compareOp .Eq) rEq:=by
 intro pins s σ H x y v u Q I rx ry h;obtain⟨hs,q⟩:=h;cases x with
 | dk=>
   cases rx;cases y with
   | dk=>cases ry;exact PySem.EqNone.eq_none_none (bP I q (by simp))
   | bl j=>cases ry;exact PySem.EqNone.eq_none_bool (bP I q (by simp))
   | int j=>obtain⟨t',rfl⟩:=ry;exact PySem.EqNone.eq_none_int (bP I q (by simp))
   | str j=>obtain⟨t',rfl⟩:=ry;exact PySem.EqNone.eq_none_str (bP I q (by simp))
   | _=>exact absurd (show false=true from hs) aam
 | bl i=>
   cases rx;cases y with
   | dk=>cases ry;exact PySem.EqNone.eq_bool_none (bP I q (by simp))
   | bl j=>cases ry;exact eq_bool (bP I q Ju)
   | str j=>obtain⟨t',rfl⟩:=ry;exact PySem.EqMixed.eq_bool_str (bP I q (by simp))
   | _=>exact absurd (show false=true from hs) aam
 | int i=>
   obtain⟨t,rfl⟩:=rx;cases y with
   | dk=>cases ry;exact PySem.EqNone.eq_int_none (bP I q (by simp))
   | int j=>obtain⟨t',rfl⟩:=ry;exact eq_int (bP I q qg)
   | str j=>obtain⟨t',rfl⟩:=ry;exact PySem.EqMixed.eq_int_str (bP I q (by simp))
   | _=>exact absurd (show false=true from hs) aam
 | str i=>
   obtain⟨t,rfl⟩:=rx;cases y with
   | dk=>cases ry;exact PySem.EqNone.eq_str_none (bP I q (by simp))
   | bl j=>cases ry;exact PySem.EqMixed.eq_str_bool (bP I q (by simp))
   | int j=>obtain⟨t',rfl⟩:=ry;exact PySem.EqMixed.eq_str_int (bP I q (by simp))
   | str j=>obtain⟨t',rfl⟩:=ry;exact eq_str (bP I q qh)
   | _=>exact absurd (show false=true from hs) aam
 | IV i=>
   obtain⟨t,rfl⟩:=rx;cases y with
   | IV j=>obtain⟨t',rfl⟩:=ry;exact W.eq_bytes (bP I q Fv)
   | _=>exact absurd (show false=true from hs) aam
 | _=>cases y <;> exact absurd (show false=true from hs) aam
theorem PD:qf X (compareOp .NotEq) rNe:=by
 intro pins s σ H x y v u Q I rx ry h;obtain⟨hs,q⟩:=h;cases x with
 | dk=>
   cases rx;cases y with
   | dk=>cases ry;exact PySem.EqNone.ne_none_none (bP I q (by simp))
   | bl j=>cases ry;exact PySem.EqNone.ne_none_bool (bP I q (by simp))
   | int j=>obtain⟨t',rfl⟩:=ry;exact PySem.EqNone.ne_none_int (bP I q (by simp))
   | str j=>obtain⟨t',rfl⟩:=ry;exact PySem.EqNone.ne_none_str (bP I q (by simp))
   | _=>exact absurd (show false=true from hs) aam
 | bl i=>
   cases rx;cases y with
   | dk=>cases ry;exact PySem.EqNone.ne_bool_none (bP I q (by simp))
   | bl j=>cases ry;exact ne_bool (bP I q (congrArg not Ju))
   | str j=>obtain⟨t',rfl⟩:=ry;exact PySem.EqMixed.ne_bool_str (bP I q (by simp))
   | _=>exact absurd (show false=true from hs) aam
 | int i=>
   obtain⟨t,rfl⟩:=rx;cases y with
   | dk=>cases ry;exact PySem.EqNone.ne_int_none (bP I q (by simp))
   | int j=>obtain⟨t',rfl⟩:=ry;exact ne_int (bP I q (congrArg not qg))
   | str j=>obtain⟨t',rfl⟩:=ry;exact PySem.EqMixed.ne_int_str (bP I q (by simp))
   | _=>exact absurd (show false=true from hs) aam
 | str i=>
   obtain⟨t,rfl⟩:=rx;cases y with
   | dk=>cases ry;exact PySem.EqNone.ne_str_none (bP I q (by simp))
   | bl j=>cases ry;exact PySem.EqMixed.ne_str_bool (bP I q (by simp))
   | int j=>obtain⟨t',rfl⟩:=ry;exact PySem.EqMixed.ne_str_int (bP I q (by simp))
   | str j=>obtain⟨t',rfl⟩:=ry;exact ne_str (bP I q (congrArg not qh))
   | _=>exact absurd (show false=true from hs) aam
 | IV i=>
   obtain⟨t,rfl⟩:=rx;cases y with
   | IV j=>obtain⟨t',rfl⟩:=ry;exact W.ne_bytes (bP I q (congrArg not Fv))
   | _=>exact absurd (show false=true from hs) aam
 | _=>cases y <;> exact absurd (show false=true from hs) aam
theorem Vc:qf X (compareOp .Lt) (Nf fun i j=>.bl (decide (i < j))):=Ng fun _ _ _ _ _ _ _ q=>lt_int q
theorem Jv:qf X (compareOp .LtE) (Nf fun i j=>.bl (decide (i<=j))):=Ng fun _ _ _ _ _ _ _ q=>le_int q
theorem Vd:qf X (compareOp .Gt) (Nf fun i j=>.bl (decide (j < i))):=Ng fun _ _ _ _ _ _ _ q=>gt_int q
theorem Ve:qf X (compareOp .GtE) (Nf fun i j=>.bl (decide (j<=i))):=Ng fun _ _ _ _ _ _ _ q=>ge_int q
theorem kf (b:Expr){op:CmpOp}(h:autoParam (op≠.In) zn)(h2:autoParam (op≠.NotIn) zn):behindInMarks op b=false:=by
 have e1:(op == CmpOp.In)=false:=by cases op <;> first | rfl | exact absurd rfl h
 have e2:(op == CmpOp.NotIn)=false:=by cases op <;> first | rfl | exact absurd rfl h2
 cases b <;> simp[behindInMarks,e1,e2]
theorem Ni {op:CmpOp}{r:R2}(ho:qf X (compareOp op) r)(ha:PE X a ta)(hb:PE X b tb)(hm:behindInMarks op b=false):PE X (.Compare a [op] [b] pos) (U8 r ta tb):=by
 intro pins s σ H Q I h;exact wpAny_Compare1 (Q1 ha hb I h fun v u s2 x y H2 I2 rx ry q=>ho pins s2 σ H2 x y v u Q I2 rx ry q) hm
def Vf (t:TE):TT:=fun σ H Q=>t σ H fun x H'=>∃ k,x=.bl k/\Q k H'
theorem Nj {op:CmpOp}{r:R2}(ho:qf X (compareOp op) r)(ha:PE X a ta)(hb:PE X b tb)(hm:behindInMarks op b=false):PT X (.Compare a [op] [b] pos) (Vf (U8 r ta tb)):=by
 intro pins s σ H Q I h;refine wpAny_isTrue_Compare1 (cn (ha pins s σ H _ I h) fun v s1 zq=>Exists.elim zq fun x zq=>Exists.elim zq fun H1 zq=>have I1:=zq.1;have r1:=zq.2.1;have q1:=zq.2.2;cn (hb pins s1 σ H1 _ I1 q1) fun u s2 zq=>Exists.elim zq fun y zq=>Exists.elim zq fun H2 zq=>have I2:=zq.1;have r2:=zq.2.1;have q2:=zq.2.2;
   cn (ho pins s2 σ H2 x y v u _ I2 r1 r2 q2) fun c s3 ⟨z,H3,I3,r3,k,e,q3⟩=>?_) hm
 subst e;cases r3;exact wpAny_truthy_bool ⟨H3,I3,q3⟩
def Q7 (r r':R2)(ta tb tc:TE):TE:=fun σ H Q=>ta σ H fun x H1=>tb σ H1 fun y H2=>r x y H2 fun z H3=>∃ k,z=.bl k /\
 (if k=true then tc σ H3 fun w' H4=>r' y w' H4 Q else Q (.bl false) H3)
theorem Jw {op Q8:CmpOp}{r r':R2}(ho:qf X (compareOp op) r)(Ji:qf X (compareOp Q8) r')(ha:PE X a ta)(hb:PE X b tb)(hc:PE X c tc)(hm:autoParam (lastMarks [op,Q8] [b,c]=false) wv):PE X (.Compare a [op,Q8] [b,c] pos) (Q7 r r' ta tb tc):=by
 intro pins s σ H Q I h;refine Compare_chain (cn (ha pins s σ H _ I h) fun v s1 zq=>Exists.elim zq fun x zq=>Exists.elim zq fun H1 zq=>have I1:=zq.1;have r1:=zq.2.1;have q1:=zq.2.2;chain_link (cn (hb pins s1 σ H1 _ I1 q1) fun u s2 zq=>Exists.elim zq fun y zq=>Exists.elim zq fun H2 zq=>have I2:=zq.1;have r2:=zq.2.1;have q2:=zq.2.2;
   cn (ho pins s2 σ H2 x y v u _ I2 r1 r2 q2) fun d s3 ⟨z,H3,I3,r3,k,e,q3⟩=>?_)) hm
 subst e;cases r3;refine wpAny_truthy_bool ?_;cases k with
 | false=>exact ite_ff ⟨.bl false,H3,I3,rfl,q3⟩
 | true=>exact ite_tt (chain_last (cn (hc pins s3 σ H3 _ I3 q3) fun w' s4 ⟨z',H4,I4,r4,q4⟩=>Ji pins s4 σ H4 y z' u w' Q I4 r2 r4 q4))
theorem mV:(sizeLine:Nat) < 2 ^ 63:=by rw[sizeLine_eq];decide
theorem DR:qf X (binaryOp .Add) (fun x y H Q=>∃ i j,x=.str i/\y=.str j/\i.length+j.length<=sizeLine/\Q (.str (i ++ j)) H):=by
 intro pins s σ H x y v u Q I rx ry h;obtain⟨i,j,rfl,rfl,hz,q⟩:=h;obtain⟨t,rfl⟩:=rx;obtain⟨t',rfl⟩:=ry;exact add_str (fun t' tk=>⟨.str (i ++ j),H,I.tok _,⟨_,rfl⟩,q⟩) hz
theorem vals1 {x:V}{us:List Value}(r:Vals [x] us):∃ u,us=[u]/\RelV x u:=by
 cases r with
 | cons r1 r2=>cases r2;exact⟨_,rfl,r1⟩
theorem vals2 {x y:V}{us:List Value}(r:Vals [x,y] us):∃ u w',us=[u,w']/\RelV x u/\RelV y w':=by
 cases r with
 | cons r1 r2=>
   cases r2 with
   | cons r3 r4=>cases r4;exact⟨_,_,rfl,r1,r3⟩
theorem Hq (hc:X.calm=true):kU X (.builtin "max") (fun xs H Q=>∃ i j,xs=[.int i,.int j]/\Q (.int (if j > i then j else i)) H):=by
 intro pins s σ H xs us Q I r h;obtain⟨i,j,rfl,q⟩:=h;obtain⟨u,w',rfl,⟨t,rfl⟩,⟨t',rfl⟩⟩:=vals2 r;refine max_two_ints (I.ok.hd hc) fun h' tk k=>⟨_,H,I.kept k,?_,q⟩
 by_cases hj:j > i
 . rw[if_pos hj,if_pos hj];exact⟨_,rfl⟩
 . rw[if_neg hj,if_neg hj];exact⟨_,rfl⟩
theorem Hr (hc:X.calm=true):kU X (.builtin "min") (fun xs H Q=>∃ i j,xs=[.int i,.int j]/\Q (.int (if j < i then j else i)) H):=by
 intro pins s σ H xs us Q I r h;obtain⟨i,j,rfl,q⟩:=h;obtain⟨u,w',rfl,⟨t,rfl⟩,⟨t',rfl⟩⟩:=vals2 r;refine min_two_ints (I.ok.hd hc) fun h' tk k=>⟨_,H,I.kept k,?_,q⟩
 by_cases hj:j < i
 . rw[if_pos hj,if_pos hj];exact⟨_,rfl⟩
 . rw[if_neg hj,if_neg hj];exact⟨_,rfl⟩
theorem Hs:kU X (.type "int") (fun xs H Q=>(∃ i,xs=[.int i]/\Q (.int i) H)\/∃ k,xs=[.bl k]/\Q (.int (if k then 1 else 0)) H):=by
 intro pins s σ H xs us Q I r h;rcases h with⟨i,rfl,q⟩ | ⟨k,rfl,q⟩
 . obtain⟨u,rfl,t,rfl⟩:=vals1 r
   exact call_int_int ⟨.int i,H,I,⟨_,rfl⟩,q⟩
 . obtain⟨u,rfl,r1⟩:=vals1 r
   cases r1;exact call_int_bool ⟨.int (if k then 1 else 0),H,I.tok _,⟨_,rfl⟩,q⟩
end
structure DS (h:Heap)(x dx C:Addr)(mA:Str->Option Value):Prop where
 obj:h.get? x=some (W.instObj C dx)
 ns:h.Ns1 dx mA
 ne:dx≠x
theorem Ht {h:Heap}{dx:Addr}{mA:Str->Option Value}(n:h.Ns1 dx mA):∃ od,h.get? dx=some od/\∀ name,W.lookIn name od=some (mA name):=by
 obtain⟨o,es,ep,ho,hd,hk,_,hm⟩:=n;refine⟨o,ho,fun name=>?_⟩;have e:=hm name;unfold nsFind findBy at e;rw[<- Array.find?_toList] at e;unfold W.lookIn;rw[hd];dsimp only
 split
 . rename_i y q
   rw[q] at e;exact congrArg some e
 . rename_i q
   rw[q] at e;have a:es.toList.any (·.refKey)=false:=by
     rw[List.any_eq_false];intro y hy;obtain⟨z,t,Nk⟩:=hk y (Array.mem_toList_iff.mp hy);simp[DictEntry.refKey,Nk]
   have a':¬ es.toList.any (·.refKey)=true:=by rw[a];exact aam
   rw[if_neg a'];exact congrArg some e
theorem DS.look {h:Heap}{x dx C:Addr}{mA:Str->Option Value}(I:DS h x dx C mA):∃ od,W.InstAt h x (W.instObj C dx) C (some od)/\∀ name,W.lookIn name od=some (mA name):=
 let ⟨od,ho,hl⟩:=Ht I.ns
 ⟨od,⟨I.obj,rfl,rfl,ho⟩,hl⟩
section
variable {prog:Program}{w:World}{A:Around}{E:Value->Shared->Prop}{s:Shared}{K:W.Frag}{x dx C f:Addr}{mA:Str->Option Value}{name:Str}{v:Value}
theorem get_map {expr:Bool}{Q:Value->Shared->Prop}(X:K.In s.heap)(I:DS s.heap x dx C mA)(hg:W.plainGet K C name=true)(hh:W.hasDictIn K C=true)(ha:W.findIn K (.ref C) name=some none)(hv:mA name=some v)(PF:W.handedIn v=true)(h:Q v { s with toks:=s.toks+1}):wpAny (model prog w) A (getAttr (.ref x) name expr) Q E s:=by
 obtain⟨od,J,hl⟩:=I.look;exact W.get_value X J (W.plainGet_of hg).1 (W.findObj_own hh ha rfl (by rw[hl,hv])) PF h
theorem Jx {pl:Sem Bool}{Q:Value×List Value->Shared->Prop}(X:K.In s.heap)(I:DS s.heap x dx C mA)(hg:W.plainGet K C name=true)(hf:W.findIn K (.ref C) name=some (some (.ref f)))(ht:W.isFn K (.ref f)=true)(hv:mA name=none)(h:Q (.ref f,[.ref x]) s):wpAny (model prog w) A (getMethod (.ref x) name pl) Q E s:=by
 obtain⟨od,J,hl⟩:=I.look;exact W.method_fn X J (W.plainGet_of hg).1 (W.plainGet_of hg).2 hf (beq_iff_eq.mp ht) (by show(W.lookIn name od).map (·.isSome)=some false;rw[hl,hv];rfl) h
theorem Nl {ns:List Str}{Q:Unit->Shared->Prop}(X:K.In s.heap)(I:DS s.heap x dx C mA)
   (hs:W.findIn K (.ref C) "__setattr__"=some (some (.builtin "object.__setattr__"))) (hp:W.plainOver K C=true) (ht:W.takerIn K C name=some none) (hh:W.hasDictIn K C=true)
   (hw:PySem.Within mA ns) (hsz:ns.length<=sizeLine)
   (h:∀ h',DS h' x dx C (fun y=>if y=name then some v else mA y)->abY dx s.heap h'->Q () { s with heap:=h',toks:=s.toks+2}) :
   wpAny (model prog w) A (setAttr (.ref x) name v) Q E s:=by
 obtain⟨od,J,hl⟩:=I.look;refine W.set_plain X J hs (W.osa_open (s:={ s with toks:=s.toks+1}) (r:=none) X J hp ht fun b=>?_);obtain⟨cd,hc,Uw⟩:=W.any_some hh;have hx:s.heap.get? x=some ⟨.ref C,some dx,.plain,#[]⟩:=I.obj;refine wpAny_bind (wpAny_pure (wpAny_bind (wpAny_bind (wpAny_loadPart hx (wpAny_bind (W.Looks.here (s:={ s with toks:=s.toks+1}) (W.looks_clsIn X hc) ?_))))));rw[Uw];refine wpAny_pure (a:=some dx) (wpAny_bind (wpAny_pure (wpAny_bind ?_)));refine wpAny_nsSet1 (s:={ s with toks:=s.toks+1}) I.ns fun h' MO BX=>?_
 obtain⟨oD,esD,epD,hoD,hdD,hcD⟩:=MO.count (PySem.Within.cons name v hw);refine wpAny_bind (wpAny_lookBehind hoD (by rw[hdD];exact pastItsLine_dict (aau hcD (by rw[aaI];omega))) ?_);exact wpAny_pure (h _ ⟨(BX.2 _ (Ne.symm I.ne)).trans I.obj,MO,I.ne⟩ BX)
theorem Jy {R:Result->Shared->Prop}{vs:List Value}{kw:List (Str×Value)}(X:K.In s.heap)(hm:W.makesIn K C=true)(hi:W.findIn K (.ref C) "__init__"=some (some (.ref f)))(hf:W.typeIn K (.ref f)=some (.type "function"))(h:codeAny (model prog w) (A.under (.builtin "type.__call__" ⟨.ref C::vs,kw⟩)) (.call (.ref f) ⟨.ref (s.heap.objs.size+1)::vs,kw⟩) (W.InitBack (s.heap.objs.size+1) R) { s with heap:=(s.heap.push W.emptyDict).push (W.instObj C s.heap.objs.size)}):codeAny (model prog w) A (.call (.ref C) ⟨vs,kw⟩) R s:=by
 obtain⟨hh,g,d,t,os⟩:=s;exact W.make_core (W.makes_of X hm) (W.looks_findIn X hi) (fun self=>W.bind_fn X self hf) (.inl rfl) h
theorem Hu {R:Result->Shared->Prop}(X:K.In s.heap)(hm:W.makesIn K C=true)(hi:W.findIn K (.ref C) "__init__"=some (some (.builtin "object.__init__")))(hb:∀ self,W.Looks (model prog w) s.heap (bindSpecial (.builtin "object.__init__") self) (.builtin "object.__init__",[self]))(h:codeAny (model prog w) (A.under (.builtin "type.__call__" ⟨[.ref C],[]⟩)) (.call (.builtin "object.__init__") ⟨[.ref (s.heap.objs.size+1)],[]⟩) (W.InitBack (s.heap.objs.size+1) R) { s with heap:=(s.heap.push W.emptyDict).push (W.instObj C s.heap.objs.size)}):codeAny (model prog w) A (.call (.ref C) ⟨[],[]⟩) R s:=by
 obtain⟨hh,g,d,t,os⟩:=s;exact W.make_core (W.makes_of X hm) (W.looks_findIn X hi) hb (.inr ⟨rfl,rfl⟩) h
end
noncomputable def fY (f:Str)(v:V):List (Str×V)->List (Str×V)
 | []=>[(f,v)]
 | (g,x)::r=>if g=f then (g,v)::r else (g,x)::fY f v r
theorem pE (f g:Str)(v:V):∀ fs:List (Str×V),(fY f v fs).lookup g=if g=f then some v else fs.lookup g
 | []=>by
   show ab9 g [(f,v)]=_;by_cases h:g=f
   . have hb:(g == f)=true:=beq_iff_eq.mpr h
     simp only[ab9,hb,if_pos h]
   . have hb:(g == f)=false:=beq_eq_false_iff_ne.mpr h
     simp only[ab9,hb,if_neg h]
 | (k,x)::r=>by
   have ih:=pE f g v r;rw[show fY f v ((k,x)::r)=(if k=f then (k,v)::r else (k,x)::fY f v r) from rfl];by_cases hk:k=f
   . rw[if_pos hk]
     by_cases h:g=k
     . have hb:(g == k)=true:=beq_iff_eq.mpr h
       simp only[ab9,hb,if_pos (h.trans hk)]
     . have hb:(g == k)=false:=beq_eq_false_iff_ne.mpr h
       simp only[ab9,hb,if_neg (fun e:g=f=>h (e.trans hk.symm))]
   . rw[if_neg hk]
     by_cases h:g=k
     . have hb:(g == k)=true:=beq_iff_eq.mpr h
       simp only[ab9,hb,if_neg (fun e:g=f=>hk (h.symm.trans e))]
     . have hb:(g == k)=false:=beq_eq_false_iff_ne.mpr h
       simp only[ab9,hb];exact ih
theorem tQ (f:Str)(v:V):∀ fs:List (Str×V),f∈(fY f v fs).map (·.1)/\∀ g,g∈fs.map (·.1)->g∈(fY f v fs).map (·.1)
 | []=>⟨by simp[fY],fun g h=>by simp at h⟩
 | (k,x)::r=>by
   obtain⟨i1,i2⟩:=tQ f v r;rw[show fY f v ((k,x)::r)=(if k=f then (k,v)::r else (k,x)::fY f v r) from rfl];by_cases hk:k=f
   . rw[if_pos hk]
     subst hk;exact⟨by simp,fun g h=>by simpa using h⟩
   . rw[if_neg hk]
     refine⟨?_,fun g h=>?_⟩
     . rw[aao]
       exact aaC _ i1
     . rw[aao] at h ⊢
       rcases aaJ.mp h with e | e
       . exact aaJ.mpr (.inl e)
       . exact aaC _ (i2 g e)
theorem uO (f:Str)(v:V):∀ fs:List (Str×V),(fY f v fs).length<=fs.length+1
 | []=>by simp[fY]
 | (k,x)::r=>by
   have ih:=uO f v r;rw[show fY f v ((k,x)::r)=(if k=f then (k,v)::r else (k,x)::fY f v r) from rfl];by_cases hk:k=f
   . rw[if_pos hk,aaI,aaI];omega
   . rw[if_neg hk,aaI,aaI];omega
theorem qP.some_of {v:V}{o:Option Value}(r:qP (some v) o):∃ u,o=some u/\RelV v u:=by
 cases o with
 | none=>exact(show False from r).elim
 | some u=>exact⟨u,rfl,r⟩
theorem qP.none_of {o:Option Value}(r:qP none o):o=none:=by
 cases o with
 | none=>rfl
 | some u=>exact(show False from r).elim
theorem Hv {v:V}{u:Value}(r:RelV v u):W.handedIn u=true:=by
 cases v with
 | dk=>cases (show u=Value.none from r);rfl
 | bl b=>cases (show u=Value.bool b from r);rfl
 | int i=>obtain⟨t,e⟩:=(show ∃ t,u=Value.int i t from r);cases e;rfl
 | str x=>obtain⟨t,e⟩:=(show ∃ t,u=Value.str x t from r);cases e;rfl
 | IV b=>obtain⟨t,e⟩:=(show ∃ t,u=Value.bytes b t from r);cases e;rfl
 | Us b=>obtain⟨t,e⟩:=(show ∃ t,u=Value.float b t from r);cases e;rfl
 | ref a=>cases (show u=Value.ref a from r);rfl
 | ty n=>cases (show u=Value.type n from r);rfl
section
variable {P:Program}{w:World}{H:Hp}{h:Heap}{a C dx:Addr}{fs:List (Str×V)}
theorem z8 (bO:r6 P w H h)(e:Rd H a (.ins C dx fs)):∃ mA,DS h a dx C mA/\(∀ f,qP (fs.lookup f) (mA f))/\PySem.Within mA (fs.map (·.1))/\fs.length<=1000/\H dx=some (.own a):=by
 obtain⟨d,z,ne,ob,mA,n,r,q⟩:=(show aV P w H h a (.ins C dx fs) from e.ok bO)
 exact⟨mA,⟨ob,n,ne⟩,r,q,z,d⟩
end
structure vF (K:W.Frag)(C:Addr):Prop where
 pg:W.plainGet K C Str.empty=true
 hd:W.hasDictIn K C=true
 po:W.plainOver K C=true
 sa:W.findIn K (.ref C) "__setattr__"=some (some (.builtin "object.__setattr__"))
theorem vF.get {K:W.Frag}{C:Addr}(c:vF K C)(f:Str):W.plainGet K C f=true:=c.pg
def bQ (K:W.Frag)(C:Addr)(f:Str):Prop:=W.findIn K (.ref C) f=some none
theorem bQ.Vg {K:W.Frag}{C:Addr}{f:Str}(n:bQ K C f):W.takerIn K C f=some none:=by
 unfold W.takerIn;rw[show W.findIn K (.ref C) f=some none from n];rfl
structure Con (K:W.Frag)(C:Addr)(f:Str)(v:V)(u:Value):Prop where
 at_:W.findIn K (.ref C) f=some (some u)
 rel:RelV v u
 get:W.specialIn K u "__get__"=some none
 cp:W.copiedNames.contains f=false
structure Meth (K:W.Frag)(C:Addr)(m:Str)(f:Addr):Prop where
 at_:W.findIn K (.ref C) m=some (some (.ref f))
 fn:W.isFn K (.ref f)=true
 kp:W.keepIn K (.ref f)=true
section
variable {X:Cx}{pins:List (Addr×Obj)}{σ:St}{H:Hp}{s:Shared}{a C dx:Addr}{fs:List (Str×V)}{f:Str}{v:V}{A:Around}{E:Value->Shared->Prop}
theorem DT {b:Bool}{Q:Value->Shared->Prop}(I:Inv X pins σ H s)(e:Rd H a (.ins C dx fs))(c:vF X.K C)(n:bQ X.K C f)(l:fs.lookup f=some v)(h:∀ u s',Inv X pins σ H s'->RelV v u->Q u s'):wpAny (model X.prog X.w) A (getAttr (.ref a) f b) Q E s:=by
 obtain⟨mA,O,r,_,_,_⟩:=z8 I.bO e;obtain⟨u,hu,ru⟩:=qP.some_of (v:=v) (o:=mA f) (by rw[<- l];exact r f);exact get_map I.BQ O (c.get f) c.hd n hu (Hv ru) (h u _ (I.tok _) ru)
theorem wA {m:Str}{g:Addr}{pl:Sem Bool}{Q:Value×List Value->Shared->Prop}(I:Inv X pins σ H s)(e:Rd H a (.ins C dx fs))(c:vF X.K C)(k:Meth X.K C m g)(l:fs.lookup m=none)(h:Q (.ref g,[.ref a]) s):wpAny (model X.prog X.w) A (getMethod (.ref a) m pl) Q E s:=by
 obtain⟨mA,O,r,_,_,_⟩:=z8 I.bO e;have hn:mA m=none:=qP.none_of (by rw[<- l];exact r m);exact Jx I.BQ O (c.get m) k.at_ k.fn hn h
theorem DU {y:V}{u:Value}{Q:Unit->Shared->Prop}(I:Inv X pins σ H s)(e:H a=some (.ins C dx fs))(c:vF X.K C)(n:bQ X.K C f)(hl:fs.length < 1000)(ry:RelV y u)(h:∀ s',Inv X pins σ (upd H a (.ins C dx (fY f y fs))) s'->Q () s'):wpAny (model X.prog X.w) A (setAttr (.ref a) f u) Q E s:=by
 obtain⟨mA,O,r,wi,_,ho⟩:=z8 I.bO (.of e);have hz:(fs.map (·.1)).length<=sizeLine:=by rw[k5,sizeLine_eq];omega
 refine Nl I.BQ O c.sa c.po n.Vg c.hd wi hz fun h' O' sb=>h _ ?_
 have hd:∃ o,h'.get? dx=some o:=let ⟨o,_,_,e',_⟩:=O'.ns;⟨o,e'⟩;refine I.write (x:=a) (e:=dx) (by rw[e];exact True.intro) (.inr ho) (fun b q hb z=>(sb.2 b hb).trans z) hd ?_;refine⟨by rw[ai O.ne];exact ho,?_,O.ne,O'.obj,_,O'.ns,fun g=>?_,fun g hg=>?_⟩
 . have:=uO f y fs;omega
 . show qP ((fY f y fs).lookup g) (if g=f then some u else mA g)
   rw[pE];by_cases q:g=f
   . rw[if_pos q,if_pos q];exact ry
   . rw[if_neg q,if_neg q];exact r g
 . by_cases q:g=f
   . rw[q];exact(tQ f y fs).1
   . refine(tQ f y fs).2 g (wi g fun z=>hg ?_)
     show(if g=f then some u else mA g)=none;rw[if_neg q];exact z
theorem Inv.made (I:Inv X pins σ H s):Inv X pins σ (upd (upd H s.heap.objs.size (.own (s.heap.objs.size+1))) (s.heap.objs.size+1) (.ins C s.heap.objs.size [])) { s with heap:=(s.heap.push W.emptyDict).push (W.instObj C s.heap.objs.size)}:=by
 have e1:(s.heap.push W.emptyDict).get? s.heap.objs.size=some W.emptyDict:=aar s.heap rfl;have e2:((s.heap.push W.emptyDict).push (W.instObj C s.heap.objs.size)).get? (s.heap.objs.size+1)=some (W.instObj C s.heap.objs.size):=by
   have:=aar (s.heap.push W.emptyDict) (o:=W.instObj C s.heap.objs.size) rfl
   rwa [abK] at this
 have e3:(s.heap.push W.emptyDict).Ns s.heap.objs.size (fun _=>none):=⟨W.emptyDict,#[],_,e1,rfl,(fun e he=>absurd he (by simp)),fun _=>rfl⟩
 have I1:=I.laid (a:=s.heap.objs.size) (o:=.own (s.heap.objs.size+1)) (h':=s.heap.push W.emptyDict) (t':=s.toks) (fun b u q=>aac _ q) (aaa _) ⟨_,e1⟩;refine I1.laid (a:=s.heap.objs.size+1) (o:=.ins C s.heap.objs.size []) (t':=s.toks) (fun b u q=>aac _ q) (Nat.le_of_eq (abK _ _)) ?_;have ne:s.heap.objs.size≠s.heap.objs.size+1:=aat (abN _);refine⟨by rw[ai ne,ak],aa1 _,ne,e2,fun _=>none,(Heap.Ns1.of_empty e3).at fun o q=>aac _ q,fun _=>True.intro,fun y hy=>absurd rfl hy⟩
theorem Nm {prog:Program}{w:World}{env:Env}{e:Expr}{f:Str}{pos:Pos}{s:Shared}{Q:Value->Shared->Prop}(hb:attributeBase e f env (eval e env)=eval e env)(h:wpAny (model prog w) A (eval e env) (fun o s₁=>wpAny (model prog w) A (getAttr o f true) Q E s₁) E s):wpAny (model prog w) A (eval (.Attribute e f pos) env) Q E s:=
 Attribute_any_ h (by rw[arm_eval_Attribute,hb])
end
def Y6 (K:PySem.W.Frag)(ta:TE)(f:Str):TE:=fun σ H Q=>ta σ H fun x H1=>∃ a C dx fs v,x=.ref a/\Rd H1 a (.ins C dx fs)/\vF K C/\bQ K C f/\fs.lookup f=some v/\Q v H1
def Y7 (K:PySem.W.Frag)(ta tv:TE)(f:Str):TS:=fun D σ H=>tv σ H fun y H1=>ta σ H1 fun x H2=>∃ a C dx fs,x=.ref a/\H2 a=some (.ins C dx fs)/\vF K C/\bQ K C f/\fs.length < 1000 /\
 D.nx σ (upd H2 a (.ins C dx (fY f y fs)))
section
variable {X:Cx}{o e value:Expr}{f:Str}{pos pos':Pos}{ta tv:TE}
theorem wC (he:PE X e ta)(hb:attributeBase e f X.env (eval e X.env)=eval e X.env):PE X (.Attribute e f pos) (Y6 X.K ta f):=by
 intro pins s σ H Q I h;refine Nm hb (cn (he pins s σ H _ I h) fun u s1 ⟨x,H1,I1,rx,a,C,dx,fs,v,ex,ea,c,n,l,q⟩=>?_);subst ex;obtain rfl:u=Value.ref a:=rx;exact DT I1 ea c n l fun u' s2 I2 ru=>⟨v,H1,I2,ru,q⟩
theorem wD (ha:PE X o ta)(hv:PE X value tv)(hs:swapsWith value (some (.Attribute o f pos')) pos.line X.env=pure false):PS X (.Assign [.Attribute o f pos'] value pos) (Y7 X.K ta tv f):=by
 intro pins s σ H D I h;refine plainObj_wpAny_Assign_Attribute (cn (hv pins s σ H _ I h) fun u s1 zq=>Exists.elim zq fun y zq=>Exists.elim zq fun H1 zq=>have I1:=zq.1;have ry:=zq.2.1;have q:=zq.2.2;cn (ha pins s1 σ H1 _ I1 q) fun ov s2 ⟨x,H2,I2,rx,a,C,dx,fs,ex,ea,c,n,l,q2⟩=>?_) hs;subst ex;obtain rfl:ov=Value.ref a:=rx;exact DU I2 ea c n l ry fun s3 I3=>⟨σ,_,I3,q2⟩
end
section
variable {H:Hp}
inductive wF (K:W.Frag)(H:Hp):V->Value->Prop where
 | dk:wF K H .dk (.type "NoneType")
 | bl (x:Bool):wF K H (.bl x) (.type "bool")
 | int (i:Int):wF K H (.int i) (.type "int")
 | str (x:Str):wF K H (.str x) (.type "str")
 | Us (x:UInt64):wF K H (.Us x) (.type "float")
 | lst {a:Addr} {xs:List V} (e:H a=some (.lst xs)):wF K H (.ref a) (.type "list")
 | bU {a:Addr} {o:Obj} {xs:List V} (e:H a=some (.bU o (.lst xs))):wF K H (.ref a) (.type "list")
 | tup {a:Addr} {xs:List V} (e:H a=some (.tup xs)):wF K H (.ref a) (.type "tuple")
 | dK {a:Addr} {kvs:List (Key×V)} (e:H a=some (.dK kvs)):wF K H (.ref a) (.type "dict")
 | dT {a:Addr} {kvs:List (List Key×V)} (e:H a=some (.dT kvs)):wF K H (.ref a) (.type "dict")
 | ins {a C dx:Addr} {fs:List (Str×V)} (e:Rd H a (.ins C dx fs)) (cl:vF K C) (ha:W.findIn K (.ref C) "__class__"=some (some (.builtin "object.__class__")))
     (hn:W.specialIn K (.builtin "object.__class__") "__get__"=some (some (.builtin "getset_descriptor.__get__"))) (htk:W.takesIn K (.builtin "object.__class__")=some true)
     (hm:W.mroIn K C (.type "object")=some true):wF K H (.ref a) (.ref C)
end
structure fA (k:Nat)(A:Around):Prop where
 hd:A.handled=none
 dp:A.depth+3 * k+5 < recursionLimit
 un:A.units+16 * k+200 < cLine
theorem fA.mono {j k:Nat}{A:Around}(r:fA k A)(h:j<=k):fA j A:=⟨r.hd,by have:=r.dp;omega,by have:=r.un;omega⟩
theorem fA.deeper {k:Nat}{A:Around}(r:fA (k+1) A)(env:Env):fA k (A.deeper env):=
 ⟨r.hd,by have:=r.dp;show A.depth+1+3 * k+5 < _;omega,by have:=r.un;show A.units+3+16 * k+200 < _;omega⟩
theorem DV {A:Around}{C:Addr}{us:List Value}{kw:List (Str×Value)}:(A.under (.builtin "type.__call__" ⟨.ref C::us,kw⟩)).depth=A.depth+1:=by
 first | rfl | simp[Around.under,Code.weight,Code.isCreation,Code.isGuard,Code.isCaller,Code.frames,Code.isFrame,guardIds]
theorem DW {A:Around}{C:Addr}{us:List Value}{kw:List (Str×Value)}:(A.under (.builtin "type.__call__" ⟨.ref C::us,kw⟩)).units=A.units+1:=by
 first | rfl | simp[Around.under,Code.cUnits,Code.frames,Code.isFrame]
theorem fA.make {k:Nat}{A:Around}(r:fA (k+1) A)(C:Addr)(us:List Value)(kw:List (Str×Value)):fA k (A.under (.builtin "type.__call__" ⟨.ref C::us,kw⟩)):=
 ⟨r.hd,by have:=r.dp;rw[DV];omega,by have:=r.un;rw[DW];omega⟩
theorem fA.depth {k:Nat}{A:Around}(r:fA k A):A.depth < recursionLimit:=by have:=r.dp;omega
theorem fA.units {k:Nat}{A:Around}(r:fA k A):A.units+64 < cLine:=by have:=r.un;omega
def Vh:TA:=fun _ H Q=>Q [] H
def Vi (ta:TE)(tr:TA):TA:=fun σ H Q=>ta σ H fun x H1=>tr σ H1 fun xs H2=>Q (x::xs) H2
section
variable {X:Cx}{e:Expr}{es:List Expr}{te:TE}{t:TA}{pos:Pos}
theorem pF:PA X [] Vh:=fun _ _ _ _ H Q I h=>Calls.spliced_nil ⟨[],H,I,.nil,h⟩
theorem mH (ha:PE X e te)(hr:PA X es t)(hs:autoParam (starEach (e::es) X.env=(false,eval e X.env)::starEach es X.env) jp):PA X (e::es) (Vi te t):=by
 intro pos pins s σ H Q I h;rw[hs];show wpAny _ _ (spliced ((false,eval e X.env)::backTo pos (starEach es X.env))) _ _ s;refine Calls.spliced_cons (cn (ha pins s σ H _ I h) fun u s1 zq=>Exists.elim zq fun x zq=>Exists.elim zq fun H1 zq=>have I1:=zq.1;have r1:=zq.2.1;have q1:=zq.2.2;?_);exact cn (hr pos pins s1 σ H1 _ I1 q1) fun us s2 zq=>Exists.elim zq fun xs zq=>Exists.elim zq fun H2 zq=>have I2:=zq.1;have r2:=zq.2.1;have q2:=zq.2.2;⟨x::xs,H2,I2,.cons r1 r2,q2⟩
def Y8 (t:TA):TE:=fun σ H Q=>t σ H fun xs H1=>xs.length<=sizeLine/\∀ p,H1 p=none->Q (.ref p) (upd H1 p (.tup xs))
def Y9 (t:TA):TE:=fun σ H Q=>t σ H fun xs H1=>xs.length<=sizeLine/\∀ p,H1 p=none->Q (.ref p) (upd H1 p (.lst xs))
theorem Q9 {x1}(h:PA X es t):PE X (.Tuple es x1 pos) (Y8 t):=by
 intro pins s σ H Q I hq;refine wpAny_Tuple_spliced (cn (h pos pins s σ H _ I hq) fun us s1 ⟨xs,H1,I1,r,z,q⟩=>⟨by rw[<- r.length];exact z,?_⟩);have hf:H1 s1.heap.objs.size=none:=I1.bO.fresh (aaa _);refine⟨.ref s1.heap.objs.size,upd H1 s1.heap.objs.size (.tup xs),I1.laid (t':=s1.toks) (fun b u e=>aac _ e) (aaa _) ?_,rfl,q _ hf⟩;exact⟨z,us,r,⟨_,aar _ rfl,rfl,_,rfl⟩⟩
theorem wG (h:PA X es t):PE X (.List es pos) (Y9 t):=by
 intro pins s σ H Q I hq;refine wpAny_List_spliced (cn (h pos pins s σ H _ I hq) fun us s1 ⟨xs,H1,I1,r,z,q⟩=>⟨by rw[<- r.length];exact z,?_⟩);have hf:H1 s1.heap.objs.size=none:=I1.bO.fresh (aaa _);refine⟨.ref s1.heap.objs.size,upd H1 s1.heap.objs.size (.lst xs),I1.laid (t':=s1.toks) (fun b u e=>aac _ e) (aaa _) ?_,rfl,q _ hf⟩;exact⟨z,us,0,r,aar _ rfl⟩
end
abbrev Sp:=List V->Hp->VK->XK->Prop
abbrev tR:=List Env->Hp->Shared->XK->Value->Shared->Prop
structure BY (P:Program)(w:World)(K:W.Frag)(mg:Str->Option Value)(base:Heap)(A:Around)(outer:List Env)(s:Shared)(H:Hp):Prop where
 frames:A.frames=some outer
 mod:Mod K mg base
 bs:∀ b o,base.get? b=some o->s.heap.get? b=some o/\H b=none
 Fn:base.objs.size<=s.heap.objs.size
 tK:s.heap.FunFrames base outer
 Pw:∀ b∈Jh outer,H b=none
 bO:r6 P w H s.heap
 bare:AllBare s.gens
def CE (outer:List Env)(P:Program)(w:World)(H:Hp)(s:Shared)(Q:VK)(u:Value)(s':Shared):Prop:=
 ∃ v H',s'.os=s.os/\AllBare s'.gens/\Un (Jh outer) [] H H' s.heap s'.heap/\r6 P w H' s'.heap/\RelV v u/\Q v H'
def CR (CX:tR)(outer:List Env)(P:Program)(w:World)(H:Hp)(s:Shared)(Q:VK)(E:XK)(r:Result)(s':Shared):Prop:=
 match r with
 | .ok (.ret u)=>CE outer P w H s Q u s'
 | .ok _=>False
 | .error e=>CX outer H s E e s'
structure kW (P:Program)(w:World)(K:W.Frag)(mg:Str->Option Value)(base:Heap)(CX:tR)(k:Nat)(f:Addr)(fd:FuncData)(ps:List Str)(sp:Sp):Prop where
 len:∀ vs H Q E,sp vs H Q E->vs.length=ps.length
 run:∀ (A:Around) (outer:List Env) (s:Shared) (H:Hp) (args:Args) (us:List Value) (vs:List V) (Q:VK) (E:XK),fA k A->BY P w K mg base A outer s H->BindsTo s fd args (ps.zip us)->Vals vs us->sp vs H Q E ->
   codeAny (model P w) A (.call (.ref f) args) (CR CX outer P w H s Q E) s
theorem BY.make {P:Program}{w:World}{K:W.Frag}{mg:Str->Option Value}{base:Heap}{A:Around}{outer:List Env}{s:Shared}{H:Hp}(e:BY P w K mg base A outer s H)(C:Addr)(us:List Value)(kw:List (Str×Value)):BY P w K mg base (A.under (.builtin "type.__call__" ⟨.ref C::us,kw⟩)) outer s H:=⟨by first | exact e.frames | (simpa [Around.under,Code.envs,Code.isFrame,pushEnvs] using e.frames),e.mod,e.bs,e.Fn,e.tK,e.Pw,e.bO,e.bare⟩
section
variable {X:Cx}{pins:List (Addr×Obj)}{σ:St}{H:Hp}{s s':Shared}
theorem Inv.Vj (I:Inv X pins σ H s):BY X.prog X.w X.K X.mg X.base X.A X.stack s H:=
 ⟨I.ok.frames,I.ok.mod,I.bs,aau I.ok.Fn I.sz,I.stack,I.vD,I.bO,I.bare⟩
theorem Inv.after {Q:VK}{u:Value}(I:Inv X pins σ H s)(h:CE X.stack X.prog X.w H s Q u s'):EP X pins σ Q u s':=by
 obtain⟨v,H',os,bare,un,bO,r,q⟩:=h;obtain⟨hh,g,d,t,Za⟩:=s';obtain rfl:Za=s.os:=os;exact⟨v,H',I.call (h':=hh) (g':=g) (d':=d) (t':=t) (ch:=[]) un bO bare (fun b z=>absurd z (by simp)),r,q⟩
end
def Vk (sp:Sp)(dvs:List V)(E:XK)(t:TA):TE:=fun σ H Q=>t σ H fun vs H1=>sp (vs ++ dvs) H1 Q E
def PH (C:Addr)(m:Str)(sp:Sp)(dvs:List V)(E:XK)(ta:TE)(t:TA):TE:=fun σ H Q=>ta σ H fun x H1=>∃ a dx fs,x=.ref a/\Rd H1 a (.ins C dx fs)/\fs.lookup m=none /\
 t σ H1 fun vs H2=>sp (x::(vs ++ dvs)) H2 Q E
def Vl (C:Addr)(sp:Sp)(dvs:List V)(E:XK)(t:TA):TE:=fun σ H Q=>t σ H fun vs H1=>∀ x dx,H1 x=none->H1 dx=none->dx≠x ->
 sp (.ref x::(vs ++ dvs)) (upd (upd H1 dx (.own x)) x (.ins C dx [])) (fun v H2=>v=.dk/\Q (.ref x) H2) E
def Binds (K:PySem.W.Frag)(fd:FuncData)(ps:List Str)(ds:List Value):Prop:=
 ∀ (s:Shared) (us:List Value),K.In s.heap->(us ++ ds).length=ps.length->BindsTo s fd ⟨us,[]⟩ (ps.zip (us ++ ds))
theorem Binds.all {K:W.Frag}{fd:FuncData}{ps:List Str}(h:∀ us:List Value,us.length=ps.length->bindArgs fd ⟨us,[]⟩=pure (ps.zip us)):Binds K fd ps []:=fun s us _ hl=>by
 rw[abx] at hl ⊢;exact .of_eq (h us hl)
def Passes (CX:tR)(X:Cx)(E:XK):Prop:=∀ (pins:List (Addr×Obj)) (σ:St) (H:Hp) (s:Shared) (e:Value) (s':Shared),Inv X pins σ H s->CX X.stack H s E e s'->X.xe e s'
section
variable {X:Cx}{CX:tR}{k:Nat}{f C:Addr}{fd:FuncData}{ps:List Str}{sp:Sp}{dvs:List V}{ds:List Value}{E:XK}{x m:Str}{p pos apos:Pos}{e o:Expr}{es:List Expr}{ta:TE}{t:TA}
theorem DX {pins:List (Addr×Obj)}{σ:St}{H:Hp}{s:Shared}{Q:VK}{us:List Value}{vs:List V}(F:kW X.prog X.w X.K X.mg X.base CX k f fd ps sp)(hr:fA k X.A)(hb:Binds X.K fd ps ds)(hd:Vals dvs ds)(hx:Passes CX X E)(I:Inv X pins σ H s)(r:Vals vs us)(h:sp (vs ++ dvs) H Q E):wpAny (model X.prog X.w) X.A (call (.ref f) us) (EP X pins σ Q) X.xe s:=by
 have r2:Vals (vs ++ dvs) (us ++ ds):=r.append hd;have hl:(us ++ ds).length=ps.length:=by rw[<- r2.length];exact F.len _ _ _ _ h
 refine wpAny_call (codeAny_mono (F.run X.A X.stack s H ⟨us,[]⟩ (us ++ ds) (vs ++ dvs) Q E hr I.Vj (hb s us I.BQ hl) r2 h) fun r s' hq=>?_);cases r with
 | error e=>exact hx pins σ H s e s' I hq
 | ok fl=>
   cases fl with
   | ret u=>exact I.after hq
   | next=>exact False.elim hq
   | brk=>exact False.elim hq
   | cont=>exact False.elim hq
theorem Fx (F:kW X.prog X.w X.K X.mg X.base CX k f fd ps sp)(hr:fA k X.A)(hg:Gl X x)(hm:X.mg x=some (.ref f))(hk:W.keepIn X.K (.ref f)=true)(hb:Binds X.K fd ps ds)(hd:Vals dvs ds)(hx:Passes CX X E)(ha:PA X (e::es) t)(mI:autoParam ((x == ("__debug__":Str))=false) zn)(he:autoParam (starEach (e::es) X.env=(false,eval e X.env)::starEach es X.env) jp)(qX:autoParam ((backTo pos (starEach es X.env)).any (·.1)=false) jp):PE X (.Call (.Name x p) (e::es) [] pos) (Vk sp dvs E t):=by
 intro pins s σ H Q I h;refine wpAny_Call_Name_kw (vE I hg hm ?_ mI);refine W.callWith_K (h₀:=X.base) I.ok.mod.UT hk (cn (ha pos pins s σ H _ I h) fun us s1 zq=>Exists.elim zq fun vs zq=>Exists.elim zq fun H1 zq=>have I1:=zq.1;have r:=zq.2.1;have q:=zq.2.2;⟨I1.BQ,?_⟩) he qX;exact DX F hr hb hd hx I1 r q
theorem Fy {pl:Sem Bool}(he:PE X o ta)(c:vF X.K C)(hm:Meth X.K C m f)(F:kW X.prog X.w X.K X.mg X.base CX k f fd ps sp)(hr:fA k X.A)(hb:Binds X.K fd ps ds)(hd:Vals dvs ds)(hx:Passes CX X E)(ha:PA X (e::es) t)
   (ny:autoParam (starEach (e::es) X.env=(false,eval e X.env)::starEach es X.env) jp) (qX:autoParam ((backTo pos (starEach es X.env)).any (·.1)=false) jp)
   (ht:autoParam (eval (.Call (.Attribute o m apos) (e::es) [] pos) X.env=(do
     let ov <- eval o X.env
     standAt apos.atName
     let (f,first) <- holding [ov] (getMethod ov m pl)
     callWith pos f first (backTo pos (starEach (e::es) X.env)) (backToKw pos (keywordEach [] X.env)))) jp) :
   PE X (.Call (.Attribute o m apos) (e::es) [] pos) (PH C m sp dvs E ta t):=by
 intro pins s σ H Q I h;refine W.methodCall_KW (pl:=pl) (cn (he pins s σ H _ I h) fun u s1 ⟨x,H1,I1,rx,a,dx,fs,ex,ea,l,q⟩=>?_) ht;subst ex;obtain rfl:u=Value.ref a:=rx;refine wA I1 ea c hm l ?_;refine W.callWith_K (first:=[.ref a]) (h₀:=X.base) I.ok.mod.UT hm.kp (cn (ha pos pins s1 σ H1 _ I1 q) fun us s2 zq=>Exists.elim zq fun vs zq=>Exists.elim zq fun H2 zq=>have I2:=zq.1;have r:=zq.2.1;have q2:=zq.2.2;⟨I2.BQ,?_⟩) ny qX;exact DX (us:=.ref a::us) (vs:=.ref a::vs) F hr hb hd hx I2 (.cons rfl r) q2
theorem BZ {pl:Sem Bool}(he:PE X o ta)(c:vF X.K C)(hm:Meth X.K C m f)(F:kW X.prog X.w X.K X.mg X.base CX k f fd ps sp)(hr:fA k X.A)(hb:Binds X.K fd ps ds)(hd:Vals dvs ds)(hx:Passes CX X E)
   (ht:autoParam (eval (.Call (.Attribute o m apos) [] [] pos) X.env=(do
     let ov <- eval o X.env
     standAt apos.atName
     let (f,first) <- holding [ov] (getMethod ov m pl)
     callWith pos f first (backTo pos (starEach [] X.env)) (backToKw pos (keywordEach [] X.env)))) jp) :
   PE X (.Call (.Attribute o m apos) [] [] pos) (PH C m sp dvs E ta Vh):=by
 intro pins s σ H Q I h;refine W.methodCall_KW (pl:=pl) (cn (he pins s σ H _ I h) fun u s1 ⟨x,H1,I1,rx,a,dx,fs,ex,ea,l,q⟩=>?_) ht;subst ex;obtain rfl:u=Value.ref a:=rx;refine wA I1 ea c hm l ?_;exact W.callWith_K0 (first:=[.ref a]) I1.BQ hm.kp (DX (us:=[.ref a]) (vs:=[.ref a]) F hr hb hd hx I1 (.cons rfl .nil) q)
structure Mk (K:W.Frag)(C f:Addr):Prop where
 makes:W.makesIn K C=true
 init:W.findIn K (.ref C) "__init__"=some (some (.ref f))
 fn:W.isFn K (.ref f)=true
 kp:W.keepIn K (.ref C)=true
theorem Jz {pins:List (Addr×Obj)}{σ:St}{H:Hp}{s:Shared}{Q:VK}{us:List Value}{vs:List V}(M:Mk X.K C f)(F:kW X.prog X.w X.K X.mg X.base CX k f fd ps sp)(hr:fA (k+1) X.A)(hb:Binds X.K fd ps ds)(hd:Vals dvs ds)(hx:Passes CX X E)(I:Inv X pins σ H s)(r:Vals vs us)(h:∀ x dx,H x=none->H dx=none->dx≠x->sp (.ref x::(vs ++ dvs)) (upd (upd H dx (.own x)) x (.ins C dx [])) (fun v H2=>v=.dk/\Q (.ref x) H2) E):wpAny (model X.prog X.w) X.A (call (.ref C) us) (EP X pins σ Q) X.xe s:=by
 have hq:=h (s.heap.objs.size+1) s.heap.objs.size (I.bO.fresh (abG _)) (I.bO.fresh (aaa _)) (aat (abN _));have I2:=Inv.made (C:=C) I;have r2:Vals (V.ref (s.heap.objs.size+1)::(vs ++ dvs)) (Value.ref (s.heap.objs.size+1)::(us ++ ds)):=.cons rfl (r.append hd);have hl:(Value.ref (s.heap.objs.size+1)::us ++ ds).length=ps.length:=by
   have e:=r2.length;rw[F.len _ _ _ _ hq] at e;exact e.symm
 refine wpAny_call (Jy (f:=f) I.BQ M.makes M.init (beq_iff_eq.mp M.fn) (codeAny_mono (F.run _ X.stack _ _ ⟨Value.ref (s.heap.objs.size+1)::us,[]⟩ (Value.ref (s.heap.objs.size+1)::(us ++ ds)) _ _ E (hr.make C us [])
   (I2.Vj.make C us []) (hb _ (Value.ref (s.heap.objs.size+1)::us) I2.BQ hl) r2 hq) fun r s' PJ=>?_))
 cases r with
 | error e=>exact hx pins σ _ _ e s' I2 PJ
 | ok fl=>
   cases fl with
   | ret u=>
     obtain⟨v,H',I3,rv,ev,q3⟩:=I2.after PJ;subst ev;exact⟨rv,⟨V.ref (s.heap.objs.size+1),H',I3,rfl,q3⟩⟩
   | next=>exact False.elim PJ
   | brk=>exact False.elim PJ
   | cont=>exact False.elim PJ
theorem FA (M:Mk X.K C f)(F:kW X.prog X.w X.K X.mg X.base CX k f fd ps sp)(hr:fA (k+1) X.A)(hg:Gl X x)(hm:X.mg x=some (.ref C))(hb:Binds X.K fd ps ds)(hd:Vals dvs ds)(hx:Passes CX X E)(ha:PA X (e::es) t)(mI:autoParam ((x == ("__debug__":Str))=false) zn)(he:autoParam (starEach (e::es) X.env=(false,eval e X.env)::starEach es X.env) jp)(qX:autoParam ((backTo pos (starEach es X.env)).any (·.1)=false) jp):PE X (.Call (.Name x p) (e::es) [] pos) (Vl C sp dvs E t):=by
 intro pins s σ H Q I h;refine wpAny_Call_Name_kw (vE I hg hm ?_ mI);refine W.callWith_K (h₀:=X.base) I.ok.mod.UT M.kp (cn (ha pos pins s σ H _ I h) fun us s1 zq=>Exists.elim zq fun vs zq=>Exists.elim zq fun H1 zq=>have I1:=zq.1;have r:=zq.2.1;have q:=zq.2.2;⟨I1.BQ,?_⟩) he qX;exact Jz M F hr hb hd hx I1 r q
end
section
variable {fd:FuncData}{ps ks:List Str}
structure Zb (K:W.Frag)(fd:FuncData)(ps ks:List Str)(g:List Value->List Value->List Value)(gV:List V->List V->List V):Prop where
 to:∀ (s:Shared) (us ws:List Value),K.In s.heap->(g us ws).length=ps.length->BindsTo s fd ⟨us,ks.zip ws⟩ (ps.zip (g us ws))
 rel:∀ {vs:List V} {us:List Value} {zs:List V} {ws:List Value},Vals vs us->Vals zs ws->Vals (gV vs zs) (g us ws)
end
structure ar (N P:List Str)(sc:Scope):Prop where
 kind:sc.kind=.function
 co:sc.isCoroutine=false
 gen:sc.isGenerator=false
 nd:N.Nodup
 pre:N.take P.length=P
 par:∀ x∈P,sc.names.lookup x=some .local\/sc.names.lookup x=some .cell
 Ra:∀ y∈sc.names,y.2≠.free
theorem zc {kindOf:Str->Option NameKind}{x:Str}:∀ {binds:List (Str×Value)} {m:Str->Option Value},(∀ v,(x,v) ∉ binds)->bindL kindOf binds m x=m x
 | [],_,_=>rfl
 | (n,v)::r,m,h=>by
   unfold bindL;rw[zc fun w hw=>h w (aaC _ hw)]
   split
   . have:x≠n:=by rintro rfl;exact h v abk
     simp[this]
   . rfl
theorem zd {kindOf:Str->Option NameKind}{x:Str}:∀ {binds:List (Str×Value)} {m:Str->Option Value},(∀ v,(x,v) ∉ binds)->bindC kindOf binds m x=m x
 | [],_,_=>rfl
 | (n,v)::r,m,h=>by
   unfold bindC;rw[zd fun w hw=>h w (aaC _ hw)]
   split
   . rfl
   . have:x≠n:=by rintro rfl;exact h v abk
     simp[this]
theorem ze {kindOf:Str->Option NameKind}{x:Str}{v:Value}:∀ {P:List Str} {vs:List Value} {i:Nat} {m:Str->Option Value},P.Nodup->P[i]?=some x->vs[i]?=some v->kindOf x=some .local->bindL kindOf (P.zip vs) m x=some v
 | [],_,_,_,_,h,_,_=>by simp at h
 | _::_,[],_,_,_,_,h,_=>by simp at h
 | p::P,w::vs,0,m,nd,h1,h2,hk=>by
   simp at h1 h2;subst h1;subst h2;show bindL kindOf ((p,w)::P.zip vs) m p=_;unfold bindL;rw[zc fun v hv=>(ab1.mp nd).1 (List.of_mem_zip hv).1,if_pos hk];simp
 | p::P,w::vs,i+1,m,nd,h1,h2,hk=>by
   show bindL kindOf ((p,w)::P.zip vs) m x=_;unfold bindL;exact ze (i:=i) (ab1.mp nd).2 (by simpa using h1) (by simpa using h2) hk
theorem zf {kindOf:Str->Option NameKind}{x:Str}{v:Value}:∀ {P:List Str} {vs:List Value} {i:Nat} {m:Str->Option Value},P.Nodup->P[i]?=some x->vs[i]?=some v->kindOf x≠some .local->bindC kindOf (P.zip vs) m x=some v
 | [],_,_,_,_,h,_,_=>by simp at h
 | _::_,[],_,_,_,_,h,_=>by simp at h
 | p::P,w::vs,0,m,nd,h1,h2,hk=>by
   simp at h1 h2;subst h1;subst h2;show bindC kindOf ((p,w)::P.zip vs) m p=_;unfold bindC;rw[zd fun v hv=>(ab1.mp nd).1 (List.of_mem_zip hv).1,if_neg hk];simp
 | p::P,w::vs,i+1,m,nd,h1,h2,hk=>by
   show bindC kindOf ((p,w)::P.zip vs) m x=_;unfold bindC;exact zf (i:=i) (ab1.mp nd).2 (by simpa using h1) (by simpa using h2) hk
noncomputable def start (N:List Str)(vs:List V):St:=vs.map some ++ aaj (N.length - vs.length) none
noncomputable def B0 (CX:tR)(P:Program)(w:World)(K:W.Frag)(mg:Str->Option Value)(base:Heap)(N:List Str)(qual:Str)(scope:Scope)(f:Addr)(cd:Value)(A:Around)(outer:List Env)(s:Shared)(H:Hp)(E:XK):Cx where
 prog:=P
 w:=w
 K:=K
 mg:=mg
 base:=base
 A:=A.deeper (envOfC qual scope s.heap.objs.size f cd)
 N:=N
 s₀:=s
 H₀:=H
 env:=envOfC qual scope s.heap.objs.size f cd
 outer:=outer
 stack:=envOfC qual scope s.heap.objs.size f cd::outer
 ex:=[]
 calm:=true
 fn:=fun _=>true
 pn:=[]
 xe:=fun e s'=>wpAny (model P w) (A.deeper (envOfC qual scope s.heap.objs.size f cd)) (leaving (envOfC qual scope s.heap.objs.size f cd) e) (fun _ Nn=>CX outer H s E e Nn) (fun e' Nn=>CX outer H s E e' Nn) s'
theorem B2 {sc:Scope}{n:Nat}{x:Str}(h:sc.names.lookup x=some .cell):∃ c,(cellsFrom n sc.names []).lookup x=some c:=by
 have q:=W.cellsFrom_some sc.names n [] (.inl h);exact Option.isSome_iff_exists.mp q
theorem Hw {CX:tR}{P:Program}{w:World}{K:W.Frag}{mg:Str->Option Value}{base:Heap}{N ps:List Str}{qual:Str}{scope:Scope}{f:Addr}{cd:Value}{A:Around}{outer:List Env}{s s1:Shared}{H:Hp}{E:XK}{us:List Value}{vs:List V}(S:ar N ps scope)(hd:A.handled=none)(e0:BY P w K mg base A outer s H)(hl:vs.length=ps.length)(r:Vals vs us)(x:InCallC s s.heap.objs.size (bindL (envOfC qual scope s.heap.objs.size f cd).kindOf (ps.zip us) fun _=>none) (cellsFrom (s.heap.objs.size+1) scope.names []) (bindC (envOfC qual scope s.heap.objs.size f cd).kindOf (ps.zip us) fun _=>none) s1):Inv (B0 CX P w K mg base N qual scope f cd A outer s H E) [] (start N vs) H s1:=by
 have qX:ps.length<=N.length:=by have:=congrArg abB S.pre;rw[aas] at this;omega
 obtain⟨h1,tk,rfl,hk⟩:=x.done;have Vm:∀ b:Addr,b ∉ (B0 CX P w K mg base N qual scope f cd A outer s H E).ex:=fun b z=>absurd (show b∈([]:List Addr) from z) (by simp)
 refine⟨⟨e0.mod,S.kind,rfl,rfl,aaa _,fun y z c h1 h2=>?_,fun y hy=>?_,fun y c _ h=>?_,fun _=>hd,Around.frames_deeper e0.frames,.inr ⟨rfl,rfl⟩,fun b z=>absurd z (Vm b),e0.bs,e0.Fn,fun b _ _=>Vm b,fun b z=>absurd z (Vm b),e0.tK,e0.Pw⟩,
   rfl,e0.bare,Un.kept hk,⟨_,x.toInCall.ns,fun i y v h1 h2 h3=>?_⟩,fun y c h=>⟨_,x.cell y c h⟩,e0.bO.fresh (aaa _),fun y c h=>?_,fun p hp=>absurd (show p∈([]:List (Addr×Obj)) from hp) (by simp),e0.bO.kept hk,?_⟩
 . exact name_of_addr x.apart (PySem.mem_of_lookup h1) (PySem.mem_of_lookup h2)
 . have hy:scope.names.lookup y=some .cell\/scope.names.lookup y=some .free:=hy
   rcases hy with hy | hy
   . exact B2 hy
   . exact absurd rfl (S.Ra _ (PySem.mem_of_lookup hy))
 . exact abw (x.above y c (PySem.mem_of_lookup h))
 . have hi:i < vs.length:=by
     unfold start at h2;by_cases hi:i < vs.length
     . exact hi
     . rw[aaE (by simpa using hi)] at h2
       rw[abq] at h2
       split at h2 <;> cases h2
   have ha:vs[i]?=some v:=by
     unfold start at h2;rw[aay (by simpa using hi),aab] at h2;cases e:vs[i]? with
     | none=>rw[e] at h2;cases h2
     | some a=>rw[e] at h2;cases h2;rfl
   obtain⟨u,hu,rv⟩:=r.get ha;have hp:ps[i]?=some y:=by
     rw[<- S.pre,List.getElem?_take_of_lt (by omega)];exact h1
   have ndP:ps.Nodup:=by rw[<- S.pre];exact S.nd.sublist (List.take_sublist _ _)
   refine⟨u,rv,?_⟩;rcases S.par y (abQ hp) with k | k
   . exact .inl ⟨k,ze ndP hp hu k⟩
   . obtain⟨c,e⟩:=B2 (n:=s.heap.objs.size+1) k
     refine .inr ⟨.inl k,c,e,?_⟩;have q:=x.cell y c e;rw[zf ndP hp hu (by show scope.names.lookup y≠_;rw[k];decide)] at q;exact q
 . exact e0.bO.fresh (abw (x.above y c (PySem.mem_of_lookup h)))
 . unfold start
   show _=N.length;rw[aaq,k5,List.length_replicate];omega
theorem JA {CX:tR}{P:Program}{w:World}{K:W.Frag}{mg:Str->Option Value}{base:Heap}{k:Nat}{f:Addr}{name qual:Str}{params:Arguments}{body:List Stmt}{scope:Scope}{dV kV doc pm aZ ct oc:Value}{an od:Option Addr}{zg:Array (Option Value)}{N ps:List Str}{sp:Sp}(lk:K.lookup f=some ⟨oc,od,.func (W.fnOf name qual params body scope dV kV doc pm an aZ ct),zg⟩)(nz:W.codeIn K aZ qual=true)(S:ar N ps scope)(len:∀ vs H Q E,sp vs H Q E->vs.length=ps.length)(se:∀ (A:Around) (outer:List Env) (s:Shared) (H:Hp) (vs:List V) (Q:VK) (E:XK),fA k (A.deeper (envOfC qual scope s.heap.objs.size f aZ))->sp vs H Q E->∃ t,DN (B0 CX P w K mg base N qual scope f aZ A outer s H E) body t/\t { nx:=fun _ H'=>Q .dk H',rt:=Q} (start N vs) H):kW P w K mg base CX (k+1) f (W.fnOf name qual params body scope dV kV doc pm an aZ ct) ps sp:=by
 refine⟨len,fun A outer s H args us vs Q E hr e0 hb r MP=>?_⟩;have hl:=len _ _ _ _ MP;have KX:K.In s.heap:=e0.mod.UT.keeps fun b o e=>(e0.bs b o e).1
 have lim:s.heap.NoLimit:=e0.mod.nolimit.keeps fun b o e=>(e0.bs b o e).1
 have Vn:∀ y∈ps.zip us,scope.names.lookup y.1=some .local\/(scope.names.lookup y.1=some .cell/\((cellsFrom (s.heap.objs.size+1) scope.names []).lookup y.1).isSome=true):=fun⟨n,v⟩ hy=>by
   rcases S.par n (List.of_mem_zip hy).1 with q | q
   . exact .inl q
   . exact .inr ⟨q,W.cellsFrom_some _ _ _ (.inl q)⟩
 refine codeAny_call_function hr.depth (KX _ _ lk) rfl S.co S.gen rfl (W.codeRec_of KX nz) (hb _ _ _ _ ?_);refine wpAny_newFunctionEnv_cells S.kind Vn fun env he s1 x=>?_
 subst he;refine⟨lim.keeps x.toInCall.keep,codeAny_func ?_⟩;obtain⟨t,ht,hq⟩:=se A outer s H vs Q E (hr.deeper _) MP;have I:Inv (B0 CX P w K mg base N qual scope f aZ A outer s H E) [] (start N vs) H s1:=Hw S hr.hd e0 hl r x;refine wpAny_mono (ht [] s1 (start N vs) H _ I hq) (fun fl s' hs=>?_) fun e s' hs=>hs
 have fin:∀ {σ':St} {H':Hp} {v:V} {u:Value},Inv (B0 CX P w K mg base N qual scope f aZ A outer s H E) [] σ' H' s'->RelV v u->Q v H'->CE outer P w H s Q u s':=
   fun {σ' H' v u} J rv q=>⟨v,H',J.os,J.bare,J.base,J.bO,rv,q⟩
 cases fl with
 | ret u=>
   obtain⟨v,σ',H',J,rv,q⟩:=hs;exact fin J rv q
 | next=>
   obtain⟨σ',H',J,q⟩:=hs;exact fin (v:=V.dk) (u:=Value.none) J rfl q
 | brk=>
   obtain⟨_,_,_,q⟩:=hs;exact False.elim q
 | cont=>
   obtain⟨_,_,_,q⟩:=hs;exact False.elim q
section
variable {X:Cx}{x:Str}{p pos:Pos}{e:Expr}{es:List Expr}{t:TA}{id T:String}{r:List V->Hp->VK->Prop}
def tCB (r:List V->Hp->VK->Prop)(t:TA):TE:=fun σ H Q=>t σ H fun vs H1=>r vs H1 Q
theorem gG (hc:kU X (.builtin id) r)(hg:Gl X x)(hm:X.mg x=none)(hv:bootBuiltins x=some (.builtin id))(ha:PA X (e::es) t)(hn:autoParam (x≠"__name__") zn)(mI:autoParam ((x == ("__debug__":Str))=false) zn)(he:autoParam (starEach (e::es) X.env=(false,eval e X.env)::starEach es X.env) jp)(qX:autoParam ((backTo pos (starEach es X.env)).any (·.1)=false) jp):PE X (.Call (.Name x p) (e::es) [] pos) (tCB r t):=by
 intro pins s σ H Q I h;refine wpAny_Call_Name_kw (tL I hg hm hv ?_ hn mI);exact PyProof.Rows.callWith_builtin1 (cn (ha pos pins s σ H _ I h) fun us s1 zq=>Exists.elim zq fun vs zq=>Exists.elim zq fun H1 zq=>have I1:=zq.1;have r1:=zq.2.1;have q1:=zq.2.2;hc pins s1 σ H1 vs us Q I1 r1 q1) he qX
theorem nE (hc:kU X (.type T) r)(hg:Gl X x)(hm:X.mg x=none)(hv:bootBuiltins x=some (.type T))(ha:PA X (e::es) t)(hn:autoParam (x≠"__name__") zn)(mI:autoParam ((x == ("__debug__":Str))=false) zn)(he:autoParam (starEach (e::es) X.env=(false,eval e X.env)::starEach es X.env) jp)(qX:autoParam ((backTo pos (starEach es X.env)).any (·.1)=false) jp):PE X (.Call (.Name x p) (e::es) [] pos) (tCB r t):=by
 intro pins s σ H Q I h;refine wpAny_Call_Name_kw (tL I hg hm hv ?_ hn mI);exact PyProof.Rows.callWith_type1 (cn (ha pos pins s σ H _ I h) fun us s1 zq=>Exists.elim zq fun vs zq=>Exists.elim zq fun H1 zq=>have I1:=zq.1;have r1:=zq.2.1;have q1:=zq.2.2;hc pins s1 σ H1 vs us Q I1 r1 q1) he qX
end
end L2
namespace HT
open PySem PyProof.Rows
section
noncomputable def B3 (n d:Nat):Option Int->Nat
 | none=>d
 | some v=>if v < 0 then (v+(n:Int)).toNat else min v.toNat n
theorem JB (n d:Nat):B3 n d none=d:=rfl
theorem Np (n d k:Nat):B3 n d (some (k:Int))=min k n:=by
 show(if (k:Int) < 0 then ((k:Int)+(n:Int)).toNat else min (k:Int).toNat n)=min k n;rw[if_neg (by omega),aaS]
end
end HT
namespace L2
open PySem PySem.Spec PyProof.Rows
abbrev TO:=St->Hp->(Option Int->Hp->Prop)->Prop
def PO (X:Cx)(e:Option Expr)(t:TO):Prop:=
 ∀ (pins:List (Addr×Obj)) (s:Shared) (σ:St) (H:Hp) (Q:Option Int->Hp->Prop),Inv X pins σ H s->t σ H Q ->
   wpAny (model X.prog X.w) X.A (evalPart e X.env) (fun u s'=>∃ o H',Inv X pins σ H' s'/\IsPart u o/\Q o H') X.xe s
def Nq:TO:=fun _ H Q=>Q none H
def Vo (t:TE):TO:=fun σ H Q=>t σ H fun x H1=>∃ i,x=.int i/\Q (some i) H1
theorem intsAre_of {ns:List Int}:∀ {us:List Value},Vals (ns.map V.int) us->IntsAre us ns:=by
 induction ns with
 | nil=>intro us r;rw[List.map_nil] at r;cases r;exact .nil
 | cons n ns ih=>
   intro us r;rw[aao] at r;cases r with
   | cons r1 r2=>
     obtain⟨t,e⟩:=r1;subst e;exact .cons n t (ih r2)
section
variable {X:Cx}{e:Expr}{te:TE}{lo hi:Option Expr}{tl th:TO}{pos p2:Pos}
theorem FC:PO X none Nq:=by
 intro pins s σ H Q I h;rw[evalPart_none];exact wpAny_pure ⟨none,H,I,.none,h⟩
theorem FE (h:PE X e te):PO X (some e) (Vo te):=by
 intro pins s σ H Q I hw;rw[evalPart_some];refine cn (h pins s σ H _ I hw) fun u s1 zq=>Exists.elim zq fun x zq=>Exists.elim zq fun H1 zq=>have I1:=zq.1;have r1:=zq.2.1;have q1:=zq.2.2;?_
 obtain⟨i,rfl,q⟩:=q1;obtain⟨t,rfl⟩:=r1;exact⟨some i,H1,I1,.int i t,q⟩
def Zc (X:Cx)(r:V->Option Int->Option Int->Hp->VK->Prop):Prop:=
 ∀ (pins:List (Addr×Obj)) (s:Shared) (σ:St) (H:Hp) (x:V) (v vl vu:Value) (lo hi:Option Int) (sl:Addr) (Q:VK),Inv X pins σ H s->RelV x v->s.heap.IsSliceOf sl vl vu .none->IsPart vl lo->IsPart vu hi->r x lo hi H Q ->
   ∃ T id,typeLookup (.type T) "__getitem__"=pure (some (.builtin id))/\s.TypeIs v T/\wpAny (model X.prog X.w) X.A (getItem v (.ref sl)) (EP X pins σ Q) X.xe s
def tSl (r:V->Option Int->Option Int->Hp->VK->Prop)(te:TE)(tl th:TO):TE:=fun σ H Q=>te σ H fun x H1=>tl σ H1 fun l H2=>th σ H2 fun u H3=>r x l u H3 Q
theorem B4 {r:V->Option Int->Option Int->Hp->VK->Prop}(hr:Zc X r)(he:PE X e te)(hl:PO X lo tl)(hu:PO X hi th):PE X (.Subscript e (.Slice lo hi none p2) pos) (tSl r te tl th):=by
 intro pins s σ H Q I h;refine Subscript_ (cn (he pins s σ H _ I h) fun v s1 zq=>Exists.elim zq fun x zq=>Exists.elim zq fun H1 zq=>have I1:=zq.1;have r1:=zq.2.1;have q1:=zq.2.2;?_);refine wpAny_Slice (cn (hl pins s1 σ H1 _ I1 q1) fun vl s2 zq=>Exists.elim zq fun l zq=>Exists.elim zq fun H2 zq=>have I2:=zq.1;have pl:=zq.2.1;have q2:=zq.2.2;cn (hu pins s2 σ H2 _ I2 q2) fun vu s3 zq=>Exists.elim zq fun u zq=>Exists.elim zq fun H3 zq=>have I3:=zq.1;have pu:=zq.2.1;have q3:=zq.2.2;?_);rw[evalPart_none];refine wpAny_pure ?_;have I4:Inv X pins σ H3 { s3 with heap:=s3.heap.push { cls:=.type "slice",data:=.fields #[vl,vu,.none]}}:=I3.kept (t':=s3.toks) fun b ob q=>aac _ q
 obtain⟨T,id,hT,ht,hg⟩:=hr pins { s3 with heap:=s3.heap.push { cls:=.type "slice",data:=.fields #[vl,vu,.none]}} σ H3 x v vl vu l u s3.heap.objs.size Q I4 r1 (Heap.IsSliceOf.new ..) pl pu q3;show wpAny (model X.prog X.w) X.A (subscriptTail e (.Slice lo hi none p2) v (.ref s3.heap.objs.size)) (EP X pins σ Q) X.xe { s3 with heap:=s3.heap.push { cls:=.type "slice",data:=.fields #[vl,vu,.none]}};exact tail_any (ops:=[.ref s3.heap.objs.size,v]) ht hT hg (by with_unfolding_all rfl)
noncomputable def Hx (xs:List V)(lo hi:Option Int):List V:=(xs.drop (HT.B3 xs.length 0 lo)).take (HT.B3 xs.length xs.length hi - HT.B3 xs.length 0 lo)
theorem B5 (xs:List V)(lo hi:Option Int):(Hx xs lo hi).length<=xs.length:=by
 unfold Hx;rw[aas,abu];omega
theorem B6:kU X (.type "tuple") (fun xs H Q=>∃ a ys,xs=[.ref a]/\DH X.K H a ys/\Q (.ref a) H):=by
 intro pins s σ H xs us Q I r h;obtain⟨a,ys,rfl,ha,q⟩:=h;obtain⟨u,rfl,ru⟩:=vals1 r;cases ru;obtain⟨aH,_,p1,_⟩:=I.tuple ha;exact call_tuple_same (items:=aH.toArray) p1 ⟨.ref a,H,I,rfl,q⟩
end
noncomputable def DY (n:Nat)(i:Int):Option Nat:=if 0<=i then (if i < n then some i.toNat else none) else if -(n:Int)<=i then some (i+n).toNat else none
noncomputable def qi {α:Type}(xs:List α)(i:Int):Option α:=(DY xs.length i).bind fun j=>xs[j]?
theorem FF {n:Nat}{i:Int}{j:Nat}(h:DY n i=some j):seqIndex? i n=some j/\j < n/\-(n:Int)<=i/\i < n:=by
 unfold DY at h;by_cases h0:0<=i
 . rw[if_pos h0] at h
   by_cases h1:i < n
   . rw[if_pos h1] at h
     have e:i.toNat=j:=Option.some.inj h;exact⟨by rw[seqIndex_of h0 h1,e],by omega,by omega,h1⟩
   . rw[if_neg h1] at h;cases h
 . rw[if_neg h0] at h
   by_cases h1:-(n:Int)<=i
   . rw[if_pos h1] at h
     have e:(i+n).toNat=j:=Option.some.inj h;exact⟨by rw[seqIndex_neg (by omega) h1,e],by omega,h1,by omega⟩
   . rw[if_neg h1] at h;cases h
theorem Aa {α:Type}{xs:List α}{i:Int}{v:α}(h:qi xs i=some v):∃ j,seqIndex? i xs.length=some j/\xs[j]?=some v/\j < xs.length/\-(xs.length:Int)<=i/\i < xs.length:=by
 unfold qi at h;cases e:DY xs.length i with
 | none=>rw[e] at h;cases h
 | some j=>
   rw[e] at h;obtain⟨h1,h2,h3,h4⟩:=FF e;exact⟨j,h1,h,h2,h3,h4⟩
theorem mJ {α:Type}{xs:List α}{j:Nat}{v:α}(h:xs[j]?=some v):qi xs (j:Int)=some v:=by
 have hj:j < xs.length:=(aae.mp h).1;have e:DY xs.length (j:Int)=some j:=by
   unfold DY;rw[if_pos (by omega),if_pos (by omega)];simp
 unfold qi;rw[e];exact h
def lD (b:Expr):Prop:=∀ o i,subscripted b false o i=operate [o,i] (getItem o i)
def Uy (X:Cx)(r:R2):Prop:=
 ∀ (value slice:Expr) (pins:List (Addr×Obj)) (s:Shared) (σ:St) (H:Hp) (x y:V) (v u:Value) (Q:VK),Inv X pins σ H s->RelV x v->RelV y u->r x y H Q ->
   subscripted slice false v u=operate [v,u] (getItem v u)->wpAny (model X.prog X.w) X.A (subscriptTail value slice v u) (EP X pins σ Q) X.xe s
def Rb (X:Cx)(id:String)(r:V->List V->Hp->VK->Prop):Prop:=
 ∀ (pins:List (Addr×Obj)) (s:Shared) (σ:St) (H:Hp) (x:V) (xs:List V) (v:Value) (us:List Value) (Q:VK),Inv X pins σ H s->RelV x v->Vals xs us->r x xs H Q ->
   wpAny (model X.prog X.w) X.A (call (.builtin id) (v::us)) (EP X pins σ Q) X.xe s
section
variable {X:Cx}{a b:Expr}{ta tb:TE}{pos:Pos}
theorem wH {r:R2}(hr:Uy X r)(ha:PE X a ta)(hb:PE X b tb)(hs:lD b):PE X (.Subscript a b pos) (U8 r ta tb):=by
 intro pins s σ H Q I h;exact Subscript_ (Q1 ha hb I h fun v u s2 x y H2 I2 rx ry q=>hr a b pins s2 σ H2 x y v u Q I2 rx ry q (hs _ _))
def Zd (K:W.Frag):R2:=fun x y H Q=>∃ p xs i v,x=.ref p/\y=.int i/\nA K H p xs/\qi xs i=some v/\Q v H
def Ze (K:W.Frag):R2:=fun x y H Q=>∃ p xs i v,x=.ref p/\y=.int i/\DH K H p xs/\qi xs i=some v/\Q v H
def Zf:R2:=fun x y H Q=>∃ z i c,x=.str z/\y=.int i/\z.length<=sizeLine/\qi z.cps.toList i=some c/\Q (.str ⟨#[c]⟩) H
theorem Ab:Uy X (Zd X.K):=by
 intro value slice pins s σ H x y v u Q I rx ry h hs;obtain⟨p,xs,i,z,rfl,rfl,hq,he,q⟩:=h;cases rx;obtain⟨t,rfl⟩:=ry;obtain⟨aH,r,pl,hz⟩:=I.list hq;obtain⟨j,h1,h2,h3,h4,h5⟩:=Aa he;obtain⟨w,ew,Jp⟩:=r.get h2;have hl:=r.length;have hn:=mV;have fin:EP X pins σ Q w s:=⟨z,H,I,Jp,q⟩
 by_cases h0:0<=i
 . have hj:i.toNat=j:=by
     rw[seqIndex_of h0 h5] at h1;exact Option.some.inj h1
   exact item_listR pl.isList h0 (by omega) (by rw[hj];simpa using ew) fin hs
 . have hj:(i+(aH.toArray.size:Int)).toNat=j:=by
     rw[seqIndex_neg (by omega) h4] at h1;rw[aap,<- hl];exact Option.some.inj h1
   exact subscriptTail_builtinR (x:=w) pl.isList.typeIs slot_list_getitem.lookup
     (wpAny_getItem_list_neg (Q:=fun r s'=>r=w/\EP X pins σ Q r s') pl.isList (by omega) (by rw[aap] <;> omega) (by omega) (by rw[hj];simpa using ew) ⟨rfl,fin⟩) hs
theorem Rc:Uy X (Ze X.K):=by
 intro value slice pins s σ H x y v u Q I rx ry h hs;obtain⟨p,xs,i,z,rfl,rfl,hq,he,q⟩:=h;cases rx;obtain⟨t,rfl⟩:=ry;obtain⟨aH,r,pl,hz⟩:=I.tuple hq;obtain⟨j,h1,h2,h3,h4,h5⟩:=Aa he;obtain⟨w,ew,Jp⟩:=r.get h2;have hl:=r.length;have hn:=mV;have fin:EP X pins σ Q w s:=⟨z,H,I,Jp,q⟩
 exact subscriptTail_builtinR (x:=w) pl.typeIs slot_tuple_getitem.lookup
   (getItem_tuple (j:=j) (Q:=fun r s'=>r=w/\EP X pins σ Q r s') pl (by omega) (by omega) (by rw[aap,<- hl];exact h1) (by simpa using ew) ⟨rfl,fin⟩) hs
theorem Rf:Uy X Zf:=by
 intro value slice pins s σ H x y v u Q I rx ry h hs;obtain⟨z,i,c,rfl,rfl,hz,he,q⟩:=h;obtain⟨t,rfl⟩:=rx;obtain⟨t',rfl⟩:=ry;obtain⟨j,h1,h2,h3,h4,h5⟩:=Aa he;have hl:z.cps.toList.length=z.length:=by simp[Str.length]
 rw[hl] at h1 h4 h5;have hn:=mV;exact tail_any (typeIs_str s z t) slot_str_getitem.lookup (getItem_str (c:=c) (by
   have e1:decide (i < -(2 ^ 63:Int))=false:=decide_eq_false (by omega);have e2:decide (i >= 2 ^ 63)=false:=decide_eq_false (by omega);rw[e1,e2,Bool.or_false]) (by rw[h1];simpa using h2) ⟨.str ⟨#[c]⟩,H,I.tok _,⟨_,rfl⟩,q⟩) hs
theorem DZ (aH:List Value)(n j:Nat)(u:Value):Obj.mapSeq (·.setIfInBounds j u) { cls:=.type "list",data:=.seq aH.toArray n}={ cls:=.type "list",data:=.seq (aH.set j u).toArray n}:=by
 simp[Obj.mapSeq]
theorem Inv.lst {pins:List (Addr×Obj)}{σ:St}{H:Hp}{s:Shared}{p:Addr}{xs:List V}(I:Inv X pins σ H s)(h:H p=some (.lst xs)):∃ (aH:List Value) (n:Nat),Vals xs aH/\s.heap.get? p=some { cls:=.type "list",data:=.seq aH.toArray n}/\xs.length<=sizeLine:=by
 obtain⟨z,aH,n,r,e⟩:=I.bO p _ h;exact⟨aH,n,r,e,z⟩
theorem Inv.Rg {pins:List (Addr×Obj)}{σ:St}{H:Hp}{s:Shared}{p:Addr}{xs ys:List V}{aH its':List Value}{n n':Nat}{f:Obj->Obj}(I:Inv X pins σ H s)(h:H p=some (.lst xs))(ho:s.heap.get? p=some { cls:=.type "list",data:=.seq aH.toArray n})(hf:f { cls:=.type "list",data:=.seq aH.toArray n}={ cls:=.type "list",data:=.seq its'.toArray n'})(r:Vals ys its')(hz:ys.length<=sizeLine)(t:Nat):Inv X pins σ (upd H p (.lst ys)) { s with heap:=s.heap.update p f,toks:=t}:=by
 have e:(s.heap.update p f).get? p=some { cls:=.type "list",data:=.seq its'.toArray n'}:=by
   rw[aci f ho (by rw[hf] <;> rfl),hf]
 refine I.write (x:=p) (e:=p) (by rw[h];trivial) (.inl rfl) (fun b u hb q=>(ace _ _ (Ne.symm hb)).trans q) ⟨_,e⟩ ?_;exact⟨hz,its',n',r,e⟩
def Vp:V->V->V->Hp->(Hp->Prop)->Prop:=fun o i v H Q=>∃ p xs k j,o=.ref p/\i=.int k/\H p=some (.lst xs)/\DY xs.length k=some j/\Q (upd H p (.lst (xs.set j v)))
theorem set_list:U4 X Vp:=by
 intro pins s σ H o i v ov iv u Q I ro ri rv h;obtain⟨p,xs,k,j,rfl,rfl,hp,hj,q⟩:=h;cases ro;obtain⟨t,rfl⟩:=ri;obtain⟨aH,n,r,ho,hz⟩:=I.lst hp;obtain⟨h1,h2,h3,h4⟩:=FF hj;have hl:=r.length;have hn:=mV;have I':Inv X pins σ (upd H p (.lst (xs.set j v))) { s with heap:=s.heap.update p (Obj.mapSeq (·.setIfInBounds j u))}:=
   I.Rg hp ho (DZ aH n j u) (r.set rv j) (by rw[acr];exact hz) s.toks
 by_cases h0:0<=k
 . have hk:k.toNat=j:=by
     rw[seqIndex_of h0 h4] at h1;exact Option.some.inj h1
   exact W.ki_setAt ho h0 (by omega) (by rw[aap,<- hl];exact h4) (by rw[hk];exact⟨_,I',q⟩)
 . have hk:(k+(aH.toArray.size:Int)).toNat=j:=by
     rw[seqIndex_neg (by omega) h3] at h1;rw[aap,<- hl];exact Option.some.inj h1
   exact W.ki_setBack ho (by omega) (by rw[aap,<- hl];exact h3) (by omega) (by rw[hk];exact⟨_,I',q⟩)
theorem Ac (lo hi:Option Int)(n:Nat):(sliceBounds lo hi none n).1=((HT.B3 n 0 lo:Nat):Int)/\(sliceBounds lo hi none n).2.1=((HT.B3 n n hi:Nat):Int)/\(sliceBounds lo hi none n).2.2=1:=by
 refine⟨?_,?_,rfl⟩
 . cases lo with
   | none=>simp[sliceBounds,HT.B3]
   | some i=>
     simp only[sliceBounds,HT.B3,Option.getD_none,show(1:Int) > 0 by decide,if_true];by_cases h:i < 0
     . simp only[h,if_true] <;> omega
     . simp only[h,if_false] <;> omega
 . cases hi with
   | none=>simp[sliceBounds,HT.B3]
   | some i=>
     simp only[sliceBounds,HT.B3,Option.getD_none,show(1:Int) > 0 by decide,if_true];by_cases h:i < 0
     . simp only[h,if_true] <;> omega
     . simp only[h,if_false] <;> omega
theorem yv (aH:List Value)(lo hi:Option Int):slicePick aH.toArray lo hi none=((aH.drop (HT.B3 aH.length 0 lo)).take (HT.B3 aH.length aH.length hi - HT.B3 aH.length 0 lo)).toArray:=by
 obtain⟨h1,h2,h3⟩:=Ac lo hi aH.toArray.size;unfold slicePick;rw[h1,h2,h3];simp only[sliceRange_one,pick_run,aap] <;> rfl
def Zg (K:W.Frag):V->Option Int->Option Int->Hp->VK->Prop:=fun x lo hi H Q=>∃ a xs,x=.ref a/\nA K H a xs/\∀ p,H p=none->Q (.ref p) (upd H p (.lst (Hx xs lo hi)))
theorem Nr:Zc X (Zg X.K):=by
 intro pins s σ H x v vl vu lo hi sl Q I rx hs pl pu h;obtain⟨a,xs,rfl,hx,q⟩:=h;cases rx;obtain⟨aH,r,ht,hz⟩:=I.list hx;have hlen:=r.length;refine⟨"list",_,slot_list_getitem.lookup,ht.isList.typeIs,?_⟩;refine wpAny_getItem_list_slice ht.isList hs pl pu .none (by simp) ?_ (by rw[aap] <;> omega);rw[yv,<- hlen];refine⟨.ref s.heap.objs.size,_,I.laid (t':=s.toks) (o:=.lst (Hx xs lo hi)) (fun b ob q=>aac _ q) (aaa _) ?_,rfl,q _ (I.bO.fresh (aaa _))⟩;exact⟨aau (B5 xs lo hi) hz,_,0,(r.drop (HT.B3 xs.length 0 lo)).take (HT.B3 xs.length xs.length hi - HT.B3 xs.length 0 lo),aar _ rfl⟩
noncomputable def sh:V->Bool
 | .dk=>true
 | .bl _=>true
 | .int _=>true
 | .str _=>true
 | _=>false
noncomputable def MQ:V->V->Bool
 | .dk,.dk=>true
 | .bl a,.bl b=>a == b
 | .bl a,.int b=>(if a then 1 else 0) == b
 | .int a,.bl b=>a == (if b then 1 else 0)
 | .int a,.int b=>a == b
 | .str a,.str b=>a == b
 | _,_=>false
theorem Rh {A:Around}{s:Shared}{y x:V}{u v:Value}(ry:RelV y u)(rx:RelV x v)(fy:sh y=true)(fx:sh x=true):SeqAt.EqAt A s u v (MQ y x):=by
 cases y with
 | dk=>
   cases ry;cases x with
   | dk=>cases rx;exact SeqAt.EqAt.same _
   | bl b=>cases rx;exact SeqAt.EqAt.none_bool b
   | int b=>obtain⟨t,rfl⟩:=rx;exact SeqAt.EqAt.none_int b t
   | str b=>obtain⟨t,rfl⟩:=rx;exact SeqAt.EqAt.none_str b t
   | _=>exact absurd (show false=true from fx) aam
 | bl a=>
   cases ry;cases x with
   | dk=>cases rx;exact SeqAt.EqAt.bool_none a
   | bl b=>cases rx;exact SeqAt.EqAt.bool_bool a b
   | int b=>obtain⟨t,rfl⟩:=rx;exact SeqAt.EqAt.bool_int a b t
   | str b=>obtain⟨t,rfl⟩:=rx;exact SeqAt.EqAt.bool_str a b t
   | _=>exact absurd (show false=true from fx) aam
 | int a=>
   obtain⟨t',rfl⟩:=ry;cases x with
   | dk=>cases rx;exact SeqAt.EqAt.int_none a t'
   | bl b=>cases rx;exact SeqAt.EqAt.int_bool a t' b
   | int b=>obtain⟨t,rfl⟩:=rx;exact SeqAt.EqAt.int_int a t' b t
   | str b=>obtain⟨t,rfl⟩:=rx;exact SeqAt.EqAt.int_str a t' b t
   | _=>exact absurd (show false=true from fx) aam
 | str a=>
   obtain⟨t',rfl⟩:=ry;cases x with
   | dk=>cases rx;exact SeqAt.EqAt.str_none a t'
   | bl b=>cases rx;exact SeqAt.EqAt.str_bool a t' b
   | int b=>obtain⟨t,rfl⟩:=rx;exact SeqAt.EqAt.str_int a t' b t
   | str b=>obtain⟨t,rfl⟩:=rx;exact SeqAt.EqAt.str_str a t' b t
   | _=>exact absurd (show false=true from fx) aam
 | _=>exact absurd (show false=true from fy) aam
noncomputable def D1 (x:V)(u:Value):Bool:=match u with
 | .none=>MQ .dk x
 | .bool b=>MQ (.bl b) x
 | .int i _=>MQ (.int i) x
 | .str z _=>MQ (.str z) x
 | _=>false
theorem JC {x y:V}{u:Value}(r:RelV y u)(f:sh y=true):D1 x u=MQ y x:=by
 cases y with
 | dk=>cases r;rfl
 | bl b=>cases r;rfl
 | int i=>obtain⟨t,rfl⟩:=r;rfl
 | str z=>obtain⟨t,rfl⟩:=r;rfl
 | _=>exact absurd (show false=true from f) aam
theorem si {x:V}:∀ {xs:List V} {us:List Value},Vals xs us->xs.all sh=true->us.any (D1 x)=xs.any fun y=>MQ y x
 | _,_,.nil,_=>rfl
 | y::xs,u::us,.cons r t,f=>by
   rw[acn,aa9] at f;rw[ab8,ab8,JC r f.1,si t f.2]
theorem pG {A:Around}{s:Shared}{x:V}{v:Value}(rx:RelV x v)(fx:sh x=true):∀ {xs:List V} {us:List Value},Vals xs us->xs.all sh=true->∀ u∈us,SeqAt.EqAt A s u v (D1 x u)
 | _,_,.nil,_=>fun u hu=>by cases hu
 | y::xs,u::us,.cons r t,f=>fun u' hu=>by
   rw[acn,aa9] at f;rcases aaJ.mp hu with rfl | hu
   . rw[JC r f.1];exact Rh r rx f.1 fx
   . exact pG rx fx t f.2 u' hu
noncomputable def Vq (x:V)(xs:List V):Bool:=xs.any fun y=>MQ y x
def X8 (K:W.Frag)(neg:Bool):R2:=fun x y H Q=>∃ p xs,y=.ref p/\(nA K H p xs\/DH K H p xs)/\sh x=true/\xs.all sh=true/\Q (.bl (if neg then !Vq x xs else Vq x xs)) H
theorem zh:qf X (compareOp .In) (X8 X.K false):=by
 intro pins s σ H x y v u Q I rx ry h;obtain⟨p,xs,rfl,hq,fx,fs,q⟩:=h;cases ry;rcases hq with hq | hq
 . obtain⟨aH,r,pl,hz⟩:=I.list hq
   refine SeqAt.in_listAt (D1 x) pl.isList (fun w hw=>pG rx fx r fs w (by simpa using hw)) ⟨.bl _,H,I,rfl,?_⟩;rw[show aH.toArray.any (D1 x)=aH.any (D1 x) by simp,si r fs];exact q
 . obtain⟨aH,r,pl,hz⟩:=I.tuple hq
   refine SeqAt.in_tupleAt (D1 x) pl (fun w hw=>pG rx fx r fs w (by simpa using hw)) ⟨.bl _,H,I,rfl,?_⟩;rw[show aH.toArray.any (D1 x)=aH.any (D1 x) by simp,si r fs];exact q
theorem sj:qf X (compareOp .NotIn) (X8 X.K true):=by
 intro pins s σ H x y v u Q I rx ry h;obtain⟨p,xs,rfl,hq,fx,fs,q⟩:=h;cases ry;rcases hq with hq | hq
 . obtain⟨aH,r,pl,hz⟩:=I.list hq
   refine SeqAt.notIn_listAt (D1 x) pl.isList (fun w hw=>pG rx fx r fs w (by simpa using hw)) ⟨.bl _,H,I,rfl,?_⟩;rw[show aH.toArray.any (D1 x)=aH.any (D1 x) by simp,si r fs];exact q
 . obtain⟨aH,r,pl,hz⟩:=I.tuple hq
   refine SeqAt.notIn_tupleAt (D1 x) pl (fun w hw=>pG rx fx r fs w (by simpa using hw)) ⟨.bl _,H,I,rfl,?_⟩;rw[show aH.toArray.any (D1 x)=aH.any (D1 x) by simp,si r fs];exact q
theorem sk:kU X (.builtin "len") (fun xs H Q=>∃ p ys,xs=[.ref p]/\(nA X.K H p ys\/DH X.K H p ys)/\Q (.int ys.length) H):=by
 intro pins s σ H xs us Q I r h;obtain⟨p,ys,rfl,hq,q⟩:=h;obtain⟨u,rfl,rx⟩:=vals1 r;cases rx;have hn:=mV;rcases hq with hq | hq
 . obtain⟨aH,r',pl,hz⟩:=I.list hq
   have hlen:=r'.length;exact Calls.call_len_list pl.isList (by simp only[aap] <;> omega) ⟨.int ys.length,H,I.tok _,⟨s.toks+1,by rw[aap,hlen]⟩,q⟩
 . obtain⟨aH,r',pl,hz⟩:=I.tuple hq
   have hlen:=r'.length;exact len_tuple pl (by simp only[aap] <;> omega) ⟨.int ys.length,H,I.tok _,⟨s.toks+1,by rw[aap,hlen]⟩,q⟩
theorem Ad:kU X (.builtin "len") (fun xs H Q=>∃ z,xs=[.str z]/\z.length<=sizeLine/\Q (.int z.length) H):=by
 intro pins s σ H xs us Q I r h;obtain⟨z,rfl,hz,q⟩:=h;obtain⟨u,rfl,t,rfl⟩:=vals1 r;have hn:=mV;exact len_str (by omega) ⟨.int z.length,H,I.tok _,⟨_,rfl⟩,q⟩
theorem Ae:kU X (.type "list") (fun xs H Q=>∃ p ys,xs=[.ref p]/\(nA X.K H p ys\/DH X.K H p ys)/\∀ l,H l=none->Q (.ref l) (upd H l (.lst ys))):=by
 intro pins s σ H xs us Q I r h;obtain⟨p,ys,rfl,hq,q⟩:=h;obtain⟨u,rfl,rx⟩:=vals1 r;cases rx;have fin:∀ (aH:List Value),Vals ys aH->ys.length<=sizeLine->∀ (h':Heap) (c':Nat),(∀ b o',s.heap.get? b=some o'->h'.get? b=some o') ->
     h'.get? s.heap.objs.size=some { cls:=.type "list",dict:=none,data:=.seq aH.toArray c',slots:=#[]}->EP X pins σ Q (.ref s.heap.objs.size) { s with heap:=h'}:=fun aH r' hz h' c' kp e=>
   ⟨.ref s.heap.objs.size,_,I.laid (t':=s.toks) kp (aaa _) (show aV X.prog X.w _ h' _ (.lst ys) from⟨hz,aH,c',r',e⟩),rfl,q _ (I.bO.fresh (aaa _))⟩
 rcases hq with hq | hq
 . obtain⟨aH,r',pl,hz⟩:=I.list hq
   have hlen:=r'.length;obtain⟨o,ho,hc,n,hd⟩:=pl.isList;exact call_list_seq p (.inl rfl) ho hc hd (fun h' c' kp e=>fin aH r' hz h' c' kp e) (by simp only[aap] <;> omega)
 . obtain⟨aH,r',pl,hz⟩:=I.tuple hq
   have hlen:=r'.length;obtain⟨o,ho,hc,n,hd⟩:=pl;exact call_list_seq p (.inr rfl) ho hc hd (fun h' c' kp e=>fin aH r' hz h' c' kp e) (by simp only[aap] <;> omega)
def X9 (K:W.Frag)(T:String)(x:V)(H:Hp):Prop:=match x with
 | .str _=>T="str"
 | .int _=>T="int"
 | .ref p=>(T="list"/\∃ xs,nA K H p xs)\/(T="tuple"/\∃ o,K.lookup p=some o/\o.cls=.type "tuple"/\o.dict=none) \/
     (T="dict"/\((∃ kvs,H p=some (.dK kvs))\/(∃ kvs,H p=some (.dT kvs))\/∃ tg o kvs,H p=some (.kd tg o kvs)))\/(T="set"/\∃ S n,H p=some (.set S n)) \/
     (T="list"/\∃ (a:Addr) (ls:k7) (ns:List Nat) (j:Nat) (f:Nat->List (Key×FD)) (N:Nat),H a=some (.bN ls ns)/\ls[j]?=some (p,f)/\ns[j]?=some N)
 | _=>False
theorem JD {pins:List (Addr×Obj)}{σ:St}{H:Hp}{s:Shared}{T:String}{x:V}{v:Value}(I:Inv X pins σ H s)(r:RelV x v)(ty:X9 X.K T x H):s.TypeIs v T/\∀ a,v=.ref a->∃ ob,s.heap.get? a=some ob/\ob.dict=none:=by
 cases x with
 | str z=>
   obtain⟨t,rfl⟩:=r;cases (show T="str" from ty);exact⟨typeIs_str s z t,fun _ e=>nomatch e⟩
 | int i=>
   obtain⟨t,rfl⟩:=r;cases (show T="int" from ty);exact⟨typeIs_int s i t,fun _ e=>nomatch e⟩
 | ref p=>
   cases r;rcases ty with⟨rfl,xs,hq⟩ | ⟨rfl,o,hk,hc,hd⟩ | ⟨rfl,hk⟩ | ⟨rfl,S,n,hk⟩ | ⟨rfl,a,ls,ns,j,f,N,h1,h2,h3⟩
   . obtain⟨aH,_,pl,_⟩:=I.list hq
     refine⟨pl.isList.typeIs,fun a e=>?_⟩;cases e;obtain⟨o,n,e,c,hd,_⟩:=pl;exact⟨o,e,hd⟩
   . refine⟨⟨o,I.BQ p o hk,hc⟩,fun a e=>?_⟩
     cases e;exact⟨o,I.BQ _ o hk,hd⟩
   . have z:∃ o,s.heap.get? p=some o/\o.ExactDict:=by
       rcases hk with⟨kvs,hk⟩ | ⟨kvs,hk⟩ | ⟨tg,ob,kvs,hk⟩
       . obtain⟨_,_,_,_,o,_,_,e,ex,_⟩:=I.bO p _ hk
         exact⟨o,e,ex⟩
       . obtain⟨_,_,_,_,o,_,_,e,ex,_⟩:=I.bO p _ hk
         exact⟨o,e,ex⟩
       . obtain⟨_,⟨_,_,_,_,o,_,_,e,ex,_⟩,_⟩:=I.bO p _ hk
         exact⟨o,e,ex⟩
     obtain⟨o,e,ex⟩:=z;refine⟨⟨o,e,ex.1⟩,fun a e2=>?_⟩;cases e2;exact⟨o,e,ex.2.1⟩
   . obtain⟨o,_,_,_,e,ex,_⟩:=I.bO p _ hk
     refine⟨⟨o,e,ex.1⟩,fun a e2=>?_⟩;cases e2;exact⟨o,e,ex.2.1⟩
   . obtain⟨_,_,_,_,_,_,h6⟩:=(show aV X.prog X.w H s.heap a (.bN ls ns) from I.bO a _ h1)
     obtain⟨aH,c,e1,e2,e3⟩:=h6 j p f N h2 h3;refine⟨⟨_,e1,rfl⟩,fun a' e4=>?_⟩;cases e4;exact⟨_,e1,rfl⟩
 | _=>exact False.elim ty
def Zh (K:W.Frag)(T:String)(r:V->List V->Hp->VK->Prop)(to:TE):TE:=fun σ H Q=>to σ H fun x H1=>X9 K T x H1/\r x [] H1 Q
def tBM (K:W.Frag)(T:String)(r:V->List V->Hp->VK->Prop)(to:TE)(t:TA):TE:=fun σ H Q=>to σ H fun x H1=>X9 K T x H1/\t σ H1 fun xs H2=>r x xs H2 Q
variable {o e:Expr}{es:List Expr}{to:TE}{t:TA}{name:Str}{apos bR:Pos}{T id:String}{r:V->List V->Hp->VK->Prop}
theorem JE (pa:PlainAttrs T)(slot:Slot T name id)(Vr:typeOf (.builtin id)=pure (.type "method_descriptor"))(hm:Rb X id r)(ho:PE X o to)(jx:autoParam (attributeBase o name X.env (eval o X.env)=eval o X.env) jp)(jy:autoParam ((apos.endLine == bR.line)=true) jp):PE X (.Call (.Attribute o name apos) [] [] bR) (Zh X.K T r to):=by
 intro pins s σ H Q I h;refine wpAny_Call_method0_late jx jy (cn (ho pins s σ H _ I h) fun v s1 ⟨x,H1,I1,r1,ty,q1⟩=>?_);obtain⟨h1,h2⟩:=JD I1 r1 ty;exact⟨T,id,pa,slot,Vr,h1,h2,Calls.callWith_builtin rfl (PySem.evalArgs_none (hm pins s1 σ H1 x [] v [] Q I1 r1 .nil q1))⟩
theorem uP (pa:PlainAttrs T)(slot:Slot T name id)(Vr:typeOf (.builtin id)=pure (.type "method_descriptor"))(hm:Rb X id r)(ho:PE X o to)(ha:PA X (e::es) t)
   (jx:autoParam (attributeBase o name X.env (eval o X.env)=eval o X.env) jp)
   (tS:autoParam (((backTo bR (starEach (e::es) X.env)).all (fun x=>!x.1) && (backToKw bR (keywordEach [] X.env)).all (fun x=>x.1.isSome)
     && decide ((e::es).length+([]:List Keyword).length+(if ([]:List Keyword).isEmpty then 0 else 1) < 30))=true) jp)
   (jy:autoParam ((apos.endLine == bR.line)=true) jp) (hs:autoParam (starEach (e::es) X.env=(false,eval e X.env)::starEach es X.env) jp) (Ri:autoParam ((backTo bR (starEach es X.env)).any (·.1)=false) jp) :
   PE X (.Call (.Attribute o name apos) (e::es) [] bR) (tBM X.K T r to t):=by
 intro pins s σ H Q I h;refine wpAny_Call_method_late jx tS jy rfl (cn (ho pins s σ H _ I h) fun v s1 ⟨x,H1,I1,r1,ty,q1⟩=>?_);obtain⟨h1,h2⟩:=JD I1 r1 ty;refine⟨T,id,pa,slot,Vr,h1,h2,?_⟩;have hA:=ha bR pins s1 σ H1 _ I1 q1;rw[hs] at hA ⊢;refine Calls.callWith_builtin (by show(false || (backTo bR (starEach es X.env)).any (·.1))=false;rw[Ri] <;> rfl) (Calls.evalArgs_plain ?_);exact cn hA fun us s2 zq=>Exists.elim zq fun vs zq=>Exists.elim zq fun H2 zq=>have I2:=zq.1;have r2:=zq.2.1;have q2:=zq.2.2;hm pins s2 σ H2 x vs v us Q I2 r1 r2 q2
end
def Zi (X:Cx)(id:String)(r:V->List V->Hp->VK->Prop):Prop:=
 ∀ (pins:List (Addr×Obj)) (s:Shared) (σ:St) (H:Hp) (x:V) (xs:List V) (v:Value) (us:List Value) (Q:VK),Inv X pins σ H s->RelV x v->Vals xs us->r x xs H Q ->
   wpAny (model X.prog X.w) X.A (call (.builtin id) (v::us)) (EP X pins σ Q) X.xe s
theorem Vals.one:∀ {x:V} {us:List Value},Vals [x] us->∃ u,us=[u]/\RelV x u
 | _,_,.cons r .nil=>⟨_,rfl,r⟩
theorem Vals.zero:∀ {us:List Value},Vals [] us->us=[]
 | _,.nil=>rfl
theorem Vals.dropLast {xs:List V}{us:List Value}(h:Vals xs us):Vals xs.dropLast us.dropLast:=by
 induction h with
 | nil=>exact .nil
 | cons r t ih=>
   cases t with
   | nil=>exact .nil
   | cons q t'=>exact .cons r ih
theorem Vals.rep {xs:List V}{us:List Value}(h:Vals xs us):∀ k:Nat,Vals (aaj k xs).flatten (aaj k us).flatten
 | 0=>.nil
 | k+1=>by
   rw[abM,abM,abC,abC];exact Vals.append h (Vals.rep h k)
theorem D2 {α:Type}(l:List α):l.eraseIdx (l.length - 1)=l.dropLast:=by
 induction l with
 | nil=>rfl
 | cons a r ih=>
   cases r with
   | nil=>rfl
   | cons b r=>
     have e:(a::b::r).length - 1=((b::r).length - 1)+1:=by
       have h1:(a::b::r).length=r.length+2:=rfl;have h2:(b::r).length=r.length+1:=rfl;omega
     rw[e,List.eraseIdx_cons_succ,ih]
     all_goals rfl
theorem foldl_rep (aH:List Value):∀ (k:Nat) (acc:List Value),List.foldl (fun x1 x2=>x1 ++ x2) acc.toArray (aaj k aH.toArray)=(acc ++ (aaj k aH).flatten).toArray
 | 0,acc=>by simp
 | k+1,acc=>by
   have e:acc.toArray ++ aH.toArray=(acc ++ aH).toArray:=by simp
   have e2:(acc ++ aH) ++ (aaj k aH).flatten=acc ++ (aaj (k+1) aH).flatten:=by
     rw[abM,abC,List.append_assoc]
   rw[<- e2,<- foldl_rep aH k (acc ++ aH),<- e,abM,List.foldl_cons]
section
variable {X:Cx}{pins:List (Addr×Obj)}{σ:St}{H:Hp}{s:Shared}{l:Addr}{xs ys:List V}
theorem Inv.Rj {aH its':List Value}{n:Nat}{f:Array Value->Array Value}{t':Nat}(I:Inv X pins σ H s)(hH:H l=some (.lst xs))(e:s.heap.get? l=some { cls:=.type "list",data:=.seq aH.toArray n})(hf:f aH.toArray=its'.toArray)(hv:Vals ys its')(hz:ys.length<=sizeLine):Inv X pins σ (upd H l (.lst ys)) { s with heap:=s.heap.update l (Obj.mapSeq f),toks:=t'}:=by
 have q:=PySem.IsL.update e f;rw[hf] at q;refine I.write (x:=l) (e:=l) (by rw[hH];exact trivial) (.inl rfl) (fun b' u hb hu=>(ace s.heap (Obj.mapSeq f) (Ne.symm hb)).trans hu) ⟨_,q⟩ ?_;exact⟨hz,its',_,hv,q⟩
theorem Inv.Zj {aH:List Value}{t':Nat}(I:Inv X pins σ H s)(hv:Vals ys aH)(hz:ys.length<=sizeLine):Inv X pins σ (upd H s.heap.objs.size (.lst ys)) { s with heap:=s.heap.push { cls:=.type "list",data:=.seq aH.toArray},toks:=t'}:=
 I.laid (fun _ _ q=>aac _ q) (aaa _) ⟨hz,aH,0,hv,aar _ rfl⟩
theorem Inv.fresh (I:Inv X pins σ H s):H s.heap.objs.size=none:=I.bO.fresh (aaa _)
theorem Inv.JF (I:Inv X pins σ H s)(hH:H l=some (.lst xs)):xs.length<=sizeLine/\∃ (aH:List Value) (n:Nat),Vals xs aH/\xs.length=aH.length/\s.heap.get? l=some { cls:=.type "list",data:=.seq aH.toArray n}:=by
 obtain⟨z,aH,n,r,e⟩:=I.bO l _ hH;exact⟨z,aH,n,r,r.length,e⟩
theorem B7 {n:Nat}(h:n<=sizeLine):Builtin.List.listTooLong n=false:=by
 unfold Builtin.List.listTooLong;exact decide_eq_false (by omega)
end
section
variable {X:Cx}
def Nt:V->List V->Hp->VK->Prop:=fun x vs H Q=>∃ l xs y,x=.ref l/\vs=[y]/\H l=some (.lst xs)/\xs.length < sizeLine/\Q .dk (upd H l (.lst (xs ++ [y])))
theorem qj:Zi X "list.append" Nt:=by
 intro pins s σ H x vs v us Q I rx rv h;obtain⟨l,xs,y,rfl,rfl,hH,hz,q⟩:=h;cases rx;obtain⟨u,rfl,ru⟩:=rv.one;obtain⟨z,aH,n,r,hl,e⟩:=I.JF hH;refine call_meets F.slot_list_append ⟨_,e,rfl⟩ F.entry_list_append (F.args_list_append_2 _ _) (PySem.list_append l aH.toArray n u (by rw[aap];omega)) ⟨e,?_⟩;refine⟨.dk,_,I.Rj (its':=aH ++ [u]) hH e (by simp) (r.append (.cons ru .nil)) ?_,rfl,q⟩;rw[aaq,List.length_singleton];omega
def Nu:V->List V->Hp->VK->Prop:=fun x vs H Q=>∃ l b xs zs,x=.ref l/\vs=[.ref b]/\H l=some (.lst xs)/\H b=some (.lst zs)/\xs.length+zs.length<=sizeLine/\Q .dk (upd H l (.lst (xs ++ zs)))
theorem Hy:Zi X "list.extend" Nu:=by
 intro pins s σ H x vs v us Q I rx rv h;obtain⟨l,b,xs,zs,rfl,rfl,hH,hB,hz,q⟩:=h;cases rx;obtain⟨u,rfl,ru⟩:=rv.one;cases ru;obtain⟨z,aH,n,r,hl,e⟩:=I.JF hH;obtain⟨z2,Nv,n2,r2,Rk,e2⟩:=I.JF hB;have hsz:aH.toArray.size+Nv.toArray.size<=sizeLine:=by rw[aap,aap];omega
 have JG:¬ (!aH.toArray.isEmpty && Builtin.List.listTooLong (aH.toArray.size+Nv.toArray.size))=true:=by
   rw[B7 hsz,Bool.and_false];exact aam
 refine call_meets F.slot_list_extend ⟨_,e,rfl⟩ F.entry_list_extend (F.args_list_extend_2 _ _)
   (AutoSeq1.list_extend_list_list_0 l aH.toArray n b Nv.toArray n2 JG (by rw[aap];omega) (by omega)) ⟨e,e2,?_⟩
 refine⟨.dk,_,I.Rj (its':=aH ++ Nv) hH e (by simp) (r.append r2) ?_,rfl,q⟩;rw[aaq];omega
def Zk:V->List V->Hp->VK->Prop:=fun x vs H Q=>∃ l xs y,x=.ref l/\vs=[]/\H l=some (.lst xs)/\xs[xs.length - 1]?=some y/\Q y (upd H l (.lst xs.dropLast))
theorem Rm:Zi X "list.pop" Zk:=by
 intro pins s σ H x vs v us Q I rx rv h;obtain⟨l,xs,y,rfl,rfl,hH,hy,q⟩:=h;cases rx;have hus:=rv.zero;subst hus;obtain⟨z,aH,n,r,hl,e⟩:=I.JF hH;obtain⟨u,hu,ru⟩:=r.get hy;have Vs:aH.toArray[aH.toArray.size - 1]?=some u:=by
   show aH.toArray[aH.length - 1]?=some u;rw[<- acj,<- hl];exact hu
 refine call_meets F.slot_list_pop ⟨_,e,rfl⟩ F.entry_list_pop (F.args_list_pop_1 _) (MeetsSeq.list_pop_last l aH.toArray n u Vs (by rw[aap];omega)) ⟨e,?_⟩;refine⟨y,_,I.Rj (its':=aH.dropLast) hH e ?_ r.dropLast ?_,ru,q⟩
 . show aH.toArray.eraseIdxIfInBounds (aH.toArray.size - 1)=aH.dropLast.toArray
   rw[aap,List.eraseIdxIfInBounds_toArray,D2]
 . rw[abV]
   omega
def Zl:R2:=fun x y H Q=>∃ l k xs,x=.ref l/\y=.int k/\H l=some (.lst xs)/\-(2 ^ 63)<=k/\k < 2 ^ 63/\xs.length * k.toNat<=sizeLine /\
 ∀ p,H p=none->Q (.ref p) (upd H p (.lst (aaj k.toNat xs).flatten))
theorem len_rep {α:Type}(xs:List α)(k:Nat):(aaj k xs).flatten.length=k * xs.length:=by
 induction k with
 | zero=>simp
 | succ k ih=>rw[abM,abC,aaq,ih,Nat.succ_mul,Nat.add_comm]
theorem Rn:qf X (binaryOp .Mult) Zl:=by
 intro pins s σ H x y v u Q I rx ry h;obtain⟨l,k,xs,rfl,rfl,hH,h1,h2,hz,q⟩:=h;cases rx;obtain⟨t,rfl⟩:=ry;obtain⟨z,aH,n,r,hl,e⟩:=I.JF hH;have hlen:aH.toArray.size * k.toNat<=sizeLine:=by rw[aap,<- hl];exact hz
 have Zm:¬ aH.toArray.size * k.toNat > (2 ^ 63 - 1) / 8:=by
   have:(sizeLine:Nat)<=(2 ^ 63 - 1) / 8:=by decide
   omega
 have wI:¬ (!Builtin.List.listFitsIndex k)=true:=by
   rw[fitsIndex_both h1 h2];exact aam
 have JG:¬ Builtin.List.listTooLong (aH.toArray.size * k.toNat)=true:=by
   rw[B7 hlen];exact aam
 have Hz:List.foldl (fun x1 x2=>x1 ++ x2) #[] (aaj (if aH.toArray.isEmpty=true then 0 else k.toNat) aH.toArray)=(aaj k.toNat aH).flatten.toArray:=by
   have f0:∀ m:Nat,List.foldl (fun x1 x2=>x1 ++ x2) #[] (aaj m aH.toArray)=(aaj m aH).flatten.toArray:=fun m=>by
     have:=foldl_rep aH m [];rw[List.nil_append] at this;exact this
   rw[f0];cases aH with
   | nil=>simp
   | cons a r'=>rw[if_neg (by simp)]
 refine wpAny_binaryOp_repeat_ref (T:="list") (U:="int") (by decide) ⟨_,e,rfl⟩ (fun s'=>typeIs_int s' k t) noFill_list_mul F.fills_int_mul F.slot_int_rmul repeat_list F.slot_int_index.lookup
   (call_meets F.slot_int_rmul (typeIs_int s k t) F.entry_int_rmul (F.args_int_rmul_2 _ _) (int___rmul___int_list k t l aH.toArray n)
     ⟨e,rfl,⟨_,e,rfl⟩,call_meets F.slot_list_mul ⟨_,e,rfl⟩ F.entry_list_mul (F.args_list_mul_2 _ _) (AutoListH.list___mul___list_int_3 l aH.toArray n k t wI Zm JG) ⟨e,?_⟩⟩)
 rw[Hz];exact⟨.ref _,_,I.Zj (t':=s.toks) (r.rep k.toNat) (by rw[len_rep,Nat.mul_comm];exact hz),rfl,q _ I.fresh⟩
end
section
variable {κ:Type}[DecidableEq κ]
noncomputable def pH (kvs:List (κ×V))(k:κ):Option V:=(kvs.find? fun kv=>decide (kv.1=k)).map (·.2)
noncomputable def putK (kvs:List (κ×V))(k:κ)(v:V):List (κ×V):=
 if (kvs.any fun kv=>decide (kv.1=k))=true then kvs.map (fun kv=>if kv.1=k then (kv.1,v) else kv) else kvs ++ [(k,v)]
theorem pI {p:κ×V}{r:List (κ×V)}{k:κ}(e:p.1=k):pH (p::r) k=some p.2:=by simp[pH,abR,e]
theorem nF {p:κ×V}{r:List (κ×V)}{k:κ}(e:¬ p.1=k):pH (p::r) k=pH r k:=by simp[pH,abR,e]
theorem sq (k:κ):∀ kvs:List (κ×V),(kvs.any fun kv=>decide (kv.1=k))=(pH kvs k).isSome
 | []=>rfl
 | p::r=>by
   rw[ab8];by_cases e:p.1=k
   . simp only[pI e,decide_eq_true e,Bool.true_or,Option.isSome_some]
   . rw[nF e,decide_eq_false e,Bool.false_or];exact sq k r
theorem uQ (kvs:List (κ×V))(k:κ)(v:V):(putK kvs k v).length<=kvs.length+1:=by
 unfold putK
 split
 . rw[k5];omega
 . rw[aaq,aaI,List.length_nil];omega
theorem qP.tT {o:Option V}{u:Option Value}(r:qP o u):o.isSome=u.isSome:=by
 cases o with
 | none=>cases u with
   | none=>rfl
   | some _=>exact(show False from r).elim
 | some _=>cases u with
   | none=>exact(show False from r).elim
   | some _=>rfl
theorem KV.val {kvs:List (κ×V)}{vs:List (κ×Value)}(r:KV kvs vs)(k:κ):qP (pH kvs k) (valueAt vs k):=by
 unfold KV at r
 induction r with
 | nil=>exact True.intro
 | @cons p q ps qs h t ih=>
   obtain⟨h1,h2⟩:=h;by_cases e:p.1=k
   . have e':q.1=k:=h1.symm.trans e
     have b:valueAt (q::qs) k=some q.2:=by simp[valueAt,abR,e']
     rw[pI e,b];exact h2
   . have e':¬ q.1=k:=fun z=>e (h1.trans z)
     have b:valueAt (q::qs) k=valueAt qs k:=by simp[valueAt,abR,e']
     rw[nF e,b];exact ih
theorem KV.any {kvs:List (κ×V)}{vs:List (κ×Value)}(r:KV kvs vs)(k:κ):(kvs.any fun kv=>decide (kv.1=k))=vs.any fun kv=>decide (kv.1=k):=by
 unfold KV at r
 induction r with
 | nil=>rfl
 | cons h t ih=>rw[ab8,ab8,ih,h.1]
theorem KV.Ro {kvs:List (κ×V)}{vs:List (κ×Value)}(r:KV kvs vs)(k:κ){y:V}{u:Value}(ry:RelV y u):KV (kvs.map fun kv=>if kv.1=k then (kv.1,y) else kv) (vs.map fun kv=>if kv.1=k then (kv.1,u) else kv):=by
 unfold KV at r ⊢
 induction r with
 | nil=>exact .nil
 | @cons p q ps qs h t ih=>
   rw[aao,aao];refine .cons ?_ ih;obtain⟨h1,h2⟩:=h;by_cases e:p.1=k
   . rw[if_pos e,if_pos (h1.symm.trans e)];exact⟨h1,ry⟩
   . rw[if_neg e,if_neg (fun z=>e (h1.trans z))];exact⟨h1,h2⟩
theorem KV.put {kvs:List (κ×V)}{vs:List (κ×Value)}(r:KV kvs vs)(k:κ){y:V}{u:Value}(ry:RelV y u):KV (putK kvs k y) (stored vs k u):=by
 unfold putK stored;rw[r.any k];by_cases e:(vs.any fun kv=>decide (kv.1=k))=true
 . rw[if_pos e,if_pos e];exact r.Ro k ry
 . rw[if_neg e,if_neg e];exact Paired.snoc r ⟨rfl,ry⟩
theorem KV.length {kvs:List (κ×V)}{vs:List (κ×Value)}(r:KV kvs vs):kvs.length=vs.length:=Paired.length r
end
theorem B8 {P:Program}{w:World}{k:Key}{u:Value}(r:RelV (kV k) u):(bF P w).is k u=true:=by
 cases k with
 | inl i=>obtain⟨t,e⟩:=(show ∃ t,u=Value.int i t from r);subst e;exact BK P w i t
 | inr x=>obtain⟨t,e⟩:=(show ∃ t,u=Value.str x t from r);subst e;exact BL P w x t
theorem zi {P:Program}{w:World}:∀ {ks:List Key} {us:List Value},Vals (ks.map kV) us->ItemsAre (bF P w) ks us
 | [],_,r=>by rw[List.map_nil] at r;cases r;exact .nil
 | k::ks,_,r=>by
   rw[aao] at r;cases r with
   | cons h t=>exact .cons (B8 h) (zi t)
abbrev KT (H:Hp):List (List Key×V)->List (List Key×Addr×Value)->Prop:=Paired fun p q=>p.1=q.1/\H q.2.1=some (.tup (p.1.map kV))/\RelV p.2 q.2.2
theorem KT.val {H:Hp}{kvs:List (List Key×V)}{xs:List (List Key×Addr×Value)}(r:KT H kvs xs)(k:List Key):qP (pH kvs k) ((atKey xs k).map (·.2)):=by
 induction r with
 | nil=>exact True.intro
 | @cons p q ps qs h t ih=>
   obtain⟨h1,_,h2⟩:=h;by_cases e:p.1=k
   . have e':q.1=k:=h1.symm.trans e
     have b:atKey (q::qs) k=some q.2:=by simp[atKey,abR,e']
     rw[pI e,b];exact h2
   . have e':¬ q.1=k:=fun z=>e (h1.trans z)
     have b:atKey (q::qs) k=atKey qs k:=by simp[atKey,abR,e']
     rw[nF e,b];exact ih
theorem KT.Ro {H:Hp}{kvs:List (List Key×V)}{xs:List (List Key×Addr×Value)}(r:KT H kvs xs)(k:List Key){y:V}{u:Value}(ry:RelV y u):KT H (kvs.map fun kv=>if kv.1=k then (kv.1,y) else kv) (xs.map (putAt k u)):=by
 induction r with
 | nil=>exact .nil
 | @cons p q ps qs h t ih=>
   rw[aao,aao];refine .cons ?_ ih;obtain⟨h1,h2,h3⟩:=h;unfold putAt;by_cases e:p.1=k
   . rw[if_pos e,if_pos (h1.symm.trans e)];exact⟨h1,h2,ry⟩
   . rw[if_neg e,if_neg (fun z=>e (h1.trans z))];exact⟨h1,h2,h3⟩
theorem KT.put {H:Hp}{kvs:List (List Key×V)}{xs:List (List Key×Addr×Value)}(r:KT H kvs xs)(k:List Key){b:Addr}{y:V}{u:Value}(hb:H b=some (.tup (k.map kV)))(ry:RelV y u):KT H (putK kvs k y) (storedH xs k b u):=by
 have e:(kvs.any fun kv=>decide (kv.1=k))=(atKey xs k).isSome:=by
   rw[sq,(r.val k).tT,Option.isSome_map]
 unfold putK storedH;rw[e];by_cases q:(atKey xs k).isSome=true
 . rw[if_pos q,if_pos q];exact r.Ro k ry
 . rw[if_neg q,if_neg q];exact Paired.snoc r ⟨rfl,hb,ry⟩
theorem KT.keeps {H H':Hp}{kvs:List (List Key×V)}{xs:List (List Key×Addr×Value)}(r:KT H kvs xs)(ht:∀ b ys,H b=some (.tup ys)->H' b=some (.tup ys)):KT H' kvs xs:=
 Paired.QN r fun _ _ z=>⟨z.1,ht _ _ z.2.1,z.2.2⟩
section
variable {P:Program}{w:World}{H:Hp}{h:Heap}{a:Addr}
theorem PK {u:HO}(ok:r6 P w H h)(e:Rd H a u):aV P w H h a u:=e.ok ok
theorem zj {kvs:List (Key×V)}(ok:r6 P w H h)(e:Rd H a (.dK kvs)):kvs.length<=sizeLine/\(a == sysModules)=false/\∃ vs,KV kvs vs/\h.DictOf (bF P w) a vs:=
 show aV P w H h a (.dK kvs) from PK ok e
theorem FG {kvs:List (Key×V)}(ok:r6 P w H h)(e:H a=some (.dK kvs)):kvs.length<=sizeLine/\(a == sysModules)=false/\∃ vs,KV kvs vs/\h.DictOf (bF P w) a vs:=zj ok (.inl e)
theorem Af {ks:List Key}(ok:r6 P w H h)(e:H a=some (.tup (ks.map kV))):(tupleKind (bF P w)).is h ks a:=by
 obtain⟨_,aH,r,o,h1,h2,n,h3⟩:=(show aV P w H h a (.tup (ks.map kV)) from ok a _ e)
 exact⟨o,aH.toArray,n,h1,h2,h3,by simpa using zi r⟩
theorem FH {kvs:List (List Key×V)}(ok:r6 P w H h)(e:Rd H a (.dT kvs)):kvs.length<=sizeLine/\(a == sysModules)=false/\∃ xs,KT H kvs xs/\h.DictOfH (tupleKind (bF P w)) a xs:=by
 obtain⟨z,y,xs,r,o,es,ep,h1,h2,h3,h4,h5⟩:=(show aV P w H h a (.dT kvs) from PK ok e)
 refine⟨z,y,xs,r,o,es,ep,h1,h2,h3,h4,fun x hx=>?_,h5⟩;have all:∀ {l:List (List Key×V)} {m:List (List Key×Addr×Value)},KT H l m->∀ x∈m,(tupleKind (bF P w)).is h x.1 x.2.1:=by
   intro l m q
   induction q with
   | nil=>intro x hx;exact nomatch hx
   | @cons p q ps qs hq t ih=>
     intro x hx;rcases aaJ.mp hx with e | hx
     . subst e
       exact Af ok (by rw[<- hq.1];exact hq.2.1)
     . exact ih x hx
 exact all r x hx
theorem Vt {kvs:List (List Key×V)}(ok:r6 P w H h)(e:H a=some (.dT kvs)):kvs.length<=sizeLine/\(a == sysModules)=false/\∃ xs,KT H kvs xs/\h.DictOfH (tupleKind (bF P w)) a xs:=FH ok (.inl e)
end
def vc (H:Hp)(a:Addr)(y:V)(r:Option V):Prop:=
 (∃ kvs k,Rd H a (.dK kvs)/\y=kV k/\r=pH kvs k)\/∃ kvs k b,Rd H a (.dT kvs)/\y=.ref b/\H b=some (.tup (k.map kV))/\r=pH kvs k
def HA (H:Hp)(a:Addr)(y v:V)(H':Hp):Prop:=
 (∃ kvs k,H a=some (.dK kvs)/\y=kV k/\kvs.length < sizeLine/\H'=upd H a (.dK (putK kvs k v))) \/
 ∃ kvs k b,H a=some (.dT kvs)/\y=.ref b/\H b=some (.tup (k.map kV))/\kvs.length < sizeLine/\H'=upd H a (.dT (putK kvs k v))
theorem vc.k {H:Hp}{a:Addr}{kvs:List (Key×V)}{k:Key}(e:H a=some (.dK kvs)):vc H a (kV k) (pH kvs k):=.inl ⟨kvs,k,.inl e,rfl,rfl⟩
theorem HA.k {H:Hp}{a:Addr}{kvs:List (Key×V)}{k:Key}{v:V}(e:H a=some (.dK kvs))(hl:kvs.length < sizeLine):HA H a (kV k) v (upd H a (.dK (putK kvs k v))):=.inl ⟨kvs,k,e,rfl,hl,rfl⟩
section
variable {X:Cx}{pins:List (Addr×Obj)}{σ:St}{H:Hp}{s:Shared}{a:Addr}{y v:V}{u r:Value}{o:Option V}{A:Around}{E:Value->Shared->Prop}
theorem Inv.big (I:Inv X pins σ H s):sysModules < s.heap.objs.size:=by
 have h:mainGlobals < s.heap.objs.size:=(I.mod.glob.keeps I.bk).lt;exact Nat.lt_trans (by decide) h
theorem HB {Q:Value->Shared->Prop}(hu:A.units+1 < cLine)(I:Inv X pins σ H s)(g:vc H a y (some v))(ry:RelV y u)(h:∀ w' s',Inv X pins σ H s'->RelV v w'->Q w' s'):wpAny (model X.prog X.w) A (getItem (.ref a) u) Q E s:=by
 rcases g with⟨kvs,k,e,ey,l⟩ | ⟨kvs,k,b,e,ey,eb,l⟩
 . subst ey
   obtain⟨z,hd,vs,rel,dd⟩:=zj I.bO e;obtain⟨w',hw,Jp⟩:=qP.some_of (v:=v) (o:=valueAt vs k) (by rw[l];exact rel.val k);exact wpAny_getItem_of (B8 ry) dd.mapOf hw (h w' _ (I.tok _) Jp)
 . subst ey
   cases (show u=Value.ref b from ry);obtain⟨z,hd,xs,rel,dd⟩:=FH I.bO e;obtain⟨w',hw,Jp⟩:=qP.some_of (v:=v) (o:=(atKey xs k).map (·.2)) (by rw[l];exact rel.val k);obtain⟨p,hp,Ag⟩:=Option.map_eq_some_iff.mp hw;refine wpAny_getItem_heap (tupleKind_room_in1 hu) (Af I.bO eb) dd hp ?_;rw[Ag];exact h w' _ (I.tok _) Jp
theorem Nw {Q:Value->Shared->Prop}(hu:A.units+1 < cLine)(I:Inv X pins σ H s)(g:vc H a y o)(ry:RelV y u)(h:∀ s',Inv X pins σ H s'->Q (.bool (!o.isSome)) s'):wpAny (model X.prog X.w) A (compareOp .NotIn u (.ref a)) Q E s:=by
 rcases g with⟨kvs,k,e,ey,l⟩ | ⟨kvs,k,b,e,ey,eb,l⟩
 . subst ey
   obtain⟨z,hd,vs,rel,dd⟩:=zj I.bO e;refine wpAny_notIn_of (B8 ry) hd dd.mapOf ?_;rw[<- (rel.val k).tT,<- l];exact h _ (I.tok _)
 . subst ey
   cases (show u=Value.ref b from ry);obtain⟨z,hd,xs,rel,dd⟩:=FH I.bO e;refine wpAny_notIn_heap (tupleKind_room_in1 hu) (Af I.bO eb) hd dd ?_;have q:=(rel.val k).tT;rw[Option.isSome_map] at q;rw[<- q,<- l];exact h _ (I.tok _)
theorem n9 {h':Heap}{t':Nat}{ob:HO}(I:Inv X pins σ H s)(mu:Ut (H a))(hs:abY a s.heap h')(he:∃ q,h'.get? a=some q)(new:aV X.prog X.w (upd H a ob) h' a ob):Inv X pins σ (upd H a ob) { s with heap:=h',toks:=t'}:=
 I.write (x:=a) (e:=a) mu (.inl rfl) (fun b q hb z=>(hs.2 b hb).trans z) he new
theorem JH {P:Program}{w:World}{H':Hp}{h':Heap}{kvs:List (Key×V)}{vs:List (Key×Value)}(z:kvs.length<=sizeLine)(hd:(a == sysModules)=false)(rel:KV kvs vs)(dd:h'.DictOf (bF P w) a vs):aV P w H' h' a (.dK kvs):=⟨z,hd,vs,rel,dd⟩
theorem HC {H':Hp}{Q:Unit->Shared->Prop}(hu:A.units+1 < cLine)(I:Inv X pins σ H s)(g:HA H a y v H')(ry:RelV y u)(rv:RelV v r)(h:∀ s',Inv X pins σ H' s'->Q () s'):wpAny (model X.prog X.w) A (setItem (.ref a) u r) Q E s:=by
 rcases g with⟨kvs,k,e,ey,l,eH⟩ | ⟨kvs,k,b,e,ey,eb,l,eH⟩
 . subst ey eH
   obtain⟨z,hd,vs,rel,dd⟩:=FG I.bO e;have hz:vs.length<=sizeLine:=by rw[<- rel.length];exact z
   have hl:(putK kvs k v).length<=sizeLine:=by have:=uQ kvs k v;omega
   refine wpAny_setItem_pairs (hsz:=hz) (B8 ry) dd fun h' Rp hs=>h _ ?_
   have he:∃ q,h'.get? a=some q:=let ⟨q,_,_,hq,_⟩:=Rp;⟨q,hq⟩;exact n9 I (by rw[e];exact True.intro) hs he (JH hl hd (rel.put k rv) Rp)
 . subst ey eH
   cases (show u=Value.ref b from ry);obtain⟨z,hd,xs,rel,dd⟩:=Vt I.bO e;have hz:xs.length<=sizeLine:=by rw[<- Paired.length rel];exact z
   have hl:(putK kvs k v).length<=sizeLine:=by have:=uQ kvs k v;omega
   refine wpAny_setItem_heap (hsz:=hz) (tupleKind_room_in1 hu) (Af I.bO eb) dd fun h' Rp hs=>h _ ?_
   obtain⟨q,es,ep,hq,h2,h3,h4,_,h5⟩:=Rp;refine n9 I (by rw[e];exact True.intro) hs ⟨q,hq⟩ ⟨hl,hd,_,(rel.put k eb rv).keeps fun c ys ec=>?_,q,es,ep,hq,h2,h3,h4,h5⟩;rw[ai (UR ec e (fun z=>nomatch z))];exact ec
end
def Nx (i:Expr):Prop:=∀ ov iv,subscripted i false ov iv=operate [ov,iv] (getItem ov iv)
theorem Ny {prog:Program}{w:World}{A:Around}{E:Value->Shared->Prop}{s:Shared}{env:Env}{value slice:Expr}{pos:Pos}{T id:String}{Q:Value->Shared->Prop}(hl:typeLookup (.type T) "__getitem__"=pure (some (.builtin id)))(hs:Nx slice)(h:wpAny (model prog w) A (eval value env) (fun o s₁=>wpAny (model prog w) A (eval slice env) (fun i s₂=>s₂.TypeIs o T/\wpAny (model prog w) A (getItem o i) Q E s₂) E s₁) E s):wpAny (model prog w) A (eval (.Subscript value slice pos) env) Q E s:=by
 refine Subscript_ (wpAny_mono h (fun o s₁ h₁=>wpAny_mono h₁ (fun i s₂ h₂=>?_) fun _ _ x=>x) fun _ _ x=>x);obtain⟨hT,h₂⟩:=h₂;unfold subscriptTail;refine wpAny_bind ?_;rw[getitemInPython_of_ne hT.not_modules];refine wpAny_bind (wpAny_specialOf hT hl ?_);have fin:wpAny (model prog w) A (subscripted slice false o i) (fun r s₃=>wpAny (model prog w) A (letTemporaryGo value o r >>= fun _=>pure r) Q E s₃) E s₂:=by
   rw[hs o i];exact wpAny_operating (wpAny_mono h₂ (fun r s₃ h₃=>wpAny_bind (wpAny_letTemporaryGo (wpAny_pure h₃))) fun _ _ x=>x)
 first
   | exact wpAny_pure (wpAny_bind fin)
   | exact wpAny_bind (wpAny_pure (wpAny_bind fin))
   | exact wpAny_bind fin
theorem B9 {X:Cx}{pins:List (Addr×Obj)}{σ:St}{H:Hp}{s:Shared}{a:Addr}{y:V}{o:Option V}(I:Inv X pins σ H s)(g:vc H a y o):s.TypeIs (.ref a) "dict":=by
 rcases g with⟨kvs,k,e,_,_⟩ | ⟨kvs,k,b,e,_,_,_⟩
 . obtain⟨_,_,vs,_,dd⟩:=zj I.bO e
   exact dd.typeIs
 . obtain⟨_,_,xs,_,dd⟩:=FH I.bO e
   exact dd.typeIs
def Vu (td ty:TE):TE:=fun σ H Q=>td σ H fun x H1=>ty σ H1 fun y H2=>∃ a v,x=.ref a/\vc H2 a y (some v)/\Q v H2
def Zn (ty td:TE):TE:=fun σ H Q=>ty σ H fun y H1=>td σ H1 fun x H2=>∃ a o,x=.ref a/\vc H2 a y o/\Q (.bl o.isSome) H2
def FI (ty td:TE):TE:=fun σ H Q=>ty σ H fun y H1=>td σ H1 fun x H2=>∃ a o,x=.ref a/\vc H2 a y o/\Q (.bl (!o.isSome)) H2
def Vv (td ty tv:TE):TS:=fun D σ H=>tv σ H fun v H1=>td σ H1 fun x H2=>ty σ H2 fun y H3=>∃ a H4,x=.ref a/\HA H3 a y v H4/\D.nx σ H4
section
variable {X:Cx}{o i value:Expr}{pos pos':Pos}{td ty tv:TE}
theorem FJ (hu:X.A.units+1 < cLine)(ho:PE X o td)(hi:PE X i ty)(hs:Nx i):PE X (.Subscript o i pos) (Vu td ty):=by
 intro pins s σ H Q I h;refine Ny PySem.F.slot_dict_getitem.lookup hs (cn (ho pins s σ H _ I h) fun u s1 zq=>Exists.elim zq fun x zq=>Exists.elim zq fun H1 zq=>have I1:=zq.1;have rx:=zq.2.1;have q1:=zq.2.2;cn (hi pins s1 σ H1 _ I1 q1) fun iv s2 ⟨y,H2,I2,ry,a,v,ex,g,q2⟩=>?_);subst ex;obtain rfl:u=Value.ref a:=rx;exact⟨B9 I2 g,HB hu I2 g ry fun w' s3 I3 Jp=>⟨v,H2,I3,Jp,q2⟩⟩
theorem zk (hu:X.A.units+1 < cLine)(hi:PE X i ty)(ho:PE X o td):PC X .NotIn i o (FI ty td):=by
 intro pins s σ H Q I h;refine cn (hi pins s σ H _ I h) fun iv s1 zq=>Exists.elim zq fun y zq=>Exists.elim zq fun H1 zq=>have I1:=zq.1;have ry:=zq.2.1;have q1:=zq.2.2;cn (ho pins s1 σ H1 _ I1 q1) fun u s2 ⟨x,H2,I2,rx,a,ov,ex,g,q2⟩=>?_
 subst ex;obtain rfl:u=Value.ref a:=rx;exact Nw hu I2 g ry fun s3 I3=>⟨.bl (!ov.isSome),H2,I3,rfl,q2⟩
theorem FK (hu:X.A.units+1 < cLine)(ho:PE X o td)(hi:PE X i ty)(hv:PE X value tv)(hs:swapsWith value (some (.Subscript o i pos')) pos.line X.env=pure false):PS X (.Assign [.Subscript o i pos'] value pos) (Vv td ty tv):=by
 intro pins s σ H D I h;refine wpAny_Assign_Subscript (cn (hv pins s σ H _ I h) fun r s1 zq=>Exists.elim zq fun v zq=>Exists.elim zq fun H1 zq=>have I1:=zq.1;have rv:=zq.2.1;have q1:=zq.2.2;cn (ho pins s1 σ H1 _ I1 q1) fun u s2 zq=>Exists.elim zq fun x zq=>Exists.elim zq fun H2 zq=>have I2:=zq.1;have rx:=zq.2.1;have q2:=zq.2.2;cn (hi pins s2 σ H2 _ I2 q2) fun iv s3 ⟨y,H3,I3,ry,a,H4,ex,g,q3⟩=>?_) hs;subst ex;obtain rfl:u=Value.ref a:=rx;exact HC hu I3 g ry rv fun s4 I4=>⟨σ,H4,I4,q3⟩
end
theorem Ca {P:Program}{w:World}{H:Hp}(h:Heap)(hb:sysModules < h.objs.size):aV P w H (h.push { cls:=.type "dict",data:=.dict #[]}) h.objs.size (.dK []):=
 ⟨aa1 _,beq_eq_false_iff_ne.mpr (Ne.symm (aat hb)),[],.nil,Heap.DictOf.new h⟩
def Rq:TE:=fun _ H Q=>∀ p,H p=none->Q (.ref p) (upd H p (.dK []))
section
variable {X:Cx}{pos:Pos}
theorem Cb:PE X (.Dict [] [] pos) Rq:=fun pins s σ H Q I h=>
 wpAny_Dict_empty ⟨.ref s.heap.objs.size,_,I.laid (a:=s.heap.objs.size) (o:=.dK []) (t':=s.toks) (fun _ _ q=>aac _ q) (aaa _) (Ca s.heap I.big),rfl,h _ (I.bO.fresh (aaa _))⟩
end
structure M1 (X:Cx)(o:Expr)(m:Str)(apos:Pos)(e:Expr)(bR:Pos):Prop where
 base:attributeBase o m X.env (eval o X.env)=eval o X.env
 few:((backTo bR (starEach [e] X.env)).all (fun x=>!x.1) && (backToKw bR (keywordEach [] X.env)).all (fun x=>x.1.isSome)
   && decide (([e]:List Expr).length+([]:List Keyword).length+(if ([]:List Keyword).isEmpty then 0 else 1) < 30))=true
 line:(apos.endLine == bR.line)=true
 trees:backTo bR (starEach [e] X.env)=[(false,eval e X.env)]
structure M2 (X:Cx)(o:Expr)(m:Str)(apos:Pos)(e f:Expr)(bR:Pos):Prop where
 base:attributeBase o m X.env (eval o X.env)=eval o X.env
 few:((backTo bR (starEach [e,f] X.env)).all (fun x=>!x.1) && (backToKw bR (keywordEach [] X.env)).all (fun x=>x.1.isSome)
   && decide (([e,f]:List Expr).length+([]:List Keyword).length+(if ([]:List Keyword).isEmpty then 0 else 1) < 30))=true
 line:(apos.endLine == bR.line)=true
 trees:backTo bR (starEach [e,f] X.env)=[(false,eval e X.env),(false,eval f X.env)]
end L2
namespace Att
open PySem PySem.W PySem.Calls PyProof.Rows
theorem vd {P:Params}{h:Heap}:∀ (ns:List Int) (vs:List Value),WellAll P h vs (ns.map WData.int)->IntsAre vs ns:=by
 intro ns
 induction ns with
 | nil=>
   intro vs w;rw[List.map_nil] at w;cases w;exact .nil
 | cons n ns ih=>
   intro vs w;rw[aao] at w;cases w with
   | cons a b=>
     cases a;exact .cons _ _ (ih _ b)
theorem HD {l:OpenLaw}{n:Nat}(hn:l.most=some n){P:Params}{h:Heap}{args:List WData}{vals:List Value}(Nz:l.row.toRowW.claim.pre args=true)(Rr:WellAll P h vals args):∃ a vs ns,vals=[Value.ref a]/\args=[WData.list (ns.map WData.int)]/\h.get? a=some { cls:=.type "list",data:=.seq vs.toArray}/\IntsAre vs ns/\ns.length<=n:=by
 have hsh:WShape.hasAll [] args [.list .int]=true:=(pre_splitW Nz).1;have hc:l.pre.holds [] { args:=args}=true:=(pre_splitW Nz).2;obtain⟨d,r,rfl,h1,h2⟩:=hasAllW_cons hsh;obtain rfl:=hasAllW_nil h2;obtain⟨xs,rfl,h3⟩:=hasW_list h1;obtain⟨ns,rfl⟩:=items_int h3;have hlen:ns.length<=n:=by
   unfold OpenLaw.pre at hc;have h4:(WTm.not (.lt (.lit (.int (n:Int))) (.len (.arg 0)))).holds [] { args:=[.list (ns.map .int)]}=true:=by
     have h4:=(holds_andW hc).1;rw[hn] at h4;exact h4
   have h5:=condW_of h4 (w_not (w_lt w_lit (w_len_list (w_arg rfl))));rw[k5] at h5;refine ack fun q=>?_
   have q':(n:Int) < ((ns.length:Nat):Int):=by omega
   first
     | (rw[decide_eq_true q'] at h5;exact absurd h5 (by decide))
     | (simp at h5;omega)
 cases Rr with
 | cons w1 w2=>
   cases w2;cases w1 with
   | list ho Zo=>exact⟨_,_,ns,rfl,rfl,ho,vd ns _ Zo,hlen⟩
theorem HE (l:OpenLaw)(args:List WData):l.row.toRowW.claim.post args (.bool true) args=true:=
 postW_of (r:=l.row.toRowW) (X:=(true == true))
   (show WShape.has [] (.bool true) .bool=true by first | rfl | decide | simp[WShape.has,WShape.arms,WShape.armsAll])
   (show(WTm.eq .res (.lit (.bool true))).value [] { args:=args,res:=some (.bool true),after:=args}=some (.bool (true == true)) from w_eq_bool (w_res rfl) w_lit) rfl
theorem Cc {l:OpenLaw}{n:Nat}{q:Program}{loose:List Str}{XP:(Str->Option Value)->Heap->Prop}{YP:World->Heap->Prop}{d:DefRec}(hn:l.most=some n)(Vw:d.params.defaults=[])(call:∀ (w:World) (s₀ s₁:Shared) (mg mb:Str->Option Value) (fa:Addr) (o:Obj) (pm cd doc:Value) (a:Addr) (vs:List Value) (ns:List Int),Ground q loose [] XP w s₀ mg mb s₁.heap->YP w s₁.heap->s₁.heap.get? fa=some o->o.data=.func (docDef d.name d.params d.body d.scope pm cd doc)->s₁.heap.CodeRec cd d.name->mg d.name=some (.ref fa)->s₁.heap.get? a=some { cls:=.type "list",data:=.seq vs.toArray}->IntsAre vs ns->ns.length<=n->s₁.gens=#[]->codeAny (model l.prog w) callerA (.call (.ref fa) ⟨[.ref a],[]⟩) (fun r s'=>r=.ok (.ret (.bool true))/\OldK s₁.heap s'.heap/\s'.os=s₁.os/\AllBare s'.gens) s₁):WalkO q loose XP YP l.row.toRowW d [] (fun f vs=>PySem.call f vs):=by
 intro w s₀ s₁ mg mb G Y fa o pm cd doc dV kV ho hd nz hD Vx hg args vals as Nz adj PL Rr hlo;obtain rfl:dV=.none:=Dflts.none hD Vw;obtain rfl:kV=.none:=Dflts.noKw hD;obtain⟨a,vs,ns,rfl,rfl,Rt,hints,hlen⟩:=HD hn Nz Rr;refine enter_call (codeAny_mono (call w s₀ s₁ mg mb fa o pm cd doc a vs ns G Y ho (fd_plain hd) nz Vx Rt hints hlen hg) fun r s' hq=>?_);obtain⟨rfl,h2,h3,h4⟩:=hq;exact⟨.inl ⟨.bool true,.bool true,[],rfl,fun _=>rfl,.bool true,HE l _,fun _=>⟨List.Pairwise.nil,fun _ hm=>(nomatch hm)⟩⟩,h2,h3,h4⟩
end Att
namespace L2
open PySem PySem.Spec PyProof.Rows
theorem nG:∀ {vs:List Value} {ns:List Int},IntsAre vs ns->Vals (ns.map V.int) vs
 | _,_,.nil=>.nil
 | _,_,.cons n t h=>.cons ⟨t,rfl⟩ (nG h)
def NA (H:Hp):Prop:=∀ b,H b=none\/∃ o xs,H b=some (.bU o (.lst xs))
theorem JI {P:Program}{w:World}{K:W.Frag}{mg mb:Str->Option Value}{CX:tR}{k:Nat}{fa a:Addr}{fd:FuncData}{x:Str}{sp:Sp}{s₁:Shared}{vs:List Value}{ns:List Int}(KX:K.In s₁.heap)(IY:s₁.heap.Ns mainGlobals mg)(hb:s₁.heap.Ns builtinsNs mb)(hbb:∀ x:Str,x≠"__name__"->mb x=bootBuiltins x)(Zp:s₁.heap.NoLimit)(hg:s₁.gens=#[])(ha:s₁.heap.get? a=some { cls:=.type "list",data:=.seq vs.toArray})(hi:IntsAre vs ns)(hl:ns.length<=sizeLine)(hr:fA k callerA)(F:∀ base:Heap,K.In base->base.Ns mainGlobals mg->kW P w K mg base CX k fa fd [x] sp)(Vy:∀ (s:Shared) (u:Value),BindsTo s fd ⟨[u],[]⟩ [(x,u)])(MP:∀ H:Hp,NA H->nA K H a (ns.map V.int)->sp [.ref a] H (fun v _=>v=.bl true) fun _ _ _=>False)(Vz:∀ H e s',CX [] H s₁ (fun _ _ _=>False) e s'->False):codeAny (model P w) callerA (.call (.ref fa) ⟨[.ref a],[]⟩) (fun r s'=>r=.ok (.ret (.bool true))/\OldK s₁.heap s'.heap/\s'.os=s₁.os/\AllBare s'.gens) s₁:=by
 have rv:=nG hi;have Zq:=hi.length;have core:∀ H:Hp,NA H->nA K H a (ns.map V.int)->r6 P w H s₁.heap->(∀ b,H b≠none->b=a)->(H a≠none->K.lookup a=none) ->
     codeAny (model P w) callerA (.call (.ref fa) ⟨[.ref a],[]⟩) (fun r s'=>r=.ok (.ret (.bool true))/\OldK s₁.heap s'.heap/\s'.os=s₁.os/\AllBare s'.gens) s₁:=by
   intro H hO hS bO hA hK;have FL:∀ {b:Addr} {o:Obj},s₁.heap.get? b=some o->H b=none->(z5 s₁.heap H).get? b=some o:=fun e n=>Jg e n
   have Vm:∀ {b:Addr} {o:Obj} {es:Array DictEntry} {ep:Nat},s₁.heap.get? b=some o->o.data=.dict es ep->H b=none:=fun {b o es ep} e d=>by
     cases q:H b with
     | none=>rfl
     | some u=>
       have e':b=a:=hA b (by rw[q];simp);subst e';rw[ha] at e;cases e;have d':Data.seq vs.toArray _=Data.dict es ep:=d;cases d'
   have Ya:∀ {b:Addr} {m:Str->Option Value},s₁.heap.Ns b m->(z5 s₁.heap H).Ns b m:=fun {b m} ⟨o,es,ep,e,d,r⟩=>⟨o,es,ep,FL e (Vm e d),d,r⟩
   have hKb:K.In (z5 s₁.heap H):=fun b o e=>FL (KX b o e) (by
     cases q:H b with
     | none=>rfl
     | some u=>
       have e':b=a:=hA b (by rw[q];simp);subst e';rw[hK (by rw[q];simp)] at e;cases e)
   have hM:Mod K mg (z5 s₁.heap H):=⟨hKb,Ya IY,⟨mb,Ya hb,hbb⟩,let ⟨mc,h1,h2⟩:=Zp;⟨mc,Ya h1,h2⟩⟩
   have e0:BY P w K mg (z5 s₁.heap H) callerA [] s₁ H:=⟨rfl,hM,fun b o e=>M5 e,Nat.le_of_eq (Hl _ _),trivial,fun b hb=>absurd (show b∈([]:List Addr) from hb) (by simp),bO,.of_eq hg⟩
   refine codeAny_mono ((F _ hKb (Ya IY)).run callerA [] s₁ H ⟨[.ref a],[]⟩ [.ref a] [.ref a] _ _ hr e0 (Vy s₁ (.ref a)) (.cons rfl .nil) (MP H hO hS)) fun r s' h=>?_
   cases r with
   | error e=>exact(Vz H e s' h).elim
   | ok fl=>
     cases fl with
     | next=>exact False.elim h
     | brk=>exact False.elim h
     | cont=>exact False.elim h
     | ret u=>
       obtain⟨v,H',os,bare,un,Zr,r',q⟩:=h;have q':v=.bl true:=q;subst q';obtain rfl:u=Value.bool true:=r';refine⟨rfl,OldK.of_keep fun b o e=>?_,os,bare⟩;cases q:H b with
       | none=>exact un.keep b o e q (by intro z;exact absurd (show b∈([]:List Addr) from z) (by simp)) (by simp)
       | some u=>
         rcases hO b with z | ⟨ob,xs,z⟩
         . rw[q] at z;cases z
         . have z2:=un.zZ b ob _ z
           obtain⟨e1,_⟩:=bO b _ z;obtain⟨e2,_⟩:=Zr b _ z2;rw[e] at e1;cases e1;exact e2
 cases hk:K.lookup a with
 | some o=>
   have e:=KX a o hk;rw[ha] at e;cases e;refine core (fun _=>none) (fun _=>.inl rfl) (.inr ⟨_,vs.toArray,_,hk,rfl,rfl,rfl,by rw[aap,Zq];exact hl,by simpa using rv⟩) (fun b u z=>by have z':(none:Option HO)=some u:=z;cases z') (fun b z=>absurd rfl z) fun z=>absurd rfl z
 | none=>
   refine core (fun b=>if b=a then some (.bU { cls:=.type "list",data:=.seq vs.toArray} (.lst (ns.map V.int))) else none) (fun b=>?_) (.inl (.inr (.inl ⟨{ cls:=.type "list",data:=.seq vs.toArray},if_pos rfl⟩))) (fun b u z=>?_) (fun b z=>?_) fun _=>hk
   . by_cases hb:b=a
     . exact .inr ⟨_,_,if_pos hb⟩
     . exact .inl (if_neg hb)
   . by_cases hb:b=a
     . have z':=(if_pos hb).symm.trans z
       cases z';subst hb;exact⟨ha,by rw[k5];exact hl,vs,_,rv,ha⟩
     . have z':=(if_neg hb).symm.trans z
       cases z'
   . by_cases hb:b=a
     . exact hb
     . exact absurd (if_neg hb) z
noncomputable abbrev KOf {K:W.Frag}{h:Heap}(_:K.In h):W.Frag:=K
theorem NB {l:W.OpenLaw}{n k:Nat}{q:Program}{loose:List Str}{XP:(Str->Option Value)->Heap->Prop}{YP:World->Heap->Prop}{d:DefRec}{K:Params->W.Frag}{CX:World->tR}{sp:World->Sp}{x:Str}(hn:l.most=some n)(MO:n<=sizeLine)(Vw:d.params.defaults=[])(hr:fA k callerA)(hY:∀ (w:World) (h:Heap),YP w h->(K w.params).In h)(F:∀ (w:World) (mg:Str->Option Value) (fa:Addr) (h:Heap),(K w.params).In h->h.Ns mainGlobals mg->mg d.name=some (.ref fa)->∃ fd:FuncData,(∀ (s:Shared) (u:Value),BindsTo s fd ⟨[u],[]⟩ [(x,u)])/\∀ base:Heap,(K w.params).In base->base.Ns mainGlobals mg->kW l.prog w (K w.params) mg base (CX w) k fa fd [x] (sp w))(MP:∀ (w:World) (H:Hp) (a:Addr) (ns:List Int),ns.length<=n->NA H->nA (K w.params) H a (ns.map V.int)->sp w [.ref a] H (fun v _=>v=.bl true) fun _ _ _=>False)(Vz:∀ (w:World) (H:Hp) (s:Shared) (e:Value) (s':Shared),CX w [] H s (fun _ _ _=>False) e s'->False):W.WalkO q loose XP YP l.row.toRowW d [] (fun f vs=>PySem.call f vs):=by
 refine Att.Cc hn Vw fun w s₀ s₁ mg mb fa o pm cd doc a vs ns G Y ho hd nz Vx Rt hints hlen hg=>?_
 have KX:=hY w _ Y;obtain⟨fd,hb,hF⟩:=F w mg fa _ KX G.T.g Vx;exact JI KX G.T.g G.T.b G.T.builtins G.T.nolimit hg Rt hints (aau hlen MO) hr hF hb (fun H hO hS=>MP w H a ns hlen hO hS) fun H e s'=>Vz w H s₁ e s'
theorem JJ {l:W.OpenLaw}{n k:Nat}{q:Program}{loose:List Str}{XP:(Str->Option Value)->Heap->Prop}{YP:World->Heap->Prop}{d:DefRec}{K:Params->W.Frag}{CX:tR}{sp:W.Frag->Sp}{x:Str}(hn:l.most=some n)(MO:n<=sizeLine)(Vw:d.params.defaults=[])(hr:fA k callerA)(hY:∀ (w:World) (h:Heap),YP w h->(K w.params).In h)(F:∀ (w:World) (mg:Str->Option Value) (fa:Addr) (h:Heap),(K w.params).In h->h.Ns mainGlobals mg->mg d.name=some (.ref fa)->∃ fd:FuncData,(∀ (s:Shared) (u:Value),BindsTo s fd ⟨[u],[]⟩ [(x,u)])/\∀ base:Heap,(K w.params).In base->base.Ns mainGlobals mg->kW l.prog w (K w.params) mg base CX k fa fd [x] (sp (K w.params)))(MP:∀ (K:W.Frag) (H:Hp) (a:Addr) (ns:List Int),ns.length<=n->NA H->nA K H a (ns.map V.int)->sp K [.ref a] H (fun v _=>v=.bl true) fun _ _ _=>False)(Vz:∀ (H:Hp) (s:Shared) (e:Value) (s':Shared),CX [] H s (fun _ _ _=>False) e s'->False):W.WalkO q loose XP YP l.row.toRowW d [] (fun f vs=>PySem.call f vs):=
 NB (K:=K) (CX:=fun _=>CX) (sp:=fun w=>sp (K w.params)) hn MO Vw hr hY F (fun w H a ns h1 h2 h3=>MP (K w.params) H a ns h1 h2 h3) fun _ H s e s'=>Vz H s e s'
noncomputable def inClass (s:Stmt)(j:Nat):Stmt:=match s with
 | .ClassDef _ _ _ body _ _ _ _ _ _ _=>body.getD j (.Pass ⟨0,0,0,0⟩)
 | _=>.Pass ⟨0,0,0,0⟩
noncomputable def cv (s:Stmt):Arguments:=match s with
 | .FunctionDef _ a _ _ _ _ _ _ _ _=>a
 | _=>{ posonlyargs:=[],args:=[],vararg:=none,kwonlyargs:=[],kw_defaults:=[],kwarg:=none,defaults:=[]}
noncomputable def aC (s:Stmt):List Stmt:=match s with
 | .FunctionDef _ _ b _ _ _ _ _ _ _=>b
 | _=>[]
noncomputable def af (s:Stmt):Scope:=match s with
 | .FunctionDef _ _ _ _ _ _ sc _ _ _=>sc
 | _=>{ kind:=.function,names:=[],isGenerator:=false,isCoroutine:=false}
abbrev CX0:tR:=fun _ _ _ _ _ _=>False
abbrev E0:XK:=fun _ _ _=>False
structure Uz (K:W.Frag)(x qual:Str)(st:Stmt)(f:Addr)(fd:FuncData):Prop where
 ex:∃ (oc:Value) (od:Option Addr) (kV doc pm:Value) (an:Option Addr) (aZ ct:Value) (zg:Array (Option Value)),
   fd=W.fnOf x qual (cv st) (aC st) (af st) .none kV doc pm an aZ ct/\K.lookup f=some ⟨oc,od,.func fd,zg⟩/\W.codeIn K aZ qual=true
 kp:W.keepIn K (.ref f)=true
section
variable {K:W.Frag}
theorem Uz.binds {x qual:Str}{st:Stmt}{f:Addr}{fd:FuncData}{ps:List Str}(F:Uz K x qual st f fd)(h:∀ (kV doc pm:Value) (an:Option Addr) (aZ ct:Value) (us:List Value),us.length=ps.length->bindArgs (W.fnOf x qual (cv st) (aC st) (af st) .none kV doc pm an aZ ct) ⟨us,[]⟩=pure (ps.zip us)):Binds K fd ps []:=by
 obtain⟨oc,od,kV,doc,pm,an,aZ,ct,zg,rfl,lk,nz⟩:=F.ex;exact .all (h kV doc pm an aZ ct)
theorem wJ {x qual:Str}{st:Stmt}{f:Addr}{oc:Value}{od an:Option Addr}{zg:Array (Option Value)}{kV doc pm aZ ct:Value}(l:K.lookup f=some ⟨oc,od,.func (W.fnOf x qual (cv st) (aC st) (af st) .none kV doc pm an aZ ct),zg⟩)(c:W.codeIn K aZ qual=true)(k:W.keepIn K (.ref f)=true):Uz K x qual st f (W.fnOf x qual (cv st) (aC st) (af st) .none kV doc pm an aZ ct):=⟨⟨oc,od,kV,doc,pm,an,aZ,ct,zg,rfl,l,c⟩,k⟩
end
theorem tU {n:Nat}(h:n<=1000):n < sizeLine:=aaT h (by decide)
theorem Cd {A B:Prop}(h:B):if false=true then A else B:=by
 rw[if_neg aam];exact h
theorem Ce {A B:Prop}(h:A):if true=true then A else B:=by
 rw[if_pos rfl];exact h
def aI (H H':Hp):Prop:=∀ b o,H b=some o->H' b=some o
theorem aI.refl (H:Hp):aI H H:=fun _ _ h=>h
theorem aI.trans {H H1 H2:Hp}(a:aI H H1)(b:aI H1 H2):aI H H2:=fun c o h=>b c o (a c o h)
theorem aI.free {H H':Hp}(e:aI H H'){l:Addr}(h:H' l=Option.none):H l=Option.none:=by
 cases q:H l with
 | none=>rfl
 | some o=>
   rw[e l o q] at h;cases h
theorem aI.seq {K:W.Frag}{H H':Hp}{a:Addr}{xs:List V}(e:aI H H')(h:nA K H a xs):nA K H' a xs:=by
 rcases h with(h | ⟨o,h⟩ | ⟨_,_,_,_,h⟩ | ⟨o,h⟩) | h
 . exact .inl (.inl (e _ _ h))
 . exact .inl (.inr (.inl ⟨o,e _ _ h⟩))
 . cases h
 . exact .inl (.inr (.inr (.inr ⟨o,e _ _ h⟩)))
 . exact .inr h
end L2
set_option maxHeartbeats 4000000
namespace Sg
open PySem PySem.Spec PyProof.Rows L2 PySem.Builtin PySem.Builtin.Getset_descriptor
def Zs (h:Heap)(x D:Addr):Prop:=∃ ox,h.get? x=some ox/\ox.cls=.ref D
structure TyX (K:W.Frag)(C:Addr):Prop where
 hc:(W.clsIn K C).isSome=true
 ga:W.findIn K (.ref C) "__getattribute__"=some (some (.builtin "BaseException.__getattribute__"))
 gt:W.findIn K (.ref C) "__getattr__"=some none
 be:W.mroIn K C (.type "BaseException")=some true
 ha:W.findIn K (.ref C) "__class__"=some (some (.builtin "object.__class__"))
 hn:W.specialIn K (.builtin "object.__class__") "__get__"=some (some (.builtin "getset_descriptor.__get__"))
 htk:W.takesIn K (.builtin "object.__class__")=some true
 hm:W.mroIn K C (.type "object")=some true
end Sg
namespace Sg
open PySem PySem.Spec PyProof.Rows L2
noncomputable abbrev St:=L2.St
def VA (h:Heap)(x C dx:Addr):Prop:=∃ ox,h.get? x=some ox/\ox.cls=.ref C/\ox.dict=some dx/\∃ vs,ox.data=.fields vs
inductive Dt where
 | dk
 | bl (b:Bool)
 | int (i:Int)
 | str (x:Str)
 | tup (ds:List Dt)
 | lst (ds:List Dt)
 | r8 (ns:List Int)
 | cZ (kvs:List (Key×Dt))
 | obj (C:Addr) (fs:List (Str×Dt))
 | ty (n:String)
 | cls (C:Addr)
 | xo (C:Addr)
 | tV (kvs:List (Key×Dt))
 | HF (C:Addr) (fs:List (Str×Dt))
 | eF (kvs:List (Key×Dt))
 | memo (a:Addr) (ls:k7) (j n:Nat)
 | fZ (a:Addr) (ls:k7) (j n:Nat)
 | yw (a:Addr) (ls:k7) (n:Nat)
 | zl (C:Addr) (fs:List (Str×Dt)) (gs:List (Nat->List (Key×FD))) (nm:List Str) (n:Nat)
 | jz (fd:FD)
 | oe (PM:List (List Key×Int))
noncomputable def uR (fs:List (Str×Dt))(nm:List Str)(a:Addr)(ls:k7)(n:Nat):List (Str×Dt):=fs ++ (aah nm.length).map fun j=>(nm.getD j "",.memo a ls j n)
def Known (H:Hp)(p:Addr)(f:Nat->List (Key×FD))(n:Nat):Prop:=∀ i,i < n->∃ q o kvs,H q=some (.kd (some (p,i)) o kvs)/\tJ H kvs (f i)
def cq (H:Hp)(a:Addr)(ls:k7):Prop:=H a=some (.memo ls)\/∃ ns,H a=some (.bN ls ns)
theorem Known.mono {H H':Hp}{p:Addr}{f:Nat->List (Key×FD)}{n:Nat}(e:∀ b u,H b=some u->H' b=some u)(h:Known H p f n):Known H' p f n:=fun i hi=>let ⟨q,o,kvs,h1,h2⟩:=h i hi;⟨q,o,kvs,e _ _ h1,h2.kp (.of e)⟩
theorem cq.mono {H H':Hp}{a:Addr}{ls:k7}(e:∀ b u,H b=some u->H' b=some u)(h:cq H a ls):cq H' a ls:=h.imp (e _ _) fun⟨ns,z⟩=>⟨ns,e _ _ z⟩
mutual
inductive Rep (K:W.Frag)(H:Hp):V->Dt->Prop
 | dk:Rep K H .dk .dk
 | bl (b:Bool):Rep K H (.bl b) (.bl b)
 | int (i:Int):Rep K H (.int i) (.int i)
 | str (x:Str):Rep K H (.str x) (.str x)
 | tup {a:Addr} {vs:List V} {ds:List Dt}:DH K H a vs->bJ K H vs ds->Rep K H (.ref a) (.tup ds)
 | lst {a:Addr} {vs:List V} {ds:List Dt}:H a=some (.lst vs)->bJ K H vs ds->Rep K H (.ref a) (.lst ds)
 | r8 {a:Addr} {ns:List Int}:nA K H a (ns.map V.int)->Rep K H (.ref a) (.r8 ns)
 | cZ {a:Addr} {kvs:List (Key×V)} {kds:List (Key×Dt)}:H a=some (.dK kvs)->c6 K H kvs kds->Rep K H (.ref a) (.cZ kds)
 | obj {a C dx:Addr} {fs:List (Str×V)} {ds:List (Str×Dt)}:Rd H a (.ins C dx fs)->br K H fs ds->Rep K H (.ref a) (.obj C ds)
 | ty (n:String):Rep K H (.ty n) (.ty n)
 | cls (C:Addr):Rep K H (.ref C) (.cls C)
 | xo {a C:Addr} {ph:Heap->Prop}:H a=some (.ext ph)->(∀ h,ph h->Zs h a C)->Rep K H (.ref a) (.xo C)
 | tV {a:Addr} {ob:Obj} {kvs:List (Key×V)} {kds:List (Key×Dt)}:H a=some (.bU ob (.dK kvs))->c6 K H kvs kds->Rep K H (.ref a) (.tV kds)
 | HF {a C dx:Addr} {ph:Heap->Prop} {fs:List (Str×V)} {ds:List (Str×Dt)}:H a=some (.ext ph)->(∀ h,ph h->VA h a C dx)->H dx=some (.xd fs)->br K H fs ds->Rep K H (.ref a) (.HF C ds)
 | eF {a:Addr} {tg:Option (Addr×Nat)} {ob:Obj} {kvs:List (Key×V)} {kds:List (Key×Dt)}:H a=some (.kd tg ob kvs)->c6 K H kvs kds->Rep K H (.ref a) (.eF kds)
 | memo {a p:Addr} {ls:k7} {j n:Nat} {f:Nat->List (Key×FD)}:ls[j]?=some (p,f)->H a=some (.memo ls)->(p=a\/H p=some (.part a))->Known H p f n->Rep K H (.ref p) (.memo a ls j n)
 | fZ {a p:Addr} {ls:k7} {j n:Nat} {f:Nat->List (Key×FD)}:ls[j]?=some (p,f)->cq H a ls->(p=a\/H p=some (.part a))->Known H p f n->Rep K H (.ref p) (.fZ a ls j n)
 | yw {a:Addr} {ls:k7} {n:Nat}:(∀ (j:Nat) (p:Addr) (f:Nat->List (Key×FD)),ls[j]?=some (p,f)->Known H p f n)->Rep K H .dk (.yw a ls n)
 | zl {s a C dx:Addr} {fv:List (Str×V)} {fs:List (Str×Dt)} {gs:List (Nat->List (Key×FD))} {nm:List Str} {n:Nat} {ls:k7}:ls.map (·.2)=gs->Rd H s (.ins C dx fv)->br K H fv (uR fs nm a ls n)->Rep K H (.ref s) (.zl C fs gs nm n)
 | jz {v:V} {fd:FD}:Fz H v fd->Rep K H v (.jz fd)
 | oe {a:Addr} {PM:List (List Key×Int)}:H a=some (.dT (PM.map fun k=>(k.1,V.int k.2)))->Rep K H (.ref a) (.oe PM)
inductive bJ (K:W.Frag)(H:Hp):List V->List Dt->Prop
 | nil:bJ K H [] []
 | cons {v:V} {d:Dt} {vs:List V} {ds:List Dt}:Rep K H v d->bJ K H vs ds->bJ K H (v::vs) (d::ds)
inductive c6 (K:W.Frag)(H:Hp):List (Key×V)->List (Key×Dt)->Prop
 | nil:c6 K H [] []
 | cons {k:Key} {v:V} {d:Dt} {vs:List (Key×V)} {ds:List (Key×Dt)}:Rep K H v d->c6 K H vs ds->c6 K H ((k,v)::vs) ((k,d)::ds)
inductive br (K:W.Frag)(H:Hp):List (Str×V)->List (Str×Dt)->Prop
 | nil:br K H [] []
 | cons {k:Str} {v:V} {d:Dt} {vs:List (Str×V)} {ds:List (Str×Dt)}:Rep K H v d->br K H vs ds->br K H ((k,v)::vs) ((k,d)::ds)
end
theorem jA {H H':Hp}{a:Addr}{u:HO}(e:aI H H')(h:Rd H a u):Rd H' a u:=by
 rcases h with h | ⟨o,h⟩ | ⟨tg,o,kvs,h,z⟩ | ⟨o,h⟩
 . exact .inl (e _ _ h)
 . exact .inr (.inl ⟨o,e _ _ h⟩)
 . exact .inr (.inr (.inl ⟨tg,o,kvs,e _ _ h,z⟩))
 . exact .inr (.inr (.inr ⟨o,e _ _ h⟩))
theorem f6 {K:W.Frag}{H H':Hp}{a:Addr}{xs:List V}(e:aI H H')(h:DH K H a xs):DH K H' a xs:=by
 rcases h with h | h
 . exact .inl (e _ _ h)
 . exact .inr h
mutual
theorem Rep.mono {K:W.Frag}{H H':Hp}(e:aI H H'):∀ {v:V} {d:Dt},Rep K H v d->Rep K H' v d
 | _,_,.dk=>.dk
 | _,_,.bl b=>.bl b
 | _,_,.int i=>.int i
 | _,_,.str x=>.str x
 | _,_,.tup h r=>.tup (f6 e h) (bJ.mono e r)
 | _,_,.lst h r=>.lst (e _ _ h) (bJ.mono e r)
 | _,_,.r8 h=>.r8 (e.seq h)
 | _,_,.cZ h r=>.cZ (e _ _ h) (c6.mono e r)
 | _,_,.obj h r=>.obj (jA e h) (br.mono e r)
 | _,_,.ty n=>.ty n
 | _,_,.cls C=>.cls C
 | _,_,.xo h r=>.xo (e _ _ h) r
 | _,_,.tV h r=>.tV (e _ _ h) (c6.mono e r)
 | _,_,.HF h q g r=>.HF (e _ _ h) q (e _ _ g) (br.mono e r)
 | _,_,.eF h r=>.eF (e _ _ h) (c6.mono e r)
 | _,_,.memo h1 h2 h3 h4=>.memo h1 (e _ _ h2) (h3.imp id fun z=>e _ _ z) (h4.mono e)
 | _,_,.fZ h1 h2 h3 h4=>.fZ h1 (h2.mono e) (h3.imp id fun z=>e _ _ z) (h4.mono e)
 | _,_,.yw h=>.yw fun j p f z=>(h j p f z).mono e
 | _,_,.zl h1 h2 h3=>.zl h1 (jA e h2) (br.mono e h3)
 | _,_,.jz h=>.jz (h.st fun b u q _=>e b u q)
 | _,_,.oe h=>.oe (e _ _ h)
theorem bJ.mono {K:W.Frag}{H H':Hp}(e:aI H H'):∀ {v:List V} {d:List Dt},bJ K H v d->bJ K H' v d
 | _,_,.nil=>.nil
 | _,_,.cons h r=>.cons (Rep.mono e h) (bJ.mono e r)
theorem c6.mono {K:W.Frag}{H H':Hp}(e:aI H H'):∀ {v:List (Key×V)} {d:List (Key×Dt)},c6 K H v d->c6 K H' v d
 | _,_,.nil=>.nil
 | _,_,.cons h r=>.cons (Rep.mono e h) (c6.mono e r)
theorem br.mono {K:W.Frag}{H H':Hp}(e:aI H H'):∀ {v:List (Str×V)} {d:List (Str×Dt)},br K H v d->br K H' v d
 | _,_,.nil=>.nil
 | _,_,.cons h r=>.cons (Rep.mono e h) (br.mono e r)
end
theorem bJ.length {K:W.Frag}{H:Hp}:∀ {v:List V} {d:List Dt},bJ K H v d->v.length=d.length
 | _,_,.nil=>rfl
 | _,_,.cons _ r=>congrArg (·+1) (bJ.length r)
theorem bJ.get {K:W.Frag}{H:Hp}:∀ {v:List V} {d:List Dt} {i:Nat} {x:Dt},bJ K H v d->d[i]?=some x->∃ y,v[i]?=some y/\Rep K H y x
 | _,_,_,_,.nil,e=>by simp at e
 | _,_,0,_,.cons h _,e=>by simp at e;subst e;exact⟨_,rfl,h⟩
 | _,_,i+1,x,.cons _ r,e=>by
   obtain⟨y,h1,h2⟩:=bJ.get (i:=i) (x:=x) r (by simpa using e);exact⟨y,by simpa using h1,h2⟩
theorem bJ.get' {K:W.Frag}{H:Hp}{v:List V}{d:List Dt}{i:Nat}{y:V}(r:bJ K H v d)(e:v[i]?=some y):∃ x,d[i]?=some x/\Rep K H y x:=by
 have hi:i < v.length:=(aae.mp e).1;have Yb:i < d.length:=by rw[<- r.length];exact hi
 obtain⟨z,h1,h2⟩:=r.get (k3 Yb);rw[e] at h1;cases h1;exact⟨_,k3 Yb,h2⟩
theorem bJ.append {K:W.Frag}{H:Hp}:∀ {v:List V} {d:List Dt} {v':List V} {d':List Dt},bJ K H v d->bJ K H v' d'->bJ K H (v ++ v') (d ++ d')
 | _,_,_,_,.nil,s=>s
 | _,_,_,_,.cons h r,s=>.cons h (bJ.append r s)
theorem bJ.take {K:W.Frag}{H:Hp}:∀ {v:List V} {d:List Dt} (n:Nat),bJ K H v d->bJ K H (v.take n) (d.take n)
 | _,_,0,_=>.nil
 | _,_,_+1,.nil=>.nil
 | _,_,n+1,.cons h r=>.cons h (bJ.take n r)
theorem bJ.set {K:W.Frag}{H:Hp}{y:V}{x:Dt}(q:Rep K H y x):∀ {v:List V} {d:List Dt} (n:Nat),bJ K H v d->bJ K H (v.set n y) (d.set n x)
 | _,_,_,.nil=>.nil
 | _,_,0,.cons _ r=>.cons q r
 | _,_,n+1,.cons h r=>.cons h (bJ.set q n r)
theorem br.lookup {K:W.Frag}{H:Hp}{f:Str}:∀ {v:List (Str×V)} {d:List (Str×Dt)} {x:Dt},br K H v d->d.lookup f=some x->∃ y,v.lookup f=some y/\Rep K H y x
 | _,_,_,.nil,e=>by simp at e
 | (k,v)::r,(_,d)::s,x,.cons h t,e=>by
   rw[abe] at e ⊢;cases q:(f == k) with
   | true=>rw[q] at e;cases e;exact⟨v,rfl,h⟩
   | false=>rw[q] at e;exact br.lookup t e
theorem br.none_of {K:W.Frag}{H:Hp}{f:Str}:∀ {v:List (Str×V)} {d:List (Str×Dt)},br K H v d->d.lookup f=none->v.lookup f=none
 | _,_,.nil,_=>rfl
 | (k,v)::r,(_,d)::s,.cons h t,e=>by
   rw[abe] at e ⊢;cases q:(f == k) with
   | true=>rw[q] at e;cases e
   | false=>rw[q] at e;exact br.none_of t e
theorem br.length {K:W.Frag}{H:Hp}:∀ {v:List (Str×V)} {d:List (Str×Dt)},br K H v d->v.length=d.length
 | _,_,.nil=>rfl
 | _,_,.cons _ r=>congrArg (·+1) (br.length r)
theorem c6.length {K:W.Frag}{H:Hp}:∀ {v:List (Key×V)} {d:List (Key×Dt)},c6 K H v d->v.length=d.length
 | _,_,.nil=>rfl
 | _,_,.cons _ r=>congrArg (·+1) (c6.length r)
structure bB (Hf H aJ H':Hp):Prop where
 big:aI H H'
 bU:aI Hf aJ
 sub:aI aJ H'
 new:∀ a o,aJ a=some o->(∃ o,Hf a=some o)\/H a=Option.none\/Kept o
theorem bB.refl {Hf H:Hp}(s:aI Hf H):bB Hf H Hf H:=⟨aI.refl _,aI.refl _,s,fun a o h=>.inl ⟨o,h⟩⟩
theorem bB.trans {Hf H Hf1 H1 b6 H2:Hp}(a:bB Hf H Hf1 H1)(b:bB Hf1 H1 b6 H2):bB Hf H b6 H2:=
 ⟨a.big.trans b.big,a.bU.trans b.bU,b.sub,fun x o h=>by
   rcases b.new x o h with⟨o',h'⟩ | h' | h'
   . have e:=b.bU _ _ h'
     rw[h] at e;cases e;exact a.new x o h'
   . exact .inr (.inl (a.big.free h'))
   . exact .inr (.inr h')⟩
theorem bB.Ah {Hf H aJ H':Hp}(g:bB Hf H aJ H'){a:Addr}{u o:HO}(h:H a=some u)(nk:¬ Kept u)(q:aJ a=some o):∃ o,Hf a=some o:=by
 rcases g.new a o q with z | z | z
 . exact z
 . rw[h] at z;cases z
 . have e:=g.big _ _ h
   rw[g.sub _ _ q] at e;cases e;exact absurd z nk
theorem bV {H:Hp}{p:Addr}{o:HO}(n:H p=Option.none):aI H (upd H p o):=fun b u e=>by
 rw[ai (ax e n)];exact e
theorem dm {Hf H:Hp}{p:Addr}{o:HO}(s:aI Hf H):aI (upd Hf p o) (upd H p o):=fun b u e=>by
 by_cases hb:b=p
 . subst hb;rw[ak] at e ⊢;exact e
 . rw[ai hb] at e ⊢;exact s _ _ e
theorem zm {Hf H:Hp}{p:Addr}{o:HO}(s:aI Hf H)(n:Hf p=Option.none):aI Hf (upd H p o):=fun b u e=>by
 rw[ai (ax e n)];exact s _ _ e
theorem bB.alloc {Hf H:Hp}{p:Addr}{o:HO}(s:aI Hf H)(n:H p=Option.none):bB Hf H (upd Hf p o) (upd H p o):=
 ⟨bV n,bV (s.free n),dm s,fun a u h=>by
   by_cases hb:a=p
   . subst hb;exact .inr (.inl n)
   . rw[ai hb] at h;exact .inl ⟨u,h⟩⟩
theorem bB.fF {Hf H:Hp}{p:Addr}{o:HO}(s:aI Hf H)(n:H p=Option.none):bB Hf H Hf (upd H p o):=
 ⟨bV n,aI.refl _,zm s (s.free n),fun a u h=>.inl ⟨u,h⟩⟩
inductive Own where
 | lst (ds:List Dt)
 | cZ (kds:List (Key×Dt))
 | obj (C:Addr) (fs:List (Str×Dt))
 | Cf (x:Addr) (C:Addr) (fs:List (Str×Dt))
 | tW (C:Addr) (fs:List (Str×Dt)) (gs:List (Nat->List (Key×FD))) (nm:List Str) (n:Nat)
 | Ai (x:Addr) (C:Addr) (fs:List (Str×Dt)) (gs:List (Nat->List (Key×FD))) (nm:List Str) (n:Nat)
 | oe (PM:List (List Key×Int))
set_option genInjectivity true in
inductive Slot where
 | aS
 | val (d:Dt)
 | own (o:Own)
def iJ (K:W.Frag)(Hf H:Hp)(a:Addr):Own->Prop
 | .lst ds=>∃ vs,H a=some (.lst vs)/\bJ K Hf vs ds
 | .cZ kds=>∃ kvs,H a=some (.dK kvs)/\c6 K Hf kvs kds
 | .obj C ds=>∃ dx fs,H a=some (.ins C dx fs)/\br K Hf fs ds
 | .Cf x C ds=>a=x/\∃ dx fs,H a=some (.ins C dx fs)/\br K Hf fs ds
 | .tW C ds gs nm n=>∃ dx fs b ls,(ls:k7).map (·.2)=gs/\H a=some (.ins C dx fs)/\br K Hf fs (uR ds nm b ls n)
 | .Ai x C ds gs nm n=>a=x/\∃ dx fs b ls,(ls:k7).map (·.2)=gs/\H a=some (.ins C dx fs)/\br K Hf fs (uR ds nm b ls n)
 | .oe PM=>H a=some (.dT (PM.map fun k=>(k.1,V.int k.2)))
theorem iJ.VB {K:W.Frag}{Hf H:Hp}{a:Addr}:∀ {o:Own},iJ K Hf H a o->∃ u,H a=some u/\¬ Kept u
 | .lst _,⟨_,h,_⟩=>⟨_,h,fun z=>z⟩
 | .cZ _,⟨_,h,_⟩=>⟨_,h,fun z=>z⟩
 | .obj _ _,⟨_,_,h,_⟩=>⟨_,h,fun z=>z⟩
 | .Cf _ _ _,⟨_,_,_,h,_⟩=>⟨_,h,fun z=>z⟩
 | .tW _ _ _ _ _,⟨_,_,_,_,_,h,_⟩=>⟨_,h,fun z=>z⟩
 | .Ai _ _ _ _ _ _,⟨_,_,_,_,_,_,h,_⟩=>⟨_,h,fun z=>z⟩
 | .oe _,h=>⟨_,h,fun z=>z⟩
theorem iJ.some {K:W.Frag}{Hf H:Hp}{a:Addr}:∀ {o:Own},iJ K Hf H a o->∃ u,H a=some u
 | .lst _,⟨_,h,_⟩=>⟨_,h⟩
 | .cZ _,⟨_,h,_⟩=>⟨_,h⟩
 | .obj _ _,⟨_,_,h,_⟩=>⟨_,h⟩
 | .Cf _ _ _,⟨_,_,_,h,_⟩=>⟨_,h⟩
 | .tW _ _ _ _ _,⟨_,_,_,_,_,h,_⟩=>⟨_,h⟩
 | .Ai _ _ _ _ _ _,⟨_,_,_,_,_,_,h,_⟩=>⟨_,h⟩
 | .oe _,h=>⟨_,h⟩
theorem iJ.grow {K:W.Frag}{Hf H aJ H':Hp}{a:Addr}(e:H' a=H a)(f:aI Hf aJ):∀ {o:Own},iJ K Hf H a o->iJ K aJ H' a o
 | .lst _,⟨vs,h,r⟩=>⟨vs,by rw[e];exact h,r.mono f⟩
 | .cZ _,⟨vs,h,r⟩=>⟨vs,by rw[e];exact h,r.mono f⟩
 | .obj _ _,⟨dx,fs,h,r⟩=>⟨dx,fs,by rw[e];exact h,r.mono f⟩
 | .Cf _ _ _,⟨q,dx,fs,h,r⟩=>⟨q,dx,fs,by rw[e];exact h,r.mono f⟩
 | .tW _ _ _ _ _,⟨dx,fs,b,ls,q,h,r⟩=>⟨dx,fs,b,ls,q,by rw[e];exact h,r.mono f⟩
 | .Ai _ _ _ _ _ _,⟨q0,dx,fs,b,ls,q,h,r⟩=>⟨q0,dx,fs,b,ls,q,by rw[e];exact h,r.mono f⟩
 | .oe PM,h=>(show H' a=Option.some (HO.dT (PM.map fun k=>(k.1,V.int k.2))) from by rw[e];exact h)
structure Gr where
 Hf:Hp
 H:Hp
structure eG (K:W.Frag)(G:Gr)(st:L2.St)(Hf H:Hp)(dl:List Slot):Prop where
 gr:bB G.Hf G.H Hf H
 len:st.length=dl.length
 val:∀ (i:Nat) d,dl[i]?=some (.val d)->∃ v,st[i]?=some (some v)/\Rep K Hf v d
 own:∀ (i:Nat) o,dl[i]?=some (.own o)->∃ a,st[i]?=some (some (.ref a))/\Hf a=Option.none/\G.H a=Option.none/\iJ K Hf H a o
 HG:∀ (i j:Nat) o o' a,dl[i]?=some (.own o)->dl[j]?=some (.own o')->st[i]?=some (some (.ref a))->st[j]?=some (some (.ref a))->i=j
section
variable {K:W.Frag}{G:Gr}{st:L2.St}{Hf H aJ H':Hp}{dl dl':List Slot}
theorem eG.sub (S:eG K G st Hf H dl):aI Hf H:=S.gr.sub
theorem eG.grow (S:eG K G st Hf H dl)(g:bB Hf H aJ H'):eG K G st aJ H' dl:=by
 refine⟨S.gr.trans g,S.len,fun i d h=>let ⟨v,h1,h2⟩:=S.val i d h;⟨v,h1,h2.mono g.bU⟩,fun i o h=>?_,S.HG⟩;obtain⟨a,h1,h2,h3,h4⟩:=S.own i o h;obtain⟨u,hu,nk⟩:=h4.VB;refine⟨a,h1,?_,h3,h4.grow (by rw[hu];exact g.big _ _ hu) g.bU⟩;cases q:aJ a with
 | none=>rfl
 | some u'=>
   obtain⟨o',z⟩:=g.Ah hu nk q;rw[h2] at z;cases z
theorem eG.set (S:eG K G st Hf H dl){i:Nat}{v:V}{d:Dt}(r:Rep K Hf v d):eG K G (st.set i (some v)) Hf H (dl.set i (.val d)):=by
 have ln:=S.len;refine⟨S.gr,by simp[S.len],fun j x h=>?_,fun j o h=>?_,fun j k o o' a h1 h2 h3 h4=>?_⟩
 . by_cases e:i=j
   . subst e
     by_cases hl:i < dl.length
     . rw[aaf hl] at h;cases h
       exact⟨v,aaf (by omega),r⟩
     . rw[aaG (by simp;omega)] at h;cases h
   . rw[aag e] at h ⊢;exact S.val j x h
 . by_cases e:i=j
   . subst e
     by_cases hl:i < dl.length
     . rw[aaf hl] at h;cases h
     . rw[aaG (by simp;omega)] at h;cases h
   . rw[aag e] at h ⊢;exact S.own j o h
 . have nj:i≠j:=fun e=>by
     subst e;by_cases hl:i < dl.length
     . rw[aaf hl] at h1;cases h1
     . rw[aaG (by simp;omega)] at h1;cases h1
   have nk:i≠k:=fun e=>by
     subst e;by_cases hl:i < dl.length
     . rw[aaf hl] at h2;cases h2
     . rw[aaG (by simp;omega)] at h2;cases h2
   rw[aag nj] at h1 h3;rw[aag nk] at h2 h4;exact S.HG j k o o' a h1 h2 h3 h4
theorem eG.HH (S:eG K G st Hf H dl){i:Nat}{p:Addr}{o:HO}{w w':Own}(hi:dl[i]?=some (.own w))(hp:st[i]?=some (some (.ref p)))(r:iJ K Hf (upd H p o) p w'):eG K G st Hf (upd H p o) (dl.set i (.own w')):=by
 have ln:=S.len;obtain⟨p',q1,q2,q3,q4⟩:=S.own i w hi;rw[hp] at q1;cases q1;have hl:i < dl.length:=(aae.mp hi).1;have g:bB G.Hf G.H Hf (upd H p o):=⟨fun b u e=>by rw[ai (ax e q3)];exact S.gr.big _ _ e,S.gr.bU,zm S.sub q2,S.gr.new⟩
 refine⟨g,by simp[S.len],fun j x h=>?_,fun j o' h=>?_,fun j k o1 o2 a h1 h2 h3 h4=>?_⟩
 . by_cases e:i=j
   . subst e;rw[aaf hl] at h;cases h
   . rw[aag e] at h;exact S.val j x h
 . by_cases e:i=j
   . subst e;rw[aaf hl] at h;cases h
     exact⟨p,hp,q2,q3,r⟩
   . rw[aag e] at h
     obtain⟨a,z1,z2,z3,z4⟩:=S.own j o' h;have:a≠p:=fun q=>by subst q;exact e (S.HG i j _ _ _ hi h hp z1)
     exact⟨a,z1,z2,z3,z4.grow (ai this) (aI.refl _)⟩
 . have tr:∀ (j:Nat) o',(dl.set i (.own w'))[j]?=some (.own o')->∃ Ru,dl[j]?=some (.own Ru):=fun j o' h=>by
     by_cases e:i=j
     . subst e;exact⟨_,hi⟩
     . rw[aag e] at h;exact⟨_,h⟩
   obtain⟨_,t1⟩:=tr j o1 h1;obtain⟨_,t2⟩:=tr k o2 h2;exact S.HG j k _ _ a t1 t2 h3 h4
def Le (dl dl':List Slot):Prop:=dl.length=dl'.length/\∀ (i:Nat) s,dl[i]?=some s->s≠.aS->dl'[i]?=some s
theorem Le.refl (dl:List Slot):Le dl dl:=⟨rfl,fun _ _ h _=>h⟩
theorem eG.weak (S:eG K G st Hf H dl')(l:Le dl dl'):eG K G st Hf H dl:=
 ⟨S.gr,by rw[S.len,l.1],fun i d h=>S.val i d (l.2 i _ h (by intro z;cases z)),fun i o h=>S.own i o (l.2 i _ h (by intro z;cases z)),
  fun i j o o' a h1 h2=>S.HG i j o o' a (l.2 i _ h1 (by intro z;cases z)) (l.2 j _ h2 (by intro z;cases z))⟩
def VC:List Slot->List Slot->Prop
 | [],[]=>True
 | .aS::r,_::s=>VC r s
 | x::r,y::s=>x=y/\VC r s
 | _,_=>False
theorem Le.of:∀ {dl dl':List Slot},VC dl dl'->Le dl dl'
 | [],[],_=>Le.refl _
 | .aS::r,y::s,h=>by
   have q:=Le.of (dl:=r) (dl':=s) h;refine⟨congrArg (·+1) q.1,fun i x e n=>?_⟩;cases i with
   | zero=>simp at e;exact absurd e.symm n
   | succ i=>exact q.2 i x (by simpa using e) n
 | .val d::r,y::s,h=>by
   obtain⟨h1,h2⟩:=(show Slot.val d=y/\VC r s from h)
   subst h1;have q:=Le.of h2;refine⟨congrArg (·+1) q.1,fun i x e n=>?_⟩;cases i with
   | zero=>exact e
   | succ i=>exact q.2 i x (by simpa using e) n
 | .own d::r,y::s,h=>by
   obtain⟨h1,h2⟩:=(show Slot.own d=y/\VC r s from h)
   subst h1;have q:=Le.of h2;refine⟨congrArg (·+1) q.1,fun i x e n=>?_⟩;cases i with
   | zero=>exact e
   | succ i=>exact q.2 i x (by simpa using e) n
end
def tD (K:PySem.W.Frag)(G:Gr)(dl:List Slot)(d:Dt):TE:=fun st H Q=>∃ Hf,eG K G st Hf H dl/\∀ v aJ H',bB Hf H aJ H'->Rep K aJ v d->Q v H'
def UA (K:PySem.W.Frag)(G:Gr)(dl:List Slot)(ds:List Dt):TA:=fun st H Q=>∃ Hf,eG K G st Hf H dl/\∀ vs aJ H',bB Hf H aJ H'->bJ K aJ vs ds->Q vs H'
def VD (K:PySem.W.Frag)(G:Gr)(dl:List Slot)(b:Bool):TT:=fun st H Q=>∃ Hf,eG K G st Hf H dl/\∀ aJ H',bB Hf H aJ H'->Q b H'
abbrev EE (X:Cx)(G:Gr)(dl:List Slot)(e:Expr)(d:Dt):Prop:=PE X e (tD X.K G dl d)
abbrev EA (X:Cx)(G:Gr)(dl:List Slot)(es:List Expr)(ds:List Dt):Prop:=PA X es (UA X.K G dl ds)
abbrev EB (X:Cx)(G:Gr)(dl:List Slot)(e:Expr)(b:Bool):Prop:=PT X e (VD X.K G dl b)
def ExcAt (K:PySem.W.Frag)(Hf:Hp)(od:Option Addr)(fs:List (Str×Dt)):Prop:=match od with
 | none=>fs=[]
 | some dx=>∃ fv,Hf dx=some (.xd fv)/\br K Hf fv fs
inductive Out where
 | nx (dl:List Slot)
 | rt (d:Dt)
 | ro (w:Own)
 | bk (dl:List Slot)
 | ct (dl:List Slot)
 | ex (c:Value) (fs:List (Str×Dt))
 | raw (R:L2.St->Hp->Prop)
def yx (K:W.Frag)(G:Gr)(E:XK)(D:Ends)(Hf:Hp):Out->Prop
 | .nx dl=>∀ st aJ H,aI Hf aJ->eG K G st aJ H dl->D.nx st H
 | .bk dl=>∀ st aJ H,aI Hf aJ->eG K G st aJ H dl->D.bk st H
 | .ct dl=>∀ st aJ H,aI Hf aJ->eG K G st aJ H dl->D.ct st H
 | .rt d=>∀ v aJ H,bB G.Hf G.H aJ H->Rep K aJ v d->D.rt v H
 | .ro o=>∀ p aJ H,bB G.Hf G.H aJ H->G.H p=none->aJ p=none->iJ K aJ H p o->D.rt (.ref p) H
 | .ex c fs=>∀ od aJ H,bB G.Hf G.H aJ H->ExcAt K aJ od fs->E c od H
 | .raw R=>∀ st H,R st H->D.nx st H
theorem yx.mono {K:W.Frag}{G:Gr}{E:XK}{D:Ends}{Hf Hf1:Hp}(s:aI Hf Hf1):∀ {o:Out},yx K G E D Hf o->yx K G E D Hf1 o
 | .nx _,k=>fun st aJ H s' S=>k st aJ H (s.trans s') S
 | .bk _,k=>fun st aJ H s' S=>k st aJ H (s.trans s') S
 | .ct _,k=>fun st aJ H s' S=>k st aJ H (s.trans s') S
 | .rt _,k=>k
 | .ro _,k=>k
 | .ex _ _,k=>k
 | .raw _,k=>k
def tO (K:W.Frag)(G:Gr)(E:XK)(dl:List Slot)(o:Out):TS:=fun D st H=>∃ Hf,eG K G st Hf H dl/\yx K G E D Hf o
abbrev ES (X:Cx)(G:Gr)(E:XK)(dl:List Slot)(s:Stmt)(o:Out):Prop:=PS X s (tO X.K G E dl o)
abbrev nH (X:Cx)(G:Gr)(E:XK)(dl:List Slot)(s:List Stmt)(o:Out):Prop:=DN X s (tO X.K G E dl o)
theorem iK {X:Cx}{e:Expr}{t t':TE}(h:PE X e t)(i:∀ st H Q,t' st H Q->t st H Q):PE X e t':=fun pins s st H Q I q=>h pins s st H Q I (i st H Q q)
theorem VE {X:Cx}{e:Expr}{t t':TT}(h:PT X e t)(i:∀ st H Q,t' st H Q->t st H Q):PT X e t':=fun pins s st H Q I q=>h pins s st H Q I (i st H Q q)
theorem paI {X:Cx}{e:List Expr}{t t':TA}(h:PA X e t)(i:∀ st H Q,t' st H Q->t st H Q):PA X e t':=fun pos pins s st H Q I q=>h pos pins s st H Q I (i st H Q q)
theorem tH {X:Cx}{e:Stmt}{t t':TS}(h:PS X e t)(i:∀ D st H,t' D st H->t D st H):PS X e t':=fun pins s st H D I q=>h pins s st H D I (i D st H q)
theorem Aj {X:Cx}{e:List Stmt}{t t':TS}(h:DN X e t)(i:∀ D st H,t' D st H->t D st H):DN X e t':=fun pins s st H D I q=>h pins s st H D I (i D st H q)
section
variable {X:Cx}{G:Gr}{dl:List Slot}{a b e:Expr}{i j:Int}{d d1 d2:Dt}{pos:Pos}{x y:Str}{u v:Bool}
theorem aa (n:Nat){x:Str}{pos:Pos}(hd:autoParam (dl[n]?=some (.val d)) jp)(hN:autoParam (X.N[n]?=some x) jp)(hv:autoParam (wu X.env.scope x) xL)(hb:autoParam ((x == ("__debug__":Str))=false) zn)(nz:autoParam ((x == ("__classdict__":Str))=false) zn):EE X G dl (.Name x pos) d:=
 iK (ke hN hv hb nz) fun st H Q zq=>ZL zq fun Hf zq=>have S:=zq.1;have k:=zq.2;let ⟨v,h1,h2⟩:=S.val n d hd;⟨v,h1,k v Hf H (.refl S.sub) h2⟩
theorem aj {z:Int}{j pos}:EE X G dl (.Constant (.int z) j pos) (.int z):=iK QP fun st H Q zq=>ZL zq fun Hf zq=>have S:=zq.1;have k:=zq.2;k _ Hf H (.refl S.sub) (.int z)
theorem bC {z:Str}{j pos}:EE X G dl (.Constant (.str z) j pos) (.str z):=iK QQ fun st H Q zq=>ZL zq fun Hf zq=>have S:=zq.1;have k:=zq.2;k _ Hf H (.refl S.sub) (.str z)
def FN (K:W.Frag)(r:R2)(d1 d2 d:Dt):Prop:=∀ v w Hf H Q,aI Hf H->Rep K Hf v d1->Rep K Hf w d2->(∀ u aJ H',bB Hf H aJ H'->Rep K aJ u d->Q u H')->r v w H Q
theorem wK {r:R2}(h:FN X.K r d1 d2 d):∀ st H Q,tD X.K G dl d st H Q->U8 r (tD X.K G dl d1) (tD X.K G dl d2) st H Q:=fun st H Q zq=>ZL zq fun Hf zq=>have S:=zq.1;have k:=zq.2;
 ⟨Hf,S,fun v Hf1 H1 g1 r1=>⟨Hf1,S.grow g1,fun w b6 H2 g2 r2=>h v w b6 H2 Q g2.sub (r1.mono g2.bU) r2 fun u j6 H3 g3 r3=>k u j6 H3 ((g1.trans g2).trans g3) r3⟩⟩
theorem wL {op:Operator}{r:R2}(ho:qf X (binaryOp op) r)(h:FN X.K r d1 d2 d)(ha:EE X G dl a d1)(hb:EE X G dl b d2):EE X G dl (.BinOp a op b pos) d:=iK (PB ho ha hb) (wK h)
theorem wM {op:CmpOp}{r:R2}(ho:qf X (compareOp op) r)(h:FN X.K r d1 d2 d)(hm:behindInMarks op b=false)(ha:EE X G dl a d1)(hb:EE X G dl b d2):EE X G dl (.Compare a [op] [b] pos) d:=iK (Ni ho ha hb hm) (wK h)
theorem k8 {op:CmpOp}{r:R2}(ho:qf X (compareOp op) r)(h:FN X.K r d1 d2 (.bl u))(hm:behindInMarks op b=false)(ha:EE X G dl a d1)(hb:EE X G dl b d2):EB X G dl (.Compare a [op] [b] pos) u:=
 VE (Nj ho ha hb hm) fun st H Q zq=>ZL zq fun Hf zq=>have S:=zq.1;have k:=zq.2;wK h st H _ ⟨Hf,S,fun v aJ H' g r=>by cases r;exact⟨u,rfl,k aJ H' g⟩⟩
theorem uS {K:W.Frag}{g:Int->Int->V}{g':Int->Int->Dt}(h:∀ K H i j,Rep K H (g i j) (g' i j)):FN K (Nf g) (.int i) (.int j) (g' i j):=fun v w Hf H Q s r1 r2 k=>by
 cases r1;cases r2;exact⟨i,j,rfl,rfl,k _ Hf H (.refl s) (h _ _ _ _)⟩
theorem NC {K:W.Frag}{C:Int->Int->Prop}{g:Int->Int->V}{g':Int->Int->Dt}(h:∀ K H i j,Rep K H (g i j) (g' i j))(hc:C i j):FN K (rI C g) (.int i) (.int j) (g' i j):=fun v w Hf H Q s r1 r2 k=>by
 cases r1;cases r2;exact⟨i,j,rfl,rfl,hc,k _ Hf H (.refl s) (h _ _ _ _)⟩
theorem aO (ha:EE X G dl a (.int i))(hb:EE X G dl b (.int j)):EE X G dl (.BinOp a .Add b pos) (.int (i+j)):=wL Q2 (uS (g':=fun i j=>.int (i+j)) fun _ _ _ _=>.int _) ha hb
theorem gH (ha:EE X G dl a (.int i))(hb:EE X G dl b (.int j)):EE X G dl (.BinOp a .Sub b pos) (.int (i - j)):=wL Q3 (uS (g':=fun i j=>.int (i - j)) fun _ _ _ _=>.int _) ha hb
theorem ND:qf X (binaryOp .Mult) (rI IntMulOk fun i j=>.int (i * j)):=X7 fun _ _ _ _ _ _ _ hc q=>mul_int q hc
theorem ik (ha:EE X G dl a (.int i))(hb:EE X G dl b (.int j))(hc:IntMulOk i j):EE X G dl (.BinOp a .Mult b pos) (.int (i * j)):=wL ND (NC (g':=fun i j=>.int (i * j)) (fun _ _ _ _=>.int _) hc) ha hb
theorem JK:qf X (binaryOp .FloorDiv) (rI (fun _ j=>0 < j/\j.natAbs.log2 < 9000) fun i j=>.int (i / j)):=X7 fun i j _ _ _ _ _ hc q=>by
 refine floordiv_int (abO hc.1) ?_ (.inl (PyProof.noPylong_of_log2 hc.2));rw[Int.fdiv_eq_ediv_of_nonneg _ (Int.le_of_lt hc.1)];exact q
theorem jB (ha:EE X G dl a (.int i))(hb:EE X G dl b (.int j))(hc:0 < j/\j.natAbs.log2 < 9000):EE X G dl (.BinOp a .FloorDiv b pos) (.int (i / j)):=wL JK (NC (g':=fun i j=>.int (i / j)) (fun _ _ _ _=>.int _) hc) ha hb
theorem eY (ha:EE X G dl a (.int i))(hb:EE X G dl b (.int j))(hc:0 < j):EE X G dl (.BinOp a .Mod b pos) (.int (i % j)):=wL Q4 (NC (g':=fun i j=>.int (i % j)) (fun _ _ _ _=>.int _) hc) ha hb
theorem Rv (ha:EE X G dl a (.int i))(hb:EE X G dl b (.int j))(hc:Vb i j):EE X G dl (.BinOp a .Pow b pos) (.int (i ^ j.toNat)):=wL Q5 (NC (g':=fun i j=>.int (i ^ j.toNat)) (fun _ _ _ _=>.int _) hc) ha hb
theorem Rw {K:W.Frag}(h:x.length+y.length<=sizeLine):FN K (fun a b H Q=>∃ i j,a=.str i/\b=.str j/\i.length+j.length<=sizeLine/\Q (.str (i ++ j)) H) (.str x) (.str y) (.str (x ++ y)):=fun v w Hf H Q s r1 r2 k=>by
 cases r1;cases r2;exact⟨x,y,rfl,rfl,h,k _ Hf H (.refl s) (.str _)⟩
theorem Rx (ha:EE X G dl a (.str x))(hb:EE X G dl b (.str y))(h:x.length+y.length<=sizeLine):EE X G dl (.BinOp a .Add b pos) (.str (x ++ y)):=wL DR (Rw h) ha hb
theorem jk (ha:EE X G dl a (.int i)):EE X G dl (.UnaryOp .USub a pos) (.int (-i)):=
 iK (U9 Q6 ha) fun st H Q zq=>ZL zq fun Hf zq=>have S:=zq.1;have k:=zq.2;⟨Hf,S,fun v Hf1 H1 g1 r1=>by cases r1;exact⟨i,rfl,k _ Hf1 H1 g1 (.int _)⟩⟩
theorem JL (h:EE X G dl e (.bl u))(he:autoParam (∀ whole,isTrue e X.env whole=(do let v <- whole;standAt e.pos;holding [v] (truthy v))) v6):EB X G dl e u:=
 VE (QR h he) fun st H Q zq=>ZL zq fun Hf zq=>have S:=zq.1;have k:=zq.2;⟨Hf,S,fun v Hf1 H1 g1 r1=>by cases r1;exact⟨u,rfl,k Hf1 H1 g1⟩⟩
end
section
variable {X:Cx}{G:Gr}{E:XK}{dl dl1 dl2:List Slot}{a b c e:Expr}{es:List Expr}{i j:Int}{d d1:Dt}{ds:List Dt}{pos:Pos}{o o':Out}{x:Str}{u v:Bool}{rest:List Expr}{sts HI:List Stmt}{s:Stmt}
theorem D3:PE X e fun _ _ _=>False:=fun _ _ _ _ _ _ h=>h.elim
theorem pw_nev:PW X e fun _ _ _=>False:=fun _ _ _ _ _ _ _ h=>h.elim
abbrev EW (X:Cx)(G:Gr)(dl:List Slot)(e:Expr)(b:Bool):Prop:=PW X e (VD X.K G dl b)
theorem Yc {e:Expr}{t t':TT}(h:PW X e t)(i:∀ st H Q,t' st H Q->t st H Q):PW X e t':=fun wh pins s st H Q I q=>h wh pins s st H Q I (i st H Q q)
theorem Ak (ha:EB X G dl a u):EW X G dl (.BoolOp .And [a] pos) u:=pw_and1 ha
theorem mW (ha:EB X G dl a u):EW X G dl (.BoolOp .Or [a] pos) u:=pw_or1 ha
theorem wN (ha:EB X G dl a u)(hb:u=true->EW X G dl (.BoolOp .And (b::rest) pos) v):EW X G dl (.BoolOp .And (a::b::rest) pos) (u && v):=by
 cases u with
 | true=>exact Yc (pw_and ha (hb rfl)) fun st H Q zq=>ZL zq fun Hf zq=>have S:=zq.1;have k:=zq.2;⟨Hf,S,fun Hf1 H1 g1=>Ce ⟨Hf1,S.grow g1,fun b6 H2 g2=>k b6 H2 (g1.trans g2)⟩⟩
 | false=>exact Yc (pw_and ha pw_nev) fun st H Q zq=>ZL zq fun Hf zq=>have S:=zq.1;have k:=zq.2;⟨Hf,S,fun Hf1 H1 g1=>Cd (k Hf1 H1 g1)⟩
theorem oY (ha:EB X G dl a u)(hb:u=false->EW X G dl (.BoolOp .Or (b::rest) pos) v):EW X G dl (.BoolOp .Or (a::b::rest) pos) (u || v):=by
 cases u with
 | false=>exact Yc (pw_or ha (hb rfl)) fun st H Q zq=>ZL zq fun Hf zq=>have S:=zq.1;have k:=zq.2;⟨Hf,S,fun Hf1 H1 g1=>Cd ⟨Hf1,S.grow g1,fun b6 H2 g2=>k b6 H2 (g1.trans g2)⟩⟩
 | true=>exact Yc (pw_or ha pw_nev) fun st H Q zq=>ZL zq fun Hf zq=>have S:=zq.1;have k:=zq.2;⟨Hf,S,fun Hf1 H1 g1=>Ce (k Hf1 H1 g1)⟩
theorem su (h:EW X G dl e u):EB X G dl e u:=h.pt
theorem Ry (ha:EB X G dl a u):EB X G dl (.UnaryOp .Not a pos) (!u):=VE (QT ha) fun st H Q zq=>ZL zq fun Hf zq=>have S:=zq.1;have k:=zq.2;⟨Hf,S,fun Hf1 H1 g1=>k Hf1 H1 g1⟩
theorem Al (ha:EE X G dl a (.bl u)):EE X G dl (.BoolOp .And [a] pos) (.bl u):=QU ha
theorem D4 (ha:EE X G dl a (.bl u))(hb:u=true->EE X G dl (.BoolOp .And (b::rest) pos) (.bl v)):EE X G dl (.BoolOp .And (a::b::rest) pos) (.bl (u && v)):=by
 cases u with
 | true=>exact iK (Jo ha (hb rfl)) fun st H Q zq=>ZL zq fun Hf zq=>have S:=zq.1;have k:=zq.2;⟨Hf,S,fun w Hf1 H1 g1 r1=>by cases r1;exact⟨true,rfl,Ce ⟨Hf1,S.grow g1,fun w b6 H2 g2 r2=>k w b6 H2 (g1.trans g2) r2⟩⟩⟩
 | false=>exact iK (Jo ha D3) fun st H Q zq=>ZL zq fun Hf zq=>have S:=zq.1;have k:=zq.2;⟨Hf,S,fun w Hf1 H1 g1 r1=>by cases r1;exact⟨false,rfl,Cd (k _ Hf1 H1 g1 (.bl _))⟩⟩
theorem aP (h:EB X G dl e u)(q:u=v):EB X G dl e v:=by subst q;exact h
theorem aK (h:EE X G dl e d)(q:d=d1):EE X G dl e d1:=by subst q;exact h
theorem Rz (hc:EB X G dl c u)(ha:u=true->EE X G dl a d)(hb:u=false->EE X G dl b d):EE X G dl (.IfExp c a b pos) d:=by
 cases u with
 | true=>exact iK (BS hc (ha rfl) D3) fun st H Q zq=>ZL zq fun Hf zq=>have S:=zq.1;have k:=zq.2;⟨Hf,S,fun Hf1 H1 g1=>Ce ⟨Hf1,S.grow g1,fun w b6 H2 g2 r2=>k w b6 H2 (g1.trans g2) r2⟩⟩
 | false=>exact iK (BS hc D3 (hb rfl)) fun st H Q zq=>ZL zq fun Hf zq=>have S:=zq.1;have k:=zq.2;⟨Hf,S,fun Hf1 H1 g1=>Cd ⟨Hf1,S.grow g1,fun w b6 H2 g2 r2=>k w b6 H2 (g1.trans g2) r2⟩⟩
theorem ah:EA X G dl [] []:=paI pF fun st H Q zq=>ZL zq fun Hf zq=>have S:=zq.1;have k:=zq.2;k [] Hf H (.refl S.sub) .nil
theorem ae (ha:EE X G dl e d)(hr:EA X G dl es ds)(hs:autoParam (starEach (e::es) X.env=(false,eval e X.env)::starEach es X.env) jp):EA X G dl (e::es) (d::ds):=
 paI (mH ha hr hs) fun st H Q zq=>ZL zq fun Hf zq=>have S:=zq.1;have k:=zq.2;⟨Hf,S,fun v Hf1 H1 g1 r1=>⟨Hf1,S.grow g1,fun vs b6 H2 g2 r2=>k _ b6 H2 (g1.trans g2) (.cons (r1.mono g2.bU) r2)⟩⟩
theorem bL {x1}(h:EA X G dl es ds)(hl:autoParam (ds.length<=sizeLine) zn):EE X G dl (.Tuple es x1 pos) (.tup ds):=
 iK (Q9 h) fun st H Q zq=>ZL zq fun Hf zq=>have S:=zq.1;have k:=zq.2;⟨Hf,S,fun vs Hf1 H1 g1 r1=>⟨by rw[r1.length];exact hl,fun p hp=>k _ (upd Hf1 p (.tup vs)) _ (g1.trans (.alloc g1.sub hp)) (.tup (.of ak) (r1.mono (bV (g1.sub.free hp))))⟩⟩
theorem JM (h:EA X G dl es ds)(hl:autoParam (ds.length<=sizeLine) zn):EE X G dl (.List es pos) (.lst ds):=
 iK (wG h) fun st H Q zq=>ZL zq fun Hf zq=>have S:=zq.1;have k:=zq.2;⟨Hf,S,fun vs Hf1 H1 g1 r1=>⟨by rw[r1.length];exact hl,fun p hp=>k _ (upd Hf1 p (.lst vs)) _ (g1.trans (.alloc g1.sub hp)) (.lst ak (r1.mono (bV (g1.sub.free hp))))⟩⟩
theorem bJ.qi {K:W.Frag}{H:Hp}{vs:List V}{ds:List Dt}{i:Int}{d:Dt}(r:bJ K H vs ds)(h:L2.qi ds i=some d):∃ v,L2.qi vs i=some v/\Rep K H v d:=by
 unfold L2.qi at h ⊢;rw[r.length];cases q:DY ds.length i with
 | none=>rw[q] at h;cases h
 | some n=>
   rw[q] at h;exact r.get h
theorem aF (ha:EE X G dl a (.tup ds))(hb:EE X G dl b (.int i))(h:qi ds i=some d)(hs:autoParam (lD b) wl):EE X G dl (.Subscript a b pos) d:=
 iK (wH Rc ha hb hs) (wK fun v w Hf H Q s r1 r2 k=>by
   cases r1 with
   | tup q r=>
     cases r2;obtain⟨v,h1,h2⟩:=r.qi h;exact⟨_,_,i,v,rfl,rfl,f6 s q,h1,k v Hf H (.refl s) h2⟩)
theorem D5 (ha:EE X G dl a (.lst ds))(hb:EE X G dl b (.int i))(h:qi ds i=some d)(hs:autoParam (lD b) wl):EE X G dl (.Subscript a b pos) d:=
 iK (wH Ab ha hb hs) (wK fun v w Hf H Q s r1 r2 k=>by
   cases r1 with
   | lst q r=>
     cases r2;obtain⟨v,h1,h2⟩:=r.qi h;exact⟨_,_,i,v,rfl,rfl,.of (s _ _ q),h1,k v Hf H (.refl s) h2⟩)
theorem tX {ns:List Int}{z:Int}(ha:EE X G dl a (.r8 ns))(hb:EE X G dl b (.int i))(h:qi ns i=some z)(hs:autoParam (lD b) wl):EE X G dl (.Subscript a b pos) (.int z):=
 iK (wH Ab ha hb hs) (wK fun v w Hf H Q s r1 r2 k=>by
   cases r1 with
   | r8 q=>
     cases r2;have h':L2.qi (ns.map V.int) i=some (.int z):=by
       unfold L2.qi at h ⊢;rw[k5];cases q2:DY ns.length i with
       | none=>rw[q2] at h;cases h
       | some n=>
         rw[q2] at h;show(ns.map V.int)[n]?=_;rw[aab,show ns[n]?=some z from h];rfl
     exact⟨_,_,i,_,rfl,rfl,s.seq q,h',k _ Hf H (.refl s) (.int z)⟩)
theorem RA {z:Nat}(ha:EE X G dl a (.str x))(hb:EE X G dl b (.int i))(h:qi x.cps.toList i=some z)(hl:x.length<=sizeLine)(hs:autoParam (lD b) wl):EE X G dl (.Subscript a b pos) (.str ⟨#[z]⟩):=
 iK (wH Rf ha hb hs) (wK fun v w Hf H Q s r1 r2 k=>by
   cases r1;cases r2;exact⟨x,i,z,rfl,rfl,hl,h,k _ Hf H (.refl s) (.str _)⟩)
theorem bu:nH X G E dl [] (.nx dl):=Aj Na fun D st H zq=>ZL zq fun Hf zq=>have S:=zq.1;have k:=zq.2;k st Hf H (aI.refl _) S
theorem ag (h1:ES X G E dl s (.nx dl1))(h2:nH X G E dl1 sts o):nH X G E dl (s::sts) o:=
 Aj (pD h1 h2) fun D st H zq=>ZL zq fun Hf zq=>have S:=zq.1;have k:=zq.2;⟨Hf,S,fun kA aJ H' s' S'=>⟨aJ,S',k.mono s'⟩⟩
theorem ao (h1:ES X G E dl s o):nH X G E dl [s] o:=n6 h1
theorem yx.stop {K:W.Frag}{D D':Ends}{Hf:Hp}(h:(∀ dl,o≠.nx dl)/\∀ R,o≠.raw R)(hr:D'.rt=D.rt)(hb:D'.bk=D.bk)(hc:D'.ct=D.ct)(k:yx K G E D Hf o):yx K G E D' Hf o:=by
 cases o with
 | nx dl=>exact absurd rfl (h.1 dl)
 | raw R=>exact absurd rfl (h.2 R)
 | rt d=>show ∀ v Hf H,_->_->D'.rt v H;rw[hr];exact k
 | ro d=>show ∀ v Hf H,_->_->_->_->D'.rt _ H;rw[hr];exact k
 | bk d=>show ∀ v Hf H,_->_->D'.bk v H;rw[hb];exact k
 | ct d=>show ∀ v Hf H,_->_->D'.ct v H;rw[hc];exact k
 | ex c fs=>exact k
theorem mK (h1:ES X G E dl s o)(h:(∀ dl,o≠.nx dl)/\(∀ R,o≠.raw R):=by exact⟨(fun _ z=>nomatch z),(fun _ z=>nomatch z)⟩):nH X G E dl (s::sts) o:=
 Aj (pD h1 (tM (sts:=sts))) fun D st H zq=>ZL zq fun Hf zq=>have S:=zq.1;have k:=zq.2;⟨Hf,S,yx.stop (D:=D) h rfl rfl rfl k⟩
theorem NF (h1:ES X G E dl s (.nx dl2))(l:Le dl1 dl2):ES X G E dl s (.nx dl1):=tH h1 fun D st H zq=>ZL zq fun Hf zq=>have S:=zq.1;have k:=zq.2;⟨Hf,S,fun kA aJ H' s' S'=>k kA aJ H' s' (S'.weak l)⟩
theorem JN (h1:nH X G E dl sts (.nx dl2))(l:Le dl1 dl2):nH X G E dl sts (.nx dl1):=Aj h1 fun D st H zq=>ZL zq fun Hf zq=>have S:=zq.1;have k:=zq.2;⟨Hf,S,fun kA aJ H' s' S'=>k kA aJ H' s' (S'.weak l)⟩
theorem FO (h1:nH X G E dl1 sts o)(l:Le dl1 dl):nH X G E dl sts o:=Aj h1 fun D st H zq=>ZL zq fun Hf zq=>have S:=zq.1;have k:=zq.2;⟨Hf,S.weak l,k⟩
theorem aM (hc:EB X G dl c u)(h1:u=true->nH X G E dl sts o)(h2:u=false->nH X G E dl HI o):ES X G E dl (.If c sts HI pos) o:=by
 cases u with
 | true=>exact tH (Py hc (h1 rfl) (tM (sts:=HI))) fun D st H zq=>ZL zq fun Hf zq=>have S:=zq.1;have k:=zq.2;⟨Hf,S,fun Hf1 H1 g1=>Ce ⟨Hf1,S.grow g1,k.mono g1.bU⟩⟩
 | false=>exact tH (Py hc (tM (sts:=sts)) (h2 rfl)) fun D st H zq=>ZL zq fun Hf zq=>have S:=zq.1;have k:=zq.2;⟨Hf,S,fun Hf1 H1 g1=>Cd ⟨Hf1,S.grow g1,k.mono g1.bU⟩⟩
theorem aG (h:EE X G dl e d):ES X G E dl (.Return (some e) pos) (.rt d):=tH (DO h) fun D st H zq=>ZL zq fun Hf zq=>have S:=zq.1;have k:=zq.2;⟨Hf,S,fun v Hf1 H1 g1 r1=>k v Hf1 H1 (S.gr.trans g1) r1⟩
theorem kB (h:EE X G dl e d)(hs:autoParam (swapsWith e none pos.line X.env=pure false) jp):ES X G E dl (.Expr e pos) (.nx dl):=
 tH (mG h hs) fun D st H zq=>ZL zq fun Hf zq=>have S:=zq.1;have k:=zq.2;⟨Hf,S,fun v Hf1 H1 g1 r1=>k st Hf1 H1 g1.bU (S.grow g1)⟩
theorem au (n:Nat){x:Str}{pos':Pos}(hN:X.N.Nodup)(he:EE X G dl e d)(hi:autoParam (X.N[n]?=some x) jp)(hx:autoParam (Loc X.env.scope x) xz)(hs:autoParam (swapsWith e (some (.Name x pos')) pos.line X.env=pure false) jp)(hf:autoParam (X.fn x=true\/X.env.scope.names.lookup x=some .local) wf):ES X G E dl (.Assign [.Name x pos'] e pos) (.nx (dl.set n (.val d))):=
 tH (DP hN hi hx he hs hf) fun D st H zq=>ZL zq fun Hf zq=>have S:=zq.1;have k:=zq.2;⟨Hf,S,fun v Hf1 H1 g1 r1=>k _ Hf1 H1 g1.bU ((S.grow g1).set r1)⟩
inductive qY (X:Cx)(G:Gr)(E:XK)(body:List Stmt)(S:Nat->List Slot)(pre:Nat->List Slot)(n m:Nat):Out->Prop
 | all (h:m=n):qY X G E body S pre n m (.nx (S n))
 | rt {d:Dt} (h:m < n) (hb:nH X G E (pre m) body (.rt d)):qY X G E body S pre n m (.rt d)
 | ro {d:Own} (h:m < n) (hb:nH X G E (pre m) body (.ro d)):qY X G E body S pre n m (.ro d)
 | bk {dl':List Slot} (h:m < n) (hb:nH X G E (pre m) body (.bk dl')):qY X G E body S pre n m (.nx dl')
 | ex {c:Value} {fs:List (Str×Dt)} (h:m < n) (hb:nH X G E (pre m) body (.ex c fs)):qY X G E body S pre n m (.ex c fs)
inductive Goes (X:Cx)(G:Gr)(E:XK)(body:List Stmt)(pre post:List Slot):Prop
 | nx {dl':List Slot} (hb:nH X G E pre body (.nx dl')) (l:Le post dl')
 | ct {dl':List Slot} (hb:nH X G E pre body (.ct dl')) (l:Le post dl')
def JO (X:Cx)(G:Gr)(E:XK)(body:List Stmt):TS:=fun D st H=>∃ pre o,nH X G E pre body o/\tO X.K G E pre o D st H
theorem sv {body:List Stmt}:DN X body (JO X G E body):=fun pins s st H D J ⟨pre,o,h,q⟩=>h pins s st H D J q
theorem qk {body:List Stmt}{pre post:List Slot}{D:Ends}{st:L2.St}{Hf H:Hp}(g:Goes X G E body pre post)(S:eG X.K G st Hf H pre)(hn:∀ st aJ H,aI Hf aJ->eG X.K G st aJ H post->D.nx st H)(hc:∀ st aJ H,aI Hf aJ->eG X.K G st aJ H post->D.ct st H):JO X G E body D st H:=by
 cases g with
 | nx hb l=>exact⟨_,_,hb,Hf,S,fun kA aJ H' s' S'=>hn kA aJ H' s' (S'.weak l)⟩
 | ct hb l=>exact⟨_,_,hb,Hf,S,fun kA aJ H' s' S'=>hc kA aJ H' s' (S'.weak l)⟩
theorem tY {body:List Stmt}{S pre:Nat->List Slot}{n m:Nat}{D D':Ends}{st:L2.St}{Hf H:Hp}(e:qY X G E body S pre n m o)(hm:m < n)(S':eG X.K G st Hf H (pre m))(k:yx X.K G E D Hf o)(hr:D'.rt=D.rt)(NG:D'.bk=D.nx):JO X G E body D' st H:=by
 cases e with
 | all h=>omega
 | rt h hb=>exact⟨_,_,hb,Hf,S',by show ∀ v Hf H,_->_->D'.rt v H;rw[hr];exact k⟩
 | ro h hb=>exact⟨_,_,hb,Hf,S',by show ∀ v Hf H,_->_->_->_->D'.rt _ H;rw[hr];exact k⟩
 | bk h hb=>exact⟨_,_,hb,Hf,S',by show ∀ v Hf H,_->_->D'.bk v H;rw[NG];exact k⟩
 | ex h hb=>exact⟨_,_,hb,Hf,S',k⟩
theorem JP (nN:Nat){x:Str}{px:Pos}{body:List Stmt}{lo:Int}{n m:Nat}(S:Nat->List Slot)(hN:X.N.Nodup)(sx:X.calm=true)(hp:PassesOwn (model X.prog X.w) X.A X.env X.xe){wi:TI}{iter:Expr}(hI:PI X (.Name x px) iter wi)(hw:∀ st Hf H R,eG X.K G st Hf H dl->(∀ aJ H',bB Hf H aJ H'->R (ML lo n) H')->wi st H R)(h0:Le (S 0) dl)(Yd:m<=n)(hb:∀ k,k < m->Goes X G E body ((S k).set nN (.val (.int (lo+k)))) (S (k+1)))(he:qY X G E body S (fun k=>(S k).set nN (.val (.int (lo+k)))) n m o)(hi:autoParam (X.N[nN]?=some x) jp)(hx:autoParam (Loc X.env.scope x) xz)(hf:autoParam (X.fn x=true\/X.env.scope.names.lookup x=some .local) wf)(hs:autoParam (∀ x,foldedSetIterable iter X.env x=pure x) v6):ES X G E dl (.For (.Name x px) iter body [] pos) o:=by
 refine tH (z7 hp sx hI (bo hN hi hx hf) (sv (G:=G) (E:=E)) hs) fun D st H ⟨Hf,S0,k⟩=>hw st Hf H _ S0 fun aJ H' g=>?_
 refine Ho (lo:=lo) (n:=n) (fun j st H=>j<=m/\∃ Hf1,aI Hf Hf1/\eG X.K G st Hf1 H (S j)) ⟨aa1 _,aJ,g.bU,(S0.grow g).weak h0⟩ (fun j st H hj ⟨hjm,Hf1,s1,Sj⟩=>?_) (fun st H ⟨hnm,Hf1,s1,Sn⟩=>?_)
 . have Sp:eG X.K G (st.set nN (some (.int (lo+j)))) Hf1 H ((S j).set nN (.val (.int (lo+j)))):=Sj.set (.int _)
   by_cases di:j < m
   . exact qk (hb j di) Sp (fun st b6 H s2 S'=>⟨di,b6,s1.trans s2,S'⟩) (fun st b6 H s2 S'=>⟨di,b6,s1.trans s2,S'⟩)
   . have e:j=m:=by omega
     subst e;exact tY he hj Sp (k.mono s1) rfl rfl
 . have e:m=n:=by omega
   subst e;cases he with
   | all _=>exact k st Hf1 H s1 Sn
   | rt h _=>omega
   | ro h _=>omega
   | bk h _=>omega
   | ex h _=>omega
theorem gb (nN:Nat){x:Str}{p px pc:Pos}{body:List Stmt}{n:Int}{m:Nat}(S:Nat->List Slot)(hN:X.N.Nodup)(sx:X.calm=true)(hp:PassesOwn (model X.prog X.w) X.A X.env X.xe)(MR:X.mg "range"=none)(ha:EA X G dl [a] [.int n])(hn:-(2 ^ 62)<=n/\n < 2 ^ 62)(h0:Le (S 0) dl)(Yd:m<=n.toNat)(hb:∀ k:Nat,k < m->Goes X G E body ((S k).set nN (.val (.int k))) (S (k+1)))(he:qY X G E body S (fun k=>(S k).set nN (.val (.int k))) n.toNat m o)(hg:autoParam (Gl X "range") jp)(hi:autoParam (X.N[nN]?=some x) jp)(hx:autoParam (Loc X.env.scope x) xz)(hf:autoParam (X.fn x=true\/X.env.scope.names.lookup x=some .local) wf)(IZ:autoParam (starEach [a] X.env=[(false,eval a X.env)]) jp)(hs:autoParam (∀ z,foldedSetIterable (.Call (.Name "range" p) [a] [] pc) X.env z=pure z) v6):ES X G E dl (.For (.Name x px) (.Call (.Name "range" p) [a] [] pc) body [] pos) o:=by
 have ez:∀ k:Nat,(0:Int)+k=k:=fun k=>Int.zero_add _
 have eS:(fun k:Nat=>(S k).set nN (.val (.int ((0:Int)+k))))=fun k:Nat=>(S k).set nN (.val (.int k)):=by funext k;rw[ez]
 refine JP nN (lo:=0) (n:=n.toNat) (m:=m) S hN sx hp (nC hg MR ha IZ) (fun st Hf H R S0 h=>⟨Hf,S0,fun vs Hf1 H1 g1 r1=>?_⟩) h0 Yd (fun k hk=>by rw[ez];exact hb k hk) (by rw[eS];exact he) hi hx hf hs;cases r1 with
 | cons r t=>cases t;cases r;exact⟨n,rfl,hn.1,hn.2,h Hf1 H1 g1⟩
theorem FP (nN:Nat){x:Str}{px:Pos}{iter:Expr}{body:List Stmt}{xs:List Dt}{m:Nat}(S:Nat->List Slot)(hN:X.N.Nodup)(sx:X.calm=true)(hp:PassesOwn (model X.prog X.w) X.A X.env X.xe)(hl:EE X G dl iter (.lst xs))(h0:Le (S 0) dl)(Yd:m<=xs.length)(hb:∀ (k:Nat) (z:Dt),k < m->xs[k]?=some z->Goes X G E body ((S k).set nN (.val z)) (S (k+1)))(he:qY X G E body S (fun k=>(S k).set nN (.val (xs.getD k .dk))) xs.length m o)(hi:autoParam (X.N[nN]?=some x) jp)(hx:autoParam (Loc X.env.scope x) xz)(hf:autoParam (X.fn x=true\/X.env.scope.names.lookup x=some .local) wf)(hs:autoParam (∀ z,foldedSetIterable iter X.env z=pure z) v6):ES X G E dl (.For (.Name x px) iter body [] pos) o:=by
 refine tH (z7 hp sx (fE hl) (bo hN hi hx hf) (sv (G:=G) (E:=E)) hs) fun D st H ⟨Hf,S0,k⟩=>⟨Hf,S0,fun v aJ H' g r=>?_⟩
 cases r with
 | @lst a vs _ q r=>
   have hlen:=r.length;refine⟨a,rfl,⟨vs,.of (g.sub _ _ q)⟩,BW (xs:=vs) (fun j st H=>j<=m/\∃ Hf1,aI aJ Hf1/\eG X.K G st Hf1 H (S j)) ⟨aa1 _,aJ,aI.refl _,(S0.grow g).weak h0⟩ ?_ ?_ ?_⟩
   . rintro j st H _ ⟨_,Hf1,s1,Sj⟩
     exact .of (Sj.sub _ _ (s1 _ _ q))
   . rintro j v st H hv ⟨hjm,Hf1,s1,Sj⟩
     obtain⟨z,hz,rz⟩:=r.get' hv;have hj:j < xs.length:=(aae.mp hz).1;have Sp:eG X.K G (st.set nN (some v)) Hf1 H ((S j).set nN (.val z)):=Sj.set (rz.mono s1);by_cases di:j < m
     . exact qk (hb j z di hz) Sp (fun st b6 H s2 S'=>⟨di,b6,s1.trans s2,S'⟩) (fun st b6 H s2 S'=>⟨di,b6,s1.trans s2,S'⟩)
     . have e:j=m:=by omega
       subst e;have ez:xs.getD j .dk=z:=by rw[Bn,hz];rfl
       exact tY he hj (by show eG _ _ _ _ _ ((S j).set nN (.val (xs.getD j .dk)));rw[ez];exact Sp) (k.mono (g.bU.trans s1)) rfl rfl
   . rintro st H ⟨hnm,Hf1,s1,Sn⟩
     have e:m=xs.length:=by omega
     subst e;rw[hlen] at Sn;cases he with
     | all _=>exact k st Hf1 H (g.bU.trans s1) Sn
     | rt h _=>omega
     | ro h _=>omega
     | bk h _=>omega
     | ex h _=>omega
inductive Res where
 | ret (d:Dt)
 | own (w:Own)
 | exc (c:Value) (fs:List (Str×Dt))
def VF (K:W.Frag)(Hf H:Hp)(Q:VK)(E:XK):Res->Prop
 | .ret d=>∀ v aJ H',bB Hf H aJ H'->Rep K aJ v d->Q v H'
 | .own w=>∀ p aJ H',bB Hf H aJ H'->H p=none->aJ p=none->iJ K aJ H' p w->Q (.ref p) H'
 | .exc c fs=>∀ od aJ H',bB Hf H aJ H'->ExcAt K aJ od fs->E c od H'
def FQ (K:W.Frag)(n:Nat)(R:List Dt->Res->Prop):Sp:=fun vs H Q E=>∃ Hf ds r,aI Hf H/\bJ K Hf vs ds/\ds.length=n/\R ds r/\VF K Hf H Q E r
def DI (CX:tR):Prop:=∀ outer H s e s',CX outer H s E0 e s'->False
theorem av:DI CX0:=fun _ _ _ _ _ h=>h
theorem DI.passes {CX:tR}(n:DI CX):Passes CX X E0:=fun _ _ _ _ _ _ _ h=>(n _ _ _ _ _ h).elim
noncomputable def slots (N:List Str)(ds:List Dt):List Slot:=ds.map Slot.val ++ aaj (N.length - ds.length) .aS
theorem zo {K:W.Frag}{N:List Str}{Hf H:Hp}{vs:List V}{ds:List Dt}(s:aI Hf H)(r:bJ K Hf vs ds):eG K ⟨Hf,H⟩ (start N vs) Hf H (slots N ds):=by
 have hl:=r.length;have zY:∀ (i:Nat) o,(slots N ds)[i]?≠some (.own o):=fun i o h=>by
   unfold slots at h;by_cases hi:i < ds.length
   . rw[aay (by simpa using hi),aab] at h
     cases e:ds[i]? with
     | none=>rw[e] at h;cases h
     | some a=>rw[e] at h;cases h
   . rw[aaE (by simpa using hi),abq] at h
     split at h <;> cases h
 refine⟨.refl s,?_,fun i d h=>?_,fun i o h=>absurd h (zY i o),fun i j o o' a h=>absurd h (zY i o)⟩
 . unfold L2.start slots
   simp[hl]
 . unfold slots at h
   by_cases hi:i < ds.length
   . rw[aay (by simpa using hi),aab] at h
     cases e:ds[i]? with
     | none=>rw[e] at h;cases h
     | some a=>
       rw[e] at h;cases h;obtain⟨v,h1,h2⟩:=r.get e;refine⟨v,?_,h2⟩;unfold L2.start;rw[aay (by simp;omega),aab,h1];rfl
   . rw[aaE (by simpa using hi),abq] at h
     split at h <;> cases h
inductive Comes:Out->Res->Prop
 | rt (d:Dt):Comes (.rt d) (.ret d)
 | ro (d:Own):Comes (.ro d) (.own d)
 | nx (dl:List Slot):Comes (.nx dl) (.ret .dk)
 | kn {dl:List Slot} {d:Dt} (h:∀ K G st Hf H,eG K G st Hf H dl->Rep K Hf .dk d):Comes (.nx dl) (.ret d)
 | ex (c:Value) (fs:List (Str×Dt)):Comes (.ex c fs) (.exc c fs)
theorem Comes.ends {K:W.Frag}{Hf H:Hp}{Q:VK}{o:Out}{r:Res}(h:Comes o r)(k:VF K Hf H Q E r):yx K ⟨Hf,H⟩ E { nx:=fun _ H'=>Q .dk H',rt:=Q} Hf o:=by
 cases h with
 | rt d=>exact k
 | ro d=>exact k
 | nx dl=>exact fun st aJ H' s' S=>k _ aJ H' S.gr .dk
 | kn h=>exact fun st aJ H' s' S=>k _ aJ H' S.gr (h _ _ _ _ _ S)
 | ex c fs=>exact k
theorem gS {P:Program}{w:World}{K:W.Frag}{mg:Str->Option Value}{base:Heap}{CX:tR}{x qual:Str}{st:Stmt}{f:Addr}{fd:FuncData}{N ps:List Str}{k n:Nat}{R:List Dt->Res->Prop}(F:Uz K x qual st f fd)(S:ar N ps (af st))(hn:ps.length=n)(se:∀ (aZ:Value) (A:Around) (outer:List Env) (s:Shared) (H:Hp) (E:XK) (G:Gr) (ds:List Dt) (r:Res),fA k (A.deeper (envOfC qual (af st) s.heap.objs.size f aZ))->ds.length=n->R ds r->∃ o,Comes o r/\nH (B0 CX P w K mg base N qual (af st) f aZ A outer s H E) G E (slots N ds) (aC st) o):kW P w K mg base CX (k+1) f fd ps (FQ K n R):=by
 obtain⟨oc,od,kV,doc,pm,an,aZ,ct,zg,rfl,lk,nz⟩:=F.ex;refine JA lk nz S (fun vs H Q E ⟨Hf,ds,r,s,rp,hl,_⟩=>by rw[rp.length,hl,hn]) fun A outer s H vs Q E hr ⟨Hf,ds,r,sm,rp,hl,hR,hk⟩=>?_
 obtain⟨o,hc,hb⟩:=se aZ A outer s H E ⟨Hf,H⟩ ds r hr hl hR;exact⟨_,hb,Hf,zo sm rp,hc.ends hk⟩
section
variable {CX:tR}{k n:Nat}{f C:Addr}{fd:FuncData}{ps:List Str}{R:List Dt->Res->Prop}{m:Str}{p apos:Pos}{ob:Expr}{dvs:List Dt}{vds:List V}{HJ:List Value}{fs:List (Str×Dt)}
theorem NH (F:kW X.prog X.w X.K X.mg X.base CX k f fd ps (FQ X.K n R))(nx:DI CX)(hr:fA k X.A)(hm:X.mg x=some (.ref f))(hk:W.keepIn X.K (.ref f)=true)(hb:Binds X.K fd ps HJ)(hd:Vals vds HJ)(D6:∀ H,bJ X.K H vds dvs)(ha:EA X G dl (e::es) ds)(hl:(ds ++ dvs).length=n)(h:R (ds ++ dvs) (.ret d))(hg:autoParam (Gl X x) jp)(mI:autoParam ((x == ("__debug__":Str))=false) zn)(he:autoParam (starEach (e::es) X.env=(false,eval e X.env)::starEach es X.env) jp)(qX:autoParam ((backTo pos (starEach es X.env)).any (·.1)=false) jp):EE X G dl (.Call (.Name x p) (e::es) [] pos) d:=
 iK (Fx (E:=E0) F hr hg hm hk hb hd nx.passes ha mI he qX) fun st H Q zq=>ZL zq fun Hf zq=>have S:=zq.1;have k:=zq.2;⟨Hf,S,fun vs Hf1 H1 g1 r1=>⟨Hf1,ds ++ dvs,.ret d,g1.sub,r1.append (D6 _),hl,h,fun v b6 H2 g2 r2=>k v b6 H2 (g1.trans g2) r2⟩⟩
theorem FR {pl:Sem Bool}(he:EE X G dl ob (.obj C fs))(c:vF X.K C)(hm:Meth X.K C m f)(F:kW X.prog X.w X.K X.mg X.base CX k f fd ps (FQ X.K n R))(nx:DI CX)(hr:fA k X.A)(hb:Binds X.K fd ps HJ)(hd:Vals vds HJ)(D6:∀ H,bJ X.K H vds dvs)
   (ha:EA X G dl (e::es) ds) (hl:(.obj C fs::(ds ++ dvs)).length=n) (h:R (.obj C fs::(ds ++ dvs)) (.ret d)) (uT:fs.lookup m=none)
   (ny:autoParam (starEach (e::es) X.env=(false,eval e X.env)::starEach es X.env) jp) (qX:autoParam ((backTo pos (starEach es X.env)).any (·.1)=false) jp)
   (ht:autoParam (eval (.Call (.Attribute ob m apos) (e::es) [] pos) X.env=(do
     let ov <- eval ob X.env
     standAt apos.atName
     let (f,first) <- holding [ov] (getMethod ov m pl)
     callWith pos f first (backTo pos (starEach (e::es) X.env)) (backToKw pos (keywordEach [] X.env)))) jp):EE X G dl (.Call (.Attribute ob m apos) (e::es) [] pos) d:=
 iK (Fy (pl:=pl) (E:=E0) he c hm F hr hb hd nx.passes ha ny qX ht) fun st H Q zq=>ZL zq fun Hf zq=>have S:=zq.1;have k:=zq.2;⟨Hf,S,fun v Hf1 H1 g1 r1=>by
   cases r1 with
   | @obj a _ dx fv _ q r=>
     exact⟨a,dx,fv,rfl,jA g1.sub q,r.none_of uT,Hf1,S.grow g1,fun vs b6 H2 g2 r2=>⟨b6,_,.ret d,g2.sub,.cons (.obj (jA g2.bU q) (r.mono g2.bU)) (r2.append (D6 _)),hl,h,fun v j6 H3 g3 r3=>k v j6 H3 ((g1.trans g2).trans g3) r3⟩⟩⟩
theorem Cg {pl:Sem Bool}(he:EE X G dl ob (.obj C fs))(c:vF X.K C)(hm:Meth X.K C m f)(F:kW X.prog X.w X.K X.mg X.base CX k f fd ps (FQ X.K n R))(nx:DI CX)(hr:fA k X.A)(hb:Binds X.K fd ps HJ)(hd:Vals vds HJ)(D6:∀ H,bJ X.K H vds dvs)
   (hl:(Dt.obj C fs::dvs).length=n) (h:R (.obj C fs::dvs) (.ret d)) (uT:fs.lookup m=none)
   (ht:autoParam (eval (.Call (.Attribute ob m apos) [] [] pos) X.env=(do
     let ov <- eval ob X.env
     standAt apos.atName
     let (f,first) <- holding [ov] (getMethod ov m pl)
     callWith pos f first (backTo pos (starEach [] X.env)) (backToKw pos (keywordEach [] X.env)))) jp):EE X G dl (.Call (.Attribute ob m apos) [] [] pos) d:=
 iK (BZ (pl:=pl) (E:=E0) he c hm F hr hb hd nx.passes ht) fun st H Q zq=>ZL zq fun Hf zq=>have S:=zq.1;have k:=zq.2;⟨Hf,S,fun v Hf1 H1 g1 r1=>by
   cases r1 with
   | @obj a _ dx fv _ q r=>
     exact⟨a,dx,fv,rfl,jA g1.sub q,r.none_of uT,Hf1,_,.ret d,g1.sub,.cons (.obj q r) (D6 _),hl,h,fun v j6 H3 g3 r3=>k v j6 H3 (g1.trans g3) r3⟩⟩
end
end
section
variable {X:Cx}{G:Gr}{dl:List Slot}{a b c e:Expr}{i j:Int}{d d1 d2:Dt}{ds:List Dt}{pos p:Pos}{o:Out}{x y f:Str}{u v:Bool}{s:Stmt}{C:Addr}{fs:List (Str×Dt)}
theorem kC {w:V}{z:Value}(hm:X.mg x=some z)(r:RelV w z)(hr:∀ H,Rep X.K H w d)(hg:autoParam (Gl X x) jp)(hd:autoParam ((x == ("__debug__":Str))=false) zn):EE X G dl (.Name x pos) d:=
 iK (M9 hg hm r hd) fun st H Q zq=>ZL zq fun Hf zq=>have S:=zq.1;have k:=zq.2;k _ Hf H (.refl S.sub) (hr _)
theorem boot_int:bootBuiltins "int"=some (.type "int"):=by decide +kernel
theorem boot_list:bootBuiltins "list"=some (.type "list"):=by decide +kernel
theorem boot_dict:bootBuiltins "dict"=some (.type "dict"):=by decide +kernel
structure RB (K:W.Frag)(C:Addr):Prop where
 makes:W.makesIn K C=true
 init:W.findIn K (.ref C) "__init__"=some (some (.builtin "object.__init__"))
 kp:W.keepIn K (.ref C)=true
theorem HK {pins:List (Addr×Obj)}{st:L2.St}{H:Hp}{s:Shared}{Q:VK}(M:RB X.K C)(I:L2.Inv X pins st H s)(h:∀ x dx,H x=none->H dx=none->dx≠x->Q (.ref x) (upd (upd H dx (.own x)) x (.ins C dx []))):wpAny (model X.prog X.w) X.A (call (.ref C) []) (EP X pins st Q) X.xe s:=by
 have hq:=h (s.heap.objs.size+1) s.heap.objs.size (I.bO.fresh (abG _)) (I.bO.fresh (aaa _)) (aat (abN _));have I2:=L2.Inv.made (C:=C) I;refine wpAny_call (Hu (s:=s) I.BQ M.makes M.init (fun self=>W.Looks.of_pure (W.oi_bind self)) ?_);obtain⟨hh,g,d,t,os⟩:=s;have Y:=W.makes_of (M:=model X.prog X.w) I.BQ M.makes;have t1:W.Looks (model X.prog X.w) ((hh.push W.emptyDict).push (W.instObj C hh.objs.size)) (typeOf (.ref (hh.objs.size+1))) (.ref C):=by
   have e2:=aar (hh.push W.emptyDict) (o:=W.instObj C hh.objs.size) rfl;rw[abK] at e2;exact(W.Looks.ld e2).andThen .now
 have t2:W.Looks (model X.prog X.w) ((hh.push W.emptyDict).push (W.instObj C hh.objs.size)) (isInstance (.ref (hh.objs.size+1)) (.type "object")) true:=t1.andThen (Y.top.keeps fun b o e=>aac _ (aac _ e));refine codeAny_call_builtin W.oi_plain W.entry_oi (@W.check_slot (model X.prog X.w) _ _ _ "object.__init__" "object" "__init__" (.ref (hh.objs.size+1)) [] [] _ W.oi_kind W.oi_split t2 (W.oi_args (.ref (hh.objs.size+1))) ?_);rw[W.oi_run];exact wpAny_pure (And.intro rfl ⟨V.ref (hh.objs.size+1),_,I2,rfl,hq⟩)
theorem aE (he:EE X G dl e (.obj C fs))(c:vF X.K C)(n:bQ X.K C f)(h:fs.lookup f=some d)(hb:autoParam (attributeBase e f X.env (eval e X.env)=eval e X.env) jp):EE X G dl (.Attribute e f pos) d:=
 iK (wC he hb) fun st H Q zq=>ZL zq fun Hf zq=>have S:=zq.1;have k:=zq.2;⟨Hf,S,fun v Hf1 H1 g1 r1=>by
   cases r1 with
   | @obj a _ dx fv _ q r=>
     obtain⟨y,h1,h2⟩:=r.lookup h;exact⟨a,C,dx,fv,y,rfl,jA g1.sub q,c,n,h1,k y Hf1 H1 g1 h2⟩⟩
theorem FT (hm:X.mg "len"=none)(ha:EE X G dl a (.lst ds))(hg:autoParam (Gl X "len") jp)(he:autoParam (starEach [a] X.env=[(false,eval a X.env)]) jp):EE X G dl (.Call (.Name "len" p) [a] [] pos) (.int ds.length):=
 iK (gG sk hg hm PySem.boot_len (ae ha ah he) (he:=he)) fun st H Q zq=>ZL zq fun Hf zq=>have S:=zq.1;have k:=zq.2;⟨Hf,S,fun vs Hf1 H1 g1 r1=>by
   cases r1 with
   | cons r t=>cases t;cases r with
     | @lst q vs _ z w=>exact⟨q,vs,rfl,.inl (.of (g1.sub _ _ z)),by rw[w.length];exact k _ Hf1 H1 g1 (.int _)⟩⟩
theorem Am {ns:List Int}(hm:X.mg "len"=none)(ha:EE X G dl a (.r8 ns))(hg:autoParam (Gl X "len") jp)(he:autoParam (starEach [a] X.env=[(false,eval a X.env)]) jp):EE X G dl (.Call (.Name "len" p) [a] [] pos) (.int ns.length):=
 iK (gG sk hg hm PySem.boot_len (ae ha ah he) (he:=he)) fun st H Q zq=>ZL zq fun Hf zq=>have S:=zq.1;have k:=zq.2;⟨Hf,S,fun vs Hf1 H1 g1 r1=>by
   cases r1 with
   | cons r t=>cases t;cases r with
     | @r8 q _ z=>exact⟨q,_,rfl,.inl (g1.sub.seq z),by rw[k5];exact k _ Hf1 H1 g1 (.int _)⟩⟩
theorem vG (hm:X.mg "len"=none)(ha:EE X G dl a (.str x))(hl:x.length<=sizeLine)(hg:autoParam (Gl X "len") jp)(he:autoParam (starEach [a] X.env=[(false,eval a X.env)]) jp):EE X G dl (.Call (.Name "len" p) [a] [] pos) (.int x.length):=
 iK (gG Ad hg hm PySem.boot_len (ae ha ah he) (he:=he)) fun st H Q zq=>ZL zq fun Hf zq=>have S:=zq.1;have k:=zq.2;⟨Hf,S,fun vs Hf1 H1 g1 r1=>by
   cases r1 with
   | cons r t=>cases t;cases r;exact⟨x,rfl,hl,k _ Hf1 H1 g1 (.int _)⟩⟩
structure TyC (K:W.Frag)(C:Addr):Prop where
 cl:vF K C
 ha:W.findIn K (.ref C) "__class__"=some (some (.builtin "object.__class__"))
 hn:W.specialIn K (.builtin "object.__class__") "__get__"=some (some (.builtin "getset_descriptor.__get__"))
 htk:W.takesIn K (.builtin "object.__class__")=some true
 hm:W.mroIn K C (.type "object")=some true
mutual
noncomputable def pd:Dt->PyData
 | .dk=>.none
 | .bl b=>.bool b
 | .int i=>.int i
 | .str x=>.str x
 | .tup ds=>.tuple (D7 ds)
 | .lst ds=>.list (D7 ds)
 | .r8 _=>.none
 | .cZ _=>.none
 | .obj _ _=>.none
 | .ty _=>.none
 | .cls _=>.none
 | .xo _=>.none
 | .tV _=>.none
 | .HF _ _=>.none
 | .eF _=>.none
 | .memo _ _ _ _=>.none
 | .fZ _ _ _ _=>.none
 | .yw _ _ _=>.none
 | .zl _ _ _ _ _=>.none
 | .jz _=>.none
 | .oe _=>.none
noncomputable def D7:List Dt->List PyData
 | []=>[]
 | d::r=>pd d::D7 r
end
mutual
noncomputable def plain:Dt->Bool
 | .tup ds=>mj ds
 | .lst ds=>mj ds
 | .r8 _=>false
 | .cZ _=>false
 | .obj _ _=>false
 | .ty _=>false
 | .cls _=>false
 | .xo _=>false
 | .tV _=>false
 | .HF _ _=>false
 | .eF _=>false
 | .memo _ _ _ _=>false
 | .fZ _ _ _ _=>false
 | .yw _ _ _=>false
 | .zl _ _ _ _ _=>false
 | .jz _=>false
 | .oe _=>false
 | .dk=>true
 | .bl _=>true
 | .int _=>true
 | .str _=>true
noncomputable def mj:List Dt->Bool
 | []=>true
 | d::r=>plain d && mj r
end
section
variable {pins:List (Addr×Obj)}{st:L2.St}{Hf H:Hp}{s:Shared}
mutual
theorem pJ (I:L2.Inv X pins st H s)(sm:aI Hf H):∀ {w:V} {d:Dt} {z:Value},Rep X.K Hf w d->plain d=true->RelV w z->∃ as,Reads s.heap z (pd d) as
 | _,_,z,.dk,_,r=>by cases (show z=Value.none from r);exact⟨_,.none⟩
 | _,_,z,.bl b,_,r=>by cases (show z=Value.bool b from r);exact⟨_,.bool b⟩
 | _,_,z,.int i,_,r=>by obtain⟨t,q⟩:=(show ∃ t,z=Value.int i t from r);cases q;exact⟨_,.int i t⟩
 | _,_,z,.str x,_,r=>by obtain⟨t,q⟩:=(show ∃ t,z=Value.str x t from r);cases q;exact⟨_,.str x t⟩
 | _,_,z,@Rep.tup _ _ a vs ds q rr,h,r=>by
   cases (show z=Value.ref a from r);obtain⟨aH,rv,⟨o,h1,h2,n,h3⟩,_⟩:=I.tuple (f6 sm q);obtain⟨as,ra⟩:=tZ I sm rr (by rw[plain] at h;exact h) rv;refine⟨as,?_⟩;rw[pd];exact .tuple h1 h2 h3 (by simpa using ra)
 | _,_,z,@Rep.lst _ _ a vs ds q rr,h,r=>by
   cases (show z=Value.ref a from r);obtain⟨aH,rv,⟨o,n,h1,h2,_,h3⟩,_⟩:=I.list (.of (sm _ _ q));obtain⟨as,ra⟩:=tZ I sm rr (by rw[plain] at h;exact h) rv;refine⟨a::as,?_⟩;rw[pd];exact .list h1 h2 h3 (by simpa using ra)
 | _,_,_,.cZ _ _,h,_=>by rw[plain] at h;cases h
 | _,_,_,.r8 _,h,_=>by rw[plain] at h;cases h
 | _,_,_,.obj _ _,h,_=>by rw[plain] at h;cases h
 | _,_,_,.ty _,h,_=>by rw[plain] at h;cases h
 | _,_,_,.cls _,h,_=>by rw[plain] at h;cases h
 | _,_,_,.xo _ _,h,_=>by rw[plain] at h;cases h
 | _,_,_,.tV _ _,h,_=>by rw[plain] at h;cases h
 | _,_,_,.HF _ _ _ _,h,_=>by rw[plain] at h;cases h
 | _,_,_,.eF _ _,h,_=>by rw[plain] at h;cases h
 | _,_,_,.memo _ _ _ _,h,_=>by rw[plain] at h;cases h
 | _,_,_,.fZ _ _ _ _,h,_=>by rw[plain] at h;cases h
 | _,_,_,.yw _,h,_=>by rw[plain] at h;cases h
 | _,_,_,.zl _ _ _,h,_=>by rw[plain] at h;cases h
 | _,_,_,.jz _,h,_=>by rw[plain] at h;cases h
 | _,_,_,.oe _,h,_=>by rw[plain] at h;cases h
theorem tZ (I:L2.Inv X pins st H s)(sm:aI Hf H):∀ {vs:List V} {ds:List Dt} {zs:List Value},bJ X.K Hf vs ds->mj ds=true->Vals vs zs->∃ as,ReadsAll s.heap zs (D7 ds) as
 | _,_,_,.nil,_,.nil=>⟨[],by rw[D7];exact .nil⟩
 | _,_,_,.cons r t,h,.cons q w=>by
   rw[mj,aa9] at h;obtain⟨as,h1⟩:=pJ I sm r h.1 q;obtain⟨bs,h2⟩:=tZ I sm t h.2 w;exact⟨as ++ bs,by rw[D7];exact .cons h1 h2⟩
end
end
def JQ (d:Dt):Prop:=plain d=true/\SeqAt.shaped (pd d)=true
def RC (K:PySem.W.Frag)(d1 d2:Dt)(g:Bool->Bool):R2:=fun x y H Q=>∃ Hf,aI Hf H/\Rep K Hf x d1/\Rep K Hf y d2/\JQ d1/\JQ d2/\Q (.bl (g (PyData.eqv (pd d1) (pd d2)))) H
theorem RD (hu:X.A.units+64 < cLine):qf X (compareOp .Eq) (RC X.K d1 d2 id):=by
 intro pins s st H x y v w Q I rx ry ⟨Hf,sm,r1,r2,o1,o2,q⟩;obtain⟨as,h1⟩:=pJ I sm r1 o1.1 rx;obtain⟨bs,h2⟩:=pJ I sm r2 o2.1 ry;exact eq_dataH h1 h2 o1.2 o2.2 hu ⟨.bl _,H,I,rfl,q⟩
theorem RE (hu:X.A.units+64 < cLine):qf X (compareOp .NotEq) (RC X.K d1 d2 (!·)):=by
 intro pins s st H x y v w Q I rx ry ⟨Hf,sm,r1,r2,o1,o2,q⟩;obtain⟨as,h1⟩:=pJ I sm r1 o1.1 rx;obtain⟨bs,h2⟩:=pJ I sm r2 o2.1 ry;exact ne_dataH h1 h2 o1.2 o2.2 hu ⟨.bl _,H,I,rfl,q⟩
theorem JR {K:W.Frag}{g:Bool->Bool}(o1:JQ d1)(o2:JQ d2):FN K (RC K d1 d2 g) d1 d2 (.bl (g (PyData.eqv (pd d1) (pd d2)))):=fun v w Hf H Q s r1 r2 k=>⟨Hf,s,r1,r2,o1,o2,k _ Hf H (.refl s) (.bl _)⟩
mutual
theorem eqv_refl:∀ d:Dt,plain d=true->PyData.eqv (pd d) (pd d)=true
 | .dk,_=>by simp[pd,PyData.eqv]
 | .bl b,_=>by simp[pd,PyData.eqv]
 | .int i,_=>by simp[pd,PyData.eqv]
 | .str x,_=>by simp[pd,PyData.eqv]
 | .tup ds,h=>by rw[plain] at h;rw[pd,PyData.eqv];exact t5 ds h
 | .lst ds,h=>by rw[plain] at h;rw[pd,PyData.eqv];exact t5 ds h
 | .cZ _,h=>by rw[plain] at h;cases h
 | .r8 _,h=>by rw[plain] at h;cases h
 | .obj _ _,h=>by rw[plain] at h;cases h
 | .ty _,h=>by rw[plain] at h;cases h
 | .cls _,h=>by rw[plain] at h;cases h
 | .xo _,h=>by rw[plain] at h;cases h
 | .tV _,h=>by rw[plain] at h;cases h
 | .HF _ _,h=>by rw[plain] at h;cases h
 | .eF _,h=>by rw[plain] at h;cases h
 | .memo _ _ _ _,h=>by rw[plain] at h;cases h
 | .fZ _ _ _ _,h=>by rw[plain] at h;cases h
 | .yw _ _ _,h=>by rw[plain] at h;cases h
 | .zl _ _ _ _ _,h=>by rw[plain] at h;cases h
theorem t5:∀ ds:List Dt,mj ds=true->PyData.eqvAll (D7 ds) (D7 ds)=true
 | [],_=>by simp[D7,PyData.eqvAll]
 | d::r,h=>by
   rw[mj,aa9] at h;rw[D7,PyData.eqvAll,eqv_refl d h.1,t5 r h.2];rfl
end
theorem VG (hr:X.A.units+64 < cLine)(ha:EE X G dl a d1)(hb:EE X G dl b d2)(o1:JQ d1)(o2:JQ d2)(hu:PyData.eqv (pd d1) (pd d2)=u):EE X G dl (.Compare a [.Eq] [b] pos) (.bl u):=by
 subst hu;exact wM (RD hr) (JR (g:=id) o1 o2) (kf _) ha hb
theorem VH (hr:X.A.units+64 < cLine)(ha:EE X G dl a d1)(hb:EE X G dl b d2)(o1:JQ d1)(o2:JQ d2)(hu:(!PyData.eqv (pd d1) (pd d2))=u):EB X G dl (.Compare a [.NotEq] [b] pos) u:=by
 subst hu;exact k8 (RE hr) (JR (g:=(!·)) o1 o2) (kf _) ha hb
theorem qZ (ha:EE X G dl a (.int i))(hb:EE X G dl b (.int j)):EB X G dl (.Compare a [.Lt] [b] pos) (decide (i < j)):=k8 Vc (uS (g':=fun i j=>.bl (decide (i < j))) fun _ _ _ _=>.bl _) (kf _) ha hb
theorem uU (ha:EE X G dl a (.int i))(hb:EE X G dl b (.int j)):EB X G dl (.Compare a [.LtE] [b] pos) (decide (i<=j)):=k8 Jv (uS (g':=fun i j=>.bl (decide (i<=j))) fun _ _ _ _=>.bl _) (kf _) ha hb
theorem oZ (ha:EE X G dl a (.int i))(hb:EE X G dl b (.int j)):EB X G dl (.Compare a [.Gt] [b] pos) (decide (j < i)):=k8 Vd (uS (g':=fun i j=>.bl (decide (j < i))) fun _ _ _ _=>.bl _) (kf _) ha hb
theorem Ci (ha:EE X G dl a (.int i))(hb:EE X G dl b (.int j)):EB X G dl (.Compare a [.GtE] [b] pos) (decide (j<=i)):=k8 Ve (uS (g':=fun i j=>.bl (decide (j<=i))) fun _ _ _ _=>.bl _) (kf _) ha hb
theorem t6 {K:W.Frag}{w1 w2:V}{g:Bool->Bool}(h1:∀ H w,Rep K H w d1->w=w1)(h2:∀ H w,Rep K H w d2->w=w2)(hs:Nh w1 w2=true):FN K (fun x y H Q=>Nh x y=true/\Q (.bl (g (decide (x=y)))) H) d1 d2 (.bl (g (decide (w1=w2)))):=fun v w Hf H Q s r1 r2 k=>by
 cases h1 _ _ r1;cases h2 _ _ r2;exact⟨hs,k _ Hf H (.refl s) (.bl _)⟩
theorem qg (i j:Int):decide (V.int i=V.int j)=decide (i=j):=by simp
theorem qh (i j:Str):decide (V.str i=V.str j)=decide (i=j):=by simp
theorem RF (ha:EE X G dl a (.int i))(hb:EE X G dl b (.int j)):EE X G dl (.Compare a [.Eq] [b] pos) (.bl (decide (i=j))):=by
 rw[<- qg];exact wM Fw (t6 (g:=id) (fun _ _ r=>by cases r;rfl) (fun _ _ r=>by cases r;rfl) rfl) (kf _) ha hb
theorem mX (ha:EE X G dl a (.int i))(hb:EE X G dl b (.int j)):EB X G dl (.Compare a [.Eq] [b] pos) (decide (i=j)):=by
 rw[<- qg];exact k8 Fw (t6 (g:=id) (fun _ _ r=>by cases r;rfl) (fun _ _ r=>by cases r;rfl) rfl) (kf _) ha hb
theorem JS (ha:EE X G dl a (.int i))(hb:EE X G dl b (.int j)):EB X G dl (.Compare a [.NotEq] [b] pos) (!decide (i=j)):=by
 rw[<- qg];exact k8 PD (t6 (g:=(!·)) (fun _ _ r=>by cases r;rfl) (fun _ _ r=>by cases r;rfl) rfl) (kf _) ha hb
theorem RG (ha:EE X G dl a (.str x))(hb:EE X G dl b (.str y)):EE X G dl (.Compare a [.Eq] [b] pos) (.bl (decide (x=y))):=by
 rw[<- qh];exact wM Fw (t6 (g:=id) (fun _ _ r=>by cases r;rfl) (fun _ _ r=>by cases r;rfl) rfl) (kf _) ha hb
theorem il (ha:EE X G dl a (.str x))(hb:EE X G dl b (.str y)):EB X G dl (.Compare a [.Eq] [b] pos) (decide (x=y)):=by
 rw[<- qh];exact k8 Fw (t6 (g:=id) (fun _ _ r=>by cases r;rfl) (fun _ _ r=>by cases r;rfl) rfl) (kf _) ha hb
theorem t7 (ha:EE X G dl a (.str x))(hb:EE X G dl b (.str y)):EB X G dl (.Compare a [.NotEq] [b] pos) (!decide (x=y)):=by
 rw[<- qh];exact k8 PD (t6 (g:=(!·)) (fun _ _ r=>by cases r;rfl) (fun _ _ r=>by cases r;rfl) rfl) (kf _) ha hb
end
structure GF (P:Program)(w:World)(K:W.Frag)(mg:Str->Option Value)(base:Heap)(CX:tR)(k:Nat)(x:Str)(n:Nat)(R:List Dt->Res->Prop):Prop where
 ex:∃ f fd ps,kW P w K mg base CX k f fd ps (FQ K n R)/\mg x=some (.ref f)/\W.keepIn K (.ref f)=true/\Binds K fd ps []
structure MF (P:Program)(w:World)(K:W.Frag)(mg:Str->Option Value)(base:Heap)(CX:tR)(k:Nat)(C:Addr)(m:Str)(n:Nat)(R:List Dt->Res->Prop):Prop where
 cl:vF K C
 ex:∃ f fd ps,kW P w K mg base CX k f fd ps (FQ K n R)/\Meth K C m f/\Binds K fd ps []
section
variable {X:Cx}{G:Gr}{dl:List Slot}{e:Expr}{es:List Expr}{d:Dt}{ds:List Dt}{pos p apos:Pos}{x m:Str}{C:Addr}{fs:List (Str×Dt)}{CX:tR}{k k' n:Nat}{R:List Dt->Res->Prop}{ob:Expr}
theorem bW (F:GF X.prog X.w X.K X.mg X.base CX k x n R)(nx:DI CX)(hr:fA k' X.A)(ha:EA X G dl (e::es) ds)(h:R ds (.ret d))(An:autoParam (k<=k') zn)(hl:autoParam (ds.length=n) jp)(hg:autoParam (Gl X x) jp)(mI:autoParam ((x == ("__debug__":Str))=false) zn)(he:autoParam (starEach (e::es) X.env=(false,eval e X.env)::starEach es X.env) jp)(qX:autoParam ((backTo pos (starEach es X.env)).any (·.1)=false) jp):EE X G dl (.Call (.Name x p) (e::es) [] pos) d:=by
 obtain⟨f,fd,ps,F,hm,hk,hb⟩:=F.ex;refine NH (dvs:=[]) (vds:=[]) F nx (hr.mono An) hm hk hb .nil (fun _=>.nil) ha (by rw[abx];exact hl) (by rw[abx];exact h) hg mI he qX
theorem aT {pl:Sem Bool}(he:EE X G dl ob (.obj C fs))(F:MF X.prog X.w X.K X.mg X.base CX k C m n R)(nx:DI CX)(hr:fA k' X.A)(ha:EA X G dl (e::es) ds)(h:R (.obj C fs::ds) (.ret d))(An:autoParam (k<=k') zn)(hl:autoParam ((Dt.obj C fs::ds).length=n) jp)(uT:autoParam (fs.lookup m=none) jp)
   (ny:autoParam (starEach (e::es) X.env=(false,eval e X.env)::starEach es X.env) jp) (qX:autoParam ((backTo pos (starEach es X.env)).any (·.1)=false) jp)
   (ht:autoParam (eval (.Call (.Attribute ob m apos) (e::es) [] pos) X.env=(do
     let ov <- eval ob X.env
     standAt apos.atName
     let (f,first) <- holding [ov] (getMethod ov m pl)
     callWith pos f first (backTo pos (starEach (e::es) X.env)) (backToKw pos (keywordEach [] X.env)))) jp):EE X G dl (.Call (.Attribute ob m apos) (e::es) [] pos) d:=by
 obtain⟨f,fd,ps,Fo,hm,hb⟩:=F.ex;refine FR (dvs:=[]) (vds:=[]) (pl:=pl) he F.cl hm Fo nx (hr.mono An) hb .nil (fun _=>.nil) ha (by rw[abx];exact hl) (by rw[abx];exact h) uT ny qX ht
theorem cu {pl:Sem Bool}(he:EE X G dl ob (.obj C fs))(F:MF X.prog X.w X.K X.mg X.base CX k C m n R)(nx:DI CX)(hr:fA k' X.A)(h:R [.obj C fs] (.ret d))(An:autoParam (k<=k') zn)(hl:autoParam ([Dt.obj C fs].length=n) jp)(uT:autoParam (fs.lookup m=none) jp)
   (ht:autoParam (eval (.Call (.Attribute ob m apos) [] [] pos) X.env=(do
     let ov <- eval ob X.env
     standAt apos.atName
     let (f,first) <- holding [ov] (getMethod ov m pl)
     callWith pos f first (backTo pos (starEach [] X.env)) (backToKw pos (keywordEach [] X.env)))) jp):EE X G dl (.Call (.Attribute ob m apos) [] [] pos) d:=by
 obtain⟨f,fd,ps,Fo,hm,hb⟩:=F.ex;refine Cg (dvs:=[]) (vds:=[]) (pl:=pl) he F.cl hm Fo nx (hr.mono An) hb .nil (fun _=>.nil) hl h uT ht
end
noncomputable def bmV:List Value:=[.type "ValueError",.type "Exception",.type "BaseException",.type "object"]
structure ExC (K:W.Frag)(C:Addr):Prop where
 ex:W.excIn K C bmV "ValueError.__new__"=true
def yy:Value->Shared->Prop:=fun _ _=>False
theorem NI {P:Program}{w:World}{A:Around}{R:Result->Shared->Prop}{s:Shared}{elt tg iter:Expr}{sc:Scope}{pos:Pos}{it acc:Value}{env:Env}(J:Nat->Shared->Prop)
   (turn:∀ n s,J n s->wpAny (model P w) A (pyNext it) (fun r s1=>match r with
     | none=>R (.ok .next) s1
     | some v=>wpAny (model P w) A (letOwnedTupleGo tg it v) (fun _ s2=>wpAny (model P w) A (assign tg env v) (fun _ s3=>wpAny (model P w) A (eval elt env) (fun x s4=>
         wpAny (model P w) A (call (.builtin "list.append") [acc,x]) (fun _ s5=>∃ m,m < n/\J m s5) yy s4) yy s3) yy s2) yy s1) yy s)
   (n:Nat) (h:J n s):codeAny (model P w) A (.compLoop (.ListComp elt [⟨tg,iter,[],0⟩] sc pos) 0 it acc env) R s:=by
 have off:∀ {B:Value->Shared->Prop} (x:Value) (s':Shared),yy x s'->B x s':=fun _ _ z=>z.elim
 refine codeAny_loop rfl J (fun n s hJ=>?_) n h;show wpAny _ A ((compTurn (.ListComp elt [⟨tg,iter,[],0⟩] sc pos) 0 it acc env).onRaise (fun x=>(do noteFrame x env;theTreesLotGoes x))) _ _ s;refine wpAny_noted ?_;rw[compTurn_list1];refine wpAny_bind (wpAny_standAt (wpAny_bind (wpAny_mono (turn n s hJ) (fun r s1 h1=>?_) off)));cases r with
 | none=>exact wpAny_pure h1
 | some v=>
   refine wpAny_bind (wpAny_mono h1 (fun _ s2 h2=>wpAny_bind (wpAny_mono h2 (fun _ s3 h3=>wpAny_bind (wpAny_bind ?_)) off)) off);exact wpAny_mono h3 (fun x s4 h4=>wpAny_bind (wpAny_mono h4 (fun _ s5 h5=>wpAny_pure (wpAny_pure ⟨rfl,h5⟩)) off)) off
noncomputable def Ao (cells:List (Str×Addr)):List (Str×NameKind)->List (Str×Addr)->List (Str×Addr)
 | [],cs=>cs
 | (n,k)::r,cs=>if k == .free then Ao cells r ((n,(cells.lookup n).getD 0)::cs) else Ao cells r cs
noncomputable def mF (sc:Scope)(env:Env):List (Str×Addr):=Ao env.cells sc.names []
theorem Ap {env:Env}:∀ (l:List (Str×NameKind)) (cs:List (Str×Addr)),(∀ y∈l,y.2=.free->∃ c,env.cells.lookup y.1=some c) ->
   (forIn l cs fun(x:Str×NameKind) r=>(if x.2 == .free then (do let c <- cellOf env x.1;pure (ForInStep.yield ((x.1,c)::r))) else pure (ForInStep.yield r):Sem _))=pure (Ao env.cells l cs)
 | [],cs,_=>rfl
 | (n,k)::l,cs,h=>by
   have hr:∀ y∈l,y.2=.free->∃ c,env.cells.lookup y.1=some c:=fun y hy=>h y (aaC _ hy)
   rw[List.forIn_cons,Ao];by_cases hk:(k == NameKind.free)=true
   . obtain⟨c,hc⟩:=h (n,k) abk (by simpa using hk)
     have hc:env.cells.lookup n=some c:=hc;simp only[hk,if_true,cellOf,hc,pure_bind,Option.getD_some];exact Ap l _ hr
   . simp only[hk,if_false,pure_bind]
     exact Ap l _ hr
theorem Aq {sc:Scope}{env:Env}(h:∀ y∈sc.names,y.2=.free->∃ c,env.cells.lookup y.1=some c):closureFor sc env=pure (mF sc env):=by
 unfold closureFor mF;have:=Ap (env:=env) sc.names [] h;simp only[bind_pure];refine Eq.trans ?_ this
 congr 1
theorem sy {cells:List (Str×Addr)}{y:Str}{c:Addr}:∀ (l:List (Str×NameKind)) (cs:List (Str×Addr)),(Ao cells l cs).lookup y=some c->((y,NameKind.free)∈l/\(cells.lookup y).getD 0=c)\/cs.lookup y=some c
 | [],cs,h=>.inr h
 | (n,k)::l,cs,h=>by
   rw[Ao] at h;by_cases hk:(k == NameKind.free)=true
   . rw[if_pos hk] at h
     have Ye:k=.free:=by simpa using hk
     subst Ye;rcases sy l _ h with⟨h1,h2⟩ | h1
     . exact .inl ⟨aaC _ h1,h2⟩
     . rw[abe] at h1
       cases q:(y == n) with
       | true=>
         rw[q] at h1;have e:y=n:=by simpa using q
         subst e;exact .inl ⟨abk,Option.some.inj h1⟩
       | false=>rw[q] at h1;exact .inr h1
   . rw[if_neg hk] at h
     rcases sy l _ h with⟨h1,h2⟩ | h1
     . exact .inl ⟨aaC _ h1,h2⟩
     . exact .inr h1
theorem kX {cells:List (Str×Addr)}{y:Str}:∀ (l:List (Str×NameKind)) (cs:List (Str×Addr)),((y,NameKind.free)∈l\/∃ c,cs.lookup y=some c)->∃ c,(Ao cells l cs).lookup y=some c
 | [],cs,h=>by
   rcases h with h | h
   . cases h
   . exact h
 | (n,k)::l,cs,h=>by
   rw[Ao];by_cases hk:(k == NameKind.free)=true
   . rw[if_pos hk]
     refine kX l _ ?_;rcases h with h | ⟨c,h⟩
     . rcases aaJ.mp h with h | h
       . cases h;exact .inr ⟨_,by rw[abe,show(y == y)=true by simp]⟩
       . exact .inl h
     . refine .inr ?_
       rw[abe];cases q:(y == n) with
       | true=>exact⟨_,rfl⟩
       | false=>exact⟨c,h⟩
   . rw[if_neg hk]
     refine kX l _ ?_;rcases h with h | h
     . rcases aaJ.mp h with h | h
       . cases h;exact absurd rfl hk
       . exact .inl h
     . exact .inr h
theorem gI {env:Env}{y:Str}{k:NameKind}:∀ {names:List (Str×NameKind)},(names.map fun(n,k)=>if (k == NameKind.free && env.scope.kind == .function && env.kindOf n == some .cell) then (n,NameKind.cell) else (n,k)).lookup y=some k->∃ k',(y,k')∈names/\(k=k'\/k'=.free)
 | [],h=>by simp at h
 | (n,kk)::r,h=>by
   rw[aao,abe] at h;by_cases hc:(kk == NameKind.free && env.scope.kind == .function && env.kindOf n == some .cell)=true
   . simp only[hc,if_true] at h
     cases q:(y == n) with
     | true=>
       have e:y=n:=by simpa using q
       subst e;have:kk=.free:=by
         have:=hc;simp at this;exact this.1.1
       exact⟨kk,abk,.inr this⟩
     | false=>
       rw[q] at h;obtain⟨k',h1,h2⟩:=gI h;exact⟨k',aaC _ h1,h2⟩
   . simp only[hc,abE,if_false] at h
     cases q:(y == n) with
     | true=>
       have e:y=n:=by simpa using q
       subst e;rw[q] at h;exact⟨kk,abk,.inl (Option.some.inj h).symm⟩
     | false=>
       rw[q] at h;obtain⟨k',h1,h2⟩:=gI h;exact⟨k',aaC _ h1,h2⟩
theorem og {env:Env}{y:Str}:∀ {names:List (Str×NameKind)},names.lookup y=some .free->(names.map fun(n,k)=>if (k == NameKind.free && env.scope.kind == .function && env.kindOf n == some .cell) then (n,NameKind.cell) else (n,k)).lookup y=some .cell \/
   (names.map fun(n,k)=>if (k == NameKind.free && env.scope.kind == .function && env.kindOf n == some .cell) then (n,NameKind.cell) else (n,k)).lookup y=some .free
 | [],h=>by simp at h
 | (n,kk)::r,h=>by
   rw[aao,abe];rw[abe] at h;cases q:(y == n) with
   | true=>
     rw[q] at h;have:kk=.free:=Option.some.inj h;subst this;by_cases hc:(NameKind.free == NameKind.free && env.scope.kind == .function && env.kindOf n == some .cell)=true
     . left;simp only[hc,if_true];simp[q]
     . right;simp only[hc,abE,if_false];simp[q]
   | false=>
     rw[q] at h;have ih:=og (env:=env) h;by_cases hc:(kk == NameKind.free && env.scope.kind == .function && env.kindOf n == some .cell)=true
     . simp only[hc,if_true,q];exact ih
     . simp only[hc,abE,if_false,q];exact ih
structure iL (X:Cx)(N:List Str)(ix:List Nat)(x:Str)(sc:Scope):Prop where
 nd:N.Nodup
 nm:N=x::ix.map (fun j=>X.N.getD j "")
 kind:sc.kind=.function
 wO:∀ y∈sc.names,y.2≠.cell
 names:∀ y∈sc.names,y.2=.local->sc.names.lookup y.1=some .local
 hx:sc.names.lookup x=some .local
 fr:∀ y∈sc.names,y.2=.free->X.env.kindOf y.1=some .cell\/X.env.kindOf y.1=some .free
 VI:∀ j∈ix,∃ y,X.N[j]?=some y/\sc.names.lookup y=some .free
noncomputable def bj (X:Cx)(N:List Str)(sc:Scope)(C:Addr)(fp:List Addr)(s:Shared)(H:Hp):Cx:=
 { X with N:=N,s₀:=s,H₀:=H,env:=compEnvC sc (mF sc X.env) C X.env,outer:=X.stack,stack:=X.stack,ex:=fp,fn:=fun _=>false,pn:=[],xe:=yy}
noncomputable def frees (ix:List Nat)(st:L2.St):L2.St:=ix.map fun j=>(st[j]?).join
section
variable {X:Cx}{N:List Str}{ix:List Nat}{x:Str}{sc:Scope}{pins:List (Addr×Obj)}{st:L2.St}{H H':Hp}{s s':Shared}{C D:Addr}{fp:List Addr}{h1:Heap}
theorem JT (B:iL X N ix x sc)(ok:X.Ok):closureFor sc X.env=pure (mF sc X.env):=Aq fun y hy hk=>ok.has y.1 (B.fr y hy hk)
theorem wQ (B:iL X N ix x sc)(ok:X.Ok){y:Str}{c:Addr}(h:(mF sc X.env).lookup y=some c):X.env.cells.lookup y=some c/\(y,NameKind.free)∈sc.names:=by
 rcases sy _ _ h with⟨h1,h2⟩ | h1
 . obtain⟨c',h3⟩:=ok.has y (B.fr _ h1 rfl)
   rw[h3] at h2;cases h2;exact⟨h3,h1⟩
 . cases h1
theorem Ar (B:iL X N ix x sc)(I:L2.Inv X pins st H s)(hC:s.heap.objs.size<=C)(hf:∀ b∈fp,mi X pins H b)(di:∀ b∈fp,b < s.heap.objs.size):(bj X N sc C fp s H).Ok where
 mod:=I.ok.mod
 kind:=B.kind
 glob:=I.ok.glob
 blt:=I.ok.blt
 above:=hC
 inj:=fun y z c h1 h2=>I.ok.inj y z c (wQ B I.ok h1).1 (wQ B I.ok h2).1
 has:=fun y hy=>by
   have hy:(relabel sc X.env).names.lookup y=some .cell\/(relabel sc X.env).names.lookup y=some .free:=hy;have:(y,NameKind.free)∈sc.names:=by
     rcases hy with hy | hy
     . obtain⟨k',h1,h2⟩:=gI hy
       rcases h2 with h2 | h2
       . subst h2;exact absurd rfl (B.wO _ h1)
       . subst h2;exact h1
     . obtain⟨k',h1,h2⟩:=gI hy
       rcases h2 with h2 | h2 <;> subst h2 <;> exact h1
   exact kX _ _ (.inl this)
 Uv:=fun y c h=>by cases h
 hd:=I.ok.hd
 frames:=I.ok.frames
 UU:=.inl rfl
 M7:=fun b hb=>⟨aat (aal (di b hb) hC),fun y c h=>(hf b hb).2.2.2.2.1 y c (wQ B I.ok h).1⟩
 bs:=I.bs
 Fn:=aau I.ok.Fn I.sz
 BO:=fun b o e hb=>by
   rcases (hf b hb).2.2.2.1 with z | z
   . exact I.ok.BO b o e z
   . exact absurd (aal (aak e) (aau I.ok.Fn z)) (abA _)
 BP:=fun b hb z=>by
   rcases aaJ.mp (I.wz b z) with z | z
   . exact(hf b hb).2.1 z
   . exact(hf b hb).2.2.1 z
 tK:=I.stack
 Pw:=I.vD
theorem HL (B:iL X N ix x sc)(I:L2.Inv X pins st H s)(hf:∀ b∈fp,mi X pins H b)(di:∀ b∈fp,b < s.heap.objs.size)(hC:C=s.heap.objs.size+1)(k:∀ b o,s.heap.get? b=some o->h1.get? b=some o)(hn:h1.Ns C fun _=>none)(hD:h1.get? s.heap.objs.size=some { cls:=.type "list",data:=.seq ([]:List Value).toArray 0}){t':Nat}:L2.Inv (bj X N sc C fp s H) [] (none::frees ix st) (upd H s.heap.objs.size (.lst [])) { s with heap:=h1,toks:=t'}:=by
 have PN:s.heap.objs.size<=C:=by rw[hC];exact abG _
 have fr:∀ a,s.heap.objs.size<=a->H a=none:=fun a ha=>I.bO.fresh ha
 have ok:=Ar B I PN hf di;have DF:∀ y c,(mF sc X.env).lookup y=some c->H c=none/\c < s.heap.objs.size/\∃ v,s.heap.IsCell c v:=fun y c h=>by
   have h:=(wQ B I.ok h).1;obtain⟨v,q⟩:=I.cell y c h;exact⟨I.qW y c h,q.lt,v,q⟩
 refine⟨ok,rfl,I.bare,Un.laid k (aaa _) (fr _ (aaa _)),⟨_,hn,fun i y v e1 e2 e3=>?_⟩,fun y c h=>?_,?_,fun y c h=>?_,fun p hp=>absurd (show p∈([]:List (Addr×Obj)) from hp) (by simp),?_,?_⟩
 . have e1:N[i]?=some y:=e1
   cases i with
   | zero=>cases e2
   | succ i=>
     rw[B.nm,abD,aab] at e1;rw[abD] at e2;unfold frees at e2;rw[aab] at e2;cases q:ix[i]? with
     | none=>rw[q] at e1;cases e1
     | some j=>
       rw[q] at e1 e2;obtain⟨y',MS,JU⟩:=B.VI j (abQ q);have NJ:=PySem.mem_of_lookup JU;have ey:y=y':=by
         have e1:X.N.getD j ""=y:=Option.some.inj e1;rw[Bn,MS] at e1;exact e1.symm
       subst ey;have e2:(st[j]?).join=some v:=Option.some.inj e2;have PQ:st[j]?=some (some v):=by
         cases q2:st[j]? with
         | none=>rw[q2] at e2;cases e2
         | some z=>rw[q2] at e2;rw[show z=some v from e2]
       have kd:=B.fr _ NJ rfl;have VJ:wu X.env.scope y:=by
         rcases kd with z | z
         . exact .inr (.inl z)
         . exact .inr (.inr z)
       obtain⟨m,_,hl⟩:=I.loc;obtain⟨u,r,l⟩:=hl j y v MS PQ VJ;refine⟨u,r,.inr ?_⟩;rcases l with⟨z,_⟩ | ⟨_,c,hc,ic⟩
       . rcases kd with z' | z' <;> rw[z] at z' <;> cases z'
       . obtain⟨c',DG⟩:=kX (cells:=X.env.cells) sc.names [] (.inl NJ)
         have:=(wQ B I.ok DG).1;rw[hc] at this;cases this;obtain⟨oc,Fq,hd⟩:=ic;refine⟨?_,c,DG,oc,k _ _ Fq,hd⟩;rcases e3 with e3 | e3 | e3
         . have e3:(relabel sc X.env).names.lookup y=some .local:=e3
           rcases og (env:=X.env) JU with z | z
           . exact absurd (e3.symm.trans z) (by decide)
           . exact absurd (e3.symm.trans z) (by decide)
         . exact .inl e3
         . exact .inr e3
 . obtain⟨_,_,v,oc,Fq,hd⟩:=DF y c h
   exact⟨v,oc,k _ _ Fq,hd⟩
 . show upd H s.heap.objs.size (.lst []) C=none
   rw[ai (by rw[hC];exact ab5 _)];exact fr _ PN
 . show upd H s.heap.objs.size (.lst []) c=none
   obtain⟨q1,q2,_⟩:=DF y c h;rw[ai (aat q2)];exact q1
 . exact I.bO.laid k (aaa _) ⟨aa1 _,[],0,.nil,hD⟩
 . show(none::frees ix st).length=N.length
   rw[B.nm];unfold frees;simp
def RH (te:TE)(fs:L2.St)(J:It)(D:Addr)(Q:List V->Hp->Prop)(H:Hp):Prop:=
 ∃ W:Nat->Nat->List V->Hp->Prop,(∃ m,W 0 m [] (upd H D (.lst [])))/\∀ i m ys H1,W i m ys H1 ->
   (J.stop i H1/\Q ys H1)\/(J.go i H1/\ys.length < sizeLine/\∀ v H2,J.Jq i H1 v H2->te (some v::fs) H2 fun y H3=>H3 D=some (.lst ys)/\∃ m',m' < m/\W (i+1) m' (ys ++ [y]) (upd H3 D (.lst (ys ++ [y]))))
theorem FU {elt iter:Expr}{px pos:Pos}{te:TE}{J:It}{it:Addr}{tn:Nat->Heap->Prop}{Q:Addr->List V->Hp->Prop}{RR:Value->Addr->Result->Shared->Prop}{E:Value->Shared->Prop}(hc:X.calm=true)(B:iL X N ix x sc)(jC:∀ C fp s H,PE (bj X N sc C fp s H) elt te)(I:L2.Inv X pins st H s)(T:Turn X.prog X.w X.K (.Name x px) J fp it tn)(h0:tn 0 s.heap)(hf:∀ b∈fp,mi X pins H b)(hq:∀ D,H D=none->RH te (frees ix st) J D (Q D) H)(VL:∀ D C ys H' s',L2.Inv X pins st H' s'->(∃ m,s'.heap.Ns C m)->mi X pins H' C->Q D ys H'->RR (.ref D) C (.ok .next) s'):wpAny (model X.prog X.w) X.A (newList []) (fun acc s3=>wpAny (model X.prog X.w) X.A (newFunctionEnv sc X.env.globals (mF sc X.env) [] X.env.qual none .none (some X.env)) (fun Cj s4=>codeAny (model X.prog X.w) X.A (.compStart (.ListComp elt [⟨.Name x px,iter,[],0⟩] sc pos) 0 (.ref it) acc { Cj with scope:=relabel sc X.env}) (RR acc Cj.locals) s4) E s3) E s:=by
 have di:∀ b∈fp,b < s.heap.objs.size:=fun b hb=>by
   obtain⟨o,e,_⟩:=T.obj _ _ h0 b hb;exact aak e
 refine wpAny_newObj_type (wpAny_newFunctionEnv B.wO (fun y hy=>absurd hy (by simp)) (fun h1 IY D8=>?_) B.kind);dsimp only at IY D8 ⊢;generalize hG:s.heap.push { cls:=.type "list",dict:=none,data:=.seq ([]:List Value).toArray}=g at IY D8 ⊢;have hC:g.objs.size=s.heap.objs.size+1:=by rw[<- hG,abK]
 have Yf:s.heap.objs.size≠g.objs.size:=by rw[hC];exact aat (abN _)
 have old:∀ b o,s.heap.get? b=some o->h1.get? b=some o:=fun b o e=>
   D8.extBut b o (by rw[hC];exact aat (acf (aak e))) (aac _ (hG ▸ aac _ e))
 have JV:h1.get? s.heap.objs.size=some { cls:=.type "list",data:=.seq ([]:List Value).toArray 0}:=D8.extBut _ _ Yf (aac _ (hG ▸ aar _ rfl));have hD:H s.heap.objs.size=none:=I.bO.fresh (aaa _);obtain⟨W,⟨m0,w0⟩,turn⟩:=hq _ hD;have I0:=HL (t':=s.toks+([]:List (Str×Value)).length) B I hf di hC old (by simpa using IY) JV;have FV:tn 0 h1:=T.keep _ _ _ h0 fun b _ o e=>old b o e
 have pK:s.heap.objs.size<=g.objs.size:=by rw[hC];exact abG _
 have rF:∀ {H':Hp},(∀ b∈fp,H' b=none)->∀ b∈fp,mi (bj X N sc g.objs.size fp s H) [] H' b:=fun {H'} hn b hb=>
   ⟨hn b hb,((Ar B I pK hf di).M7 b hb).1,(Ar B I pK hf di).BP b hb,.inl hb,((Ar B I pK hf di).M7 b hb).2,fun p hp=>absurd (show p∈([]:List (Addr×Obj)) from hp) (by simp)⟩
 have hN:(bj X N sc g.objs.size fp s H).N[0]?=some x:=by
   show N[0]?=some x;rw[B.nm];rfl
 have FW:(bj X N sc g.objs.size fp s H).env.scope.names.lookup x=some .local:=lookup_relabel_local B.hx;have loop:∀ s3:Shared,s3={ s with heap:=h1,toks:=s.toks+([]:List (Str×Value)).length} ->
     codeAny (model X.prog X.w) X.A (.compLoop (.ListComp elt [⟨.Name x px,iter,[],0⟩] sc pos) 0 (.ref it) (.ref s.heap.objs.size) (compEnvC sc (mF sc X.env) g.objs.size X.env)) (RR (.ref s.heap.objs.size) g.objs.size) s3:=by
   rintro s3 rfl
   refine NI (fun n s'=>∃ i ys σ H',L2.Inv (bj X N sc g.objs.size fp s H) [] (σ::frees ix st) H' s'/\tn i s'.heap/\(∀ b∈fp,H' b=none)/\W i n ys H') ?_ m0
     ⟨0,[],none,_,I0,FV,fun b hb=>?_,w0⟩
   . rintro n s5 ⟨i,ys,σ,H5,I5,IW,MN,w5⟩
     rcases turn i n ys H5 w5 with⟨stop,qn⟩ | ⟨go,hz,step⟩
     . refine cn (T.done (bj X N sc g.objs.size fp s H) rfl rfl rfl hc i [] s5 _ H5 yy I5 (rF MN) IW stop) fun r s6 ⟨hr,I6⟩=>?_
       subst hr;refine VL _ _ ys H5 s6 ?_ ?_ (I.yu pK I6.free) qn
       . exact I.Jm I6.os I6.base I6.bO I6.bare fun b hb=>⟨(hf b hb).2.2.2.1,(hf b hb).2.1,(hf b hb).2.2.2.2.1,(hf b hb).2.2.2.2.2⟩
       . obtain⟨m,hm,_⟩:=I6.loc
         exact⟨m,hm⟩
     . refine cn (T.item (bj X N sc g.objs.size fp s H) rfl rfl rfl hc i [] s5 _ H5 yy I5 (rF MN) IW go) fun r s6 ⟨u,hr,h6⟩=>?_
       subst hr;refine cn h6 fun _ s7 ⟨v,H7,I7,r7,y7,JW,VM⟩=>?_
       have VN:=I7.pinned (rF VM) (T.obj _ _ JW);refine cn (bo (X:=bj X N sc g.objs.size fp s H) (pos:=px) B.nd hN (.inl FW) (.inr FW) _ s7 _ H7 v u (fun σ' H'=>σ'=some v::frees ix st/\H'=H7) VN r7 ⟨rfl,rfl⟩) fun _ s8 h8=>?_
       obtain⟨σ8,H8,I8,rfl,rfl⟩:=h8;refine cn (jC g.objs.size fp s H _ s8 _ H8 _ I8 (step v H8 y7)) fun z s9 ⟨y,H9,I9,r9,VO,m',hm,w9⟩=>?_
       refine cn (qj _ s9 _ H9 (.ref s.heap.objs.size) [y] (.ref s.heap.objs.size) [z] (fun _ H'=>H'=upd H9 s.heap.objs.size (.lst (ys ++ [y]))) I9 rfl (.cons r9 .nil) ⟨_,ys,y,rfl,rfl,VO,hz,rfl⟩) fun _ s10 VP=>?_
       obtain⟨_,H10,JX,_,rfl⟩:=VP;refine⟨m',hm,i+1,ys ++ [y],some v,_,JX.kT (pins:=[]),T.keep _ _ _ JW fun b hb o e=>(JX.pin (b,o) (aav _ (aav _ (gF hb e)))).1,fun b hb=>?_,w9⟩;obtain⟨o,e,d⟩:=T.obj _ _ JW b hb;exact(JX.pin (b,o) (aav _ (aav _ (gF hb e)))).2.1
   . rw[ai (aat (di b hb))]
     exact(hf b hb).1
 exact codeAny_compStart_list (loop _ rfl) (T.self _ 0 _ _ _ FV (loop _ rfl))
end
def Yg (K:PySem.W.Frag)(G:Gr)(dl:List Slot)(o:Own):TE:=fun st H Q=>∃ Hf,eG K G st Hf H dl/\∀ p aJ H',bB Hf H aJ H'->H p=none->aJ p=none->iJ K aJ H' p o->Q (.ref p) H'
abbrev EO (X:Cx)(G:Gr)(dl:List Slot)(e:Expr)(o:Own):Prop:=PE X e (Yg X.K G dl o)
noncomputable def VQ:Own->Dt
 | .lst ds=>.lst ds
 | .cZ k=>.cZ k
 | .obj C fs=>.obj C fs
 | .Cf _ C fs=>.obj C fs
 | .tW C fs gs nm n=>.zl C fs gs nm n
 | .Ai _ C fs gs nm n=>.zl C fs gs nm n
 | .oe k=>.oe k
section
variable {K:W.Frag}{G:Gr}{st:L2.St}{Hf H aJ H':Hp}{dl:List Slot}{p:Addr}{w:Own}{u:HO}
theorem JY (g:bB Hf H aJ H')(n:H p=none)(n':aJ p=none)(e:H' p=some u):bB Hf H (upd aJ p u) H':=
 ⟨g.big,g.bU.trans (bV n'),fun b o h=>by
   by_cases hb:b=p
   . subst hb;rw[ak] at h;cases h;exact e
   . rw[ai hb] at h;exact g.sub _ _ h,fun a o h=>by
   by_cases hb:a=p
   . subst hb;exact .inr (.inl n)
   . rw[ai hb] at h;exact g.new a o h⟩
theorem FX (r:iJ K Hf H p w)(n:Hf p=none):∃ u,H p=some u/\Rep K (upd Hf p u) (.ref p) (VQ w):=by
 cases w with
 | lst ds=>obtain⟨vs,h,r⟩:=r;exact⟨_,h,.lst ak (r.mono (bV n))⟩
 | cZ ds=>obtain⟨vs,h,r⟩:=r;exact⟨_,h,.cZ ak (r.mono (bV n))⟩
 | obj C ds=>obtain⟨dx,fs,h,r⟩:=r;exact⟨_,h,.obj (.of ak) (r.mono (bV n))⟩
 | Cf x C ds=>obtain⟨_,dx,fs,h,r⟩:=r;exact⟨_,h,.obj (.of ak) (r.mono (bV n))⟩
 | tW C ds gs nm k=>obtain⟨dx,fs,b,ls,q,h,r⟩:=r;exact⟨_,h,.zl q (.of ak) (r.mono (bV n))⟩
 | Ai x C ds gs nm k=>obtain⟨_,dx,fs,b,ls,q,h,r⟩:=r;exact⟨_,h,.zl q (.of ak) (r.mono (bV n))⟩
 | oe ks=>exact⟨_,r,.oe ak⟩
theorem eG.NK (S:eG K G st Hf H dl)(g:bB Hf H aJ H'){i:Nat}(n:H p=none)(n':aJ p=none)(r:iJ K aJ H' p w):eG K G (st.set i (some (.ref p))) aJ H' (dl.set i (.own w)):=by
 have ln:=S.len;have S':=S.grow g;have pn:∀ (j:Nat) (o':Own) (a:Addr),dl[j]?=some (Slot.own o')->st[j]?=some (some (V.ref a))->a≠p:=fun j o' a h1 h2=>by
   obtain⟨b,q1,_,_,q4⟩:=S.own j o' h1;rw[h2] at q1;cases q1;obtain⟨u,hu⟩:=q4.some;exact ax hu n
 refine⟨S'.gr,by simp[S.len],fun j x h=>?_,fun j o' h=>?_,fun j k o1 o2 a h1 h2 h3 h4=>?_⟩
 . by_cases e:i=j
   . subst e
     by_cases hl:i < dl.length
     . rw[aaf hl] at h;cases h
     . rw[aaG (by simp;omega)] at h;cases h
   . rw[aag e] at h ⊢;exact S'.val j x h
 . by_cases e:i=j
   . subst e
     by_cases hl:i < dl.length
     . rw[aaf hl] at h;cases h
       exact⟨p,aaf (by omega),n',S.gr.big.free n,r⟩
     . rw[aaG (by simp;omega)] at h;cases h
   . rw[aag e] at h ⊢
     exact S'.own j o' h
 . by_cases ej:i=j
   . by_cases ek:i=k
     . omega
     . subst ej
       rw[aag ek] at h2 h4;by_cases hl:i < st.length
       . rw[aaf hl] at h3;cases h3
         exact absurd rfl (pn k o2 _ h2 h4)
       . rw[aaG (by simp;omega)] at h3;cases h3
   . rw[aag ej] at h1 h3
     by_cases ek:i=k
     . subst ek
       by_cases hl:i < st.length
       . rw[aaf hl] at h4;cases h4
         exact absurd rfl (pn j o1 _ h1 h3)
       . rw[aaG (by simp;omega)] at h4;cases h4
     . rw[aag ek] at h2 h4
       exact S.HG j k o1 o2 a h1 h2 h3 h4
theorem eG.bU (S:eG K G st Hf H dl){i:Nat}(hd:dl[i]?=some (.own w)):∃ aJ,aI Hf aJ/\eG K G st aJ H (dl.set i (.val (VQ w))):=by
 have ln:=S.len;obtain⟨p,h1,h2,h3,h4⟩:=S.own i w hd;obtain⟨u,hu,rp⟩:=FX h4 h2;have hl:i < dl.length:=(aae.mp hd).1;have sm:aI Hf (upd Hf p u):=bV h2;refine⟨upd Hf p u,sm,⟨S.gr.big,S.gr.bU.trans sm,fun b o h=>?_,fun a o h=>?_⟩,by simp[S.len],fun j x h=>?_,fun j o' h=>?_,fun j k o1 o2 a q1 q2 q3 q4=>?_⟩
 . by_cases hb:b=p
   . subst hb;rw[ak] at h;cases h;exact hu
   . rw[ai hb] at h;exact S.gr.sub _ _ h
 . by_cases hb:a=p
   . subst hb;exact .inr (.inl h3)
   . rw[ai hb] at h;exact S.gr.new a o h
 . by_cases e:i=j
   . subst e
     rw[aaf hl] at h;cases h;exact⟨_,h1,rp⟩
   . rw[aag e] at h
     obtain⟨v,z1,z2⟩:=S.val j x h;exact⟨v,z1,z2.mono sm⟩
 . by_cases e:i=j
   . subst e;rw[aaf hl] at h;cases h
   . rw[aag e] at h
     obtain⟨a,z1,z2,z3,z4⟩:=S.own j o' h;have ne:a≠p:=fun q=>by subst q;exact e (S.HG i j _ _ _ hd h h1 z1)
     exact⟨a,z1,by rw[ai ne];exact z2,z3,z4.grow rfl sm⟩
 . have tr:∀ (j:Nat) o',(dl.set i (.val (VQ w)))[j]?=some (.own o')->dl[j]?=some (.own o'):=fun j o' h=>by
     by_cases e:i=j
     . subst e;rw[aaf hl] at h;cases h
     . rw[aag e] at h;exact h
   exact S.HG j k _ _ a (tr _ _ q1) (tr _ _ q2) q3 q4
end
section
variable {X:Cx}{G:Gr}{E:XK}{dl:List Slot}{a b e:Expr}{i:Int}{d:Dt}{ds:List Dt}{pos p:Pos}{o:Out}{x:Str}{u v:Bool}{sts:List Stmt}{C:Addr}{w:Own}{fs:List (Str×Dt)}
theorem Ck (h:EO X G dl e w):EE X G dl e (VQ w):=iK h fun st H Q zq=>ZL zq fun Hf zq=>have S:=zq.1;have k:=zq.2;⟨Hf,S,fun p aJ H' g n n' r=>by
 obtain⟨u,hu,rp⟩:=FX r n';exact k _ _ H' (JY g n n' hu) rp⟩
theorem mL (h:EO X G dl e (.lst ds)):EE X G dl e (.lst ds):=Ck h
theorem VR (h:EO X G dl e (.obj C fs)):EE X G dl e (.obj C fs):=Ck h
theorem wR {w':Own}(h:EO X G dl e w)(q:w=w'):EO X G dl e w':=by subst q;exact h
theorem iU (n:Nat){x:Str}{pos':Pos}(hN:X.N.Nodup)(he:EO X G dl e w)(hi:autoParam (X.N[n]?=some x) jp)(hx:autoParam (Loc X.env.scope x) xz)(hs:autoParam (swapsWith e (some (.Name x pos')) pos.line X.env=pure false) jp)(hf:autoParam (X.fn x=true\/X.env.scope.names.lookup x=some .local) wf):ES X G E dl (.Assign [.Name x pos'] e pos) (.nx (dl.set n (.own w))):=
 tH (DP hN hi hx he hs hf) fun D st H zq=>ZL zq fun Hf zq=>have S:=zq.1;have k:=zq.2;⟨Hf,S,fun p Hf1 H1 g1 n1 n2 r1=>k _ Hf1 H1 g1.bU (S.NK g1 n1 n2 r1)⟩
theorem jD (h:EO X G dl e w):ES X G E dl (.Return (some e) pos) (.ro w):=tH (DO h) fun D st H zq=>ZL zq fun Hf zq=>have S:=zq.1;have k:=zq.2;⟨Hf,S,fun p Hf1 H1 g1 n1 n2 r1=>k p Hf1 H1 (S.gr.trans g1) (S.gr.big.free n1) n2 r1⟩
theorem FY (n:Nat)(hd:autoParam (dl[n]?=some (.own w)) jp)(hN:autoParam (X.N[n]?=some x) jp)(hv:autoParam (wu X.env.scope x) xL)(hb:autoParam ((x == ("__debug__":Str))=false) zn)(nz:autoParam ((x == ("__classdict__":Str))=false) zn):ES X G E dl (.Return (some (.Name x p)) pos) (.ro w):=
 tH (DO (ke hN hv hb nz)) fun D st H zq=>ZL zq fun Hf zq=>have S:=zq.1;have k:=zq.2;by
   obtain⟨q,h1,h2,h3,h4⟩:=S.own n w hd;exact⟨_,h1,k q Hf H S.gr h3 h2 h4⟩
theorem rG (i:Nat)(h:nH X G E (dl.set i (.val (VQ w))) sts o)(hd:autoParam (dl[i]?=some (.own w)) jp):nH X G E dl sts o:=Aj h fun D st H zq=>ZL zq fun Hf zq=>have S:=zq.1;have k:=zq.2;by
 obtain⟨aJ,sm,S'⟩:=S.bU hd;exact⟨aJ,S',k.mono sm⟩
def tOv (K:W.Frag)(G:Gr)(dl:List Slot)(n:Nat)(w:Own):TE:=fun st H Q=>∃ Hf a,eG K G st Hf H dl/\st[n]?=some (some (.ref a))/\Hf a=none/\iJ K Hf H a w/\Q (.ref a) H
theorem wU (n:Nat)(hd:dl[n]?=some (.own w))(hN:X.N[n]?=some x)(hv:wu X.env.scope x)(hb:(x == ("__debug__":Str))=false)(nz:(x == ("__classdict__":Str))=false):PE X (.Name x p) (tOv X.K G dl n w):=
 iK (ke hN hv hb nz) fun st H Q ⟨Hf,a,S,h1,_,_,q⟩=>⟨_,h1,q⟩
theorem t8 (n:Nat)(hb:EE X G dl b (.int i))(h:qi ds i=some d)(hd:autoParam (dl[n]?=some (.own (.lst ds))) jp)(hN:autoParam (X.N[n]?=some x) jp)(hv:autoParam (wu X.env.scope x) xL)(mI:autoParam ((x == ("__debug__":Str))=false) zn)(nz:autoParam ((x == ("__classdict__":Str))=false) zn)(hs:autoParam (lD b) wl):EE X G dl (.Subscript (.Name x p) b pos) d:=
 iK (wH Ab (wU (p:=p) n hd hN hv mI nz) hb hs) fun st H Q zq=>ZL zq fun Hf zq=>have S:=zq.1;have k:=zq.2;by
   obtain⟨q,h1,h2,h3,h4⟩:=S.own n _ hd;refine⟨Hf,q,S,h1,h2,h4,Hf,S,fun z Hf1 H1 g1 r1=>?_⟩;cases r1;obtain⟨vs,hq,rp⟩:=h4;obtain⟨v,hv1,hv2⟩:=rp.qi h;exact⟨q,vs,i,v,rfl,rfl,.of (g1.big _ _ hq),hv1,k v Hf1 H1 g1 (hv2.mono g1.bU)⟩
theorem nI (n:Nat){m:Nat}{ps pn:Pos}(he:EE X G dl e d)(hb:EE X G dl b (.int i))(h:DY ds.length i=some m)(hd:autoParam (dl[n]?=some (.own (.lst ds))) jp)(hN:autoParam (X.N[n]?=some x) jp)
   (hv:autoParam (wu X.env.scope x) xL) (mI:autoParam ((x == ("__debug__":Str))=false) zn) (nz:autoParam ((x == ("__classdict__":Str))=false) zn)
   (ha:autoParam (∀ v,assign (.Subscript (.Name x pn) b ps) X.env v=(do
     let ov <- holding [v] (eval (.Name x pn) X.env);let iv <- holding [v,ov] (eval b X.env)
     standAt ps
     holding [v,ov,iv] (setItem ov iv v)
     release [v,ov,iv] [])) v6)
   (hs:autoParam (swapsWithSole [.Subscript (.Name x pn) b ps] e pos.line X.env=pure false) jp) (hw:autoParam (swappedStores [.Subscript (.Name x pn) b ps] e X.env=pure none) jp)
   (h1:autoParam ((assignEach [.Subscript (.Name x pn) b ps] X.env).map (·.2)=[assign (.Subscript (.Name x pn) b ps) X.env]) jp) :
   ES X G E dl (.Assign [.Subscript (.Name x pn) b ps] e pos) (.nx (dl.set n (.own (.lst (ds.set m d))))):=
 tH (z6 he (QX (wU (p:=pn) n hd hN hv mI nz) hb set_list ha) hs hw h1) fun D st H zq=>ZL zq fun Hf zq=>have S:=zq.1;have k:=zq.2;⟨Hf,S,fun v Hf1 H1 g1 r1=>by
   have S1:=S.grow g1;obtain⟨q,z1,z2,z3,z4⟩:=S1.own n _ hd;refine⟨Hf1,q,S1,z1,z2,z4,Hf1,S1,fun iv b6 H2 g2 r2=>?_⟩;cases r2;have S2:=S1.grow g2;obtain⟨q',y1,y2,y3,vs,hq,rp⟩:=S2.own n _ hd;rw[z1] at y1;cases y1;refine⟨q,vs,i,m,rfl,rfl,hq,by rw[rp.length];exact h,?_⟩;exact k st b6 _ (g1.bU.trans g2.bU) (S2.HH hd z1 ⟨_,ak,rp.set (r1.mono g2.bU) m⟩)⟩
end
section
variable {X:Cx}{G:Gr}{E:XK}{dl:List Slot}{a b e:Expr}{es:List Expr}{i j:Int}{d d1 d2:Dt}{ds:List Dt}{pos p apos bR:Pos}{x:Str}{v:Bool}{s:Stmt}
theorem rH (h:EA X G dl es ds)(hl:autoParam (ds.length<=sizeLine) zn):EO X G dl (.List es pos) (.lst ds):=
 iK (wG h) fun st H Q zq=>ZL zq fun Hf zq=>have S:=zq.1;have k:=zq.2;⟨Hf,S,fun vs Hf1 H1 g1 r1=>⟨by rw[r1.length];exact hl,fun p hp=>k p Hf1 _ (g1.trans (.fF g1.sub hp)) (g1.big.free hp) (g1.sub.free hp) ⟨vs,ak,r1⟩⟩⟩
theorem VS {op:Operator}{r:R2}(ho:qf X (binaryOp op) r)(ha:EE X G dl a d1)(hb:EE X G dl b d2)(h:∀ v z Hf H Q,aI Hf H->Rep X.K Hf v d1->Rep X.K Hf z d2->(∀ p vs,H p=none->bJ X.K Hf vs ds->Q (.ref p) (upd H p (.lst vs)))->r v z H Q):EO X G dl (.BinOp a op b pos) (.lst ds):=
 iK (PB ho ha hb) fun st H Q zq=>ZL zq fun Hf zq=>have S:=zq.1;have k:=zq.2;⟨Hf,S,fun v Hf1 H1 g1 r1=>⟨Hf1,S.grow g1,fun z b6 H2 g2 r2=>h v z b6 H2 Q g2.sub (r1.mono g2.bU) r2 fun p vs hp rv=>
   k p b6 _ ((g1.trans g2).trans (.fF g2.sub hp)) ((g1.trans g2).big.free hp) (g2.sub.free hp) ⟨vs,ak,rv⟩⟩⟩
theorem Cm {K:W.Frag}{H:Hp}{vs:List V}{ds:List Dt}(r:bJ K H vs ds):∀ n:Nat,bJ K H (aaj n vs).flatten (aaj n ds).flatten
 | 0=>.nil
 | n+1=>by
   rw[abM,abM,abC,abC];exact r.append (Cm r n)
theorem JZ (ha:EE X G dl a (.lst ds))(hb:EE X G dl b (.int i))(h1:-(2 ^ 63)<=i)(h2:i < 2 ^ 63)(hl:ds.length * i.toNat<=sizeLine):EO X G dl (.BinOp a .Mult b pos) (.lst (aaj i.toNat ds).flatten):=
 VS Rn ha hb fun v z Hf H Q s r1 r2 k=>by
   cases r1 with
   | lst q1 r1=>cases r2;exact⟨_,i,_,rfl,rfl,s _ _ q1,h1,h2,by rw[r1.length];exact hl,fun p hp=>k p _ hp (Cm r1 _)⟩
theorem NL (hm:X.mg "list"=none)(ha:EE X G dl a (.lst ds))(hg:autoParam (Gl X "list") jp)(he:autoParam (starEach [a] X.env=[(false,eval a X.env)]) jp):EO X G dl (.Call (.Name "list" p) [a] [] pos) (.lst ds):=
 iK (nE Ae hg hm boot_list (ae ha ah he) (he:=he)) fun st H Q zq=>ZL zq fun Hf zq=>have S:=zq.1;have k:=zq.2;⟨Hf,S,fun vs Hf1 H1 g1 r1=>by
   cases r1 with
   | cons r t=>cases t;cases r with
     | @lst q vs _ z r=>exact⟨q,vs,rfl,.inl (.of (g1.sub _ _ z)),fun l hl=>k l Hf1 _ (g1.trans (.fF g1.sub hl)) (g1.big.free hl) (g1.sub.free hl) ⟨vs,ak,r⟩⟩⟩
theorem HM:bootBuiltins "max"=some (.builtin "max"):=by decide +kernel
theorem HN:bootBuiltins "min"=some (.builtin "min"):=by decide +kernel
theorem RI (hm:X.mg "max"=none)(hc:X.calm=true)(ha:EA X G dl [a,b] [.int i,.int j])(hg:autoParam (Gl X "max") jp)(he:autoParam (starEach [a,b] X.env=(false,eval a X.env)::starEach [b] X.env) jp)(qX:autoParam ((backTo pos (starEach [b] X.env)).any (·.1)=false) jp) :
   EE X G dl (.Call (.Name "max" p) [a,b] [] pos) (.int (if j > i then j else i)):=
 iK (gG (Hq hc) hg hm HM ha (by decide) (by decide) he qX) fun st H Q zq=>ZL zq fun Hf zq=>have S:=zq.1;have k:=zq.2;⟨Hf,S,fun vs Hf1 H1 g1 r1=>by
   cases r1 with
   | cons r1 t1=>cases t1 with
     | cons r2 t2=>cases t2;cases r1;cases r2;exact⟨i,j,rfl,k _ Hf1 H1 g1 (.int _)⟩⟩
theorem RJ (hm:X.mg "min"=none)(hc:X.calm=true)(ha:EA X G dl [a,b] [.int i,.int j])(hg:autoParam (Gl X "min") jp)(he:autoParam (starEach [a,b] X.env=(false,eval a X.env)::starEach [b] X.env) jp)(qX:autoParam ((backTo pos (starEach [b] X.env)).any (·.1)=false) jp) :
   EE X G dl (.Call (.Name "min" p) [a,b] [] pos) (.int (if j < i then j else i)):=
 iK (gG (Hr hc) hg hm HN ha (by decide) (by decide) he qX) fun st H Q zq=>ZL zq fun Hf zq=>have S:=zq.1;have k:=zq.2;⟨Hf,S,fun vs Hf1 H1 g1 r1=>by
   cases r1 with
   | cons r1 t1=>cases t1 with
     | cons r2 t2=>cases t2;cases r1;cases r2;exact⟨i,j,rfl,k _ Hf1 H1 g1 (.int _)⟩⟩
theorem t9 (n:Nat){pn:Pos}(he:EE X G dl e d)(hl:ds.length < sizeLine)(hd:autoParam (dl[n]?=some (.own (.lst ds))) jp)(hN:autoParam (X.N[n]?=some x) jp)(hv:autoParam (wu X.env.scope x) xL)
   (mI:autoParam ((x == ("__debug__":Str))=false) zn) (nz:autoParam ((x == ("__classdict__":Str))=false) zn)
   (jx:autoParam (attributeBase (.Name x pn) "append" X.env (eval (.Name x pn) X.env)=eval (.Name x pn) X.env) jp)
   (tS:autoParam (((backTo bR (starEach [e] X.env)).all (fun x=>!x.1) && (backToKw bR (keywordEach [] X.env)).all (fun x=>x.1.isSome) && decide ([e].length+([]:List Keyword).length+(if ([]:List Keyword).isEmpty then 0 else 1) < 30))=true) jp)
   (jy:autoParam ((apos.endLine == bR.line)=true) jp) (ny:autoParam (starEach [e] X.env=(false,eval e X.env)::starEach [] X.env) jp) (hs:autoParam (swapsWith (.Call (.Attribute (.Name x pn) "append" apos) [e] [] bR) none pos.line X.env=pure false) jp) :
   ES X G E dl (.Expr (.Call (.Attribute (.Name x pn) "append" apos) [e] [] bR) pos) (.nx (dl.set n (.own (.lst (ds ++ [d]))))):=
 tH (mG (uP PySem.F.plainAttrs_list PySem.F.slot_list_append PySem.F.type_list_append qj (wU (p:=pn) n hd hN hv mI nz) (ae he ah ny) jx tS jy ny rfl) hs) fun D st H zq=>ZL zq fun Hf zq=>have S:=zq.1;have k:=zq.2;by
   obtain⟨q,z1,z2,z3,vs,hq,rp⟩:=S.own n _ hd;refine⟨Hf,q,S,z1,z2,⟨vs,hq,rp⟩,.inl ⟨rfl,vs,.of hq⟩,Hf,S,fun us Hf1 H1 g1 r1=>?_⟩;cases r1 with
   | cons r1 t1=>
     cases t1;refine⟨q,vs,_,rfl,rfl,g1.big _ _ hq,by rw[rp.length];exact hl,?_⟩;exact k st Hf1 _ g1.bU ((S.grow g1).HH hd z1 ⟨_,ak,(rp.mono g1.bU).append (.cons r1 .nil)⟩)
theorem ql {K:W.Frag}{H:Hp}:∀ {vs:List V} {xs:List Str},bJ K H vs (xs.map Dt.str)->vs=xs.map V.str
 | _,[],.nil=>rfl
 | _,x::xs,.cons r t=>by cases r;rw[ql t];rfl
end
noncomputable def Cn:Option Slot->Slot
 | some (.val d)=>.val d
 | _=>.aS
theorem zp {o:Option Slot}{w:Own}(h:Cn o=.own w):False:=by
 unfold Cn at h
 split at h <;> cases h
theorem zr {o:Option Slot}{d:Dt}(h:Cn o=.val d):o=some (.val d):=by
 unfold Cn at h
 split at h
 . cases h;rfl
 . cases h
noncomputable def j9 (dl:List Slot)(ix:List Nat):List Slot:=ix.map fun j=>Cn dl[j]?
section
variable {K:W.Frag}{G:Gr}{st:L2.St}{Hf H Hf1 H1:Hp}{dl:List Slot}{ix:List Nat}
theorem NM (S:eG K G st Hf H dl)(s1:aI Hf Hf1)(sb:aI Hf1 H1){v:V}{d:Dt}(r:Rep K Hf1 v d):eG K ⟨Hf1,H1⟩ (some v::frees ix st) Hf1 H1 (.val d::j9 dl ix):=by
 have no:∀ (i:Nat) o,(Slot.val d::j9 dl ix)[i]?≠some (.own o):=fun i o h=>by
   cases i with
   | zero=>cases h
   | succ i=>
     rw[abD] at h;unfold j9 at h;rw[aab] at h;cases q:ix[i]? with
     | none=>rw[q] at h;cases h
     | some j=>
       rw[q] at h;exact zp (Option.some.inj h)
 refine⟨.refl sb,by simp[frees,j9],fun i x h=>?_,fun i o h=>absurd h (no i o),fun i j o o' a h=>absurd h (no i o)⟩;cases i with
 | zero=>cases h;exact⟨v,rfl,r⟩
 | succ i=>
   rw[abD] at h ⊢;unfold j9 at h;unfold frees;rw[aab] at h ⊢;cases q:ix[i]? with
   | none=>rw[q] at h;cases h
   | some j=>
     rw[q] at h;have hd:=zr (Option.some.inj h);obtain⟨v',z1,z2⟩:=S.val j x hd;exact⟨v',by rw[Option.map_some,z1];rfl,z2.mono s1⟩
end
section
variable {X:Cx}{G:Gr}{E:XK}{dl:List Slot}{a b elt iter:Expr}{i j:Int}{ys:List Dt}{zs:Nat->Dt}{pos p px py sA:Pos}{o:Out}{x y:Str}{N:List Str}{ix:List Nat}{sc:Scope}{n:Nat}
def J0 (X:Cx)(N:List Str)(sc:Scope)(dl:List Slot)(ix:List Nat)(elt:Expr)(n:Nat)(zs:Nat->Dt)(ys:List Dt):Prop:=
 ∀ k,k < n->∀ C fp s H G',EE (bj X N sc C fp s H) G' (.val (zs k)::j9 dl ix) elt (ys.getD k .dk)
def RK (K:W.Frag)(dl:List Slot)(ix:List Nat)(n:Nat)(zs:Nat->Dt)(ys:List Dt):TE:=fun st H Q=>∃ k G',k < n/\tD K G' (.val (zs k)::j9 dl ix) (ys.getD k .dk) st H Q
theorem J1 (h:J0 X N sc dl ix elt n zs ys):∀ C fp s H,PE (bj X N sc C fp s H) elt (RK X.K dl ix n zs ys):=fun C fp s H pins s' st H' Q I ⟨k,G',hk,q⟩=>h k hk C fp s H G' pins s' st H' Q I q
theorem J2 {st:L2.St}{Hf H:Hp}{J:It}{Q:VK}(S:eG X.K G st Hf H dl)(UB:ys.length=n)(hn:n<=sizeLine)(go:∀ Hf1 H1,bB Hf H Hf1 H1->∀ i,(i < n->J.go i H1/\∀ v H2,J.Jq i H1 v H2->H2=H1/\Rep X.K Hf1 v (zs i))/\(i=n->J.stop i H1))(k:∀ p aJ H',bB Hf H aJ H'->H p=none->aJ p=none->iJ X.K aJ H' p (.lst ys)->Q (.ref p) H'):∀ D,H D=none->RH (RK X.K dl ix n zs ys) (frees ix st) J D (fun _ H'=>Q (.ref D) H') H:=by
 intro D hD;refine⟨fun i m vs H1=>m=n - i/\i<=n/\∃ Hf1,bB Hf H Hf1 H1/\Hf1 D=none/\H1 D=some (.lst vs)/\bJ X.K Hf1 vs (ys.take i),⟨n,rfl,aa1 _,Hf,.fF S.sub hD,S.sub.free hD,ak,.nil⟩,?_⟩
 rintro i m vs H1 ⟨rfl,hi,Hf1,g1,VT,UC,rp⟩
 have hlen:=rp.length;rw[aas] at hlen;by_cases di:i < n
 . obtain⟨VU,hy⟩:=(go Hf1 H1 g1 i).1 di
   refine .inr ⟨VU,by omega,fun v H2 y=>?_⟩;obtain⟨e,rv⟩:=hy v H2 y;subst e;refine⟨i,⟨Hf1,H2⟩,di,Hf1,NM S g1.bU g1.sub rv,fun z b6 H3 g2 r2=>?_⟩;have hD3:H3 D=some (.lst vs):=g2.big _ _ UC;have hD4:b6 D=none:=by
     cases q:b6 D with
     | none=>rfl
     | some u=>
       obtain⟨o,z⟩:=g2.Ah UC (fun z=>z) q;rw[VT] at z;cases z
   have g:=g1.trans g2;refine⟨hD3,n - (i+1),by omega,rfl,di,b6,⟨fun a o h=>?_,g.bU,fun a o h=>?_,g.new⟩,hD4,ak,?_⟩
   . rw[ai (ax h hD)];exact g.big _ _ h
   . rw[ai (ax h hD4)];exact g2.sub _ _ h
   . have:ys.take (i+1)=ys.take i ++ [ys.getD i .dk]:=by
       rw[aby,Bn,k3 (by omega)];rfl
     rw[this];exact(rp.mono g2.bU).append (.cons r2 .nil)
 . have e:i=n:=by omega
   subst e;refine .inl ⟨(go Hf1 H1 g1 i).2 rfl,k D Hf1 H1 g1 hD VT ⟨vs,UC,?_⟩⟩;rw[abT (by omega)] at rp;exact rp
def Zt (wi:TI)(ix:List Nat)(te:TE):TE:=fun st H Q=>wi st H fun J H1=>∀ D,H1 D=none->RH te (frees ix st) J D (fun _ H'=>Q (.ref D) H') H1
theorem VV {wi:TI}{te:TE}(hc:X.calm=true)(B:iL X N ix x sc)(hi:PI X (.Name x px) iter wi)(jC:∀ C fp s H,PE (bj X N sc C fp s H) elt te)(hs:∀ z,foldedSetIterable iter X.env z=pure z):PE X (.ListComp elt [⟨.Name x px,iter,[],0⟩] sc pos) (Zt wi ix te):=by
 intro pins s st H Q I h;rw[eval_ListComp];refine wpAny_comprehension_free (use:=none) rfl hs (JT B I.ok) B.kind B.names (cn (hi pins s st H _ I h) fun v s1 h1=>cn h1 fun Pz s2 h2=>?_);obtain⟨it,fp,tn,J,H2,e,I2,T,Fu,f2,hq⟩:=h2;subst e;refine FU (RR:=fun acc C=>compPost (model X.prog X.w) X.A X.xe none (EP X pins st Q) acc C) hc B jC I2 T Fu f2 hq ?_;intro D C ws H' s' I' ⟨m,hn⟩ nJ q;exact⟨m,hn,fun h' J3=>⟨.ref D,H',I'.turned (t':=s'.toks) (it:=C) (fun b o hb e=>(J3.2 b hb).trans e) nJ.1 nJ.2.1 nJ.2.2.2.1 nJ.2.2.2.2.1 nJ.2.2.2.2.2,rfl,q⟩⟩
theorem VW {wi:TI}{te:TE}{nN:Nat}(hc:X.calm=true)(B:iL X N ix x sc)(hi:PI X (.Name x px) iter wi)(jC:∀ C fp s H,PE (bj X N sc C fp s H) elt te)(hs:∀ z,foldedSetIterable iter X.env z=pure z)(J4:swapsWith (.ListComp elt [⟨.Name x px,iter,[],0⟩] sc pos) (some (.Name y py)) sA.line X.env=pure true)(hN:X.N.Nodup)(hy:X.N[nN]?=some y)(hl:Loc X.env.scope y)(hf:X.fn y=true\/X.env.scope.names.lookup y=some .local):PS X (.Assign [.Name y py] (.ListComp elt [⟨.Name x px,iter,[],0⟩] sc pos) sA) (fun D st H=>Zt wi ix te st H fun v H'=>D.nx (st.set nN (some v)) H'):=by
 intro pins s st H D0 I h;rw[exec_Assign_Name_used _ _ _ _ J4];refine wpAny_bind (wpAny_standAt (wpAny_bind ?_));show wpAny _ X.A (do let _ <- comprehension (.ListComp elt [⟨.Name x px,iter,[],0⟩] sc pos) sc X.env _ (newList []) false (eval iter X.env) (some (assign (.Name y py) X.env))) _ _ s;refine wpAny_bind (wpAny_mono (wpAny_comprehension_free (use:=some (assign (.Name y py) X.env)) (Q:=fun _ s'=>SP X pins D0 .next s') rfl hs (JT B I.ok) B.kind B.names (cn (hi pins s st H _ I h) fun v s1 h1=>cn h1 fun Pz s2 h2=>?_)) (fun _ s' hq=>wpAny_pure (wpAny_pure hq)) fun _ _ z=>z);obtain⟨it,fp,tn,J,H2,e,I2,T,Fu,f2,hq⟩:=h2;subst e;refine FU (RR:=fun acc C=>compPost (model X.prog X.w) X.A X.xe (some (assign (.Name y py) X.env)) (fun _ s'=>SP X pins D0 .next s') acc C) hc B jC I2 T Fu f2 hq ?_;intro D C ws H' s' I' ⟨m,hn⟩ nJ q;refine wpAny_assign_Name (qe I' hN hy hl (v:=.ref D) rfl (fun Nn VX ⟨ad,D8,ha⟩=>?_) hf);have ne:C≠ad:=by
   rcases ha with z | z
   . rw[z];exact nJ.2.1
   . exact Ne.symm (nJ.2.2.2.2.1 _ _ z)
 exact⟨m,hn.sameBut D8 ne,fun h' J3=>⟨_,H',VX.turned (t':=Nn.toks) (it:=C) (fun b o hb e=>(J3.2 b hb).trans e) nJ.1 nJ.2.1 nJ.2.2.2.1 nJ.2.2.2.2.1 nJ.2.2.2.2.2,q⟩⟩
def J5 (X:Cx)(G:Gr)(dl:List Slot)(n:Nat)(zs:Nat->Dt)(wi:TI):Prop:=∀ st H (R:It->Hp->Prop),(∃ Hf,eG X.K G st Hf H dl/\∀ J J6 H0,bB Hf H J6 H0 ->
 (∀ Hf1 H1,bB J6 H0 Hf1 H1->∀ i,(i < n->J.go i H1/\∀ v H2,J.Jq i H1 v H2->H2=H1/\Rep X.K Hf1 v (zs i))/\(i=n->J.stop i H1))->R J H0)->wi st H R
theorem wV (hn:-(2 ^ 62)<=j/\j < 2 ^ 62):J5 X G dl j.toNat (fun k=>.int k) (Jt (UA X.K G dl [.int j])):=fun st H R zq=>ZL zq fun Hf zq=>have S:=zq.1;have k:=zq.2;⟨Hf,S,fun vs Hf1 H1 g1 r1=>by
 cases r1 with
 | cons r t=>
   cases t;cases r;refine⟨j,rfl,hn.1,hn.2,k _ Hf1 H1 g1 fun b6 H2 g2 i=>⟨fun hi=>⟨hi,fun v H3 hy=>?_⟩,fun hi=>by rw[hi];exact aaa _⟩⟩;obtain⟨e1,e2⟩:=hy;subst e2;rw[Int.zero_add];exact⟨e1,.int _⟩⟩
theorem Co {wi:TI}(hs:J5 X G dl n zs wi)(UB:ys.length=n)(hn:n<=sizeLine):∀ st H Q,Yg X.K G dl (.lst ys) st H Q->Zt wi ix (RK X.K dl ix n zs ys) st H Q:=fun st H Q zq=>ZL zq fun Hf zq=>have S:=zq.1;have k:=zq.2;
 hs st H _ ⟨Hf,S,fun J J6 H0 g0 src=>J2 (S.grow g0) UB hn src fun p aJ H' g n1 n2 r=>k p aJ H' (g0.trans g) (g0.big.free n1) n2 r⟩
theorem VY {wi:TI}(hc:X.calm=true)(B:iL X N ix x sc)(hi:PI X (.Name x px) iter wi)(ua:J5 X G dl n zs wi)(jC:J0 X N sc dl ix elt n zs ys)(UB:ys.length=n)(hn:n<=sizeLine)(hs:autoParam (∀ z,foldedSetIterable iter X.env z=pure z) v6):EO X G dl (.ListComp elt [⟨.Name x px,iter,[],0⟩] sc pos) (.lst ys):=iK (VV hc B hi (J1 jC) hs) (Co ua UB hn)
theorem PR (nN:Nat){wi:TI}(hc:X.calm=true)(hN:X.N.Nodup)(B:iL X N ix x sc)(hi:PI X (.Name x px) iter wi)(ua:J5 X G dl n zs wi)(jC:J0 X N sc dl ix elt n zs ys)(UB:ys.length=n)(hn:n<=sizeLine)(hs:autoParam (∀ z,foldedSetIterable iter X.env z=pure z) v6)(J4:autoParam (swapsWith (.ListComp elt [⟨.Name x px,iter,[],0⟩] sc pos) (some (.Name y py)) sA.line X.env=pure true) jp)(hy:autoParam (X.N[nN]?=some y) jp)(hl:autoParam (Loc X.env.scope y) xz)(hf:autoParam (X.fn y=true\/X.env.scope.names.lookup y=some .local) wf):ES X G E dl (.Assign [.Name y py] (.ListComp elt [⟨.Name x px,iter,[],0⟩] sc pos) sA) (.nx (dl.set nN (.own (.lst ys)))):=
 tH (VW hc B hi (J1 jC) hs J4 hN hy hl hf) fun D st H zq=>ZL zq fun Hf zq=>have S:=zq.1;have k:=zq.2;Co ua UB hn st H _ ⟨Hf,S,fun p aJ H' g n1 n2 r=>k _ aJ H' g.bU (S.NK g n1 n2 r)⟩
end
theorem D9 {α:Type}{us:List α}{d:α}(h:(us ++ [d]).length=2):∃ a,us=[a]:=by
 match us,h with
 | [a],_=>exact⟨a,rfl⟩
 | [],h=>simp at h
 | _::_::r,h=>simp at h
theorem As {α:Type}{us:List α}(h:(us ++ []).length=2):∃ a b,us=[a,b]:=by
 rw[abx] at h
 match us,h with
 | [a,b],_=>exact⟨a,b,rfl⟩
structure Cp (K:W.Frag)(x qual:Str)(st:Stmt)(f:Addr)(fd:FuncData):Prop where
 ex:∃ (oc:Value) (od:Option Addr) (dV kV doc pm:Value) (an:Option Addr) (aZ ct:Value) (zg:Array (Option Value)),
   fd=W.fnOf x qual (cv st) (aC st) (af st) dV kV doc pm an aZ ct/\K.lookup f=some ⟨oc,od,.func fd,zg⟩/\W.codeIn K aZ qual=true
theorem sC {K:W.Frag}{x qual:Str}{st:Stmt}{f:Addr}{oc:Value}{od an:Option Addr}{zg:Array (Option Value)}{dV kV doc pm aZ ct:Value}(l:K.lookup f=some ⟨oc,od,.func (W.fnOf x qual (cv st) (aC st) (af st) dV kV doc pm an aZ ct),zg⟩)(c:W.codeIn K aZ qual=true):Cp K x qual st f (W.fnOf x qual (cv st) (aC st) (af st) dV kV doc pm an aZ ct):=⟨⟨oc,od,dV,kV,doc,pm,an,aZ,ct,zg,rfl,l,c⟩⟩
section
variable {P:Program}{w:World}{K:W.Frag}{mg:Str->Option Value}{base:Heap}{CX:tR}{x qual:Str}{st:Stmt}{f:Addr}{fd:FuncData}{N ps:List Str}{k n:Nat}
theorem Yh {R:List Dt->Res->Prop}(F:Cp K x qual st f fd)(S:ar N ps (af st))(hn:ps.length=n)(se:∀ (aZ:Value) (A:Around) (outer:List Env) (s:Shared) (H:Hp) (E:XK) (G:Gr) (ds:List Dt) (r:Res),fA k (A.deeper (envOfC qual (af st) s.heap.objs.size f aZ))->ds.length=n->R ds r->∃ o,Comes o r/\nH (B0 CX P w K mg base N qual (af st) f aZ A outer s H E) G E (slots N ds) (aC st) o):kW P w K mg base CX (k+1) f fd ps (FQ K n R):=by
 obtain⟨oc,od,dV,kV,doc,pm,an,aZ,ct,zg,rfl,lk,nz⟩:=F.ex;refine JA lk nz S (fun vs H Q E ⟨Hf,ds,r,s,rp,hl,_⟩=>by rw[rp.length,hl,hn]) fun A outer s H vs Q E hr ⟨Hf,ds,r,sm,rp,hl,hR,hk⟩=>?_
 obtain⟨o,hc,hb⟩:=se aZ A outer s H E ⟨Hf,H⟩ ds r hr hl hR;exact⟨_,hb,Hf,zo sm rp,hc.ends hk⟩
def Zu (K:W.Frag)(C:Addr)(Hf H:Hp)(x:Addr)(Q:VK)(E:XK):Res->Prop
 | .own w=>((∃ fs,w=.obj C fs)\/∃ fs gs nm n,w=.tW C fs gs nm n)/\∀ aJ H',bB Hf H aJ H'->aJ x=none->iJ K aJ H' x w->Q .dk H'
 | .exc c fs=>∀ od aJ H',bB Hf H aJ H'->ExcAt K aJ od fs->E c od H'
 | .ret _=>False
def spI (K:W.Frag)(C:Addr)(n:Nat)(R:List Dt->Res->Prop):Sp:=fun vs H Q E=>∃ Hf H1 x dx args ds r,vs=.ref x::args/\H=upd H1 x (.ins C dx [])/\H1 x=none/\aI Hf H1/\bJ K Hf args ds/\ds.length+1=n/\R ds r/\Zu K C Hf H1 x Q E r
inductive Au (C x:Addr):Out->Res->Prop
 | nx {dl:List Slot} {fs:List (Str×Dt)} (h:dl[0]?=some (.own (.Cf x C fs))):Au C x (.nx dl) (.own (.obj C fs))
 | ex (c:Value) (fs:List (Str×Dt)):Au C x (.ex c fs) (.exc c fs)
 | Zv {dl:List Slot} {fs:List (Str×Dt)} {gs:List (Nat->List (Key×FD))} {nm:List Str} {n:Nat} (h:dl[0]?=some (.own (.Ai x C fs gs nm n))):Au C x (.nx dl) (.own (.tW C fs gs nm n))
noncomputable def ub (N:List Str)(x C:Addr)(ds:List Dt):List Slot:=.own (.Cf x C [])::(ds.map Slot.val ++ aaj (N.length - (ds.length+1)) .aS)
theorem Ea {Hf H:Hp}{vs:List V}{ds:List Dt}{x dx C:Addr}(s:aI Hf H)(n:H x=none)(r:bJ K Hf vs ds):eG K ⟨Hf,H⟩ (start N (.ref x::vs)) Hf (upd H x (.ins C dx [])) (ub N x C ds):=by
 have hl:=r.length;have es:start N (V.ref x::vs)=some (.ref x)::(vs.map some ++ aaj (N.length - (vs.length+1)) none):=by
   unfold L2.start;simp
 have zY:∀ (i:Nat) o,(ub N x C ds)[i+1]?≠some (.own o):=fun i o h=>by
   unfold ub at h;rw[abD] at h;by_cases hi:i < ds.length
   . rw[aay (by simpa using hi),aab] at h
     cases e:ds[i]? with
     | none=>rw[e] at h;cases h
     | some a=>rw[e] at h;cases h
   . rw[aaE (by simpa using hi),abq] at h
     split at h <;> cases h
 rw[es];refine⟨.fF s n,?_,fun i d h=>?_,fun i o h=>?_,fun i j o o' a h h' _ _=>?_⟩
 . unfold ub
   simp[hl]
 . cases i with
   | zero=>cases h
   | succ i=>
     unfold ub at h;rw[abD] at h ⊢;by_cases hi:i < ds.length
     . rw[aay (by simpa using hi),aab] at h
       cases e:ds[i]? with
       | none=>rw[e] at h;cases h
       | some a=>
         rw[e] at h;cases h;obtain⟨v,h1,h2⟩:=r.get e;refine⟨v,?_,h2⟩;rw[aay (by simp;omega),aab,h1];rfl
     . rw[aaE (by simpa using hi),abq] at h
       split at h <;> cases h
 . cases i with
   | zero=>
     cases h;exact⟨x,rfl,s.free n,n,rfl,dx,[],ak,.nil⟩
   | succ i=>exact absurd h (zY i o)
 . cases i with
   | zero=>cases j with
     | zero=>rfl
     | succ j=>exact absurd h' (zY j _)
   | succ i=>exact absurd h (zY i _)
theorem Yi {C:Addr}{R:List Dt->Res->Prop}(F:Cp K x qual st f fd)(S:ar N ps (af st))(hn:ps.length=n)(se:∀ (aZ:Value) (A:Around) (outer:List Env) (s:Shared) (H:Hp) (E:XK) (G:Gr) (z:Addr) (ds:List Dt) (r:Res),fA k (A.deeper (envOfC qual (af st) s.heap.objs.size f aZ))->ds.length+1=n->R ds r->∃ o,Au C z o r/\nH (B0 CX P w K mg base N qual (af st) f aZ A outer s H E) G E (ub N z C ds) (aC st) o):kW P w K mg base CX (k+1) f fd ps (spI K C n R):=by
 obtain⟨oc,od,dV,kV,doc,pm,an,aZ,ct,zg,rfl,lk,nz⟩:=F.ex;refine JA lk nz S (fun vs H Q E ⟨Hf,H1,z,dx,args,ds,r,e,_,_,_,rp,hl,_⟩=>by rw[e,aaI,rp.length,hl,hn]) fun A outer s H vs Q E hr ⟨Hf,H1,z,dx,args,ds,r,e1,e2,hz,sm,rp,hl,hR,hk⟩=>?_
 subst e1 e2;obtain⟨o,hc,hb⟩:=se aZ A outer s _ E ⟨Hf,H1⟩ z ds r hr hl hR;refine⟨_,hb,Hf,Ea sm hz rp,?_⟩;cases hc with
 | nx h=>
   obtain⟨_,kk⟩:=hk;intro kA aJ H' s' S';obtain⟨a,_,q2,_,q4⟩:=S'.own 0 _ h;obtain⟨rfl,dx',fs',q5,q6⟩:=q4;exact kk aJ H' S'.gr q2 ⟨dx',fs',q5,q6⟩
 | Zv h=>
   obtain⟨_,kk⟩:=hk;intro kA aJ H' s' S';obtain⟨a,_,q2,_,q4⟩:=S'.own 0 _ h;obtain⟨rfl,q5⟩:=q4;exact kk aJ H' S'.gr q2 q5
 | ex c fs=>exact hk
end
noncomputable def putD (f:Str)(v:Dt):List (Str×Dt)->List (Str×Dt)
 | []=>[(f,v)]
 | (g,x)::r=>if g=f then (g,v)::r else (g,x)::putD f v r
theorem br.put {K:W.Frag}{H:Hp}{f:Str}{v:V}{d:Dt}(q:Rep K H v d):∀ {vs:List (Str×V)} {ds:List (Str×Dt)},br K H vs ds->br K H (fY f v vs) (putD f d ds)
 | _,_,.nil=>.cons q .nil
 | (k,x)::vs,(_,y)::ds,.cons h r=>by
   unfold fY putD;by_cases e:k=f
   . rw[if_pos e,if_pos e];exact .cons q r
   . rw[if_neg e,if_neg e];exact .cons h (br.put q r)
section
variable {X:Cx}{G:Gr}{E:XK}{dl:List Slot}{e c:Expr}{es:List Expr}{d:Dt}{ds:List Dt}{pos p apos:Pos}{x m:Str}{C z:Addr}{fs:List (Str×Dt)}{CX:tR}{k k' n:Nat}{R:List Dt->Res->Prop}{ob:Expr}{wo:Own}{dvs:List Dt}{body:List Stmt}
theorem k9 {fn:Str}{pn:Pos}(he:EE X G dl e d)(cl:vF X.K C)(na:bQ X.K C fn)(hd:autoParam (dl[0]?=some (.own (.Cf z C fs))) jp)(hl:autoParam (Nat.ble fs.length 999=true) jp)(hN:autoParam (X.N[0]?=some x) jp)(hv:autoParam (wu X.env.scope x) xL)(mI:autoParam ((x == ("__debug__":Str))=false) zn)(nz:autoParam ((x == ("__classdict__":Str))=false) zn)(hs:autoParam (swapsWith e (some (.Attribute (.Name x pn) fn apos)) pos.line X.env=pure false) jp):ES X G E dl (.Assign [.Attribute (.Name x pn) fn apos] e pos) (.nx (dl.set 0 (.own (.Cf z C (putD fn d fs))))):=
 tH (wD (wU (p:=pn) 0 hd hN hv mI nz) he hs) fun D st H zq=>ZL zq fun Hf zq=>have S:=zq.1;have k:=zq.2;⟨Hf,S,fun v Hf1 H1 g1 r1=>by
   have S1:=S.grow g1;obtain⟨a,q1,q2,q3,q4⟩:=S1.own 0 _ hd;obtain⟨e1,dx,fv,q5,q6⟩:=id q4;refine⟨Hf1,a,S1,q1,q2,q4,a,C,dx,fv,rfl,q5,cl,na,by rw[q6.length];exact Nat.lt_succ_of_le (aaW hl),?_⟩;exact k st Hf1 _ g1.bU (S1.HH hd q1 ⟨e1,dx,_,ak,q6.put r1⟩)⟩
structure UD (P:Program)(w:World)(K:W.Frag)(mg:Str->Option Value)(base:Heap)(CX:tR)(k:Nat)(x:Str)(C:Addr)(n:Nat)(R:List Dt->Res->Prop):Prop where
 ex:∃ f fd ps,kW P w K mg base CX k f fd ps (spI K C n R)/\L2.Mk K C f/\mg x=some (.ref C)/\Binds K fd ps []
theorem vH (F:UD X.prog X.w X.K X.mg X.base CX k x C n R)(nx:DI CX)(hr:fA k' X.A)(ha:EA X G dl (e::es) ds)(h:R ds (.own (.obj C fs)))(An:autoParam (k+1<=k') zn)(hl:autoParam (ds.length+1=n) jp)(hg:autoParam (Gl X x) jp)(mI:autoParam ((x == ("__debug__":Str))=false) zn)(he:autoParam (starEach (e::es) X.env=(false,eval e X.env)::starEach es X.env) jp)(qX:autoParam ((backTo pos (starEach es X.env)).any (·.1)=false) jp):EO X G dl (.Call (.Name x p) (e::es) [] pos) (.obj C fs):=by
 obtain⟨f,fd,ps,Fo,M,hm,hb⟩:=F.ex;refine iK (FA (E:=E0) M Fo (hr.mono An) hg hm hb .nil nx.passes ha mI he qX) fun st H Q zq=>ZL zq fun Hf zq=>have S:=zq.1;have kk:=zq.2;⟨Hf,S,fun vs Hf1 H1 g1 r1 y dx hy VZ ne=>?_⟩
 have Vs:(upd H1 dx (.own y)) y=none:=by rw[ai (Ne.symm ne)];exact hy
 have g2:bB Hf1 H1 Hf1 (upd H1 dx (.own y)):=.fF g1.sub VZ;refine⟨Hf1,upd H1 dx (.own y),y,dx,vs ++ [],ds,.own (.obj C fs),rfl,rfl,Vs,g2.sub,by rw[abx];exact r1,hl,h,.inl ⟨fs,rfl⟩,fun aJ H' g n1 r=>⟨rfl,?_⟩⟩;exact kk y aJ H' ((g1.trans g2).trans g) (g1.big.free hy) n1 r
theorem Cq {gs:List (Nat->List (Key×FD))}{nm:List Str}{j:Nat}(F:UD X.prog X.w X.K X.mg X.base CX k x C n R)(nx:DI CX)(hr:fA k' X.A)(ha:EA X G dl (e::es) ds)(h:R ds (.own (.tW C fs gs nm j)))(An:autoParam (k+1<=k') zn)(hl:autoParam (ds.length+1=n) jp)(hg:autoParam (Gl X x) jp)(mI:autoParam ((x == ("__debug__":Str))=false) zn)(he:autoParam (starEach (e::es) X.env=(false,eval e X.env)::starEach es X.env) jp)(qX:autoParam ((backTo pos (starEach es X.env)).any (·.1)=false) jp):EO X G dl (.Call (.Name x p) (e::es) [] pos) (.tW C fs gs nm j):=by
 obtain⟨f,fd,ps,Fo,M,hm,hb⟩:=F.ex;refine iK (FA (E:=E0) M Fo (hr.mono An) hg hm hb .nil nx.passes ha mI he qX) fun st H Q zq=>ZL zq fun Hf zq=>have S:=zq.1;have kk:=zq.2;⟨Hf,S,fun vs Hf1 H1 g1 r1 y dx hy VZ ne=>?_⟩
 have Vs:(upd H1 dx (.own y)) y=none:=by rw[ai (Ne.symm ne)];exact hy
 have g2:bB Hf1 H1 Hf1 (upd H1 dx (.own y)):=.fF g1.sub VZ;refine⟨Hf1,upd H1 dx (.own y),y,dx,vs ++ [],ds,.own (.tW C fs gs nm j),rfl,rfl,Vs,g2.sub,by rw[abx];exact r1,hl,h,.inr ⟨fs,gs,nm,j,rfl⟩,fun aJ H' g n1 r=>⟨rfl,?_⟩⟩;exact kk y aJ H' ((g1.trans g2).trans g) (g1.big.free hy) n1 r
theorem pL (F:GF X.prog X.w X.K X.mg X.base CX k x n R)(nx:DI CX)(hr:fA k' X.A)(ha:EA X G dl (e::es) ds)(h:R ds (.own wo))(An:autoParam (k<=k') zn)(hl:autoParam (ds.length=n) jp)(hg:autoParam (Gl X x) jp)(mI:autoParam ((x == ("__debug__":Str))=false) zn)(he:autoParam (starEach (e::es) X.env=(false,eval e X.env)::starEach es X.env) jp)(qX:autoParam ((backTo pos (starEach es X.env)).any (·.1)=false) jp):EO X G dl (.Call (.Name x p) (e::es) [] pos) wo:=by
 obtain⟨f,fd,ps,F,hm,hk,hb⟩:=F.ex;exact iK (Fx (E:=E0) F (hr.mono An) hg hm hk hb .nil nx.passes ha mI he qX) fun st H Q zq=>ZL zq fun Hf zq=>have S:=zq.1;have k:=zq.2;⟨Hf,S,fun vs Hf1 H1 g1 r1=>⟨Hf1,ds,.own wo,g1.sub,by rw[abx];exact r1,hl,h,fun p b6 H2 g2 n1 n2 r2=>k p b6 H2 (g1.trans g2) (g1.big.free n1) n2 r2⟩⟩
structure Ja (P:Program)(w:World)(K:W.Frag)(mg:Str->Option Value)(base:Heap)(CX:tR)(k:Nat)(C:Addr)(m:Str)(n:Nat)(dvs:List Dt)(R:List Dt->Res->Prop):Prop where
 cl:vF K C
 ex:∃ f fd ps HJ vds,kW P w K mg base CX k f fd ps (FQ K n R)/\Meth K C m f/\Binds K fd ps HJ/\Vals vds HJ/\∀ H,bJ K H vds dvs
theorem Cr {P:Program}{w:World}{K:W.Frag}{mg:Str->Option Value}{base:Heap}(F:MF P w K mg base CX k C m n R):Ja P w K mg base CX k C m n [] R:=by
 obtain⟨f,fd,ps,Fo,hm,hb⟩:=F.ex;exact⟨F.cl,f,fd,ps,[],[],Fo,hm,hb,.nil,fun _=>.nil⟩
theorem q8 {pl:Sem Bool}(he:EE X G dl ob (.obj C fs))(F:Ja X.prog X.w X.K X.mg X.base CX k C m n dvs R)(nx:DI CX)(hr:fA k' X.A)(ha:EA X G dl (e::es) ds)(h:R (.obj C fs::(ds ++ dvs)) (.own wo))(An:autoParam (k<=k') zn)(hl:autoParam ((Dt.obj C fs::(ds ++ dvs)).length=n) jp)(uT:autoParam (fs.lookup m=none) jp)
   (ny:autoParam (starEach (e::es) X.env=(false,eval e X.env)::starEach es X.env) jp) (qX:autoParam ((backTo pos (starEach es X.env)).any (·.1)=false) jp)
   (ht:autoParam (eval (.Call (.Attribute ob m apos) (e::es) [] pos) X.env=(do
     let ov <- eval ob X.env
     standAt apos.atName
     let (f,first) <- holding [ov] (getMethod ov m pl)
     callWith pos f first (backTo pos (starEach (e::es) X.env)) (backToKw pos (keywordEach [] X.env)))) jp):EO X G dl (.Call (.Attribute ob m apos) (e::es) [] pos) wo:=by
 obtain⟨f,fd,ps,HJ,vds,Fo,hm,hb,hd,D6⟩:=F.ex;exact iK (Fy (pl:=pl) (E:=E0) he F.cl hm Fo (hr.mono An) hb hd nx.passes ha ny qX ht) fun st H Q zq=>ZL zq fun Hf zq=>have S:=zq.1;have k:=zq.2;⟨Hf,S,fun v Hf1 H1 g1 r1=>by
   cases r1 with
   | @obj a _ dx fv _ q r=>
     exact⟨a,dx,fv,rfl,jA g1.sub q,r.none_of uT,Hf1,S.grow g1,fun vs b6 H2 g2 r2=>⟨b6,_,.own wo,g2.sub,.cons (.obj (jA g2.bU q) (r.mono g2.bU)) (r2.append (D6 _)),hl,h,fun p j6 H3 g3 n1 n2 r3=>k p j6 H3 ((g1.trans g2).trans g3) ((g1.trans g2).big.free n1) n2 r3⟩⟩⟩
theorem J7 {pl:Sem Bool}(he:EE X G dl ob (.obj C fs))(F:Ja X.prog X.w X.K X.mg X.base CX k C m n dvs R)(nx:DI CX)(hr:fA k' X.A)(h:R (.obj C fs::dvs) (.own wo))(An:autoParam (k<=k') zn)(hl:autoParam ((Dt.obj C fs::dvs).length=n) jp)(uT:autoParam (fs.lookup m=none) jp)
   (ht:autoParam (eval (.Call (.Attribute ob m apos) [] [] pos) X.env=(do
     let ov <- eval ob X.env
     standAt apos.atName
     let (f,first) <- holding [ov] (getMethod ov m pl)
     callWith pos f first (backTo pos (starEach [] X.env)) (backToKw pos (keywordEach [] X.env)))) jp):EO X G dl (.Call (.Attribute ob m apos) [] [] pos) wo:=by
 obtain⟨f,fd,ps,HJ,vds,Fo,hm,hb,hd,D6⟩:=F.ex;exact iK (BZ (pl:=pl) (E:=E0) he F.cl hm Fo (hr.mono An) hb hd nx.passes ht) fun st H Q zq=>ZL zq fun Hf zq=>have S:=zq.1;have k:=zq.2;⟨Hf,S,fun v Hf1 H1 g1 r1=>by
   cases r1 with
   | @obj a _ dx fv _ q r=>
     exact⟨a,dx,fv,rfl,jA g1.sub q,r.none_of uT,Hf1,_,.own wo,g1.sub,.cons (.obj q r) (D6 _),hl,h,fun p j6 H3 g3 n1 n2 r3=>k p j6 H3 (g1.trans g3) (g1.big.free n1) n2 r3⟩⟩
theorem Eb {pl:Sem Bool}(he:EE X G dl ob (.obj C fs))(F:Ja X.prog X.w X.K X.mg X.base CX k C m n dvs R)(nx:DI CX)(hr:fA k' X.A)(ha:EA X G dl (e::es) ds)(h:R (.obj C fs::(ds ++ dvs)) (.ret d))(An:autoParam (k<=k') zn)(hl:autoParam ((Dt.obj C fs::(ds ++ dvs)).length=n) jp)(uT:autoParam (fs.lookup m=none) jp)
   (ny:autoParam (starEach (e::es) X.env=(false,eval e X.env)::starEach es X.env) jp) (qX:autoParam ((backTo pos (starEach es X.env)).any (·.1)=false) jp)
   (ht:autoParam (eval (.Call (.Attribute ob m apos) (e::es) [] pos) X.env=(do
     let ov <- eval ob X.env
     standAt apos.atName
     let (f,first) <- holding [ov] (getMethod ov m pl)
     callWith pos f first (backTo pos (starEach (e::es) X.env)) (backToKw pos (keywordEach [] X.env)))) jp):EE X G dl (.Call (.Attribute ob m apos) (e::es) [] pos) d:=by
 obtain⟨f,fd,ps,HJ,vds,Fo,hm,hb,hd,D6⟩:=F.ex;exact FR (pl:=pl) he F.cl hm Fo nx (hr.mono An) hb hd D6 ha hl h uT ny qX ht
theorem FZ {pl:Sem Bool}(he:EE X G dl ob (.obj C fs))(F:Ja X.prog X.w X.K X.mg X.base CX k C m n dvs R)(nx:DI CX)(hr:fA k' X.A)(h:R (.obj C fs::dvs) (.ret d))(An:autoParam (k<=k') zn)(hl:autoParam ((Dt.obj C fs::dvs).length=n) jp)(uT:autoParam (fs.lookup m=none) jp)
   (ht:autoParam (eval (.Call (.Attribute ob m apos) [] [] pos) X.env=(do
     let ov <- eval ob X.env
     standAt apos.atName
     let (f,first) <- holding [ov] (getMethod ov m pl)
     callWith pos f first (backTo pos (starEach [] X.env)) (backToKw pos (keywordEach [] X.env)))) jp):EE X G dl (.Call (.Attribute ob m apos) [] [] pos) d:=by
 obtain⟨f,fd,ps,HJ,vds,Fo,hm,hb,hd,D6⟩:=F.ex;exact Cg (pl:=pl) he F.cl hm Fo nx (hr.mono An) hb hd D6 hl h uT ht
def V0 (X:Cx)(G:Gr)(c:Expr):TT:=fun st H Q=>∃ dl b,EB X G dl c b/\VD X.K G dl b st H Q
theorem NN:PT X c (V0 X G c):=fun pins s st H Q I ⟨dl,b,h,q⟩=>h pins s st H Q I q
theorem Cs (S:Nat->List Slot)(n:Nat)(hp:PassesOwn (model X.prog X.w) X.A X.env X.xe)(h0:Le (S 0) dl)(hc:∀ k,k < n->EB X G (S k) c true)(hn:EB X G (S n) c false)(hb:∀ k,k < n->Goes X G E body (S k) (S (k+1))):ES X G E dl (.While c body [] pos) (.nx (S n)):=by
 refine tH (BV hp (NN (G:=G)) (sv (G:=G) (E:=E))) fun D st H ⟨Hf,S0,k⟩=>?_
 refine⟨fun m st H=>∃ i,m=n - i/\i<=n/\∃ Hf1,aI Hf Hf1/\eG X.K G st Hf1 H (S i),⟨n,0,rfl,aa1 _,Hf,aI.refl _,S0.weak h0⟩,?_⟩
 rintro m Yj H1 ⟨i,rfl,hi,Hf1,s1,S1⟩
 by_cases di:i < n
 . refine⟨S i,true,hc i di,Hf1,S1,fun b6 H2 g2=>Ce ⟨fun kA H'=>∃ j6,aI Hf j6/\eG X.K G kA j6 H' (S (i+1)),fun kA H' h'=>⟨n - (i+1),by omega,i+1,rfl,di,h'⟩,?_⟩⟩
   exact qk (hb i di) (S1.grow g2) (fun X6 j6 H3 s3 S3=>⟨j6,(s1.trans g2.bU).trans s3,S3⟩) (fun X6 j6 H3 s3 S3=>⟨j6,(s1.trans g2.bU).trans s3,S3⟩)
 . have e:i=n:=by omega
   subst e;exact⟨S i,false,hn,Hf1,S1,fun b6 H2 g2=>Cd (k _ b6 H2 (s1.trans g2.bU) (S1.grow g2))⟩
end
noncomputable def wW (sc Ct:Scope)(XN N:List Str)(ix:List Nat)(x:Str):Bool:=
 decide N.Nodup && (decide (N=x::ix.map (fun j=>XN.getD j "")) && (decide (sc.kind=.function) && (sc.names.all (fun y=>decide (y.2≠.cell)) && (sc.names.all (fun y=>decide (y.2=.local->sc.names.lookup y.1=some .local)) && (decide (sc.names.lookup x=some .local) &&
   (sc.names.all (fun y=>decide (y.2=.free->Ct.names.lookup y.1=some .cell\/Ct.names.lookup y.1=some .free)) && ix.all (fun j=>decide (sc.names.lookup (XN.getD j "")=some .free) && decide (j < XN.length))))))))
theorem Ec {X:Cx}{sc Ct:Scope}{XN N:List Str}{ix:List Nat}{x:Str}(h:wW sc Ct XN N ix x=true)(e1:autoParam (X.env.scope=Ct) jp)(e2:autoParam (X.N=XN) jp):iL X N ix x sc:=by
 subst e1 e2;unfold wW at h;simp only[aa9,acm,decide_eq_true_eq] at h;obtain⟨h1,h2,h3,h4,h5,h6,h7,h8⟩:=h;refine⟨h1,h2,h3,h4,h5,h6,h7,fun j hj=>?_⟩;obtain⟨q1,q2⟩:=h8 j hj;refine⟨X.N.getD j "",?_,q1⟩;rw[Bn,k3 q2];rfl
noncomputable def eLc:Expr->Scope
 | .ListComp _ _ sc _=>sc
 | .Call _ (.ListComp _ _ sc _::_) _ _=>sc
 | _=>{ kind:=.function,names:=[],isGenerator:=false,isCoroutine:=false}
noncomputable def PU:Stmt->Scope
 | .Assign _ e _=>eLc e
 | .Return (some e) _=>eLc e
 | _=>{ kind:=.function,names:=[],isGenerator:=false,isCoroutine:=false}
theorem wX (k:Str):∀ xs:List Str,Vq (.str k) (xs.map V.str)=decide (k∈xs)
 | []=>by simp[Vq]
 | x::xs=>by
   have ih:=wX k xs;unfold Vq at ih ⊢;rw[aao,ab8,ih];by_cases e:x=k
   . subst e;simp[MQ]
   . have:¬ (k=x):=fun z=>e z.symm
     simp[MQ,e,this]
theorem zt (xs:List Str):(xs.map V.str).all sh=true:=by
 induction xs with
 | nil=>rfl
 | cons x xs ih=>rw[aao,acn,ih];rfl
section
variable {X:Cx}{G:Gr}{dl:List Slot}{a b:Expr}{pos:Pos}{k:Str}{xs:List Str}
theorem PV {neg:Bool}:FN X.K (X8 X.K neg) (.str k) (.tup (xs.map .str)) (.bl (if neg then !decide (k∈xs) else decide (k∈xs))):=fun v w Hf H Q s r1 r2 kk=>by
 cases r1;cases r2 with
 | @tup q vs _ hq rp=>
   have ev:=ql rp;subst ev;refine⟨q,_,rfl,.inr (f6 s hq),rfl,zt xs,?_⟩;rw[wX];exact kk _ Hf H (.refl s) (.bl _)
theorem Ed (ha:EE X G dl a (.str k))(hb:EE X G dl b (.tup (xs.map .str)))(hm:autoParam (behindInMarks .In b=false) jp):EB X G dl (.Compare a [.In] [b] pos) (decide (k∈xs)):=k8 zh (PV (neg:=false)) hm ha hb
theorem F0 (ha:EE X G dl a (.str k))(hb:EE X G dl b (.tup (xs.map .str)))(hm:autoParam (behindInMarks .NotIn b=false) jp):EB X G dl (.Compare a [.NotIn] [b] pos) (!decide (k∈xs)):=k8 sj (PV (neg:=true)) hm ha hb
end
theorem Cu {P:Program}{w:World}{A:Around}{R:Result->Shared->Prop}{s:Shared}{elt tg iter:Expr}{ifs:List Expr}{sc:Scope}{pos:Pos}{it acc:Value}{env:Env}(J:Nat->Shared->Prop)
   (turn:∀ n s,J n s->wpAny (model P w) A (pyNext it) (fun r s1=>match r with
     | none=>R (.ok .next) s1
     | some v=>wpAny (model P w) A (letOwnedTupleGo tg it v) (fun _ s2=>wpAny (model P w) A (assign tg env v) (fun _ s3=>
         wpAny (model P w) A (forIn ifs true fun c r=>if r=true then do let ok <- isTrue c env (eval c env);pure (ForInStep.yield ok) else pure (ForInStep.yield r)) (fun ok Zw=>
         if ok=true then wpAny (model P w) A (eval elt env) (fun x s4=>wpAny (model P w) A (call (.builtin "list.append") [acc,x]) (fun _ s5=>∃ m,m < n/\J m s5) yy s4) yy Zw
         else ∃ m,m < n/\J m Zw) yy s3) yy s2) yy s1) yy s)
   (n:Nat) (h:J n s):codeAny (model P w) A (.compLoop (.ListComp elt [⟨tg,iter,ifs,0⟩] sc pos) 0 it acc env) R s:=by
 have off:∀ {B:Value->Shared->Prop} (x:Value) (s':Shared),yy x s'->B x s':=fun _ _ z=>z.elim
 refine codeAny_loop rfl J (fun n s hJ=>?_) n h;show wpAny _ A ((compTurn (.ListComp elt [⟨tg,iter,ifs,0⟩] sc pos) 0 it acc env).onRaise (fun x=>(do noteFrame x env;theTreesLotGoes x))) _ _ s;refine wpAny_noted ?_;rw[compTurn_list];refine wpAny_bind (wpAny_standAt (wpAny_bind (wpAny_mono (turn n s hJ) (fun r s1 h1=>?_) off)));cases r with
 | none=>exact wpAny_pure h1
 | some v=>
   refine wpAny_bind (wpAny_mono h1 (fun _ s2 h2=>wpAny_bind (wpAny_mono h2 (fun _ s3 h3=>wpAny_bind (wpAny_mono h3 (fun ok Zw h3'=>?_) off)) off)) off);cases ok with
   | false=>exact wpAny_pure ⟨rfl,h3'⟩
   | true=>exact wpAny_bind (wpAny_bind (wpAny_mono h3' (fun x s4 h4=>wpAny_bind (wpAny_mono h4 (fun _ s5 h5=>wpAny_pure (wpAny_pure ⟨rfl,h5⟩)) off)) off))
structure vf (X:Cx)(N tn:List Str)(ix:List Nat)(sc:Scope):Prop where
 nd:N.Nodup
 nm:N=tn ++ ix.map (fun j=>X.N.getD j "")
 kind:sc.kind=.function
 wO:∀ y∈sc.names,y.2≠.cell
 names:∀ y∈sc.names,y.2=.local->sc.names.lookup y.1=some .local
 hx:∀ x∈tn,sc.names.lookup x=some .local
 fr:∀ y∈sc.names,y.2=.free->X.env.kindOf y.1=some .cell\/X.env.kindOf y.1=some .free
 VI:∀ j∈ix,∃ y,X.N[j]?=some y/\sc.names.lookup y=some .free
section
variable {X:Cx}{N tn:List Str}{ix:List Nat}{sc:Scope}{pins:List (Addr×Obj)}{st:L2.St}{H H':Hp}{s s':Shared}{C D:Addr}{fp:List Addr}{h1:Heap}
theorem F1 (B:vf X N tn ix sc)(ok:X.Ok):closureFor sc X.env=pure (mF sc X.env):=Aq fun y hy hk=>ok.has y.1 (B.fr y hy hk)
theorem sD (B:vf X N tn ix sc)(ok:X.Ok){y:Str}{c:Addr}(h:(mF sc X.env).lookup y=some c):X.env.cells.lookup y=some c/\(y,NameKind.free)∈sc.names:=by
 rcases sy _ _ h with⟨h1,h2⟩ | h1
 . obtain⟨c',h3⟩:=ok.has y (B.fr _ h1 rfl)
   rw[h3] at h2;cases h2;exact⟨h3,h1⟩
 . cases h1
theorem vI (B:vf X N tn ix sc)(I:L2.Inv X pins st H s)(hC:s.heap.objs.size<=C)(hf:∀ b∈fp,mi X pins H b)(di:∀ b∈fp,b < s.heap.objs.size):(bj X N sc C fp s H).Ok where
 mod:=I.ok.mod
 kind:=B.kind
 glob:=I.ok.glob
 blt:=I.ok.blt
 above:=hC
 inj:=fun y z c h1 h2=>I.ok.inj y z c (sD B I.ok h1).1 (sD B I.ok h2).1
 has:=fun y hy=>by
   have hy:(relabel sc X.env).names.lookup y=some .cell\/(relabel sc X.env).names.lookup y=some .free:=hy;have:(y,NameKind.free)∈sc.names:=by
     rcases hy with hy | hy
     . obtain⟨k',h1,h2⟩:=gI hy
       rcases h2 with h2 | h2
       . subst h2;exact absurd rfl (B.wO _ h1)
       . subst h2;exact h1
     . obtain⟨k',h1,h2⟩:=gI hy
       rcases h2 with h2 | h2 <;> subst h2 <;> exact h1
   exact kX _ _ (.inl this)
 Uv:=fun y c h=>by cases h
 hd:=I.ok.hd
 frames:=I.ok.frames
 UU:=.inl rfl
 M7:=fun b hb=>⟨aat (aal (di b hb) hC),fun y c h=>(hf b hb).2.2.2.2.1 y c (sD B I.ok h).1⟩
 bs:=I.bs
 Fn:=aau I.ok.Fn I.sz
 BO:=fun b o e hb=>by
   rcases (hf b hb).2.2.2.1 with z | z
   . exact I.ok.BO b o e z
   . exact absurd (aal (aak e) (aau I.ok.Fn z)) (abA _)
 BP:=fun b hb z=>by
   rcases aaJ.mp (I.wz b z) with z | z
   . exact(hf b hb).2.1 z
   . exact(hf b hb).2.2.1 z
 tK:=I.stack
 Pw:=I.vD
theorem Ee (B:vf X N tn ix sc)(I:L2.Inv X pins st H s)(hf:∀ b∈fp,mi X pins H b)(di:∀ b∈fp,b < s.heap.objs.size)(hC:C=s.heap.objs.size+1)(k:∀ b o,s.heap.get? b=some o->h1.get? b=some o)(hn:h1.Ns C fun _=>none)(hD:h1.get? s.heap.objs.size=some { cls:=.type "list",data:=.seq ([]:List Value).toArray 0}){t':Nat}:L2.Inv (bj X N sc C fp s H) [] (aaj tn.length none ++ frees ix st) (upd H s.heap.objs.size (.lst [])) { s with heap:=h1,toks:=t'}:=by
 have PN:s.heap.objs.size<=C:=by rw[hC];exact abG _
 have fr:∀ a,s.heap.objs.size<=a->H a=none:=fun a ha=>I.bO.fresh ha
 have ok:=vI B I PN hf di;have DF:∀ y c,(mF sc X.env).lookup y=some c->H c=none/\c < s.heap.objs.size/\∃ v,s.heap.IsCell c v:=fun y c h=>by
   have h:=(sD B I.ok h).1;obtain⟨v,q⟩:=I.cell y c h;exact⟨I.qW y c h,q.lt,v,q⟩
 refine⟨ok,rfl,I.bare,Un.laid k (aaa _) (fr _ (aaa _)),⟨_,hn,fun i y v e1 e2 e3=>?_⟩,fun y c h=>?_,?_,fun y c h=>?_,fun p hp=>absurd (show p∈([]:List (Addr×Obj)) from hp) (by simp),?_,?_⟩
 . have e1:N[i]?=some y:=e1
   by_cases hi:i < tn.length
   . rw[aay (by simpa using hi),abq,if_pos hi] at e2
     cases e2
   . have hi:tn.length<=i:=ack hi
     rw[B.nm,aaE hi,aab] at e1;rw[aaE (by simpa using hi),List.length_replicate] at e2;unfold frees at e2;rw[aab] at e2;cases q:ix[i - tn.length]? with
     | none=>rw[q] at e1;cases e1
     | some j=>
       rw[q] at e1 e2;obtain⟨y',MS,JU⟩:=B.VI j (abQ q);have NJ:=PySem.mem_of_lookup JU;have ey:y=y':=by
         have e1:X.N.getD j ""=y:=Option.some.inj e1;rw[Bn,MS] at e1;exact e1.symm
       subst ey;have e2:(st[j]?).join=some v:=Option.some.inj e2;have PQ:st[j]?=some (some v):=by
         cases q2:st[j]? with
         | none=>rw[q2] at e2;cases e2
         | some z=>rw[q2] at e2;rw[show z=some v from e2]
       have kd:=B.fr _ NJ rfl;have VJ:wu X.env.scope y:=by
         rcases kd with z | z
         . exact .inr (.inl z)
         . exact .inr (.inr z)
       obtain⟨m,_,hl⟩:=I.loc;obtain⟨u,r,l⟩:=hl j y v MS PQ VJ;refine⟨u,r,.inr ?_⟩;rcases l with⟨z,_⟩ | ⟨_,c,hc,ic⟩
       . rcases kd with z' | z' <;> rw[z] at z' <;> cases z'
       . obtain⟨c',DG⟩:=kX (cells:=X.env.cells) sc.names [] (.inl NJ)
         have:=(sD B I.ok DG).1;rw[hc] at this;cases this;obtain⟨oc,Fq,hd⟩:=ic;refine⟨?_,c,DG,oc,k _ _ Fq,hd⟩;rcases e3 with e3 | e3 | e3
         . have e3:(relabel sc X.env).names.lookup y=some .local:=e3
           rcases og (env:=X.env) JU with z | z
           . exact absurd (e3.symm.trans z) (by decide)
           . exact absurd (e3.symm.trans z) (by decide)
         . exact .inl e3
         . exact .inr e3
 . obtain⟨_,_,v,oc,Fq,hd⟩:=DF y c h
   exact⟨v,oc,k _ _ Fq,hd⟩
 . show upd H s.heap.objs.size (.lst []) C=none
   rw[ai (by rw[hC];exact ab5 _)];exact fr _ PN
 . show upd H s.heap.objs.size (.lst []) c=none
   obtain⟨q1,q2,_⟩:=DF y c h;rw[ai (aat q2)];exact q1
 . exact I.bO.laid k (aaa _) ⟨aa1 _,[],0,.nil,hD⟩
 . show(aaj tn.length none ++ frees ix st).length=N.length
   rw[B.nm];unfold frees;simp
def NO (X:Cx)(ifs:List Expr)(tt:TT):Prop:=∀ (pins:List (Addr×Obj)) (s:Shared) (st:L2.St) (H:Hp) (Q:Bool->Hp->Prop),L2.Inv X pins st H s->tt st H Q ->
 wpAny (model X.prog X.w) X.A (forIn ifs true fun c r=>if r=true then do let ok <- isTrue c X.env (eval c X.env);pure (ForInStep.yield ok) else pure (ForInStep.yield r)) (fun b s'=>∃ H',L2.Inv X pins st H' s'/\Q b H') X.xe s
theorem F2 {c:Expr}{tt:TT}(h:PT X c tt):NO X [c] tt:=fun pins s st H Q I q=>wpAny_tests_one (cn (h pins s st H _ I q) fun b s' z=>z)
def F3 (nt:Nat)(g:TG)(tt:TT)(te:TE)(fs:L2.St)(J:It)(D:Addr)(Q:List V->Hp->Prop)(H:Hp):Prop:=
 ∃ W:Nat->Nat->List V->Hp->Prop,(∃ m,W 0 m [] (upd H D (.lst [])))/\∀ i m ys H1,W i m ys H1 ->
   (J.stop i H1/\Q ys H1)\/(J.go i H1/\ys.length < sizeLine/\∀ σ:L2.St,σ.length=nt->∀ v H2,J.Jq i H1 v H2->g v (σ ++ fs) H2 fun σ2 H3=>∃ σ':L2.St,σ2=σ' ++ fs/\σ'.length=nt /\
     tt σ2 H3 fun b H4=>if b=true then te σ2 H4 fun y H5=>H5 D=some (.lst ys)/\∃ m',m' < m/\W (i+1) m' (ys ++ [y]) (upd H5 D (.lst (ys ++ [y]))) else ∃ m',m' < m/\W (i+1) m' ys H4)
theorem Cv {elt iter tg:Expr}{ifs:List Expr}{pos:Pos}{g:TG}{tt:TT}{te:TE}{J:It}{it:Addr}{tj:Nat->Heap->Prop}{Q:Addr->List V->Hp->Prop}{RR:Value->Addr->Result->Shared->Prop}{E:Value->Shared->Prop}(hc:X.calm=true)(B:vf X N tn ix sc)(hg:∀ C fp s H,PG (bj X N sc C fp s H) tg g)(ht:∀ C fp s H,NO (bj X N sc C fp s H) ifs tt)(jC:∀ C fp s H,PE (bj X N sc C fp s H) elt te)(I:L2.Inv X pins st H s)(T:Turn X.prog X.w X.K tg J fp it tj)(h0:tj 0 s.heap)(hf:∀ b∈fp,mi X pins H b)(hq:∀ D,H D=none->F3 tn.length g tt te (frees ix st) J D (Q D) H)(VL:∀ D C ys H' s',L2.Inv X pins st H' s'->(∃ m,s'.heap.Ns C m)->mi X pins H' C->Q D ys H'->RR (.ref D) C (.ok .next) s'):wpAny (model X.prog X.w) X.A (newList []) (fun acc s3=>wpAny (model X.prog X.w) X.A (newFunctionEnv sc X.env.globals (mF sc X.env) [] X.env.qual none .none (some X.env)) (fun Cj s4=>codeAny (model X.prog X.w) X.A (.compStart (.ListComp elt [⟨tg,iter,ifs,0⟩] sc pos) 0 (.ref it) acc { Cj with scope:=relabel sc X.env}) (RR acc Cj.locals) s4) E s3) E s:=by
 have di:∀ b∈fp,b < s.heap.objs.size:=fun b hb=>by
   obtain⟨o,e,_⟩:=T.obj _ _ h0 b hb;exact aak e
 refine wpAny_newObj_type (wpAny_newFunctionEnv B.wO (fun y hy=>absurd hy (by simp)) (fun h1 IY D8=>?_) B.kind);dsimp only at IY D8 ⊢;generalize hG:s.heap.push { cls:=.type "list",dict:=none,data:=.seq ([]:List Value).toArray}=g' at IY D8 ⊢;have hC:g'.objs.size=s.heap.objs.size+1:=by rw[<- hG,abK]
 have Yf:s.heap.objs.size≠g'.objs.size:=by rw[hC];exact aat (abN _)
 have old:∀ b o,s.heap.get? b=some o->h1.get? b=some o:=fun b o e=>
   D8.extBut b o (by rw[hC];exact aat (acf (aak e))) (aac _ (hG ▸ aac _ e))
 have JV:h1.get? s.heap.objs.size=some { cls:=.type "list",data:=.seq ([]:List Value).toArray 0}:=D8.extBut _ _ Yf (aac _ (hG ▸ aar _ rfl));have hD:H s.heap.objs.size=none:=I.bO.fresh (aaa _);obtain⟨W,⟨m0,w0⟩,turn⟩:=hq _ hD;have I0:=Ee (t':=s.toks+([]:List (Str×Value)).length) B I hf di hC old (by simpa using IY) JV;have FV:tj 0 h1:=T.keep _ _ _ h0 fun b _ o e=>old b o e
 have pK:s.heap.objs.size<=g'.objs.size:=by rw[hC];exact abG _
 have rF:∀ {H':Hp},(∀ b∈fp,H' b=none)->∀ b∈fp,mi (bj X N sc g'.objs.size fp s H) [] H' b:=fun {H'} hn b hb=>
   ⟨hn b hb,((vI B I pK hf di).M7 b hb).1,(vI B I pK hf di).BP b hb,.inl hb,((vI B I pK hf di).M7 b hb).2,fun p hp=>absurd (show p∈([]:List (Addr×Obj)) from hp) (by simp)⟩
 have loop:∀ s3:Shared,s3={ s with heap:=h1,toks:=s.toks+([]:List (Str×Value)).length} ->
     codeAny (model X.prog X.w) X.A (.compLoop (.ListComp elt [⟨tg,iter,ifs,0⟩] sc pos) 0 (.ref it) (.ref s.heap.objs.size) (compEnvC sc (mF sc X.env) g'.objs.size X.env)) (RR (.ref s.heap.objs.size) g'.objs.size) s3:=by
   rintro s3 rfl
   refine Cu (fun n s'=>∃ i ys σ H',σ.length=tn.length/\L2.Inv (bj X N sc g'.objs.size fp s H) [] (σ ++ frees ix st) H' s'/\tj i s'.heap/\(∀ b∈fp,H' b=none)/\W i n ys H') ?_ m0
     ⟨0,[],aaj tn.length none,_,by simp,I0,FV,fun b hb=>?_,w0⟩
   . rintro n s5 ⟨i,ys,σ,H5,hσ,I5,IW,MN,w5⟩
     rcases turn i n ys H5 w5 with⟨stop,qn⟩ | ⟨go,hz,step⟩
     . refine cn (T.done (bj X N sc g'.objs.size fp s H) rfl rfl rfl hc i [] s5 _ H5 yy I5 (rF MN) IW stop) fun r s6 ⟨hr,I6⟩=>?_
       subst hr;refine VL _ _ ys H5 s6 ?_ ?_ (I.yu pK I6.free) qn
       . exact I.Jm I6.os I6.base I6.bO I6.bare fun b hb=>⟨(hf b hb).2.2.2.1,(hf b hb).2.1,(hf b hb).2.2.2.2.1,(hf b hb).2.2.2.2.2⟩
       . obtain⟨m,hm,_⟩:=I6.loc
         exact⟨m,hm⟩
     . refine cn (T.item (bj X N sc g'.objs.size fp s H) rfl rfl rfl hc i [] s5 _ H5 yy I5 (rF MN) IW go) fun r s6 ⟨u,hr,h6⟩=>?_
       subst hr;refine cn h6 fun _ s7 ⟨v,H7,I7,r7,y7,JW,VM⟩=>?_
       have VN:=I7.pinned (rF VM) (T.obj _ _ JW);refine cn (hg g'.objs.size fp s H _ s7 _ H7 v u _ VN r7 (step σ hσ v H7 y7)) fun _ s8 h8=>?_
       obtain⟨σ8,H8,I8,σ',e8,V1,h8⟩:=h8;subst e8;have pinned:∀ {σ9:L2.St} {H9:Hp} {s9:Shared},L2.Inv (bj X N sc g'.objs.size fp s H) ([] ++ tP fp s7.heap) σ9 H9 s9->tj (i+1) s9.heap/\∀ b∈fp,H9 b=none:=fun {σ9 H9 s9} I9=>by
         refine⟨T.keep _ _ _ JW fun b hb o e=>(I9.pin (b,o) (aav _ (aav _ (gF hb e)))).1,fun b hb=>?_⟩;obtain⟨o,e,d⟩:=T.obj _ _ JW b hb;exact(I9.pin (b,o) (aav _ (aav _ (gF hb e)))).2.1
       refine cn (ht g'.objs.size fp s H _ s8 _ H8 _ I8 h8) fun ok Zx NP=>?_
       obtain⟨Zy,NQ,NP⟩:=NP;cases ok with
       | false=>
         obtain⟨m',hm,w8⟩:=NP;exact⟨m',hm,i+1,ys,σ',_,V1,NQ.kT (pins:=[]),(pinned NQ).1,(pinned NQ).2,w8⟩
       | true=>
         refine cn (jC g'.objs.size fp s H _ Zx _ Zy _ NQ NP) fun z s9 ⟨y,H9,I9,r9,VO,m',hm,w9⟩=>?_
         refine cn (qj _ s9 _ H9 (.ref s.heap.objs.size) [y] (.ref s.heap.objs.size) [z] (fun _ H'=>H'=upd H9 s.heap.objs.size (.lst (ys ++ [y]))) I9 rfl (.cons r9 .nil) ⟨_,ys,y,rfl,rfl,VO,hz,rfl⟩) fun _ s10 VP=>?_
         obtain⟨_,H10,JX,_,rfl⟩:=VP;exact⟨m',hm,i+1,ys ++ [y],σ',_,V1,JX.kT (pins:=[]),(pinned JX).1,(pinned JX).2,w9⟩
   . rw[ai (aat (di b hb))]
     exact(hf b hb).1
 exact codeAny_compStart_list (loop _ rfl) (T.self _ 0 _ _ _ FV (loop _ rfl))
end
section
variable {K:W.Frag}{G:Gr}{st:L2.St}{Hf H Hf1 H1:Hp}{dl:List Slot}{ix:List Nat}
structure V2 (K:W.Frag)(Hf:Hp)(σ:L2.St)(sl:List Slot):Prop where
 len:σ.length=sl.length
 val:∀ (i:Nat) d,sl[i]?=some (.val d)->∃ v,σ[i]?=some (some v)/\Rep K Hf v d
 no:∀ (i:Nat) o,sl[i]?≠some (.own o)
theorem V2.mono {σ:L2.St}{sl:List Slot}(h:V2 K Hf σ sl)(s:aI Hf Hf1):V2 K Hf1 σ sl:=⟨h.len,fun i d e=>let ⟨v,h1,h2⟩:=h.val i d e;⟨v,h1,h2.mono s⟩,h.no⟩
theorem Cw {σ:L2.St}{sl:List Slot}(S:eG K G st Hf H dl)(s1:aI Hf Hf1)(sb:aI Hf1 H1)(r:V2 K Hf1 σ sl):eG K ⟨Hf1,H1⟩ (σ ++ frees ix st) Hf1 H1 (sl ++ j9 dl ix):=by
 have no:∀ (i:Nat) o,(sl ++ j9 dl ix)[i]?≠some (.own o):=fun i o h=>by
   by_cases hi:i < sl.length
   . rw[aay hi] at h
     exact r.no i o h
   . rw[aaE (ack hi)] at h
     unfold j9 at h;rw[aab] at h;cases q:ix[i - sl.length]? with
     | none=>rw[q] at h;cases h
     | some j=>
       rw[q] at h;exact zp (Option.some.inj h)
 refine⟨.refl sb,by simp[frees,j9,r.len],fun i x h=>?_,fun i o h=>absurd h (no i o),fun i j o o' a h=>absurd h (no i o)⟩;by_cases hi:i < sl.length
 . rw[aay hi] at h
   rw[aay (by rw[r.len];exact hi)];exact r.val i x h
 . have hi:=ack hi
   rw[aaE hi] at h;rw[aaE (by rw[r.len];exact hi),r.len];unfold j9 at h;unfold frees;rw[aab] at h ⊢;cases q:ix[i - sl.length]? with
   | none=>rw[q] at h;cases h
   | some j=>
     rw[q] at h;have hd:=zr (Option.some.inj h);obtain⟨v',z1,z2⟩:=S.val j x hd;exact⟨v',by rw[Option.map_some,z1];rfl,z2.mono s1⟩
def PX (K:W.Frag)(nt:Nat)(g:TG)(z:Dt)(sl:List Slot):Prop:=∀ (σ fs:L2.St) (Hf H:Hp) (v:V) (Q:L2.St->Hp->Prop),σ.length=nt->aI Hf H->Rep K Hf v z ->
 (∀ σ':L2.St,σ'.length=nt->V2 K Hf σ' sl->Q (σ' ++ fs) H)->g v (σ ++ fs) H Q
theorem bG {z:Dt}:PX K 1 (nB 0) z [.val z]:=fun σ fs Hf H v Q hl s r k=>by
 cases σ with
 | nil=>cases hl
 | cons a σ=>
   have:σ=[]:=abz (by simpa using hl);subst this;refine k [some v] rfl ⟨rfl,fun i d h=>?_,fun i o h=>?_⟩
   . cases i with
     | zero=>cases h;exact⟨v,rfl,r⟩
     | succ i=>cases h
   . cases i with
     | zero=>cases h
     | succ i=>cases h
abbrev PY (K:W.Frag):TG:=Nd K 2 (uN (nB 0) (uN (nB 1) Nc))
theorem Av {a b:Dt}:PX K 2 (PY K) (.tup [a,b]) [.val a,.val b]:=fun σ fs Hf H v Q hl s r k=>by
 cases σ with
 | nil=>cases hl
 | cons x σ=>cases σ with
   | nil=>cases hl
   | cons y σ=>
     have:σ=[]:=abz (by simpa using hl);subst this;cases r with
     | @tup q vs _ hq rp=>
       cases rp with
       | cons r1 t1=>cases t1 with
         | cons r2 t2=>
           cases t2;refine⟨q,_,rfl,f6 s hq,rfl,_,_,rfl,_,_,rfl,rfl,k [some _,some _] rfl ⟨rfl,fun i d h=>?_,fun i o h=>?_⟩⟩
           . cases i with
             | zero=>cases h;exact⟨_,rfl,r1⟩
             | succ i=>cases i with
               | zero=>cases h;exact⟨_,rfl,r2⟩
               | succ i=>cases h
           . cases i with
             | zero=>cases h
             | succ i=>cases i with
               | zero=>cases h
               | succ i=>cases h
end
section
variable {X:Cx}{G:Gr}{E:XK}{dl:List Slot}{a b c elt iter tg:Expr}{ifs:List Expr}{i j:Int}{pos p px py sA:Pos}{o:Out}{x y:Str}{N tn:List Str}{ix:List Nat}{sc:Scope}{n:Nat}
def sE (X:Cx)(G:Gr)(dl:List Slot)(zs:List Dt)(wi:TI):Prop:=∀ st H (R:It->Hp->Prop),(∃ Hf,eG X.K G st Hf H dl/\∀ J J6 H0,bB Hf H J6 H0 ->
 (∀ Hf1 H1,aI J6 Hf1->aI Hf1 H1->∀ i,(∀ z,zs[i]?=some z->J.go i H1/\∀ v H2,J.Jq i H1 v H2->∃ b6,bB Hf1 H1 b6 H2/\Rep X.K b6 v z)/\(i=zs.length->J.stop i H1))->R J H0)->wi st H R
theorem dP {xs:List Dt}:sE X G dl xs (Jr X.K (tD X.K G dl (.lst xs))):=fun st H R zq=>ZL zq fun Hf zq=>have S:=zq.1;have k:=zq.2;⟨Hf,S,fun v Hf1 H1 g1 r1=>by
 cases r1 with
 | @lst q vs _ hq rp=>
   have hl:=rp.length;refine⟨q,rfl,⟨vs,.of (g1.sub _ _ hq)⟩,k _ Hf1 H1 g1 fun b6 H2 s1 s2 i=>⟨fun z hz=>?_,fun hi=>⟨vs,.of (s2 _ _ (s1 _ _ hq)),by omega⟩⟩⟩;obtain⟨u,z1,z2⟩:=rp.get hz;have hs:nA X.K H2 q vs:=.of (s2 _ _ (s1 _ _ hq));refine⟨⟨vs,u,hs,z1⟩,fun v H3 hy=>?_⟩;obtain⟨e1,e2⟩:=hy;have e2:=e2 vs hs;rw[z1] at e2;cases e2;subst e1;exact⟨b6,.refl s2,z2.mono s1⟩⟩
theorem J8 {lo:Int}{n:Nat}{Hf1 H1 b6 H2:Hp}(s2:aI b6 H2)(i:Nat):(∀ z,((aah n).map fun(k:Nat)=>Dt.int (lo+k))[i]?=some z->(ML lo n).go i H2/\∀ v H3,(ML lo n).Jq i H2 v H3->∃ j6,bB b6 H2 j6 H3/\Rep X.K j6 v z)/\(i=((aah n).map fun(k:Nat)=>Dt.int (lo+k)).length->(ML lo n).stop i H2):=by
 refine⟨fun z hz=>?_,fun e=>(by have:i=n:=(by simpa using e);exact Nat.le_of_eq this.symm)⟩;have hi:i < n:=by
   have:=(aae.mp hz).1;simpa using this
 rw[aab,aa0 hi] at hz;cases hz;refine⟨hi,fun v H3 hy=>?_⟩;obtain⟨e1,e2⟩:=hy;subst e1 e2;exact⟨b6,.refl s2,.int _⟩
theorem uV (hn:-(2 ^ 62)<=j/\j < 2 ^ 62):sE X G dl ((aah j.toNat).map fun(k:Nat)=>.int k) (Jt (UA X.K G dl [.int j])):=fun st H R zq=>ZL zq fun Hf zq=>have S:=zq.1;have k:=zq.2;⟨Hf,S,fun vs Hf1 H1 g1 r1=>by
 cases r1 with
 | cons r t=>
   cases t;cases r;refine⟨j,rfl,hn.1,hn.2,k _ Hf1 H1 g1 fun b6 H2 s1 s2 i=>?_⟩;have h:=J8 (X:=X) (lo:=0) (n:=j.toNat) (Hf1:=Hf1) (H1:=H1) s2 i;simp only[Int.zero_add] at h;exact h⟩
variable {α:Type}{as:List α}{z f:α->Dt}{sl:α->List Slot}{keep:α->Bool}{g:TG}{wi:TI}
def NR (K:W.Frag)(dl:List Slot)(ix:List Nat)(as:List α)(sl:α->List Slot)(keep:α->Bool):TT:=fun st H Q=>∃ a G',a∈as/\VD K G' (sl a ++ j9 dl ix) (keep a) st H Q
def NS (K:W.Frag)(dl:List Slot)(ix:List Nat)(as:List α)(sl:α->List Slot)(keep:α->Bool)(f:α->Dt):TE:=fun st H Q=>∃ a G',a∈as/\keep a=true/\tD K G' (sl a ++ j9 dl ix) (f a) st H Q
inductive Cy (X:Cx)(N:List Str)(sc:Scope)(dl:List Slot)(ix:List Nat)(as:List α)(sl:α->List Slot)(keep:α->Bool):List Expr->Prop
 | nil:(∀ a∈as,keep a=true)->Cy X N sc dl ix as sl keep []
 | one {c:Expr}:(∀ a∈as,∀ C fp s H G',EB (bj X N sc C fp s H) G' (sl a ++ j9 dl ix) c (keep a))->Cy X N sc dl ix as sl keep [c]
theorem J9 (h:Cy X N sc dl ix as sl keep ifs):∀ C fp s H,NO (bj X N sc C fp s H) ifs (NR X.K dl ix as sl keep):=fun C fp s H=>by
 cases h with
 | nil h=>exact fun pins s' st H' Q I ⟨a,G',ha,Hf,S,k⟩=>wpAny_tests_nil ⟨H',I,by have:=k Hf H' (.refl S.sub);rw[h a ha] at this;exact this⟩
 | one h=>exact F2 fun pins s' st H' Q I ⟨a,G',ha,q⟩=>h a ha C fp s H G' pins s' st H' Q I q
def RL (X:Cx)(N:List Str)(sc:Scope)(dl:List Slot)(ix:List Nat)(as:List α)(sl:α->List Slot)(keep:α->Bool)(f:α->Dt)(elt:Expr):Prop:=∀ a∈as,keep a=true->∀ C fp s H G',EE (bj X N sc C fp s H) G' (sl a ++ j9 dl ix) elt (f a)
theorem Ka (h:RL X N sc dl ix as sl keep f elt):∀ C fp s H,PE (bj X N sc C fp s H) elt (NS X.K dl ix as sl keep f):=fun C fp s H pins s' st H' Q I ⟨a,G',ha,hk,q⟩=>h a ha hk C fp s H G' pins s' st H' Q I q
theorem HP {nt:Nat}{st:L2.St}{Hf H:Hp}{J:It}{Q:VK}(S:eG X.K G st Hf H dl)(hn:as.length<=sizeLine)(HQ:∀ a∈as,PX X.K nt g (z a) (sl a))(go:∀ Hf1 H1,bB Hf H Hf1 H1->∀ i,(∀ y,(as.map z)[i]?=some y->J.go i H1/\∀ v H2,J.Jq i H1 v H2->∃ b6,bB Hf1 H1 b6 H2/\Rep X.K b6 v y)/\(i=(as.map z).length->J.stop i H1))(k:∀ p aJ H',bB Hf H aJ H'->H p=none->aJ p=none->iJ X.K aJ H' p (.lst ((as.filter keep).map f))->Q (.ref p) H'):∀ D,H D=none->F3 nt g (NR X.K dl ix as sl keep) (NS X.K dl ix as sl keep f) (frees ix st) J D (fun _ H'=>Q (.ref D) H') H:=by
 intro D hD;refine⟨fun i m vs H1=>m=as.length - i/\i<=as.length/\∃ Hf1,bB Hf H Hf1 H1/\Hf1 D=none/\H1 D=some (.lst vs)/\bJ X.K Hf1 vs (((as.take i).filter keep).map f),⟨as.length,rfl,aa1 _,Hf,.fF S.sub hD,S.sub.free hD,ak,.nil⟩,?_⟩
 rintro i m vs H1 ⟨rfl,hi,Hf1,g1,VT,UC,rp⟩
 have hlen:=rp.length;rw[k5] at hlen;have V3:((as.take i).filter keep).length<=i:=aau (List.length_filter_le _ _) (by rw[aas];omega);have Ef:∀ {Zz Ha Yk Hb:Hp},bB Zz Ha Yk Hb->Zz D=none->Ha D=some (.lst vs)->Yk D=none/\Hb D=some (.lst vs):=fun {Zz Ha Yk Hb} gg e1 e2=>by
   refine⟨?_,gg.big _ _ e2⟩;cases q:Yk D with
   | none=>rfl
   | some u=>
     obtain⟨o,z⟩:=gg.Ah e2 (fun z=>z) q;rw[e1] at z;cases z
 by_cases di:i < as.length
 . have uc:as[i]∈as:=aaY di
   have et:as.take (i+1)=as.take i ++ [as[i]]:=by rw[aby,k3 di];rfl
   obtain⟨VU,hy⟩:=(go Hf1 H1 g1 i).1 (z as[i]) (by rw[aab,k3 di];rfl);refine .inr ⟨VU,by omega,fun σ hσ v H2 y=>?_⟩;obtain⟨b6,g2,rv⟩:=hy v H2 y;obtain⟨d2,d2'⟩:=Ef g2 VT UC;refine HQ as[i] uc σ _ b6 H2 v _ hσ g2.sub rv fun σ' hl' tv=>⟨σ',rfl,hl',as[i],⟨b6,H2⟩,uc,b6,Cw S (g1.bU.trans g2.bU) g2.sub tv,fun j6 H3 g3=>?_⟩
   obtain⟨d3,d3'⟩:=Ef g3 d2 d2';cases hk:keep as[i] with
   | false=>
     refine⟨as.length - (i+1),by omega,rfl,di,j6,(g1.trans g2).trans g3,d3,d3',?_⟩;rw[et,List.filter_append,aca (by simp[hk]),List.filter_nil,abx];exact rp.mono (g2.bU.trans g3.bU)
   | true=>
     refine⟨as[i],⟨j6,H3⟩,uc,hk,j6,Cw S ((g1.bU.trans g2.bU).trans g3.bU) g3.sub (tv.mono g3.bU),fun y MT H4 g4 r4=>?_⟩;obtain⟨d4,d4'⟩:=Ef g4 d3 d3';have gg:=((g1.trans g2).trans g3).trans g4;refine⟨d4',as.length - (i+1),by omega,rfl,di,MT,⟨fun a o h=>?_,gg.bU,fun a o h=>?_,gg.new⟩,d4,ak,?_⟩
     . rw[ai (ax h hD)];exact gg.big _ _ h
     . rw[ai (ax h d4)];exact g4.sub _ _ h
     . rw[et,List.filter_append,acb (by simpa using hk),List.filter_nil,abv]
       exact(rp.mono ((g2.bU.trans g3.bU).trans g4.bU)).append (.cons r4 .nil)
 . have e:i=as.length:=by omega
   subst e;refine .inl ⟨(go Hf1 H1 g1 _).2 (by simp),k D Hf1 H1 g1 hD VT ⟨vs,UC,?_⟩⟩;rw[abF] at rp;exact rp
def Kb (wi:TI)(nt:Nat)(ix:List Nat)(g:TG)(tt:TT)(te:TE):TE:=fun st H Q=>wi st H fun J H1=>∀ D,H1 D=none->F3 nt g tt te (frees ix st) J D (fun _ H'=>Q (.ref D) H') H1
theorem RN {tt:TT}{te:TE}(hc:X.calm=true)(B:vf X N tn ix sc)(hi:PI X tg iter wi)(hg:∀ C fp s H,PG (bj X N sc C fp s H) tg g)(ht:∀ C fp s H,NO (bj X N sc C fp s H) ifs tt)(jC:∀ C fp s H,PE (bj X N sc C fp s H) elt te)(hs:∀ z,foldedSetIterable iter X.env z=pure z):PE X (.ListComp elt [⟨tg,iter,ifs,0⟩] sc pos) (Kb wi tn.length ix g tt te):=by
 intro pins s st H Q I h;rw[eval_ListComp];refine wpAny_comprehension_free (use:=none) rfl hs (F1 B I.ok) B.kind B.names (cn (hi pins s st H _ I h) fun v s1 h1=>cn h1 fun Pz s2 h2=>?_);obtain⟨it,fp,tj,J,H2,e,I2,T,Fu,f2,hq⟩:=h2;subst e;refine Cv (RR:=fun acc C=>compPost (model X.prog X.w) X.A X.xe none (EP X pins st Q) acc C) hc B hg ht jC I2 T Fu f2 hq ?_;intro D C ws H' s' I' ⟨m,hn⟩ nJ q;exact⟨m,hn,fun h' J3=>⟨.ref D,H',I'.turned (t':=s'.toks) (it:=C) (fun b o hb e=>(J3.2 b hb).trans e) nJ.1 nJ.2.1 nJ.2.2.2.1 nJ.2.2.2.2.1 nJ.2.2.2.2.2,rfl,q⟩⟩
theorem RO {tt:TT}{te:TE}{nN:Nat}(hc:X.calm=true)(B:vf X N tn ix sc)(hi:PI X tg iter wi)(hg:∀ C fp s H,PG (bj X N sc C fp s H) tg g)(ht:∀ C fp s H,NO (bj X N sc C fp s H) ifs tt)(jC:∀ C fp s H,PE (bj X N sc C fp s H) elt te)(hs:∀ z,foldedSetIterable iter X.env z=pure z)(J4:swapsWith (.ListComp elt [⟨tg,iter,ifs,0⟩] sc pos) (some (.Name y py)) sA.line X.env=pure true)(hN:X.N.Nodup)(hy:X.N[nN]?=some y)(hl:Loc X.env.scope y)(hf:X.fn y=true\/X.env.scope.names.lookup y=some .local):PS X (.Assign [.Name y py] (.ListComp elt [⟨tg,iter,ifs,0⟩] sc pos) sA) (fun D st H=>Kb wi tn.length ix g tt te st H fun v H'=>D.nx (st.set nN (some v)) H'):=by
 intro pins s st H D0 I h;rw[exec_Assign_Name_used _ _ _ _ J4];refine wpAny_bind (wpAny_standAt (wpAny_bind ?_));show wpAny _ X.A (do let _ <- comprehension (.ListComp elt [⟨tg,iter,ifs,0⟩] sc pos) sc X.env _ (newList []) false (eval iter X.env) (some (assign (.Name y py) X.env))) _ _ s;refine wpAny_bind (wpAny_mono (wpAny_comprehension_free (use:=some (assign (.Name y py) X.env)) (Q:=fun _ s'=>SP X pins D0 .next s') rfl hs (F1 B I.ok) B.kind B.names (cn (hi pins s st H _ I h) fun v s1 h1=>cn h1 fun Pz s2 h2=>?_)) (fun _ s' hq=>wpAny_pure (wpAny_pure hq)) fun _ _ z=>z);obtain⟨it,fp,tj,J,H2,e,I2,T,Fu,f2,hq⟩:=h2;subst e;refine Cv (RR:=fun acc C=>compPost (model X.prog X.w) X.A X.xe (some (assign (.Name y py) X.env)) (fun _ s'=>SP X pins D0 .next s') acc C) hc B hg ht jC I2 T Fu f2 hq ?_;intro D C ws H' s' I' ⟨m,hn⟩ nJ q;refine wpAny_assign_Name (qe I' hN hy hl (v:=.ref D) rfl (fun Nn VX ⟨ad,D8,ha⟩=>?_) hf);have ne:C≠ad:=by
   rcases ha with z | z
   . rw[z];exact nJ.2.1
   . exact Ne.symm (nJ.2.2.2.2.1 _ _ z)
 exact⟨m,hn.sameBut D8 ne,fun h' J3=>⟨_,H',VX.turned (t':=Nn.toks) (it:=C) (fun b o hb e=>(J3.2 b hb).trans e) nJ.1 nJ.2.1 nJ.2.2.2.1 nJ.2.2.2.2.1 nJ.2.2.2.2.2,q⟩⟩
theorem qm (hs:sE X G dl (as.map z) wi)(HQ:∀ a∈as,PX X.K n g (z a) (sl a))(hn:as.length<=sizeLine):∀ st H Q,Yg X.K G dl (.lst ((as.filter keep).map f)) st H Q->Kb wi n ix g (NR X.K dl ix as sl keep) (NS X.K dl ix as sl keep f) st H Q:=fun st H Q zq=>ZL zq fun Hf zq=>have S:=zq.1;have k:=zq.2;
 hs st H _ ⟨Hf,S,fun J J6 H0 g0 src=>HP (S.grow g0) hn HQ (fun Hf1 H1 g1 i=>src Hf1 H1 g1.bU g1.sub i) fun p aJ H' g n1 n2 r=>k p aJ H' (g0.trans g) (g0.big.free n1) n2 r⟩
theorem dr (as:List α)(z f:α->Dt)(sl:α->List Slot)(keep:α->Bool)(hc:X.calm=true)(B:vf X N tn ix sc)(hi:PI X tg iter wi)(hg:∀ C fp s H,PG (bj X N sc C fp s H) tg g)(ua:sE X G dl (as.map z) wi)(HQ:∀ a∈as,PX X.K tn.length g (z a) (sl a))(Eg:Cy X N sc dl ix as sl keep ifs)(jC:RL X N sc dl ix as sl keep f elt)(hn:as.length<=sizeLine)(hs:autoParam (∀ z,foldedSetIterable iter X.env z=pure z) v6):EO X G dl (.ListComp elt [⟨tg,iter,ifs,0⟩] sc pos) (.lst ((as.filter keep).map f)):=iK (RN hc B hi hg (J9 Eg) (Ka jC) hs) (qm ua HQ hn)
theorem Kc (nN:Nat)(as:List α)(z f:α->Dt)(sl:α->List Slot)(keep:α->Bool)(hc:X.calm=true)(hN:X.N.Nodup)(B:vf X N tn ix sc)(hi:PI X tg iter wi)(hg:∀ C fp s H,PG (bj X N sc C fp s H) tg g)(ua:sE X G dl (as.map z) wi)(HQ:∀ a∈as,PX X.K tn.length g (z a) (sl a))(Eg:Cy X N sc dl ix as sl keep ifs)(jC:RL X N sc dl ix as sl keep f elt)(hn:as.length<=sizeLine)(hs:autoParam (∀ z,foldedSetIterable iter X.env z=pure z) v6)(J4:autoParam (swapsWith (.ListComp elt [⟨tg,iter,ifs,0⟩] sc pos) (some (.Name y py)) sA.line X.env=pure true) jp)(hy:autoParam (X.N[nN]?=some y) jp)(hl:autoParam (Loc X.env.scope y) xz)(hf:autoParam (X.fn y=true\/X.env.scope.names.lookup y=some .local) wf):ES X G E dl (.Assign [.Name y py] (.ListComp elt [⟨tg,iter,ifs,0⟩] sc pos) sA) (.nx (dl.set nN (.own (.lst ((as.filter keep).map f))))):=
 tH (RO hc B hi hg (J9 Eg) (Ka jC) hs J4 hN hy hl hf) fun D st H zq=>ZL zq fun Hf zq=>have S:=zq.1;have k:=zq.2;qm ua HQ hn st H _ ⟨Hf,S,fun p aJ H' g n1 n2 r=>k _ aJ H' g.bU (S.NK g n1 n2 r)⟩
def Yl (K:W.Frag)(g:TG)(z:Dt)(up:List Slot->List Slot):Prop:=∀ (G:Gr) (st:L2.St) (Hf H:Hp) (v:V) (dl:List Slot) (Q:L2.St->Hp->Prop),eG K G st Hf H dl->Rep K Hf v z->(∀ kA,eG K G kA Hf H (up dl)->Q kA H)->g v st H Q
theorem vJ {K:W.Frag}{n:Nat}{z:Dt}:Yl K (nB n) z (fun dl=>dl.set n (.val z)):=fun G st Hf H v dl Q S r k=>k _ (S.set r)
theorem F4 {K:W.Frag}{n m:Nat}{z1 z2:Dt}:Yl K (Nd K 2 (uN (nB n) (uN (nB m) Nc))) (.tup [z1,z2]) (fun dl=>(dl.set n (.val z1)).set m (.val z2)):=fun G st Hf H v dl Q S r k=>by
 cases r with
 | @tup q vs _ hq rp=>
   cases rp with
   | cons r1 t1=>cases t1 with
     | cons r2 t2=>
       cases t2;exact⟨q,_,rfl,f6 S.sub hq,rfl,_,_,rfl,_,_,rfl,rfl,k _ ((S.set r1).set r2)⟩
theorem oh {body:List Stmt}{m:Nat}(as:List α)(z:α->Dt)(up:α->List Slot->List Slot)(S:Nat->List Slot)(sx:X.calm=true)(hp:PassesOwn (model X.prog X.w) X.A X.env X.xe)(hI:PI X tg iter wi)(ua:sE X G dl (as.map z) wi)(hg:PG X tg g)(HQ:∀ a∈as,Yl X.K g (z a) (up a))(h0:Le (S 0) dl)(Yd:m<=as.length)(hb:∀ (k:Nat) (a:α),k < m->as[k]?=some a->Goes X G E body (up a (S k)) (S (k+1)))(he:qY X G E body S (fun k=>(as[k]?).elim (S k) fun a=>up a (S k)) as.length m o)(hs:autoParam (∀ z,foldedSetIterable iter X.env z=pure z) v6):ES X G E dl (.For tg iter body [] pos) o:=by
 refine tH (z7 hp sx hI hg (sv (G:=G) (E:=E)) hs) fun D st H ⟨Hf,S0,k⟩=>ua st H _ ⟨Hf,S0,fun J J6 H0 g0 src=>?_⟩
 refine⟨fun i q st H=>q=as.length - i/\i<=m/\∃ Hf1,aI J6 Hf1/\eG X.K G st Hf1 H (S i),⟨as.length,rfl,aa1 _,J6,aI.refl _,(S0.grow g0).weak h0⟩,?_⟩
 rintro i q Yj H1 ⟨rfl,him,Hf1,s1,S1⟩
 have sr:=src Hf1 H1 s1 S1.sub i;by_cases di:i < as.length
 . have hz:as[i]?=some as[i]:=k3 di
   obtain⟨VU,hy⟩:=sr.1 (z as[i]) (by rw[aab,hz];rfl);refine .inr ⟨VU,fun kA H'=>i < m/\∃ b6,aI J6 b6/\eG X.K G kA b6 H' (S (i+1)),fun kA H' ⟨h1,h2⟩=>⟨as.length - (i+1),by omega,rfl,by omega,h2⟩,fun x H' y=>?_⟩;obtain⟨b6,g2,rv⟩:=hy x H' y;refine HQ as[i] (aaY di) G Yj b6 H' x (S i) _ (S1.grow g2) rv fun Fu S2=>?_
   by_cases RP:i < m
   . exact qk (hb i as[i] RP hz) S2 (fun st j6 H s3 S'=>⟨RP,j6,(s1.trans g2.bU).trans s3,S'⟩) (fun st j6 H s3 S'=>⟨RP,j6,(s1.trans g2.bU).trans s3,S'⟩)
   . have e:i=m:=by omega
     subst e;refine tY he di ?_ (k.mono ((g0.bU.trans s1).trans g2.bU)) rfl rfl;show eG _ _ _ _ _ ((as[i]?).elim (S i) fun a=>up a (S i));rw[hz];exact S2
 . have e:i=as.length:=by omega
   subst e;have e2:m=as.length:=by omega
   subst e2;refine .inl ⟨sr.2 (by simp),?_⟩;cases he with
   | all _=>exact k Yj Hf1 H1 (g0.bU.trans s1) S1
   | rt h _=>omega
   | ro h _=>omega
   | bk h _=>omega
   | ex h _=>omega
theorem bA (B:vf X N tn ix sc)(h:tn=[x]):∀ C fp s H,PG (bj X N sc C fp s H) (.Name x px) (nB 0):=fun C fp s H=>by
 have hN:(bj X N sc C fp s H).N[0]?=some x:=by
   show N[0]?=some x;rw[B.nm,h];rfl
 have FW:(bj X N sc C fp s H).env.scope.names.lookup x=some .local:=lookup_relabel_local (B.hx x (by rw[h];simp));exact bo (X:=bj X N sc C fp s H) B.nd hN (.inl FW) (.inr FW)
theorem wY {k:Nat}(hc:X.calm=true)(B:vf X N tn ix sc)(h:tn=[x,y]):∀ C fp s H,PG (bj X N sc C fp s H) (.Tuple [.Name x px,.Name y py] k p) (PY X.K):=fun C fp s H=>by
 have h0:(bj X N sc C fp s H).N[0]?=some x:=by
   show N[0]?=some x;rw[B.nm,h];rfl
 have h1:(bj X N sc C fp s H).N[1]?=some y:=by
   show N[1]?=some y;rw[B.nm,h];rfl
 have FW:(bj X N sc C fp s H).env.scope.names.lookup x=some .local:=lookup_relabel_local (B.hx x (by rw[h];simp));have JU:(bj X N sc C fp s H).env.scope.names.lookup y=some .local:=lookup_relabel_local (B.hx y (by rw[h];simp));exact tN (X:=bj X N sc C fp s H) hc (cN (bo B.nd h0 (.inl FW) (.inr FW)) (cN (bo B.nd h1 (.inl JU) (.inr JU)) n8 rfl) rfl) rfl rfl
end
noncomputable def gw (sc Ct:Scope)(XN N tn:List Str)(ix:List Nat):Bool:=
 decide N.Nodup && (decide (N=tn ++ ix.map (fun j=>XN.getD j "")) && (decide (sc.kind=.function) && (sc.names.all (fun y=>decide (y.2≠.cell)) && (sc.names.all (fun y=>decide (y.2=.local->sc.names.lookup y.1=some .local)) && (tn.all (fun x=>decide (sc.names.lookup x=some .local)) &&
   (sc.names.all (fun y=>decide (y.2=.free->Ct.names.lookup y.1=some .cell\/Ct.names.lookup y.1=some .free)) && ix.all (fun j=>decide (sc.names.lookup (XN.getD j "")=some .free) && decide (j < XN.length))))))))
theorem aW {X:Cx}{sc Ct:Scope}{XN N tn:List Str}{ix:List Nat}(h:gw sc Ct XN N tn ix=true)(e1:autoParam (X.env.scope=Ct) jp)(e2:autoParam (X.N=XN) jp):vf X N tn ix sc:=by
 subst e1 e2;unfold gw at h;simp only[aa9,acm,decide_eq_true_eq] at h;obtain⟨h1,h2,h3,h4,h5,h6,h7,h8⟩:=h;refine⟨h1,h2,h3,h4,h5,h6,h7,fun j hj=>?_⟩;obtain⟨q1,q2⟩:=h8 j hj;refine⟨X.N.getD j "",?_,q1⟩;rw[Bn,k3 q2];rfl
section
variable {X:Cx}{G:Gr}{E:XK}{dl:List Slot}{a b:Expr}{d1 d2:Dt}{pos:Pos}{x y:Str}
theorem Kd (n1 n2:Nat){px py pt QZ:Pos}{kt k2}(hN:X.N.Nodup)(hc:X.calm=true)(ha:EA X G dl [a,b] [d1,d2])(hi:autoParam (X.N[n1]?=some x) jp)(hj:autoParam (X.N[n2]?=some y) jp)(U6:autoParam (n1≠n2) zn)(hx:autoParam (X.env.scope.names.lookup x=some .local) jp)(hy:autoParam (X.env.scope.names.lookup y=some .local) jp)(hw:autoParam (swappedStores [.Tuple [.Name x px,.Name y py] kt pt] (.Tuple [a,b] k2 QZ) X.env=pure (some [x,y])) jp)(hs:autoParam (swapsWithSole [.Tuple [.Name x px,.Name y py] kt pt] (.Tuple [a,b] k2 QZ) pos.line X.env=pure false) jp):ES X G E dl (.Assign [.Tuple [.Name x px,.Name y py] kt pt] (.Tuple [a,b] k2 QZ) pos) (.nx ((dl.set n1 (.val d1)).set n2 (.val d2))):=
 tH (QY hc hN hi hj U6 hx hy ha hw hs) fun D st H zq=>ZL zq fun Hf zq=>have S:=zq.1;have k:=zq.2;⟨Hf,S,fun vs Hf1 H1 g1 r1=>by
   cases r1 with
   | cons r1 t1=>cases t1 with
     | cons r2 t2=>
       cases t2;exact⟨_,_,rfl,k _ Hf1 H1 g1.bU (((S.grow g1).set r1).set r2)⟩⟩
end
section
variable {X:Cx}{G:Gr}{E:XK}{dl:List Slot}{e:Expr}{d1 d2:Dt}{pos:Pos}
theorem vK (n1 n2:Nat){a b:Str}{pa pb tp:Pos}{cx:Nat}(hN:X.N.Nodup)(hc:X.calm=true)(he:EE X G dl e (.tup [d1,d2]))(V4:autoParam (X.N[n1]?=some a) jp)(V5:autoParam (X.N[n2]?=some b) jp)(V6:autoParam (Loc X.env.scope a) xz)(V7:autoParam (Loc X.env.scope b) xz)(V8:autoParam (X.fn a=true\/X.env.scope.names.lookup a=some .local) wr)(V9:autoParam (X.fn b=true\/X.env.scope.names.lookup b=some .local) wr)(hn:autoParam ((assignEach [.Name a pa,.Name b pb] X.env).length=2) jp)(ny:autoParam ((assignEach [.Name a pa,.Name b pb] X.env).findIdx? (·.1)=none) jp)(q1:autoParam ((assignEach [.Name a pa,.Name b pb] X.env).map (·.2)=assign (.Name a pa) X.env::(assignEach [.Name b pb] X.env).map (·.2)) jp)(q2:autoParam ((assignEach [.Name b pb] X.env).map (·.2)=assign (.Name b pb) X.env::(assignEach [] X.env).map (·.2)) jp)(hs:autoParam (swapsWithSole [.Tuple [.Name a pa,.Name b pb] cx tp] e pos.line X.env=pure false) jp)(hw:autoParam (swappedStores [.Tuple [.Name a pa,.Name b pb] cx tp] e X.env=pure none) jp)(h1:autoParam ((assignEach [.Tuple [.Name a pa,.Name b pb] cx tp] X.env).map (·.2)=[assign (.Tuple [.Name a pa,.Name b pb] cx tp) X.env]) jp):ES X G E dl (.Assign [.Tuple [.Name a pa,.Name b pb] cx tp] e pos) (.nx ((dl.set n1 (.val d1)).set n2 (.val d2))):=
 tH (z6 he (tN hc (cN (bo (pos:=pa) hN V4 V6 V8) (cN (bo (pos:=pb) hN V5 V7 V9) n8 q2) q1) hn ny) hs hw h1) fun D st H zq=>ZL zq fun Hf zq=>have S:=zq.1;have k:=zq.2;⟨Hf,S,fun v Hf1 H1 g1 r1=>by
   cases r1 with
   | @tup q vs _ hq rp=>
     cases rp with
     | cons r1 t1=>cases t1 with
       | cons r2 t2=>
         cases t2;exact⟨q,_,rfl,f6 g1.sub hq,rfl,_,_,rfl,_,_,rfl,rfl,k _ Hf1 H1 g1.bU (((S.grow g1).set r1).set r2)⟩⟩
end
section
variable {X:Cx}{pins:List (Addr×Obj)}{σ:List (Option V)}{H:Hp}{s:Shared}{h':Heap}
theorem Cz {ch:List Addr}{a:Addr}{o:HO}{t':Nat}(I:L2.Inv X pins σ H s)(BG:∀ b∈ch,mi X pins H b)(k:∀ b u,b ∉ ch->s.heap.get? b=some u->h'.get? b=some u)(hp:s.heap.objs.size<=a)(new:aV X.prog X.w (upd H a o) h' a o):L2.Inv X pins σ (upd H a o) { s with heap:=h',toks:=t'}:=by
 have hn:=I.bO.fresh hp;have UX:∀ b u,H b=some u->b ∉ ch:=fun b u e z=>by rw[(BG b z).1] at e;cases e
 have nea:∀ b o,s.heap.get? b=some o->b≠a:=fun b o e=>aat (aal (aak e) hp)
 refine I.step (g':=s.gens) (d':=s.drawn) (ch:=ch) (fun b hb=>⟨(BG b hb).2.2.2.1,(BG b hb).2.1,(BG b hb).2.2.2.2.1,(BG b hb).2.2.2.2.2⟩) (fun b o _ _ hc e _=>k b o hc e) (fun b o _ _ hc e _=>⟨o.slots,k b o hc e⟩) (fun b o _ e n=>by rw[ai (nea b o e)];exact n)
   (fun b o hc e=>⟨o,k b o hc e⟩) (fun b xs e=>by rw[ai (ax e hn)];exact e) (fun b o u e=>by rw[ai (ax e hn)];exact e) (fun b ps e=>⟨#[],by rw[ai (ax e hn),e];simp⟩) (fun m hm=>?_) (fun b u e=>?_) I.bare
 . obtain⟨o,es,ep,ho,r⟩:=hm
   exact⟨o,es,ep,k _ o (fun z=>(BG _ z).2.1 rfl) ho,r⟩
 . by_cases hb:b=a
   . subst hb;rw[ak] at e;cases e;exact new
   . rw[ai hb] at e
     refine(I.bO b u e).zX (fun c v hc q=>k c v ?_ q) (fun c q=>by rw[ai (ax q hn)];exact q) (fun c xs q=>by rw[ai (ax q hn)];exact q) (.of fun c u q=>by rw[ai (ax q hn)];exact q);rcases hc with z | z | z
     . rw[z];exact UX b u e
     . exact UX c _ z
     . exact fun z'=>by rw[(BG c z').1] at z;exact z
end
noncomputable def Ite (K:PySem.W.Frag)(a:Addr):It:=
 ⟨fun i H=>∃ xs x,nA K H a xs/\xs[i]?=some x,fun i H v H'=>∃ p x,v=.ref p/\H p=none/\H'=upd H p (.tup [.int i,x])/\∀ xs,nA K H a xs->xs[i]?=some x,fun i H=>∃ xs,nA K H a xs/\xs.length<=i⟩
theorem HR {P:Program}{w:World}{K:W.Frag}{elts:List Expr}{kt:Nat}{z9:Pos}(a e it:Addr)(UE:e≠it):Turn P w K (.Tuple elts kt z9) (Ite K a) [e,it] e (fun i h=>(∃ old,IsEnum h e it i old)/\h.IsListIter it a i) where
 mem:=by simp
 obj:=fun i h st b hb=>by
   obtain⟨⟨old,he⟩,o,e2,c,d⟩:=st;rcases aaJ.mp hb with rfl | hb
   . exact⟨_,he,fun v z=>by cases z⟩
   . have:b=it:=by simpa using hb
     subst this;exact⟨o,e2,fun v z=>by rw[d] at z;cases z⟩
 keep:=fun i h h' st k=>by
   obtain⟨⟨old,he⟩,hit⟩:=st;exact⟨⟨old,k e (by simp) _ he⟩,hit.at fun o x=>k it (by simp) o x⟩
 item:=by
   intro X hP hw hK hc i pins s σ H E I hf st hg;subst hP hw hK;obtain⟨xs,x,hq,hx⟩:=hg;obtain⟨aH,rv,p,hz⟩:=I.list hq;obtain⟨u,hu,ru⟩:=rv.get hx;obtain⟨⟨old,he⟩,hit⟩:=st;have Wa:e < s.heap.objs.size:=aak he;have Ym:it < s.heap.objs.size:=by obtain⟨_,z,_⟩:=hit;exact aak z
   refine wpAny_pyNext_enum_item he hit p.isList (x:=u) (by simpa using hu) UE fun h1 ho RT hT hsz hk=>?_
   refine⟨_,rfl,wpAny_letOwnedTupleGo_enum ho fun h2 Wb BX=>?_⟩;have ZA:h2.get? s.heap.objs.size=some { cls:=.type "tuple",data:=.seq #[.int i s.toks,u]}:=(BX.2 _ (acd Wa)).trans hT;have k2:∀ b o,b ∉ [e,it]->s.heap.get? b=some o->h2.get? b=some o:=fun b o hb q=>(BX.2 b fun z=>hb (by simp[z])).trans (hk b o (fun z=>hb (by simp[z])) (fun z=>hb (by simp[z])) q)
   have hp:H s.heap.objs.size=none:=I.bO.fresh (aaa _);have I2:L2.Inv X pins σ (upd H s.heap.objs.size (.tup [.int i,x])) { s with heap:=h2,toks:=s.toks+1}:=Cz I hf k2 (aaa _) ⟨aaW rfl,[.int i s.toks,u],.cons ⟨_,rfl⟩ (.cons ru .nil),_,ZA,rfl,_,rfl⟩;refine⟨.ref s.heap.objs.size,_,I2,rfl,⟨_,x,rfl,hp,rfl,fun ys hy=>by rw[I.BU hy hq];exact hx⟩,⟨⟨u,by simpa using Wb⟩,RT.at fun o z=>(BX.2 it (Ne.symm UE)).trans z⟩,fun b hb=>?_⟩;have:b≠s.heap.objs.size:=by
     rcases aaJ.mp hb with rfl | hb
     . exact aat Wa
     . have:b=it:=by simpa using hb
       subst this;exact aat Ym
   rw[ai this];exact(hf b hb).1
 done:=by
   intro X hP hw hK hc i pins s σ H E I hf st hg;subst hP hw hK;obtain⟨xs,hq,hx⟩:=hg;obtain⟨aH,rv,p,hz⟩:=I.list hq;obtain⟨⟨old,he⟩,hit⟩:=st;obtain⟨f0,f1,f2,f3,f4,f5⟩:=hf it (by simp);have hl:=rv.length;exact wpAny_pyNext_enum_end (I.ok.hd hc) he hit p.isList (by simp;omega) fun h' eb=>⟨rfl,I.turned (t':=s.toks) (fun b o hb q=>eb b o hb q) f0 f1 f3 f4 f5⟩
 self:=fun _ i s Q E st h=>by
   obtain⟨⟨old,he⟩,_⟩:=st;exact wpAny_pyIter_enum he h
theorem boot_enumerate:bootBuiltins "enumerate"=some (.type "enumerate"):=by decide +kernel
section
variable {X:Cx}{G:Gr}{dl:List Slot}{a:Expr}{xs:List Dt}{p pos:Pos}
def PZ (K:W.Frag)(ta:TA):TI:=fun σ H R=>ta σ H fun vs H1=>∃ a,vs=[.ref a]/\(∃ xs,nA K H1 a xs)/\R (Ite K a) H1
theorem NT {elts:List Expr}{kt:Nat}{z9:Pos}{ta:TA}(hg:Gl X "enumerate")(hm:X.mg "enumerate"=none)(ha:PA X [a] ta)(hs:autoParam (starEach [a] X.env=[(false,eval a X.env)]) jp):PI X (.Tuple elts kt z9) (.Call (.Name "enumerate" p) [a] [] pos) (PZ X.K ta):=by
 intro pins s σ H R I h;refine Call_ (tL I hg hm boot_enumerate (PyProof.Rows.callWith_type1 (cn (ha pos pins s σ H _ I h) fun us s1 zq=>Exists.elim zq fun vs zq=>Exists.elim zq fun H1 zq=>have I1:=zq.1;have r1:=zq.2.1;have q1:=zq.2.2;?_) hs rfl));obtain⟨l,e,⟨xs,hq⟩,q⟩:=q1;subst e;cases r1 with
 | cons r rr=>
   cases rr;cases r;obtain⟨aH,rv,pl,hz⟩:=I1.list hq;refine call_enumerate_list pl.isList fun h' he hit hsz k=>wpAny_pyIter_enum he ?_
   have I2:L2.Inv X pins σ H1 { s1 with heap:=h'}:=I1.kept (t':=s1.toks) k;refine⟨s1.heap.objs.size+1,[s1.heap.objs.size+1,s1.heap.objs.size],_,_,H1,rfl,I2,HR l _ s1.heap.objs.size (ab5 _),⟨⟨_,he⟩,hit⟩,fun b hb=>?_,q⟩;have NG:s1.heap.objs.size<=b:=by
     rcases aaJ.mp hb with rfl | hb
     . exact abG _
     . have:b=s1.heap.objs.size:=by simpa using hb
       rw[this];exact aaa _
   exact I1.yu NG (I1.bO.fresh NG)
noncomputable def uW (xs:List Dt):List Dt:=(aah xs.length).map fun(k:Nat)=>.tup [.int k,xs.getD k .dk]
theorem HS:sE X G dl (uW xs) (PZ X.K (UA X.K G dl [.lst xs])):=fun st H R zq=>ZL zq fun Hf zq=>have S:=zq.1;have k:=zq.2;⟨Hf,S,fun vs Hf1 H1 g1 r1=>by
 cases r1 with
 | cons r t=>
   cases t;cases r with
   | @lst q vs _ hq rp=>
     have hl:=rp.length;refine⟨q,rfl,⟨vs,.of (g1.sub _ _ hq)⟩,k _ Hf1 H1 g1 fun b6 H2 s1 s2 i=>⟨fun z hz=>?_,fun hi=>⟨vs,.of (s2 _ _ (s1 _ _ hq)),by unfold uW at hi;rw[k5,aaV] at hi;omega⟩⟩⟩;have hi:i < xs.length:=by
       have:=(aae.mp hz).1;unfold uW at this;simpa using this
     unfold uW at hz;rw[aab,aa0 hi] at hz;cases hz;have hx:xs[i]?=some (xs.getD i .dk):=by rw[Bn,k3 hi];rfl
     obtain⟨u,z1,z2⟩:=rp.get hx;have hs:nA X.K H2 q vs:=.of (s2 _ _ (s1 _ _ hq));refine⟨⟨vs,u,hs,z1⟩,fun v H3 hy=>?_⟩;obtain⟨pt,x,rfl,hn,rfl,e2⟩:=hy;have e2:=e2 vs hs;rw[z1] at e2;cases e2;have g3:bB b6 H2 (upd b6 pt (.tup [.int i,u])) (upd H2 pt (.tup [.int i,u])):=.alloc s2 hn;exact⟨_,g3,.tup (.inl ak) (.cons (.int _) (.cons ((z2.mono s1).mono g3.bU) .nil))⟩⟩
end
section
noncomputable def noOwn:List Slot->Bool
 | []=>true
 | .own _::_=>false
 | _::r=>noOwn r
theorem bb:∀ {dl:List Slot},noOwn dl=true->∀ (j:Nat) o,dl[j]?≠some (.own o)
 | [],_,j,o,h=>by simp at h
 | .val d::r,q,0,o,h=>by simp at h
 | .aS::r,q,0,o,h=>by simp at h
 | .val d::r,q,j+1,o,h=>bb (dl:=r) q j o (by simpa using h)
 | .aS::r,q,j+1,o,h=>bb (dl:=r) q j o (by simpa using h)
end
section
variable {X:Cx}{G:Gr}{dl:List Slot}{e:Expr}{x:Str}{i j:Int}{pos p2:Pos}{lo hi:Option Expr}{l u:Option Int}
theorem RU:Zc X (fun x lo hi H Q=>∃ z:Str,x=.str z/\z.length<=sizeLine/\Q (.str (Txt.slice z lo hi)) H):=by
 intro pins s σ H x v vl vu lo hi sl Q I rx hs pl pu h;obtain⟨z,rfl,hz,q⟩:=h;obtain⟨t,rfl⟩:=(show ∃ t,v=Value.str z t from rx)
 obtain⟨o,h1,h2,h3⟩:=hs;refine⟨"str",_,F.slot_str_getitem.lookup,typeIs_str _ _ _,?_⟩;cases pl with
 | none=>
   cases pu with
   | none=>exact wpAny_getItem_str_slice (l:=none) (u:=none) (st:=none) ⟨o,h1,h2,h3⟩ rfl (post_val_or_str ⟨aau (Txt.slice_le z _ _) hz,fun t' k=>⟨.str (Txt.slice z _ _),H,I.tok _,⟨t',rfl⟩,q⟩⟩)
   | int j uj=>exact wpAny_getItem_str_slice (l:=none) (u:=some (j,uj)) (st:=none) ⟨o,h1,h2,h3⟩ rfl (post_val_or_str ⟨aau (Txt.slice_le z _ _) hz,fun t' k=>⟨.str (Txt.slice z _ _),H,I.tok _,⟨t',rfl⟩,q⟩⟩)
 | int i ui=>
   cases pu with
   | none=>exact wpAny_getItem_str_slice (l:=some (i,ui)) (u:=none) (st:=none) ⟨o,h1,h2,h3⟩ rfl (post_val_or_str ⟨aau (Txt.slice_le z _ _) hz,fun t' k=>⟨.str (Txt.slice z _ _),H,I.tok _,⟨t',rfl⟩,q⟩⟩)
   | int j uj=>exact wpAny_getItem_str_slice (l:=some (i,ui)) (u:=some (j,uj)) (st:=none) ⟨o,h1,h2,h3⟩ rfl (post_val_or_str ⟨aau (Txt.slice_le z _ _) hz,fun t' k=>⟨.str (Txt.slice z _ _),H,I.tok _,⟨t',rfl⟩,q⟩⟩)
def ZC (K:W.Frag)(G:Gr)(dl:List Slot)(o:Option Int):TO:=fun st H Q=>∃ Hf,eG K G st Hf H dl/\∀ aJ H',bB Hf H aJ H'->Q o H'
abbrev Yn (X:Cx)(G:Gr)(dl:List Slot)(e:Option Expr)(o:Option Int):Prop:=PO X e (ZC X.K G dl o)
theorem poI {e:Option Expr}{t t':TO}(h:PO X e t)(i:∀ st H Q,t' st H Q->t st H Q):PO X e t':=fun pins s st H Q I q=>h pins s st H Q I (i st H Q q)
theorem Ke:Yn X G dl none none:=poI FC fun st H Q zq=>ZL zq fun Hf zq=>have S:=zq.1;have k:=zq.2;k Hf H (.refl S.sub)
theorem vL (h:EE X G dl e (.int i)):Yn X G dl (some e) (some i):=poI (FE h) fun st H Q zq=>ZL zq fun Hf zq=>have S:=zq.1;have k:=zq.2;⟨Hf,S,fun v Hf1 H1 g1 r1=>by cases r1;exact⟨i,rfl,k Hf1 H1 g1⟩⟩
theorem Eh (he:EE X G dl e (.str x))(hl:Yn X G dl lo l)(hu:Yn X G dl hi u)(hx:x.length<=sizeLine):EE X G dl (.Subscript e (.Slice lo hi none p2) pos) (.str (Txt.slice x l u)):=
 iK (B4 RU he hl hu) fun st H Q zq=>ZL zq fun Hf zq=>have S:=zq.1;have k:=zq.2;⟨Hf,S,fun v Hf1 H1 g1 r1=>⟨Hf1,S.grow g1,fun b6 H2 g2=>⟨b6,(S.grow g1).grow g2,fun j6 H3 g3=>by
   cases r1;exact⟨x,rfl,hx,k _ j6 H3 ((g1.trans g2).trans g3) (.str _)⟩⟩⟩⟩
end
noncomputable def Itx (x:Str):It:=⟨fun i H=>∃ c,x.cps[i]?=some c,fun i H v H'=>H'=H/\∃ c,x.cps[i]?=some c/\v=.str ⟨#[c]⟩,fun i H=>x.cps[i]?=none⟩
theorem Kf {P:Program}{w:World}{K:W.Frag}{tg:Expr}(x:Str)(t:Tok)(it:Addr):Turn P w K tg (Itx x) [it] it (fun i h=>h.IsStrIter it "str_ascii_iterator" x t i) where
 mem:=by simp
 obj:=fun i h st b hb=>by
   have e:b=it:=by simpa using hb
   subst e;obtain⟨o,e,c,d⟩:=st;exact⟨o,e,fun v z=>by rw[d] at z;cases z⟩
 keep:=fun i h h' st k=>let ⟨o,e,c,d⟩:=st;⟨o,k it (by simp) o e,c,d⟩
 item:=by
   intro X hP hw hK hc i pins s σ H E I hf st hg;subst hP hw hK;obtain⟨c,hx⟩:=hg;obtain⟨f0,f1,f2,f3,f4,f5⟩:=hf it (by simp);refine wpAny_pyNext_ascii_item st hx fun h' kA sb=>?_
   have I1:L2.Inv X pins σ H { s with heap:=h',toks:=s.toks+1}:=I.turned (t':=s.toks+1) (fun b o hb e=>(sb.2 b hb).trans e) f0 f1 f3 f4 f5;obtain⟨o,e,cc,d⟩:=id kA;exact⟨_,rfl,Ft (s:={ s with heap:=h',toks:=s.toks+1}) e cc d (by decide) ⟨.str ⟨#[c]⟩,H,I1,⟨_,rfl⟩,⟨rfl,c,hx,rfl⟩,kA,fun b hb=>(hf b hb).1⟩⟩
 done:=by
   intro X hP hw hK hc i pins s σ H E I hf st hg;subst hP hw hK;obtain⟨f0,f1,f2,f3,f4,f5⟩:=hf it (by simp);exact wpAny_pyNext_ascii_end (I.ok.hd hc) st hg fun h' eb=>⟨rfl,I.turned (t':=s.toks) (fun b o hb e=>eb b o hb e) f0 f1 f3 f4 f5⟩
 self:=fun _ _ _ _ _ st h=>wpAny_pyIter_striter_ascii st h
noncomputable def lb (x:Str):Bool:=x.cps.all (· < 128)
noncomputable def signs (x:Str):List Dt:=x.cps.toList.map fun c=>.str ⟨#[c]⟩
section
variable {X:Cx}{G:Gr}{dl:List Slot}{a b c e:Expr}{x y z:Str}{pos:Pos}{i j k:Int}{u v:Bool}
def Wc (ta:TE):TI:=fun σ H R=>ta σ H fun v H1=>∃ x,v=.str x/\lb x=true/\R (Itx x) H1
theorem fG {tg:Expr}{ta:TE}(ha:PE X a ta):PI X tg a (Wc ta):=by
 intro pins s σ H R I h;refine cn (ha pins s σ H _ I h) fun v s1 zq=>Exists.elim zq fun w zq=>Exists.elim zq fun H1 zq=>have I1:=zq.1;have r1:=zq.2.1;have q1:=zq.2.2;?_
 obtain⟨x,e,hx,q⟩:=q1;subst e;obtain⟨t,rfl⟩:=(show ∃ t,v=Value.str x t from r1)
 refine wpAny_pyIter_ascii hx ?_;refine⟨s1.heap.objs.size,[s1.heap.objs.size],_,_,H1,rfl,I1.kept (t':=s1.toks) fun b o e=>aac _ e,Kf x t _,⟨_,aar _ rfl,rfl,rfl⟩,fun b hb=>?_,q⟩;have e:b=s1.heap.objs.size:=by simpa using hb
 subst e;exact I1.yu (aaa _) (I1.bO.fresh (aaa _))
theorem signs_get (x:Str)(i:Nat):(signs x)[i]?=(x.cps[i]?).map fun c=>.str ⟨#[c]⟩:=by
 unfold signs;rw[aab,acj]
theorem qo (x:Str):(signs x).length=x.length:=by
 unfold signs;rw[k5,abW];rfl
theorem b7 (hx:lb x=true):sE X G dl (signs x) (Wc (tD X.K G dl (.str x))):=fun st H R zq=>ZL zq fun Hf zq=>have S:=zq.1;have k:=zq.2;⟨Hf,S,fun v Hf1 H1 g1 r1=>by
 cases r1;refine⟨x,rfl,hx,k _ Hf1 H1 g1 fun b6 H2 s1 s2 i=>⟨fun z hz=>?_,fun hi=>?_⟩⟩
 . rw[signs_get] at hz
   cases q:x.cps[i]? with
   | none=>rw[q] at hz;cases hz
   | some c=>
     rw[q] at hz;cases hz;refine⟨⟨c,q⟩,fun v H3 ⟨e1,c',e2,e3⟩=>?_⟩;rw[q] at e2;cases e2;subst e1 e3;exact⟨b6,.refl s2,.str _⟩
 . show x.cps[i]?=none
   rw[hi,qo];exact Array.getElem?_size_le (aaa _)⟩
theorem zu:qf X (compareOp .LtE) (fun x y H Q=>∃ i j,x=.str i/\y=.str j/\Q (.bl (!decide (j.cps.toList < i.cps.toList))) H):=by
 intro pins s σ H x y v u Q I rx ry h;obtain⟨i,j,rfl,rfl,q⟩:=h;obtain⟨t,rfl⟩:=rx;obtain⟨t',rfl⟩:=ry;exact P.le_str (bP I q rfl)
noncomputable def RV (x y:Str):Bool:=!decide (y.cps.toList < x.cps.toList)
theorem Kg {K:W.Frag}:FN K (fun x y H Q=>∃ i j,x=.str i/\y=.str j/\Q (.bl (!decide (j.cps.toList < i.cps.toList))) H) (.str x) (.str y) (.bl (RV x y)):=fun v w Hf H Q s r1 r2 k=>by
 cases r1;cases r2;exact⟨x,y,rfl,rfl,k _ Hf H (.refl s) (.bl _)⟩
variable {d1 d2 d3:Dt}
theorem CA {op Q8:CmpOp}{r r':R2}(ho:qf X (compareOp op) r)(Ji:qf X (compareOp Q8) r')(h1:FN X.K r d1 d2 (.bl u))(h2:FN X.K r' d2 d3 (.bl v))(ha:EE X G dl a d1)(hb:EE X G dl b d2)(hc:EE X G dl c d3)(hm:autoParam (lastMarks [op,Q8] [b,c]=false) wv):EE X G dl (.Compare a [op,Q8] [b,c] pos) (.bl (u && v)):=
 iK (Jw ho Ji ha hb hc hm) fun st H Q zq=>ZL zq fun Hf zq=>have S:=zq.1;have k:=zq.2;⟨Hf,S,fun x Hf1 H1 g1 r1=>⟨Hf1,S.grow g1,fun y b6 H2 g2 r2=>h1 x y b6 H2 _ g2.sub (r1.mono g2.bU) r2 fun z j6 H3 g3 r3=>by
   cases r3;refine⟨u,rfl,?_⟩;cases u with
   | false=>exact Cd (k _ j6 H3 ((g1.trans g2).trans g3) (.bl _))
   | true=>exact Ce ⟨j6,((S.grow g1).grow g2).grow g3,fun w MT H4 g4 r4=>h2 y w MT H4 Q g4.sub (r2.mono (g3.bU.trans g4.bU)) r4 fun q yt H5 g5 r5=>k q yt H5 ((((g1.trans g2).trans g3).trans g4).trans g5) r5⟩⟩⟩
theorem Kh (ha:EE X G dl a (.str x))(hb:EE X G dl b (.str y))(hc:EE X G dl c (.str z))(hm:autoParam (lastMarks [.LtE,.LtE] [b,c]=false) wv):EE X G dl (.Compare a [.LtE,.LtE] [b,c] pos) (.bl (RV x y && RV y z)):=CA zu zu Kg Kg ha hb hc hm
theorem Ki (ha:EE X G dl a (.int i))(hb:EE X G dl b (.int j))(hc:EE X G dl c (.int k))(hm:autoParam (lastMarks [.LtE,.LtE] [b,c]=false) wv):EE X G dl (.Compare a [.LtE,.LtE] [b,c] pos) (.bl (decide (i<=j) && decide (j<=k))):=
 CA Jv Jv (uS (g':=fun i j=>.bl (decide (i<=j))) fun _ _ _ _=>.bl _) (uS (g':=fun i j=>.bl (decide (i<=j))) fun _ _ _ _=>.bl _) ha hb hc hm
end
section
variable {X:Cx}{G:Gr}{dl:List Slot}{a b e:Expr}{pos p apos bR:Pos}{k x:Str}{xs:List Str}{bs:List Bool}{ns:List Int}{hi:Option Expr}{l u:Option Int}
theorem Kj {neg:Bool}:FN X.K (X8 X.K neg) (.str k) (.lst (xs.map .str)) (.bl (if neg then !decide (k∈xs) else decide (k∈xs))):=fun v w Hf H Q s r1 r2 kk=>by
 cases r1;cases r2 with
 | @lst q vs _ hq rp=>
   have ev:=ql rp;subst ev;refine⟨q,_,rfl,.inl (.of (s _ _ hq)),rfl,zt xs,?_⟩;rw[wX];exact kk _ Hf H (.refl s) (.bl _)
theorem RW (ha:EE X G dl a (.str k))(hb:EE X G dl b (.lst (xs.map .str)))(hm:autoParam (behindInMarks .In b=false) jp):EE X G dl (.Compare a [.In] [b] pos) (.bl (decide (k∈xs))):=wM zh (Kj (neg:=false)) hm ha hb
theorem NU (ha:EE X G dl a (.str k))(hb:EE X G dl b (.lst (xs.map .str)))(hm:autoParam (behindInMarks .NotIn b=false) jp):EE X G dl (.Compare a [.NotIn] [b] pos) (.bl (!decide (k∈xs))):=wM sj (Kj (neg:=true)) hm ha hb
theorem range_all (bs:List Bool):(aah bs.length).all (fun i=>bs.getD i true)=bs.all id:=by
 induction bs with
 | nil=>rfl
 | cons b r ih=>
   rw[aaI,List.range_succ_eq_map,acn,List.all_map,acn];show(b && (aah r.length).all (fun i=>r.getD i true))=(b && r.all id);rw[ih]
theorem HU (hc:X.calm=true):kU X (.builtin "all") (fun xs H Q=>∃ (p:Addr) (bs:List Bool),xs=[.ref p]/\nA X.K H p (bs.map V.bl)/\Q (.bl (bs.all id)) H):=by
 intro pins s σ H xs us Q I r h;obtain⟨p,bs,rfl,hq,q⟩:=h;obtain⟨u,rfl,rx⟩:=vals1 r;cases rx;obtain⟨aH,rv,pl,hz⟩:=I.list hq;have hlen:=rv.length;rw[k5] at hlen;obtain⟨o,n,ho,_⟩:=id pl;have hp:p < s.heap.objs.size:=aak ho;refine call_all_walk (wpAny_pyIter_list pl.isList ?_);refine⟨s.heap.objs.size,_,_,_,_,_,fun i=>bs.getD i true,rfl,Walks.list (A:=X.A.in1) (I.ok.hd hc) s.heap.objs.size p (aat hp) aH.toArray,⟨⟨_,aar _ rfl,rfl,rfl⟩,?_⟩,fun i v s' Q' E' hv hQ=>?_,fun h' tk hk=>?_⟩
 . exact pl.isList.at fun o e=>aac _ e
 . have hv:aH[i]?=some v:=by simpa using hv
   have hi:i < aH.length:=(aae.mp hv).1;have Wd:i < bs.length:=by omega
   obtain⟨u',h1,h2⟩:=rv.get (i:=i) (x:=V.bl bs[i]) (by rw[aab,k3 Wd];rfl);rw[hv] at h1;cases h1;cases h2;have e:bs.getD i true=bs[i]:=by rw[Bn,k3 Wd];rfl
   have hQ:Q' (bs.getD i true) s':=hQ;rw[e] at hQ;exact wpAny_truthy_bool hQ
 . have ea:(aah aH.toArray.size).all (fun i=>bs.getD i true)=bs.all id:=by rw[aap,<- hlen];exact range_all bs
   rw[ea];refine⟨.bl _,H,I.kept (t':=tk) fun b o e=>hk b o (fun hm=>?_) (aac _ e),rfl,q⟩;have:b=s.heap.objs.size:=by simpa using hm
   subst this;exact abA _ (aak e)
theorem boot_all:bootBuiltins "all"=some (.builtin "all"):=by decide +kernel
theorem CB {K:W.Frag}{H:Hp}:∀ {bs:List Bool} {vs:List V},bJ K H vs (bs.map Dt.bl)->vs=bs.map V.bl
 | [],_,.nil=>rfl
 | b::r,_,.cons h t=>by cases h;rw[CB t];rfl
theorem RX (hm:X.mg "all"=none)(hc:X.calm=true)(ha:EE X G dl a (.lst (bs.map .bl)))(hg:autoParam (Gl X "all") jp)(he:autoParam (starEach [a] X.env=[(false,eval a X.env)]) jp):EE X G dl (.Call (.Name "all" p) [a] [] pos) (.bl (bs.all id)):=
 iK (gG (HU hc) hg hm boot_all (ae ha ah he) (by decide) (by decide) he rfl) fun st H Q zq=>ZL zq fun Hf zq=>have S:=zq.1;have k:=zq.2;⟨Hf,S,fun vs Hf1 H1 g1 r1=>by
   cases r1 with
   | cons r t=>cases t;cases r with
     | @lst q vs _ z r=>
       have ev:=CB r;subst ev;exact⟨q,bs,rfl,.of (g1.sub _ _ z),k _ Hf1 H1 g1 (.bl _)⟩⟩
theorem ud (ns:List Int):∀ k,k<=ns.length->preSum (fun i=>ns.getD i 0) k=(ns.take k).sum
 | 0,_=>by simp[preSum]
 | k+1,h=>by
   have hk:k < ns.length:=h;rw[preSum,ud ns k (abw hk),aby,k3 hk,List.sum_append,Bn,k3 hk];simp
theorem HV (hc:X.calm=true):kU X (.builtin "sum") (fun xs H Q=>∃ (p:Addr) (ns:List Int),xs=[.ref p]/\nA X.K H p (ns.map V.int)/\Q (.int ns.sum) H):=by
 intro pins s σ H xs us Q I r h;obtain⟨p,ns,rfl,hq,q⟩:=h;obtain⟨u,rfl,rx⟩:=vals1 r;cases rx;obtain⟨aH,rv,pl,hz⟩:=I.list hq;have hlen:=rv.length;rw[k5] at hlen;obtain⟨o,n,ho,_⟩:=id pl;have hp:p < s.heap.objs.size:=aak ho;refine call_sum_walkAnyS (wpAny_pyIter_list pl.isList ?_);refine⟨s.heap.objs.size,_,_,_,_,_,_,fun i=>ns.getD i 0,rfl,(Walks.list (A:=X.A.in1) (I.ok.hd hc) s.heap.objs.size p (aat hp) aH.toArray).toS,⟨⟨_,aar _ rfl,rfl,rfl⟩,?_⟩,fun b hb=>?_,fun i v hv=>?_,fun s' t' hm=>?_⟩
 . exact pl.isList.at fun o e=>aac _ e
 . have hsz:(s.heap.push { cls:=.type "list_iterator",data:=.fields #[.ref p,.int 0 0]}).objs.size=s.heap.objs.size+1:=abK ..
   show b < (s.heap.push { cls:=.type "list_iterator",data:=.fields #[.ref p,.int 0 0]}).objs.size;rw[hsz];rcases aaJ.mp hb with e | hb
   . rw[e];exact abN _
   . have:b=p:=by simpa using hb
     rw[this];exact acf hp
 . have hv:aH[i]?=some v:=by simpa using hv
   have hi:i < aH.length:=(aae.mp hv).1;have Wd:i < ns.length:=by omega
   obtain⟨u',h1,h2⟩:=rv.get (i:=i) (x:=V.int ns[i]) (by rw[aab,k3 Wd];rfl);rw[hv] at h1;cases h1;obtain⟨t,rfl⟩:=h2;refine⟨t,?_⟩;show _=Value.int (ns.getD i 0) t;rw[Bn,k3 Wd];rfl
 . have ea:preSum (fun i=>ns.getD i 0) aH.toArray.size=ns.sum:=by
     rw[aap,<- hlen,ud ns _ (aaa _),abF]
   rw[ea];refine⟨.int _,H,?_,⟨t',rfl⟩,q⟩;obtain⟨h',g',d',tk,Za⟩:=s';have e1:g'=s.gens:=hm.gens;have e2:d'=s.drawn:=hm.drawn;have e3:Za=s.os:=hm.os;subst e1 e2 e3;refine I.kept (t':=tk) fun b o e=>hm.heap b o (fun z=>?_) (aac _ e)
   have:b=s.heap.objs.size:=by simpa using z
   subst this;exact abA _ (aak e)
theorem boot_sum:bootBuiltins "sum"=some (.builtin "sum"):=by decide +kernel
theorem ml {K:W.Frag}{H:Hp}:∀ {ns:List Int} {vs:List V},bJ K H vs (ns.map Dt.int)->vs=ns.map V.int
 | [],_,.nil=>rfl
 | b::r,_,.cons h t=>by cases h;rw[ml t];rfl
theorem Ei (hm:X.mg "sum"=none)(hc:X.calm=true)(ha:EE X G dl a (.lst (ns.map .int)))(hg:autoParam (Gl X "sum") jp)(he:autoParam (starEach [a] X.env=[(false,eval a X.env)]) jp):EE X G dl (.Call (.Name "sum" p) [a] [] pos) (.int ns.sum):=
 iK (gG (HV hc) hg hm boot_sum (ae ha ah he) (by decide) (by decide) he rfl) fun st H Q zq=>ZL zq fun Hf zq=>have S:=zq.1;have k:=zq.2;⟨Hf,S,fun vs Hf1 H1 g1 r1=>by
   cases r1 with
   | cons r t=>cases t;cases r with
     | @lst q vs _ z r=>
       have ev:=ml r;subst ev;exact⟨q,ns,rfl,.of (g1.sub _ _ z),k _ Hf1 H1 g1 (.int _)⟩⟩
theorem zv:∀ {xs:List Str} {us:List Value},Vals (xs.map V.str) us->∃ l:List (Str×Tok),us=strValues l/\l.map (·.1)=xs
 | [],_,.nil=>⟨[],rfl,rfl⟩
 | x::r,_,.cons h t=>by
   obtain⟨tk,rfl⟩:=h;obtain⟨l,rfl,e⟩:=zv t;exact⟨(x,tk)::l,rfl,by rw[aao,e]⟩
theorem NV:Rb X "str.join" (fun x xs H Q=>∃ (z:Str) (p:Addr) (ys:List Str),x=.str z/\xs=[.ref p]/\nA X.K H p (ys.map V.str)/\JoinOk z ys=true/\Q (.str (Txt.join z ys)) H):=by
 intro pins s σ H x xs v us Q I rx rv ⟨z,p,ys,e1,e2,hq,bO,q⟩;subst e1 e2;obtain⟨t,rfl⟩:=(show ∃ t,v=Value.str z t from rx)
 obtain⟨u,rfl,ru⟩:=vals1 rv;cases ru;obtain⟨aH,r,pl,hz⟩:=I.list hq;obtain⟨l,rfl,el⟩:=zv r;exact SC.join pl.isList el bO fun t' k=>⟨.str (Txt.join z ys),H,I.tok _,⟨t',rfl⟩,q⟩
theorem NW (ha:EE X G dl a (.str x))(he:EE X G dl e (.lst (xs.map .str)))(bO:JoinOk x xs=true)(jx:autoParam (attributeBase a "join" X.env (eval a X.env)=eval a X.env) jp)
   (tS:autoParam (((backTo bR (starEach [e] X.env)).all (fun x=>!x.1) && (backToKw bR (keywordEach [] X.env)).all (fun x=>x.1.isSome) && decide ([e].length+([]:List Keyword).length+(if ([]:List Keyword).isEmpty then 0 else 1) < 30))=true) jp)
   (jy:autoParam ((apos.endLine == bR.line)=true) jp) (ny:autoParam (starEach [e] X.env=(false,eval e X.env)::starEach [] X.env) jp):EE X G dl (.Call (.Attribute a "join" apos) [e] [] bR) (.str (Txt.join x xs)):=
 iK (uP PySem.F.plainAttrs_str PySem.F.slot_str_join PySem.F.type_str_join NV ha (ae he ah ny) jx tS jy ny rfl) fun st H Q zq=>ZL zq fun Hf zq=>have S:=zq.1;have k:=zq.2;⟨Hf,S,fun v Hf1 H1 g1 r1=>by
   cases r1;refine⟨rfl,Hf1,S.grow g1,fun us b6 H2 g2 r2=>?_⟩;cases r2 with
   | cons r2 t2=>cases t2;cases r2 with
     | @lst q vs _ hq rp=>
       have ev:=ql rp;subst ev;exact⟨x,q,xs,rfl,rfl,.of (g2.sub _ _ hq),bO,k _ b6 H2 (g1.trans g2) (.str _)⟩⟩
end
noncomputable def mn (kds:List (Key×Dt))(k:Key):Option Dt:=(kds.find? fun kv=>decide (kv.1=k)).map (·.2)
theorem sF {p:Key×Dt}{r:List (Key×Dt)}{k:Key}(e:p.1=k):mn (p::r) k=some p.2:=by simp[mn,abR,e]
theorem pM {p:Key×Dt}{r:List (Key×Dt)}{k:Key}(e:¬ p.1=k):mn (p::r) k=mn r k:=by simp[mn,abR,e]
theorem c6.val {K:W.Frag}{H:Hp}{k:Key}:∀ {kvs:List (Key×V)} {kds:List (Key×Dt)} {d:Dt},c6 K H kvs kds->mn kds k=some d->∃ v,pH kvs k=some v/\Rep K H v d
 | _,_,_,.nil,e=>by cases e
 | (k1,v1)::r,(_,d1)::s,d,.cons h t,e=>by
   by_cases q:k1=k
   . rw[sF (p:=(k1,d1)) q] at e;cases e
     exact⟨v1,pI (p:=(k1,v1)) q,h⟩
   . rw[pM (p:=(k1,d1)) q] at e
     obtain⟨v,z1,z2⟩:=c6.val t e;exact⟨v,by rw[nF (p:=(k1,v1)) q];exact z1,z2⟩
theorem c6.zw {K:W.Frag}{H:Hp}{k:Key}:∀ {kvs:List (Key×V)} {kds:List (Key×Dt)},c6 K H kvs kds->(pH kvs k).isSome=(mn kds k).isSome
 | _,_,.nil=>rfl
 | (k1,v1)::r,(_,d1)::s,.cons h t=>by
   by_cases q:k1=k
   . rw[pI (p:=(k1,v1)) q,sF (p:=(k1,d1)) q];rfl
   . rw[nF (p:=(k1,v1)) q,pM (p:=(k1,d1)) q]
     exact c6.zw t
theorem c6.snoc {K:W.Frag}{H:Hp}{k:Key}{v:V}{d:Dt}(q:Rep K H v d):∀ {kvs:List (Key×V)} {kds:List (Key×Dt)},c6 K H kvs kds->c6 K H (kvs ++ [(k,v)]) (kds ++ [(k,d)])
 | _,_,.nil=>.cons q .nil
 | _,_,.cons h t=>.cons h (c6.snoc q t)
theorem F5 {kvs:List (Key×V)}{k:Key}{v:V}(h:(pH kvs k).isSome=false):putK kvs k v=kvs ++ [(k,v)]:=by
 unfold putK;rw[sq,h];exact if_neg (by simp)
section
variable {X:Cx}{G:Gr}{E:XK}{dl:List Slot}{a b e i o:Expr}{d:Dt}{pos p:Pos}{k x:Str}{kds:List (Key×Dt)}
theorem F6 (hu:X.A.units+1 < cLine)(ho:EE X G dl o (.cZ kds))(hi:EE X G dl i (.str k))(h:mn kds (.inr k)=some d)(hs:Nx i):EE X G dl (.Subscript o i pos) d:=
 iK (FJ hu ho hi hs) fun st H Q zq=>ZL zq fun Hf zq=>have S:=zq.1;have kk:=zq.2;⟨Hf,S,fun v Hf1 H1 g1 r1=>⟨Hf1,S.grow g1,fun w b6 H2 g2 r2=>by
   cases r2;cases r1 with
   | @cZ q kvs _ hq rp=>
     obtain⟨y,z1,z2⟩:=rp.val h;have e:=vc.k (H:=H2) (k:=.inr k) (g2.big _ _ (g1.sub _ _ hq));rw[z1] at e;exact⟨q,y,rfl,e,kk y b6 H2 (g1.trans g2) (z2.mono g2.bU)⟩⟩⟩
theorem ZE {neg:Bool}:∀ st H Q,tD X.K G dl (.bl (if neg then !(mn kds (.inr k)).isSome else (mn kds (.inr k)).isSome)) st H Q->(if neg then FI (tD X.K G dl (.str k)) (tD X.K G dl (.cZ kds)) else Zn (tD X.K G dl (.str k)) (tD X.K G dl (.cZ kds))) st H Q:=fun st H Q zq=>ZL zq fun Hf zq=>have S:=zq.1;have kk:=zq.2;by
 cases neg with
 | false=>exact⟨Hf,S,fun v Hf1 H1 g1 r1=>⟨Hf1,S.grow g1,fun w b6 H2 g2 r2=>by
     cases r1;cases r2 with
     | @cZ q kvs _ hq rp=>exact⟨q,_,rfl,vc.k (k:=.inr k) (g2.sub _ _ hq),by rw[rp.zw];exact kk _ b6 H2 (g1.trans g2) (.bl _)⟩⟩⟩
 | true=>exact⟨Hf,S,fun v Hf1 H1 g1 r1=>⟨Hf1,S.grow g1,fun w b6 H2 g2 r2=>by
     cases r1;cases r2 with
     | @cZ q kvs _ hq rp=>exact⟨q,_,rfl,vc.k (k:=.inr k) (g2.sub _ _ hq),by rw[rp.zw];exact kk _ b6 H2 (g1.trans g2) (.bl _)⟩⟩⟩
theorem F7 (hu:X.A.units+1 < cLine)(hi:EE X G dl i (.str k))(ho:EE X G dl o (.cZ kds))(hm:autoParam (behindInMarks .NotIn o=false) jp):EB X G dl (.Compare i [.NotIn] [o] pos) (!(mn kds (.inr k)).isSome):=
 VE (Jn (zk hu hi ho) hm) fun st H Q zq=>ZL zq fun Hf zq=>have S:=zq.1;have kk:=zq.2;ZE (neg:=true) st H _ ⟨Hf,S,fun v aJ H' g r=>by cases r;exact⟨_,rfl,kk aJ H' g⟩⟩
theorem CC:bootBuiltins "tuple"=some (.type "tuple"):=by decide +kernel
theorem NX {ds:List Dt}(hm:X.mg "tuple"=none)(ha:EE X G dl a (.tup ds))(hg:autoParam (Gl X "tuple") jp)(he:autoParam (starEach [a] X.env=[(false,eval a X.env)]) jp):EE X G dl (.Call (.Name "tuple" p) [a] [] pos) (.tup ds):=
 iK (nE B6 hg hm CC (ae ha ah he) (he:=he)) fun st H Q zq=>ZL zq fun Hf zq=>have S:=zq.1;have k:=zq.2;⟨Hf,S,fun vs Hf1 H1 g1 r1=>by
   cases r1 with
   | cons r t=>cases t;cases r with
     | @tup q vs _ z r=>exact⟨q,vs,rfl,f6 g1.sub z,k _ Hf1 H1 g1 (.tup z r)⟩⟩
theorem Aw:EO X G dl (.Dict [] [] pos) (.cZ []):=iK Cb fun st H Q zq=>ZL zq fun Hf zq=>have S:=zq.1;have k:=zq.2;fun p hp=>k p Hf _ (.fF S.sub hp) hp (S.sub.free hp) ⟨[],ak,.nil⟩
noncomputable def uX (kds:List (Key×Dt))(k:Key)(v:Dt):List (Key×Dt):=
 if (mn kds k).isSome=true then kds.map (fun kv=>if kv.1=k then (kv.1,v) else kv) else kds ++ [(k,v)]
theorem c6.map_put {K:W.Frag}{H:Hp}{k:Key}{v:V}{d:Dt}(q:Rep K H v d):∀ {kvs:List (Key×V)} {kds:List (Key×Dt)},c6 K H kvs kds ->
   c6 K H (kvs.map fun kv=>if kv.1=k then (kv.1,v) else kv) (kds.map fun kv=>if kv.1=k then (kv.1,d) else kv)
 | _,_,.nil=>.nil
 | (k1,v1)::r,(_,d1)::s,.cons h t=>by
   rw[aao,aao];by_cases e:k1=k
   . rw[if_pos e,if_pos e];exact .cons q (c6.map_put q t)
   . rw[if_neg e,if_neg e];exact .cons h (c6.map_put q t)
theorem c6.put {K:W.Frag}{H:Hp}{k:Key}{v:V}{d:Dt}{kvs:List (Key×V)}{kds:List (Key×Dt)}(q:Rep K H v d)(r:c6 K H kvs kds):c6 K H (putK kvs k v) (uX kds k d):=by
 unfold putK uX;rw[sq,r.zw];by_cases h:(mn kds k).isSome=true
 . rw[if_pos h,if_pos h];exact c6.map_put q r
 . rw[if_neg h,if_neg h];exact c6.snoc q r
theorem Ax (n:Nat){ps pn:Pos}(hu:X.A.units+1 < cLine)(he:EE X G dl e d)(hb:EE X G dl b (.str k))(hl:kds.length < sizeLine)(hd:autoParam (dl[n]?=some (.own (.cZ kds))) jp)(hN:autoParam (X.N[n]?=some x) jp)(hv:autoParam (wu X.env.scope x) xL)(mI:autoParam ((x == ("__debug__":Str))=false) zn)(nz:autoParam ((x == ("__classdict__":Str))=false) zn)(hs:autoParam (swapsWith e (some (.Subscript (.Name x pn) b ps)) pos.line X.env=pure false) jp):ES X G E dl (.Assign [.Subscript (.Name x pn) b ps] e pos) (.nx (dl.set n (.own (.cZ (uX kds (.inr k) d))))):=
 tH (FK hu (wU (p:=pn) n hd hN hv mI nz) hb he hs) fun D st H zq=>ZL zq fun Hf zq=>have S:=zq.1;have kk:=zq.2;⟨Hf,S,fun v Hf1 H1 g1 r1=>by
   have S1:=S.grow g1;obtain⟨q,z1,z2,z3,z4⟩:=S1.own n _ hd;refine⟨Hf1,q,S1,z1,z2,z4,Hf1,S1,fun iv b6 H2 g2 r2=>?_⟩;cases r2;have S2:=S1.grow g2;obtain⟨q',y1,y2,y3,kvs,y4,y5⟩:=S2.own n _ hd;rw[z1] at y1;cases y1;have hll:kvs.length < sizeLine:=by rw[y5.length];exact hl
   exact⟨q,_,rfl,HA.k (k:=.inr k) y4 hll,kk st b6 _ (g1.bU.trans g2.bU) (S2.HH hd z1 ⟨_,ak,y5.put (r1.mono g2.bU)⟩)⟩⟩
noncomputable def q9 (rows:List (Str×List Dt)):List (Key×Dt):=rows.map fun r=>(.inr r.1,.tup (.str r.1::r.2))
noncomputable def wZ (r:Str×List Dt):Dt:=.tup (.str r.1::r.2)
theorem ue {k:Key}:∀ {kds:List (Key×Dt)},(∀ kv∈kds,kv.1≠k)->mn kds k=none
 | [],_=>rfl
 | kv::r,h=>by
   rw[pM (h kv (abk ..))];exact ue fun z hz=>h z (aaC _ hz)
theorem Kk {rows:List (Str×List Dt)}(nd:(rows.map (·.1)).Nodup){j:Nat}(hj:j < rows.length):mn (q9 (rows.take j)) (.inr rows[j].1)=none:=by
 refine ue fun kv UG=>?_
 obtain⟨r,hr,rfl⟩:=aaQ.mp UG;intro z;have z:r.1=rows[j].1:=Sum.inr.inj z;obtain⟨i,hi,e⟩:=aa8.mp hr;have Yb:i < j:=by
   rw[aas] at hi;omega
 rw[ab2] at e;have U6:i < rows.length:=by omega
 have h:=abt.mp nd i j (by rw[k5];exact U6) (by rw[k5];exact hj) Yb;rw[aaL,aaL] at h;exact h (by rw[e];exact z)
theorem Ej (rows:List (Str×List Dt)){j:Nat}(hj:j < rows.length):q9 (rows.take (j+1))=q9 (rows.take j) ++ [(.inr rows[j].1,wZ rows[j])]:=by
 unfold q9;rw[aby,k3 hj,abv];rfl
theorem bB.mq {Hf H aJ H':Hp}{a:Addr}{u:HO}(g:bB Hf H aJ H')(n:Hf a=none)(h:H a=some u)(nk:¬ Kept u:=by exact fun z=>z):aJ a=none:=by
 cases q:aJ a with
 | none=>rfl
 | some o=>
   obtain⟨o',z⟩:=g.Ah h nk q;rw[n] at z;cases z
theorem qp {K:W.Frag}{st:L2.St}{Hf H:Hp}{dlu:List Slot}{p:Addr}{o:HO}(S:eG K G st Hf H dlu)(uT:noOwn dlu=true)(fp:Hf p=none)(gp:G.H p=none):eG K G st Hf (upd H p o) dlu:=
 ⟨⟨fun b u e=>by rw[ai (ax e gp)];exact S.gr.big _ _ e,S.gr.bU,fun b u e=>by rw[ai (ax e fp)];exact S.sub _ _ e,S.gr.new⟩,S.len,S.val,fun j o h=>absurd h (bb uT j o),fun j _ o _ _ h=>absurd h (bb uT j o)⟩
theorem Kl (nR nN:Nat){C z:Addr}{fs:List (Str×Dt)}{rows:List (Str×List Dt)}{f self rw_ rn:Str}{px pr pa pn p1 p3 p4 p5 p6 pi:Pos}{ie ve:Expr}{dlu:List Slot}(hu:X.A.units+1 < cLine)(hN:X.N.Nodup)(sx:X.calm=true)(hp:PassesOwn (model X.prog X.w) X.A X.env X.xe)(cl:vF X.K C)(na:bQ X.K C f)(hd:dl[0]?=some (.own (.Cf z C fs)))(edl:dl.set 0 .aS=dlu)(uT:noOwn dlu=true)(hr:dlu[nR]?=some (.val (.lst (rows.map wZ))))(hn0:nN≠0)(hnR:nN≠nR)(hun:dlu[nN]?=some .aS)(nd:(rows.map (·.1)).Nodup)(hlen:rows.length < sizeLine)(hi:∀ r:Str×List Dt,EE X G (dlu.set nN (.val (wZ r))) ie (.str r.1))(hv:∀ r:Str×List Dt,EE X G (dlu.set nN (.val (wZ r))) ve (wZ r))(hl:autoParam (Nat.ble fs.length 999=true) jp)(UH:autoParam (X.N[0]?=some self) jp)(hNr:autoParam (X.N[nR]?=some rn) jp)(ZF:autoParam (X.N[nN]?=some rw_) jp)(hvs:autoParam (wu X.env.scope self) xL)(hvr:autoParam (wu X.env.scope rn) xL)(mI:autoParam ((self == ("__debug__":Str))=false) zn)(nz:autoParam ((self == ("__classdict__":Str))=false) zn)(ZG:autoParam ((rn == ("__debug__":Str))=false) zn)(ZH:autoParam ((rn == ("__classdict__":Str))=false) zn)(hx:autoParam (Loc X.env.scope rw_) xz)(hf:autoParam (X.fn rw_=true\/X.env.scope.names.lookup rw_=some .local) wf)(IZ:autoParam (swapsWith (.Dict [] [] p1) (some (.Attribute (.Name self pn) f pa)) pos.line X.env=pure false) jp)(BX:autoParam (swapsWith ve (some (.Subscript (.Attribute (.Name self p3) f p4) ie p5)) p6.line X.env=pure false) jp)(hb:autoParam (attributeBase (.Name self p3) f X.env (eval (.Name self p3) X.env)=eval (.Name self p3) X.env) jp)(hfs:autoParam (∀ z,foldedSetIterable (.Name rn pr) X.env z=pure z) v6):nH X G E dl [.Assign [.Attribute (.Name self pn) f pa] (.Dict [] [] p1) pos,.For (.Name rw_ px) (.Name rn pr) [.Assign [.Subscript (.Attribute (.Name self p3) f p4) ie p5] ve p6] [] pi] (.nx (dlu.set 0 (.own (.Cf z C (putD f (.cZ (q9 rows)) fs))))):=by
 have P0:∀ {p:Pos},PE X (.Name self p) fun st H Q=>∃ v,st[0]?=some (some v)/\Q v H:=fun {p}=>ke UH hvs mI nz
 have se:=n6 (FK (pos:=p6) (pos':=p5) hu (wC (pos:=p4) (P0 (p:=p3)) hb) (fun pins s st H Q I (q:∃ r,tD X.K G (dlu.set nN (.val (wZ r))) (.str r.1) st H Q)=>let ⟨r,q⟩:=q;hi r pins s st H Q I q) (fun pins s st H Q I (q:∃ r,tD X.K G (dlu.set nN (.val (wZ r))) (wZ r) st H Q)=>let ⟨r,q⟩:=q;hv r pins s st H Q I q) BX);refine Aj (pD (wD (pos:=pos) (pos':=pa) (P0 (p:=pn)) Cb IZ) (n6 (z7 hp sx (fE (ke (pos:=pr) hNr hvr ZG ZH)) (bo hN ZF hx hf) se hfs))) fun D st H zq=>ZL zq fun Hf zq=>have S:=zq.1;have k:=zq.2;?_
 obtain⟨a,sa,fa,ga,ea,dx,fv,ha,rf⟩:=S.own 0 _ hd;intro p CD;have RY:a≠p:=ax ha CD;have fp:Hf p=none:=S.sub.free CD;have gp:G.H p=none:=S.gr.big.free CD;have RZ:(upd H p (.dK [])) a=some (.ins C dx fv):=by rw[ai RY];exact ha
 refine⟨.ref a,sa,a,C,dx,fv,rfl,RZ,cl,na,by rw[rf.length];exact Nat.lt_succ_of_le (aaW hl),?_⟩;have S0:eG X.K G st Hf H dlu:=by
   subst edl;refine⟨S.gr,by simp[S.len],fun j d h=>?_,fun j o h=>absurd h (bb uT j o),fun j _ o _ _ h=>absurd h (bb uT j o)⟩;by_cases e:0=j
   . subst e
     by_cases UI:0 < dl.length
     . rw[aaf UI] at h;cases h
     . exact absurd (aae.mp hd).1 UI
   . rw[aag e] at h;exact S.val j d h
 have Su:eG X.K G st Hf (upd (upd H p (.dK [])) a (.ins C dx (fY f (.ref p) fv))) dlu:=qp (qp S0 uT fp gp) uT fa ga;obtain⟨lv,MU,Rk⟩:=Su.val nR _ hr;cases Rk with
 | @lst la vs _ hq rp=>
   have hvl:vs.length=rows.length:=by rw[rp.length,k5]
   refine⟨.ref la,MU,la,rfl,⟨vs,.of (Su.sub _ _ hq)⟩,BW (xs:=vs) (fun j kA H'=>∃ aJ kvs,eG X.K G kA aJ H' dlu/\aI Hf aJ/\kA[0]?=some (some (.ref a))/\aJ a=none/\aJ p=none/\H' a=some (.ins C dx (fY f (.ref p) fv))/\H' p=some (.dK kvs)/\c6 X.K aJ kvs (q9 (rows.take j)))
     ⟨Hf,[],Su,aI.refl _,sa,fa,fp,ak,by rw[ai (Ne.symm RY)];exact ak,by rw[List.take_zero];exact .nil⟩ ?_ ?_ ?_⟩
   . rintro j kA H' _ ⟨aJ,kvs,S',sm,_⟩
     exact .of (S'.sub _ _ (sm _ _ hq))
   . rintro j v kA H' PF ⟨aJ,kvs,S',sm,s0,ZI,ZJ,We,Yo,rk⟩
     obtain⟨dz,hz,rz⟩:=rp.get' PF;have hj:j < rows.length:=by
       have:=(aae.mp PF).1;omega
     rw[aab,k3 hj] at hz;cases hz;have Sp:eG X.K G (kA.set nN (some v)) aJ H' (dlu.set nN (.val (wZ rows[j]))):=S'.set (rz.mono sm);have s0':(kA.set nN (some v))[0]?=some (some (.ref a)):=by rw[aag hn0];exact s0
     refine⟨rows[j],aJ,Sp,fun w Hf1 H1 g1 r1=>⟨.ref a,s0',a,C,dx,_,.ref p,rfl,.of (g1.big _ _ We),cl,na,by rw[pE,if_pos rfl],rows[j],Hf1,Sp.grow g1,fun y b6 H2 g2 r2=>?_⟩⟩;cases r2;have g:=g1.trans g2;have Ag:H2 p=some (.dK kvs):=g.big _ _ Yo;have HW:H2 a=some (.ins C dx (fY f (.ref p) fv)):=g.big _ _ We;have UJ:b6 p=none:=g.mq ZJ Yo;have fa2:b6 a=none:=g.mq ZI We;have Wf:=rk.mono g.bU;have Wg:kvs.length < sizeLine:=by
       rw[rk.length];unfold q9;rw[k5,aas];omega
     have Hz:(pH kvs (.inr rows[j].1)).isSome=false:=by rw[rk.zw,Kk nd hj];rfl
     have Sw:eG X.K G (kA.set nN (some v)) b6 H2 dlu:=(Sp.grow g).weak ⟨by simp,fun i s e n=>by
       by_cases hi:nN=i
       . subst hi;rw[hun] at e;cases e;exact absurd rfl n
       . rw[aag hi];exact e⟩
     refine⟨p,_,rfl,HA.k (k:=.inr rows[j].1) Ag Wg,b6,_,qp Sw uT UJ gp,sm.trans g.bU,s0',fa2,UJ,by rw[ai RY];exact HW,ak,?_⟩;rw[F5 Hz,Ej rows hj];exact Wf.snoc (r1.mono g2.bU)
   . rintro kA H' ⟨aJ,kvs,S',sm,s0,ZI,ZJ,We,Yo,rk⟩
     rw[hvl,abF] at rk;have Wh:aI aJ (upd aJ p (.dK kvs)):=bV ZJ;have l0:0 < dlu.length:=by
       rw[<- S'.len];exact(aae.mp s0).1
     refine k kA (upd aJ p (.dK kvs)) H' (sm.trans Wh) ⟨⟨S'.gr.big,S'.gr.bU.trans Wh,fun b u e=>?_,fun b u e=>?_⟩,by simp[S'.len],fun j d h=>?_,fun j o h=>?_,fun i j o o' q h1 h2 h3 h4=>?_⟩
     . by_cases hb:b=p
       . subst hb;rw[ak] at e;cases e;exact Yo
       . rw[ai hb] at e;exact S'.sub _ _ e
     . by_cases hb:b=p
       . subst hb;exact .inr (.inl gp)
       . rw[ai hb] at e;exact S'.gr.new b u e
     . by_cases e:0=j
       . subst e;rw[aaf l0] at h;cases h
       . rw[aag e] at h
         obtain⟨v,z1,z2⟩:=S'.val j d h;exact⟨v,z1,z2.mono Wh⟩
     . by_cases e:0=j
       . subst e
         rw[aaf l0] at h;cases h;exact⟨a,s0,by rw[ai RY];exact ZI,ga,ea,dx,_,We,(rf.mono (sm.trans Wh)).put (.cZ ak (rk.mono Wh))⟩
       . rw[aag e] at h;exact absurd h (bb uT j o)
     . have z:∀ (i:Nat) o,(dlu.set 0 (.own (.Cf z C (putD f (.cZ (q9 rows)) fs))))[i]?=some (.own o)->0=i:=fun i o h=>by
         by_cases e:0=i
         . exact e
         . rw[aag e] at h;exact absurd h (bb uT i o)
       rw[<- z i o h1,<- z j o' h2]
end
theorem F8:∀ {xs:List V} {us:List Value},xs.length=us.length->(∀ (j:Nat) x u,xs[j]?=some x->us[j]?=some u->RelV x u)->Vals xs us
 | [],[],_,_=>.nil
 | [],_::_,h,_=>by cases h
 | _::_,[],h,_=>by cases h
 | x::xs,u::us,h,f=>.cons (f 0 x u rfl rfl) (F8 (Nat.succ.inj h) fun j a b h1 h2=>f (j+1) a b (by simpa using h1) (by simpa using h2))
theorem Km:∀ {kvs:List (Key×V)} {vs:List (Key×Value)},KV kvs vs->∀ {j:Nat} {q:Key×Value},vs[j]?=some q->∃ p,kvs[j]?=some p/\p.1=q.1/\RelV p.2 q.2
 | _,_,.nil,j,q,h=>by simp at h
 | _,_,.cons r t,0,q,h=>by simp at h;subst h;exact⟨_,rfl,r⟩
 | _,_,.cons r t,j+1,q,h=>by
   obtain⟨p,h1,h2⟩:=Km t (j:=j) (q:=q) (by simpa using h);exact⟨p,by simpa using h1,h2⟩
theorem Ek:∀ {kvs:List (Key×V)} {vs:List (Key×Value)},KV kvs vs->kvs.length=vs.length
 | _,_,.nil=>rfl
 | _,_,.cons r t=>congrArg (·+1) (Ek t)
section
variable {X:Cx}{G:Gr}{dl:List Slot}{a o:Expr}{kds:List (Key×Dt)}{pos p:Pos}
theorem El (hc:X.calm=true):kU X (.type "list") (fun xs H Q=>∃ (d:Addr) (kvs:List (Key×V)),xs=[.ref d]/\H d=some (.dK kvs)/\∀ l,H l=none->Q (.ref l) (upd H l (.lst (kvs.map fun kv=>kV kv.1)))):=by
 intro pins s σ H xs us Q I r h;obtain⟨d,kvs,rfl,hq,q⟩:=h;obtain⟨u,rfl,rx⟩:=vals1 r;cases rx;obtain⟨hz,lo,vs,kv,o,es,ep,ho,hr⟩:=I.bO d _ hq;have hl:=Ek kv;refine W.kdl_call (W.kdl_dict (knd:=bF X.prog X.w) (kvs:=vs) (ep:=ep) lo) (I.ok.hd hc) ⟨o,es,ho,hr⟩ (by omega) fun h' tk Wi c' kp e it=>?_
 refine⟨.ref s.heap.objs.size,_,I.laid (t':=tk) kp (aaa _) (show aV X.prog X.w _ h' _ (.lst _) from⟨by rw[k5];exact hz,Wi.toList,c',F8 ?_ fun j x u h1 h2=>?_,e⟩),rfl,q _ (I.bO.fresh (aaa _))⟩
 . have e1:Wi.toList.length=vs.length:=by rw[abW];exact it.1
   rw[k5,e1,hl]
 . rw[acj] at h2
   obtain⟨k,y,z1,z2⟩:=it.2 j u h2;obtain⟨p,z3,z4,_⟩:=Km kv z1;rw[aab,z3] at h1;cases h1;have z4:p.1=k:=z4;show RelV (kV p.1) u;rw[z4];rcases dh z2 with⟨i,t,rfl,rfl⟩ | ⟨i,t,rfl,rfl⟩
   . exact⟨t,rfl⟩
   . exact⟨t,rfl⟩
noncomputable def kD:Key->Dt
 | .inl i=>.int i
 | .inr x=>.str x
theorem uf {K:W.Frag}{H:Hp}:∀ {kvs:List (Key×V)} {kds:List (Key×Dt)},c6 K H kvs kds->bJ K H (kvs.map fun kv=>kV kv.1) (kds.map fun kd=>kD kd.1)
 | _,_,.nil=>.nil
 | (.inl i,_)::_,_,.cons _ t=>.cons (.int i) (uf t)
 | (.inr i,_)::_,_,.cons _ t=>.cons (.str i) (uf t)
theorem Kn (hm:X.mg "list"=none)(hc:X.calm=true)(ha:EE X G dl a (.cZ kds))(hg:autoParam (Gl X "list") jp)(he:autoParam (starEach [a] X.env=[(false,eval a X.env)]) jp):EO X G dl (.Call (.Name "list" p) [a] [] pos) (.lst (kds.map fun kd=>kD kd.1)):=
 iK (nE (El hc) hg hm boot_list (ae ha ah he) (he:=he)) fun st H Q zq=>ZL zq fun Hf zq=>have S:=zq.1;have k:=zq.2;⟨Hf,S,fun vs Hf1 H1 g1 r1=>by
   cases r1 with
   | cons r t=>cases t;cases r with
     | @cZ q kvs _ z r=>exact⟨q,kvs,rfl,g1.sub _ _ z,fun l hl=>k l Hf1 _ (g1.trans (.fF g1.sub hl)) (g1.big.free hl) (g1.sub.free hl) ⟨_,ak,uf r⟩⟩⟩
end
section
variable {K:W.Frag}
theorem R1 {n m l:Nat}{z1 z2 z3:Dt}:Yl K (Nd K 3 (uN (nB n) (uN (nB m) (uN (nB l) Nc)))) (.tup [z1,z2,z3]) (fun dl=>((dl.set n (.val z1)).set m (.val z2)).set l (.val z3)):=fun G st Hf H v dl Q S r k=>by
 cases r with
 | @tup q vs _ hq rp=>
   cases rp with
   | cons r1 t1=>cases t1 with
     | cons r2 t2=>cases t2 with
       | cons r3 t3=>
         cases t3;exact⟨q,_,rfl,f6 S.sub hq,rfl,_,_,rfl,_,_,rfl,_,_,rfl,rfl,k _ (((S.set r1).set r2).set r3)⟩
end
section
variable {X:Cx}{G:Gr}{dl:List Slot}{a:Expr}{pos p:Pos}{u:Bool}
theorem NY (hm:X.mg "int"=none)(ha:EE X G dl a (.bl u))(hg:autoParam (Gl X "int") jp)(he:autoParam (starEach [a] X.env=[(false,eval a X.env)]) jp):EE X G dl (.Call (.Name "int" p) [a] [] pos) (.int (if u then 1 else 0)):=
 iK (nE Hs hg hm boot_int (ae ha ah he) (he:=he)) fun st H Q zq=>ZL zq fun Hf zq=>have S:=zq.1;have k:=zq.2;⟨Hf,S,fun vs Hf1 H1 g1 r1=>by
   cases r1 with
   | cons r t=>cases t;cases r;exact .inr ⟨u,rfl,k _ Hf1 H1 g1 (.int _)⟩⟩
end
noncomputable def Wj (x:Str):It:=
 ⟨fun i H=>∃ c,x.cps[i]?=some c,fun i H v H'=>∃ p c,v=.ref p/\H p=none/\H'=upd H p (.tup [.int i,.str ⟨#[c]⟩])/\x.cps[i]?=some c,fun i H=>i=x.cps.size⟩
theorem Em {P:Program}{w:World}{K:W.Frag}{elts:List Expr}{kt:Nat}{z9:Pos}(x:Str)(t:Tok)(e it:Addr)(UE:e≠it):Turn P w K (.Tuple elts kt z9) (Wj x) [e,it] e (fun i h=>(∃ old,IsEnum h e it i old)/\h.IsStrIter it "str_ascii_iterator" x t i) where
 mem:=by simp
 obj:=fun i h st b hb=>by
   obtain⟨⟨old,he⟩,o,e2,c,d⟩:=st;rcases aaJ.mp hb with rfl | hb
   . exact⟨_,he,fun v z=>by cases z⟩
   . have:b=it:=by simpa using hb
     subst this;exact⟨o,e2,fun v z=>by rw[d] at z;cases z⟩
 keep:=fun i h h' st k=>by
   obtain⟨⟨old,he⟩,o,e2,r⟩:=st;exact⟨⟨old,k e (by simp) _ he⟩,o,k it (by simp) o e2,r⟩
 item:=by
   intro X hP hw hK hc i pins s σ H E I hf st hg;subst hP hw hK;obtain⟨c,hx⟩:=hg;obtain⟨⟨old,he⟩,hit⟩:=st;have Wa:e < s.heap.objs.size:=aak he;have Ym:it < s.heap.objs.size:=by obtain⟨_,z,_⟩:=hit;exact aak z
   have di:i < x.cps.size:=(Array.getElem?_eq_some_iff.mp hx).1;refine wpAny_pyNext_enum_itemD (Draws.strAscii (A:=X.A.in1) (I.ok.hd hc) it x t) he hit di UE (by simpa using UE) fun u h1 tk hP ho RT hT hsz hk=>?_
   obtain⟨c',u',DG,rfl⟩:=hP;rw[hx] at DG;cases DG;refine⟨_,rfl,wpAny_letOwnedTupleGo_enum ho fun h2 Wb BX=>?_⟩;have ZA:h2.get? s.heap.objs.size=some { cls:=.type "tuple",data:=.seq #[.int i tk,.str ⟨#[c]⟩ u']}:=(BX.2 _ (acd Wa)).trans hT;have k2:∀ b o,b ∉ [e,it]->s.heap.get? b=some o->h2.get? b=some o:=fun b o hb q=>(BX.2 b fun z=>hb (by simp[z])).trans (hk b o (fun z=>hb (by simp[z])) (fun z=>hb (by simp[z])) q)
   have hp:H s.heap.objs.size=none:=I.bO.fresh (aaa _);have I2:L2.Inv X pins σ (upd H s.heap.objs.size (.tup [.int i,.str ⟨#[c]⟩])) { s with heap:=h2,toks:=tk+1}:=Cz I hf k2 (aaa _) ⟨aaW rfl,[.int i tk,.str ⟨#[c]⟩ u'],.cons ⟨_,rfl⟩ (.cons ⟨_,rfl⟩ .nil),_,ZA,rfl,_,rfl⟩;refine⟨.ref s.heap.objs.size,_,I2,rfl,⟨_,c,rfl,hp,rfl,hx⟩,⟨⟨_,by simpa using Wb⟩,let ⟨o,z1,z2⟩:=RT;⟨o,(BX.2 it (Ne.symm UE)).trans z1,z2⟩⟩,fun b hb=>?_⟩;have:b≠s.heap.objs.size:=by
     rcases aaJ.mp hb with rfl | hb
     . exact aat Wa
     . have:b=it:=by simpa using hb
       subst this;exact aat Ym
   rw[ai this];exact(hf b hb).1
 done:=by
   intro X hP hw hK hc i pins s σ H E I hf st hg;subst hP hw hK;have hg:i=x.cps.size:=hg;subst hg;obtain⟨⟨old,he⟩,hit⟩:=st;obtain⟨f0,f1,f2,f3,f4,f5⟩:=hf it (by simp);exact wpAny_pyNext_enum_endD (Draws.strAscii (A:=X.A.in1) (I.ok.hd hc) it x t) he hit fun h' eb=>⟨rfl,I.turned (t':=s.toks) (fun b o hb q=>eb b o hb q) f0 f1 f3 f4 f5⟩
 self:=fun _ i s Q E st h=>by
   obtain⟨⟨old,he⟩,_⟩:=st;exact wpAny_pyIter_enum he h
section
variable {X:Cx}{G:Gr}{dl:List Slot}{a:Expr}{x:Str}{p pos:Pos}
def Ko (ta:TA):TI:=fun σ H R=>ta σ H fun vs H1=>∃ x,vs=[.str x]/\lb x=true/\R (Wj x) H1
theorem Kq {elts:List Expr}{kt:Nat}{z9:Pos}{ta:TA}(hg:Gl X "enumerate")(hm:X.mg "enumerate"=none)(ha:PA X [a] ta)(hs:autoParam (starEach [a] X.env=[(false,eval a X.env)]) jp):PI X (.Tuple elts kt z9) (.Call (.Name "enumerate" p) [a] [] pos) (Ko ta):=by
 intro pins s σ H R I h;refine Call_ (tL I hg hm boot_enumerate (PyProof.Rows.callWith_type1 (cn (ha pos pins s σ H _ I h) fun us s1 zq=>Exists.elim zq fun vs zq=>Exists.elim zq fun H1 zq=>have I1:=zq.1;have r1:=zq.2.1;have q1:=zq.2.2;?_) hs rfl));obtain⟨x,e,R3,q⟩:=q1;subst e;cases r1 with
 | cons r rr=>
   cases rr;obtain⟨t,rfl⟩:=r;refine call_enumerate_str fun h' he hit hsz k=>wpAny_pyIter_enum he ?_
   have Vr:strIterType x="str_ascii_iterator":=by unfold strIterType;rw[show x.cps.all (· < 128)=true from R3];rfl
   rw[Vr] at hit;have I2:L2.Inv X pins σ H1 { s1 with heap:=h'}:=I1.kept (t':=s1.toks) k;refine⟨s1.heap.objs.size+1,[s1.heap.objs.size+1,s1.heap.objs.size],_,_,H1,rfl,I2,Em x t _ s1.heap.objs.size (ab5 _),⟨⟨_,he⟩,hit⟩,fun b hb=>?_,q⟩;have NG:s1.heap.objs.size<=b:=by
     rcases aaJ.mp hb with rfl | hb
     . exact abG _
     . have:b=s1.heap.objs.size:=by simpa using hb
       rw[this];exact aaa _
   exact I1.yu NG (I1.bO.fresh NG)
theorem En (hx:lb x=true):sE X G dl (uW (Sg.signs x)) (Ko (UA X.K G dl [.str x])):=fun st H R zq=>ZL zq fun Hf zq=>have S:=zq.1;have k:=zq.2;⟨Hf,S,fun vs Hf1 H1 g1 r1=>by
 cases r1 with
 | cons r t=>
   cases t;cases r;refine⟨x,rfl,hx,k _ Hf1 H1 g1 fun b6 H2 s1 s2 i=>⟨fun z hz=>?_,fun hi=>?_⟩⟩
   . have hi:i < (Sg.signs x).length:=by
       have:=(aae.mp hz).1;unfold uW at this;simpa using this
     unfold uW at hz;rw[aab,aa0 hi] at hz;cases hz;have Fs:(Sg.signs x)[i]?=some ((Sg.signs x).getD i .dk):=by rw[Bn,k3 hi];rfl
     rw[signs_get] at Fs;cases q:x.cps[i]? with
     | none=>rw[q] at Fs;cases Fs
     | some c=>
       rw[q] at Fs;have Fs:Dt.str ⟨#[c]⟩=(Sg.signs x).getD i .dk:=Option.some.inj Fs;refine⟨⟨c,q⟩,fun v H3 ⟨p,c',e1,e2,e3,e4⟩=>?_⟩;rw[q] at e4;cases e4;subst e1 e3;show ∃ j6,bB b6 H2 j6 _/\Rep X.K j6 (V.ref p) (Dt.tup [Dt.int i,(Sg.signs x).getD i Dt.dk]);rw[<- Fs];exact⟨upd b6 p (.tup [.int i,.str ⟨#[c]⟩]),.alloc s2 e2,.tup (.of ak) (.cons (.int _) (.cons (.str _) .nil))⟩
   . show i=x.cps.size
     unfold uW at hi;rw[k5,aaV,qo] at hi;exact hi⟩
end
theorem R4 {us:List Value}{d:Value}(h:(us ++ [d]).length=3):∃ a b,us=[a,b]:=by
 rw[aaq] at h;have h:us.length=2:=Nat.succ.inj h
 match us,h with
 | [a,b],_=>exact⟨a,b,rfl⟩
end Sg
namespace Sg
open PySem PySem.Spec PyProof.Rows L2
open Sem (wp)
structure ZK (z tI tO j1 j2:Addr)(f1 f2:List Addr):Prop where
 tz:tI≠z
 oz:tO≠z
 az:j1≠z
 bz:j2≠z
 to:tI≠tO
 ta:tI≠j1
 tb:tI≠j2
 oa:tO≠j1
 ob:tO≠j2
 ab:j1≠j2
 z1:z ∉ f1
 o1:tO ∉ f1
 b1:j2 ∉ f1
 z2:z ∉ f2
 o2:tO ∉ f2
 a2:j1 ∉ f2
inductive ZS where
 | txt (x:Str) (t:Tok)
 | lst (l:Addr)
noncomputable def ZS.val:ZS->Value
 | .txt x t=>.str x t
 | .lst l=>.ref l
noncomputable def ZS.obj:ZS->Obj
 | .txt x t=>{ cls:=.type (strIterType x),data:=.fields #[.str x t,.int 0 0]}
 | .lst l=>{ cls:=.type "list_iterator",data:=.fields #[.ref l,.int 0 0]}
def ZS.ok (h:Heap):ZS->Prop
 | .txt x _=>lb x=true
 | .lst l=>∃ xs,h.IsList l xs
def ZS.at (it:Addr)(i:Nat)(h:Heap):ZS->Prop
 | .txt x t=>h.IsStrIter it "str_ascii_iterator" x t i
 | .lst l=>h.IsListIter it l i
noncomputable def ZS.v:ZS->V
 | .txt x _=>.str x
 | .lst l=>.ref l
section
inductive ZD:Dt->List Dt->Prop
 | lst (xs:List Dt):ZD (.lst xs) xs
 | str (x:Str):lb x=true->ZD (.str x) (Sg.signs x)
end
noncomputable def exO (C t:Addr)(od:Option Addr):Obj:={ cls:=.ref C,dict:=od,data:=.fields #[.ref t,.none,.none,.none,.bool false,.none]}
def ExB (h:Heap)(e C:Addr)(od:Option Addr):Prop:=∃ t:Addr,h.get? e=some (exO C t od)
section
variable {C:Addr}
structure StX (K:W.Frag)(C:Addr)(f:Str):Prop where
 sa:W.findIn K (.ref C) "__setattr__"=some (some (.builtin "object.__setattr__"))
 na:W.findIn K (.ref C) f=some none
 ob:W.mroIn K C (.type "object")=some true
 mr:∃ G,(W.clsIn K C).map (·.mro)=some [.ref C,.ref G,.type "ValueError",.type "Exception",.type "BaseException",.type "object"]
 hd:(W.clsIn K C).map (·.hasDict)=some true
end
noncomputable def R5 (K:PySem.W.Frag)(C:Addr)(bmB:List Value)(nw:String)(fI:Addr):Bool:=match K.lookup C with
 | some ⟨.type "type",_,.cls cd,sl⟩=>(match cd.mro,sl.toList with
   | .ref D::tl,[_,_,_,_,some (.builtin n),_]=>D == C && (n == nw && (!cd.hasDel && (PySem.W.tailIn K bmB tl && (PySem.W.nsOkIn K cd.ns && (PySem.W.nsIn K cd.ns "__init__" == some (some (.ref fI)))))))
   | _,_=>false)
 | _=>false
structure XcI (K:W.Frag)(C fI:Addr):Prop where
 ex:R5 K C bmV "ValueError.__new__" fI=true
 fn:W.typeIn K (.ref fI)=some (.type "function")
 kp:W.keepIn K (.ref C)=true
structure XcB (K:W.Frag)(G:Addr):Prop where
 sp:W.specialIn K (.ref G) "__getattribute__"=some (some (.builtin "type.__getattribute__"))
 rd:W.readsIn K G (.type "type")=true
 fc:W.findCls K (.ref G) (.type "type") "__init__"=some (.val (.builtin "ValueError.__init__"))
noncomputable abbrev xT (z C:Addr)(od:Option Addr):HO:=.ext fun h=>ExB h z C od
def spX (K:W.Frag)(C:Addr)(f:Str)(ok:Dt->Prop):Sp:=fun vs H Q E=>∃ Hf H1 z v d,vs=[.ref z,v]/\H=upd H1 z (xT z C none)/\H1 z=none/\aI Hf H1/\Rep K Hf v d/\ok d /\
 ∀ b6 H2 dx,bB Hf H b6 H2->H2 dx=none->dx≠z->Q .dk (upd (upd H2 dx (.xd [(f,v)])) z (xT z C (some dx)))
structure XF (P:Program)(w:World)(K:W.Frag)(mg:Str->Option Value)(base:Heap)(CX:tR)(k:Nat)(x:Str)(C:Addr)(f:Str)(ok:Dt->Prop):Prop where
 ex:∃ fI fd ps,kW P w K mg base CX k fI fd ps (spX K C f ok)/\XcI K C fI/\mg x=some (.ref C)/\Binds K fd ps []
section
variable {X:Cx}{G:Gr}{E:XK}{dl:List Slot}{e:Expr}{p pos apos bR:Pos}{x:Str}{ds MV:List Dt}
theorem zx (n:Nat){pn:Pos}(he:EE X G dl e (.lst MV))(hl:ds.length+MV.length<=sizeLine)(hd:autoParam (dl[n]?=some (.own (.lst ds))) jp)(hN:autoParam (X.N[n]?=some x) jp)(hv:autoParam (wu X.env.scope x) xL)
   (mI:autoParam ((x == ("__debug__":Str))=false) zn) (nz:autoParam ((x == ("__classdict__":Str))=false) zn)
   (jx:autoParam (attributeBase (.Name x pn) "extend" X.env (eval (.Name x pn) X.env)=eval (.Name x pn) X.env) jp)
   (tS:autoParam (((backTo bR (starEach [e] X.env)).all (fun x=>!x.1) && (backToKw bR (keywordEach [] X.env)).all (fun x=>x.1.isSome) && decide ([e].length+([]:List Keyword).length+(if ([]:List Keyword).isEmpty then 0 else 1) < 30))=true) jp)
   (jy:autoParam ((apos.endLine == bR.line)=true) jp) (ny:autoParam (starEach [e] X.env=(false,eval e X.env)::starEach [] X.env) jp) (hs:autoParam (swapsWith (.Call (.Attribute (.Name x pn) "extend" apos) [e] [] bR) none pos.line X.env=pure false) jp) :
   ES X G E dl (.Expr (.Call (.Attribute (.Name x pn) "extend" apos) [e] [] bR) pos) (.nx (dl.set n (.own (.lst (ds ++ MV))))):=
 tH (mG (uP PySem.F.plainAttrs_list PySem.F.slot_list_extend PySem.F.type_list_extend Hy (wU (p:=pn) n hd hN hv mI nz) (ae he ah ny) jx tS jy ny rfl) hs) fun D st H zq=>ZL zq fun Hf zq=>have S:=zq.1;have k:=zq.2;by
   obtain⟨q,z1,z2,z3,vs,hq,rp⟩:=S.own n _ hd;refine⟨Hf,q,S,z1,z2,⟨vs,hq,rp⟩,.inl ⟨rfl,vs,.of hq⟩,Hf,S,fun us Hf1 H1 g1 r1=>?_⟩;cases r1 with
   | cons r1 t1=>
     cases t1;cases r1 with
     | @lst b zs _ hb rz=>
       refine⟨q,b,vs,zs,rfl,rfl,g1.big _ _ hq,g1.sub _ _ hb,by rw[rp.length,rz.length];exact hl,?_⟩;exact k st Hf1 _ g1.bU ((S.grow g1).HH hd z1 ⟨_,ak,(rp.mono g1.bU).append rz⟩)
end
mutual
noncomputable def ZM:Dt->Bool
 | .lst _=>false
 | .r8 _=>false
 | .tup ds=>Wk ds
 | .cZ kds=>Wl kds
 | .obj _ fs=>Wm fs
 | .tV _=>false
 | .xo _=>false
 | .HF _ _=>false
 | .eF _=>false
 | .memo _ _ _ _=>false
 | .fZ _ _ _ _=>false
 | .yw _ _ _=>false
 | .zl _ _ _ _ _=>false
 | .oe _=>false
 | _=>true
noncomputable def Wk:List Dt->Bool
 | []=>true
 | d::r=>ZM d && Wk r
noncomputable def Wl:List (Key×Dt)->Bool
 | []=>true
 | (_,d)::r=>ZM d && Wl r
noncomputable def Wm:List (Str×Dt)->Bool
 | []=>true
 | (_,d)::r=>ZM d && Wm r
end
structure Wn (k:Nat)(A:Around):Prop where
 dp:A.depth+3 * k+5 < recursionLimit
 un:A.units+16 * k+200 < cLine
structure Wo (P:Program)(w:World)(K:W.Frag)(mg:Str->Option Value)(base:Heap)(CX:tR)(k:Nat)(f:Addr)(fd:FuncData)(ps:List Str)(sp:Sp):Prop where
 len:∀ vs H Q E,sp vs H Q E->vs.length=ps.length
 run:∀ (A:Around) (outer:List Env) (s:Shared) (H:Hp) (args:Args) (us:List Value) (vs:List V) (Q:VK) (E:XK),Wn k A->BY P w K mg base A outer s H->BindsTo s fd args (ps.zip us)->Vals vs us->sp vs H Q E ->
   codeAny (model P w) A (.call (.ref f) args) (CR CX outer P w H s Q E) s
structure GFH (P:Program)(w:World)(K:W.Frag)(mg:Str->Option Value)(base:Heap)(CX:tR)(k:Nat)(x:Str)(n:Nat)(R:List Dt->Res->Prop):Prop where
 ex:∃ f fd ps,Wo P w K mg base CX k f fd ps (FQ K n R)/\mg x=some (.ref f)/\W.keepIn K (.ref f)=true/\Binds K fd ps []
theorem w4:typeLookup (.type "list") "keys"=pure none:=am_miss_of_fast (by decide +kernel)
theorem HX {prog:Program}{w:World}{A:Around}{E:Value->Shared->Prop}{s:Shared}{a:Addr}{o:Obj}{xs:Array Value}{k:Nat}{Q:Option Value->Shared->Prop}(hx:s.heap.get? a=some o)(hc:o.cls=.type "list")(Wq:o.data=.seq xs k)(hd:o.dict=none)(hA:A.handled=none)(h:∀ h' tk,(∀ b u,s.heap.get? b=some u->h'.get? b=some u)->Q none { s with heap:=h',toks:=tk}):wpAny (model prog w) A (getAttr? (.ref a) "keys") Q E s:=by
 obtain⟨c,dct,dat,sl⟩:=o;simp only at hc Wq hd;subst hc Wq hd;obtain⟨hp,g,d,tk,os⟩:=s;have hT:∀ tk',(⟨hp,g,d,tk',os⟩:Shared).TypeIs (.ref a) "list":=fun _=>⟨_,hx,rfl⟩
 have f1:=sub_AttributeError;have f3:=F.slot_list_getattribute.lookup;have f4:=F.slot_list_getattribute.bind (.ref a);have f5:=am_list_getattr_none;unfold getAttr? getAttrBy? getAttrBy
 repeat (any_goals (first | assumption | exact hT _ | ((with_reducible show wpAny _ _ (call (Value.builtin "list.__getattribute__") _ _) _ _ _);refine call_meets F.slot_list_getattribute (hT _) am_entry_list_getattribute (F.args_list_getattribute_2 _ _) (meets_getattribute_miss_list a xs k sl "keys" _ w4 (by decide +kernel)) ⟨hx,hA,fun h' tk' e Fs=>?_⟩) | wp_step))
 obtain⟨t',u',he⟩:=Fs.there;show wpAny _ _ (getattributeRaised _ _ _ _ _ _ _) _ _ _;unfold getattributeRaised
 repeat (any_goals (first | assumption | wp_step))
 exact h _ _ Fs.keeps
theorem kE:plainId "dict.update.loop"=true:=by decide +kernel
theorem rb:entryFor table "dict.update.loop"=some Builtin.«dict.update.loop»:=entryFor_of_fast (by kernel_rfl)
inductive Jb (K:W.Frag)(H:Hp):List V->List (Key×V)->Prop
 | nil:Jb K H [] []
 | cons {t:Addr} {k:Key} {v:V} {xs:List V} {kvs:List (Key×V)}:DH K H t [kV k,v]->Jb K H xs kvs->Jb K H (.ref t::xs) ((k,v)::kvs)
theorem Jb.length {K:W.Frag}{H:Hp}:∀ {xs:List V} {kvs:List (Key×V)},Jb K H xs kvs->xs.length=kvs.length
 | _,_,.nil=>rfl
 | _,_,.cons _ r=>congrArg (·+1) (Jb.length r)
theorem Jb.get {K:W.Frag}{H:Hp}:∀ {xs:List V} {kvs:List (Key×V)} {i:Nat} {kv:Key×V},Jb K H xs kvs->kvs[i]?=some kv->∃ t,xs[i]?=some (.ref t)/\DH K H t [kV kv.1,kv.2]
 | _,_,_,_,.nil,e=>by simp at e
 | _,_,0,_,.cons h _,e=>by simp at e;subst e;exact⟨_,rfl,h⟩
 | _,_,i+1,_,.cons _ r,e=>by
   obtain⟨t,h1,h2⟩:=Jb.get (i:=i) r (by simpa using e);exact⟨t,by simpa using h1,h2⟩
theorem CF {kvs:List (Key×V)}{k:Key}(h:k ∉ kvs.map (·.1)):(pH kvs k).isSome=false:=by
 induction kvs with
 | nil=>rfl
 | cons p r ih=>
   have h1:¬ p.1=k:=fun e=>h (by simp[e])
   rw[nF h1];exact ih fun z=>h (by simp at z ⊢;exact .inr z)
section
variable {X:Cx}{pins:List (Addr×Obj)}{σ:L2.St}{H:Hp}{A:Around}{R:Result->Shared->Prop}{L d it:Addr}{xs:List V}{kvs:List (Key×V)}
theorem Kr (hA:A.handled=none)(hL:nA X.K H L xs)(hp:Jb X.K H xs kvs)(nd:(kvs.map (·.1)).Nodup)(hd:H d=none)(hf:mi X pins H it)(ZN:d≠it)(hz:kvs.length<=sizeLine)(hR:∀ s',L2.Inv X pins σ (upd H d (.dK kvs)) s'->R (.ok (.ret .none)) s'):∀ (k i:Nat) (s:Shared) (tk:Tok),kvs.length - i=k->i<=kvs.length->L2.Inv X pins σ (upd H d (.dK (kvs.take i))) s->s.heap.IsListIter it L i->codeAny (model X.prog X.w) A (.builtin "dict.update.loop" ⟨[.ref d,.ref it,.int i tk,.none],[]⟩) R s:=by
 have hlen:=hp.length;have sm:∀ o,aI H (upd H d o):=fun o=>bV hd
 obtain⟨f0,f1,f2,f3,f4,f5⟩:=hf;intro k
 induction k with
 | zero=>
   intro i s tk hk hi I st;have MW:i=kvs.length:=by omega
   subst MW;obtain⟨aH,rv,p,hz'⟩:=I.list ((sm _).seq hL);have hl:=rv.length;refine codeAny_builtin rb ?_;rw[Around.under_plainId kE _];show wpAny _ A.in1 (pyNext (.ref it) >>= _) _ _ s;refine wpAny_bind (wpAny_pyNext_list_end (show A.in1.handled=none from hA) st p.isList (by simp;omega) fun h' eb=>?_);have I1:L2.Inv X pins σ (upd H d (.dK (kvs.take kvs.length))) { s with heap:=h'}:=I.turned (t':=s.toks) (fun b o hb e=>eb b o hb e) (by rw[ai (Ne.symm ZN)];exact f0) f1 f3 f4 f5;rw[abF] at I1;show wpAny _ A.in1 (Builtin.Dict.addKeywords d [] >>= _) _ _ _;exact wpAny_bind (wpAny_pure (wpAny_pure (hR _ I1)))
 | succ k ih=>
   intro i s tk hk hi I st;have di:i < kvs.length:=by omega
   obtain⟨t,ht1,ht2⟩:=hp.get (k3 di);obtain⟨aH,rv,p,hz'⟩:=I.list ((sm _).seq hL);obtain⟨u,hu,ru⟩:=rv.get ht1;cases (show u=Value.ref t from ru);refine codeAny_builtin rb ?_;rw[Around.under_plainId kE _];show wpAny _ A.in1 (pyNext (.ref it) >>= _) _ _ s;refine wpAny_bind (wpAny_pyNext_list_item st p.isList (x:=.ref t) (by simpa using hu) fun h' kA sb=>?_);have I1:L2.Inv X pins σ (upd H d (.dK (kvs.take i))) { s with heap:=h'}:=I.turned (t':=s.toks) (fun b o hb e=>(sb.2 b hb).trans e) (by rw[ai (Ne.symm ZN)];exact f0) f1 f3 f4 f5;obtain⟨pit,rp,pt,hzt⟩:=I1.tuple (f6 (sm _) ht2);cases rp with
   | cons rk rp=>cases rp with
     | cons rv' rp=>
       cases rp;rename_i ku vu;obtain⟨ot,eo,ZO,nn,hdt⟩:=pt;refine wpAny_bind (wpAny_holding (wpAny_bind (wpAny_tryCatch ?_)));unfold Builtin.Dict.pairItems;refine wpAny_bind (wpAny_typeOf (T:="tuple") ⟨_,eo,ZO⟩ ?_);simp only[show((Value.type "tuple" == Value.type "list") || (Value.type "tuple" == Value.type "tuple"))=true by decide,if_true];refine wpAny_bind (wpAny_seqItems eo hdt (wpAny_pure ?_));show wpAny _ A.in1 (holding [ku,vu] (dictSet d ku vu)) _ _ _;refine wpAny_holding ?_;have ed:(upd H d (HO.dK (kvs.take i))) d=some (.dK (kvs.take i)):=ak;obtain⟨z,hdm,vs,rel,dd⟩:=FG I1.bO ed;have hzv:vs.length<=sizeLine:=by rw[<- rel.length];exact z
       have Wr:putK (kvs.take i) kvs[i].1 kvs[i].2=kvs.take (i+1):=by
         rw[F5 (CF ?_),List.take_succ,k3 di];rfl;rw[List.map_take];intro hm;obtain⟨j,hj,e⟩:=aa8.mp hm;rw[aas,k5] at hj;rw[ab2,aaL] at e;have:=abt.mp nd j i (by rw[k5];omega) (by rw[k5];omega) (by omega);rw[aaL,aaL] at this;exact this e
       refine wpAny_dictSet_pairs (hsz:=hzv) (B8 rk) dd fun h2 Rp hs=>?_
       have he:∃ q,h2.get? d=some q:=let ⟨q,_,_,hq,_⟩:=Rp;⟨q,hq⟩;have I2:L2.Inv X pins σ (upd (upd H d (.dK (kvs.take i))) d (.dK (putK (kvs.take i) kvs[i].1 kvs[i].2))) { s with heap:=h2,toks:=s.toks+1}:=n9 (s:={ s with heap:=h'}) (t':=s.toks+1) I1 (by rw[ed];exact True.intro) hs he (JH (by rw[Wr,aas];omega) hdm (rel.put _ rv') Rp);rw[vC,Wr] at I2;exact wpAny_pure ⟨plainId_quiet kE _,ih (i+1) _ _ (by omega) (by omega) I2 (kA.at fun o e=>(hs.2 it (Ne.symm ZN)).trans e)⟩
theorem Ay (hc:X.calm=true):kU X (.type "dict") (fun xs H Q=>∃ L ys kvs,xs=[.ref L]/\H L=some (.lst ys)/\Jb X.K H ys kvs/\(kvs.map (·.1)).Nodup/\kvs.length<=sizeLine/\∀ l,H l=none->Q (.ref l) (upd H l (.dK kvs))):=by
 intro pins s σ H xs us Q I r h;obtain⟨L,ys,kvs,rfl,hL,hp,nd,hz,q⟩:=h;obtain⟨u,rfl,rx⟩:=vals1 r;cases rx;refine callType_codes (Q₁:=fun obj s₁=>obj=.ref s.heap.objs.size/\s₁={ s with heap:=s.heap.push { cls:=.type "dict",data:=.dict #[]}}) F.kt_called_dict (F.kt_typeCall_dict_1 _) F.entry_dict_init (kt_code_dict_new _ ⟨rfl,rfl⟩) ?_
 rintro obj s₁ ⟨rfl,rfl⟩
 have Hz:(s.heap.push { cls:=.type "dict",data:=.dict #[]}).DictOf (bF X.prog X.w) s.heap.objs.size []:=Heap.DictOf.new s.heap;have hn:=I.bO.fresh (aaa _);have I1:L2.Inv X pins σ (upd H s.heap.objs.size (.dK [])) { s with heap:=s.heap.push { cls:=.type "dict",data:=.dict #[]}}:=I.laid (a:=s.heap.objs.size) (o:=.dK []) (t':=s.toks) (fun _ _ q=>aac _ q) (aaa _) (Ca s.heap I.big);refine⟨Hz.typeIs,F.args_dict_init_2 _ _,?_⟩;unfold Builtin.«dict.__init__»;refine wpAny_bind ?_;unfold Builtin.Dict.selfAndRest;refine wpAny_bind (wpAny_notOrdered_dict Hz.typeIs ?_);show wpAny _ _ (pure (s.heap.objs.size,[Value.ref L])) _ _ _;refine wpAny_pure ?_;show wpAny _ _ (Builtin.Dict.updateFrom "dict.__init__" s.heap.objs.size (.ref L) [] .none) _ _ _;unfold Builtin.Dict.updateFrom;have hdL:s.heap.objs.size≠L:=fun e=>by rw[<- e,hn] at hL;cases hL
 have hL1:(upd H s.heap.objs.size (HO.dK [])) L=some (.lst ys):=by rw[ai (Ne.symm hdL)];exact hL
 obtain⟨hz',aH,n,rv,eL⟩:=(show aV X.prog X.w _ _ L (.lst ys) from I1.bO L _ hL1)
 have hA:X.A.handled=none:=I.ok.hd hc;refine wpAny_bind (wpAny_typeOf (T:="list") ⟨_,eL,rfl⟩ ?_);rw[if_pos (by decide)];refine wpAny_bind (HX eL rfl rfl rfl (by exact hA) fun h1 Ws kp1=>?_);rw[if_pos (by rfl)];have I2:L2.Inv X pins σ (upd H s.heap.objs.size (.dK [])) { s with heap:=h1,toks:=Ws}:=I1.kept (t':=Ws) kp1;have eL2:h1.get? L=some { cls:=.type "list",data:=.seq aH.toArray n}:=kp1 _ _ eL;refine wpAny_bind (wpAny_rule (wpAny_bind (wpAny_pyIter_list (s:={ s with heap:=h1,toks:=Ws}) (items:=aH.toArray) ⟨_,eL2,rfl,n,rfl⟩ ?_)));have I3:L2.Inv X pins σ (upd H s.heap.objs.size (.dK [])) { s with heap:=h1.push { cls:=.type "list_iterator",data:=.fields #[.ref L,.int 0 0]},toks:=Ws}:=I2.kept (t':=Ws) fun b o e=>aac _ e
 have hsz:s.heap.objs.size < h1.objs.size:=I2.bO.lt ak;have hlo:s.heap.objs.size<=h1.objs.size:=abw hsz;have ZP:H h1.objs.size=none:=by
   have:=I2.bO.fresh (aaa h1.objs.size);rw[ai (acd hsz)] at this;exact this
 refine wpAny_pure ⟨plainId_quiet kE _,Kr (kvs:=kvs) (by exact hA) (.of hL) hp nd hn (I2.yu (b:=h1.objs.size) (aaa _) ZP) (aat hsz) hz (fun s' I'=>⟨rfl,.ref _,_,I',rfl,q _ hn⟩) kvs.length 0 _ _ (by omega) (by omega) I3 ⟨_,aar _ rfl,rfl,rfl⟩⟩
end
section
variable {X:Cx}{G:Gr}{dl:List Slot}{a:Expr}{pos p:Pos}{kds:List (Key×Dt)}
noncomputable def Kt (kd:Key×Dt):Dt:=.tup [kD kd.1,kd.2]
theorem Ku {K:W.Frag}{Hf H:Hp}(sm:aI Hf H):∀ {ys:List V} {kds:List (Key×Dt)},bJ K Hf ys (kds.map Kt)->∃ kvs,Jb K H ys kvs/\c6 K Hf kvs kds
 | _,[],.nil=>⟨[],.nil,.nil⟩
 | _,(k,d)::kds,.cons r t=>by
   obtain⟨kvs,h1,h2⟩:=Ku sm t;cases r with
   | @tup a vs _ hs rp=>
     cases rp with
     | @cons v1 _ _ _ r1 r2=>cases r2 with
       | @cons v2 _ _ _ r2 r3=>
         cases r3;have e1:v1=kV k:=by
           cases k with
           | inl i=>cases r1;rfl
           | inr x=>cases r1;rfl
         subst e1;exact⟨(k,v2)::kvs,.cons (f6 sm hs) h1,.cons r2 h2⟩
theorem c6.keys {K:W.Frag}{H:Hp}:∀ {v:List (Key×V)} {d:List (Key×Dt)},c6 K H v d->v.map (·.1)=d.map (·.1)
 | _,_,.nil=>rfl
 | _,_,.cons _ r=>by rw[aao,aao,c6.keys r]
theorem mv (hm:X.mg "dict"=none)(hc:X.calm=true)(ha:EE X G dl a (.lst (kds.map Kt)))(nd:(kds.map (·.1)).Nodup)(hz:kds.length<=sizeLine)(hg:autoParam (Gl X "dict") jp)(he:autoParam (starEach [a] X.env=[(false,eval a X.env)]) jp):EO X G dl (.Call (.Name "dict" p) [a] [] pos) (.cZ kds):=
 iK (nE (Ay hc) hg hm boot_dict (ae ha ah he) (he:=he)) fun st H Q zq=>ZL zq fun Hf zq=>have S:=zq.1;have k:=zq.2;⟨Hf,S,fun vs Hf1 H1 g1 r1=>by
   cases r1 with
   | cons r t=>cases t;cases r with
     | @lst q vs _ z r=>
       obtain⟨kvs,h1,h2⟩:=Ku g1.sub r;exact⟨q,vs,kvs,rfl,g1.sub _ _ z,h1,by rw[h2.keys];exact nd,by rw[h2.length];exact hz,fun l hl=>k l Hf1 _ (g1.trans (.fF g1.sub hl)) (g1.big.free hl) (g1.sub.free hl) ⟨kvs,ak,h2⟩⟩⟩
theorem HY:Rb X "str.count" (fun x vs H Q=>∃ z y:Str,x=.str z/\vs=[.str y]/\Q (.int (Txt.count z y)) H):=by
 intro pins s σ H x vs v us Q I rx rv ⟨z,y,e1,e2,q⟩;subst e1 e2;obtain⟨t,rfl⟩:=(show ∃ t,v=Value.str z t from rx)
 obtain⟨u,rfl,ru⟩:=vals1 rv;obtain⟨t',rfl⟩:=(show ∃ t,u=Value.str y t from ru)
 exact PySem.SC.count ⟨.int (Txt.count z y),H,I.tok _,⟨_,rfl⟩,q⟩
end
section
variable {prog:Program}{w:World}{A:Around}{E:Value->Shared->Prop}{s:Shared}
inductive o3:List (Key×Value)->List (Key×Value)->Prop
 | nil:o3 [] []
 | cons {k:Key} {i:Int} {t u:Tok} {xs ys:List (Key×Value)}:o3 xs ys->o3 ((k,.int i t)::xs) ((k,.int i u)::ys)
theorem o3.length:∀ {xs ys:List (Key×Value)},o3 xs ys->xs.length=ys.length
 | _,_,.nil=>rfl
 | _,_,.cons r=>congrArg (·+1) (o3.length r)
theorem o3.get:∀ {xs ys:List (Key×Value)} {j:Nat} {kv:Key×Value},o3 xs ys->xs[j]?=some kv->∃ k i t u,kv=(k,.int i t)/\ys[j]?=some (k,.int i u)
 | _,_,_,_,.nil,e=>by simp at e
 | _,_,0,_,.cons _,e=>by simp at e;subst e;exact⟨_,_,_,_,rfl,rfl⟩
 | _,_,j+1,_,.cons r,e=>by
   obtain⟨k,i,t,u,h1,h2⟩:=o3.get (j:=j) r (by simpa using e);exact⟨k,i,t,u,h1,by simpa using h2⟩
theorem xa {nm:String}{a b:Addr}{xs ys:List (Key×Value)}{Q:Bool->Shared->Prop}(ha:(a == sysModules)=false)(hb:(b == sysModules)=false)(da:s.heap.DictOf (bF prog w) a xs)(db:s.heap.DictOf (bF prog w) b ys)(hs:o3 xs ys)(hQ:Q true s):wpAny (model prog w) A (Builtin.Dict.samePairs nm a b) Q E s:=by
 obtain⟨oa,ea,pa,UK,hca,Yp,hka,RY,hna⟩:=id da;obtain⟨ob,eb,pb,ZQ,hcb,mI,hkb,ZR,hnb⟩:=id db;have hla:ea.size=xs.length:=by rw[<- RY.length];simp
 have hlb:eb.size=ys.length:=by rw[<- ZR.length];simp
 have hl:=hs.length;unfold Builtin.Dict.samePairs;unfold Builtin.Dict.showsAll;rw[if_neg (by rw[ha];exact aam),if_neg (by rw[hb];exact aam)];refine wpAny_bind (wpAny_pure (wpAny_bind (wpAny_pure ?_)));refine wpAny_bind (wpAny_dictEntries UK Yp ?_);refine wpAny_bind (wpAny_dictEntries ZQ mI ?_);rw[if_neg (by rw[hla,hlb,hl];simp)];refine wpAny_bind (wpAny_dictEpoch UK Yp ?_);refine wpAny_bind ?_;rw[Std.Legacy.Range.forIn_eq_forIn_range'];simp only[Std.Legacy.Range.size,Nat.sub_zero,Nat.add_sub_cancel,Nat.div_one];refine wpAny_forIn_list _ (fun rest b s'=>b=(none,())/\s'=s/\∃ i,rest=ab4 i (ea.size - i)/\i<=ea.size) _ ?_ ?_ _ _ ⟨rfl,rfl,0,by simp,aa1 _⟩
 . rintro x rest b' s' ⟨rfl,rfl,i,hr,hi⟩
   have di:i < ea.size:=by
     rcases Nat.lt_or_ge i ea.size with h | h
     . exact h
     . rw[Nat.sub_eq_zero_of_le h] at hr;simp at hr
   obtain⟨rfl,Wt⟩:x=i/\rest=ab4 (i+1) (ea.size - (i+1)):=by
     have e:ea.size - i=(ea.size - (i+1))+1:=by omega
     rw[e,List.range'_succ] at hr;injection hr with h1 h2
     exact⟨h1,h2⟩
   refine wpAny_bind (wpAny_dictEntries UK Yp ?_);rw[abU di];obtain⟨kv,UG⟩:∃ kv,xs[x]?=some kv:=⟨xs[x]'(by omega),k3 _⟩
   obtain⟨k,z,t,u,rfl,hy⟩:=hs.get UG;obtain⟨Nk,R6⟩:=RY.get? (e:=ea[x]) (by simp[di]) UG;obtain⟨k',Wu,Wv⟩:=hka ea[x] (Array.getElem_mem di);obtain rfl:k'=k:=(bF prog w).inj _ _ _ Wu Nk;have Ww:x < eb.size:=by omega
   obtain⟨ab0,Wx⟩:=ZR.get? (e:=eb[x]) (by simp[Ww]) hy;have Wy:(eb.findIdx? fun e=>(bF prog w).is k' e.key)=some x:=by
     have h1:(eb.findIdx? fun e=>(bF prog w).is k' e.key)=ys.findIdx? fun kv=>decide (kv.1=k'):=by
       rw[<- ZR.findIdx k'];obtain⟨l⟩:=eb;simp
     rw[h1,List.findIdx?_eq_some_iff_getElem];refine⟨by omega,?_,fun j hj=>?_⟩
     . have:=(aae.mp hy).2
       rw[this];simp
     . have hyx:=(aae.mp hy).2
       have:=abt.mp hnb j x (by rw[k5];omega) (by rw[k5];omega) hj;rw[aaL,aaL,hyx] at this;simpa using this
   show wpAny _ _ (holding [ea[x].key,ea[x].val] _ >>= _) _ _ _;refine wpAny_bind (wpAny_holding ?_);rw[Wv];refine wpAny_bind (wpAny_dictFind_of Nk ZQ mI hkb ?_);rw[Wy];refine wpAny_bind (wpAny_dictEntries ZQ mI ?_);rw[abU Ww];show wpAny _ _ (holding [eb[x].val] (eqBool ea[x].val eb[x].val)) _ _ _;rw[R6,Wx];refine wpAny_holding (wpAny_eqBool_int ?_);rw[show(!(z == z))=false by simp];show wpAny _ _ (dictEpoch a >>= _) _ _ _;refine wpAny_bind (wpAny_dictEpoch UK Yp ?_);rw[if_neg (by simp)];exact wpAny_pure ⟨rfl,rfl,x+1,Wt,di⟩
 . rintro⟨b1,b2⟩ s' ⟨NG,rfl,i,hz,hR⟩
   cases NG;exact wpAny_pure hQ
end
theorem xb {H:Hp}{q:Addr}{o:HO}(h:H q=some o):upd H q o=H:=by
 funext b
 by_cases e:b=q
 . subst e;rw[ak,h]
 . rw[ai e]
section
variable {X:Cx}{G:Gr}{dl:List Slot}{e a b:Expr}{x y:Str}{pos apos bR:Pos}{kds:List (Key×Dt)}
def R7 (kvs:List (Key×V)):Prop:=∀ kv∈kvs,∃ i,kv.2=.int i
theorem CG:∀ {kvs:List (Key×V)} {us vs:List (Key×Value)},R7 kvs->KV kvs us->KV kvs vs->o3 us vs
 | [],_,_,_,.nil,.nil=>.nil
 | (k,v)::kvs,(k1,w1)::_,(k2,w2)::_,h,.cons p1 q1,.cons p2 q2=>by
   obtain⟨i,e⟩:=h (k,v) (by simp);simp only at e;subst e;obtain⟨e1,t,e1'⟩:=p1;obtain⟨e2,u,PQ⟩:=p2;simp only at e1 e1' e2 PQ;subst e1 e2 e1' PQ;exact .cons (CG (fun kv hk=>h kv (by simp[hk])) q1 q2)
def R8:R2:=fun x y H Q=>∃ a b kvs,x=.ref a/\y=.ref b/\H a=some (.dK kvs)/\H b=some (.dK kvs)/\R7 kvs/\Q (.bl false) H
theorem Kv {prog:Program}{w:World}{A:Around}{a b:Addr}{us vs:List (Key×Value)}{R:Result->Shared->Prop}{s:Shared}(h1:(a == sysModules)=false)(h2:(b == sysModules)=false)(d1:s.heap.DictOf (bF prog w) a us)(d2:s.heap.DictOf (bF prog w) b vs)(hs:o3 us vs)(k:R (.ok (.ret (.bool false))) s):wpAny (model prog w) A.in1 (Builtin.«dict.__ne__» ⟨[.ref a,.ref b],[]⟩) (fun fin s'=>∃ v,fin=.done (.ret v)/\R (.ok (.ret v)) s') (fun e s'=>R (.error e) s') s:=by
 have ZT:=isSubtype_dict_dict;show wpAny _ _ (do
   let (self,other) <- Builtin.Dict.dictSlotArgs "__ne__" ⟨[.ref a,.ref b],[]⟩
   if !(<- isInstance other (.type "dict")) then rule s!"dict.{"__ne__"}.not-a-dict";return <- ret .notImplemented
   ret (.bool ((<- Builtin.Dict.samePairs s!"dict.{"__ne__"}" (<- Builtin.Dict.addrOf self) (<- Builtin.Dict.addrOf other)) == false))) _ _ _
 unfold Builtin.Dict.dictSlotArgs;refine wpAny_bind (wpAny_bind (wpAny_notOrdered_dict d1.typeIs ?_));show wpAny _ _ (pure (Value.ref a,Value.ref b)) _ _ _;refine wpAny_pure ?_;refine wpAny_bind (wpAny_isInstance d2.typeIs ZT ?_);simp only[Bool.not_true,abE,if_false];refine wpAny_bind (wpAny_pure (wpAny_bind (wpAny_pure (wpAny_bind (xa h1 h2 d1 d2 hs ?_)))));exact wpAny_pure ⟨_,rfl,k⟩
theorem NZ (hu:X.A.units+64 < cLine):qf X (compareOp .NotEq) R8:=by
 intro pins s st H x y v w Q I rx ry ⟨a,b,kvs,e1,e2,h1,h2,hi,q⟩;subst e1 e2;cases rx;cases ry;obtain⟨_,l1,us,r1,d1⟩:=FG I.bO h1;obtain⟨_,l2,vs,r2,d2⟩:=FG I.bO h2;exact wpAny_richCompare_same_room (op:=.NotEq) d1.typeIs d2.typeIs PySem.F.slot_dict_ne (call_meetsIn PySem.F.slot_dict_ne d1.typeIs PySem.F.entry_dict_ne (PySem.F.args_dict_ne_2 _ _) (S:=fun A R s'=>s'=s/\R (.ok (.ret (.bool false))) s) (.of_wp fun A R s' h=>by
   obtain⟨rfl,h⟩:=h;exact Kv l1 l2 d1 d2 (CG hi r1 r2) h) ⟨rfl,(fun z=>nomatch z),.bl false,H,I,rfl,q⟩) (by omega)
noncomputable def dI (kds:List (Key×Int)):List (Key×Dt):=kds.map fun kd=>(kd.1,Dt.int kd.2)
theorem HZ {K:W.Frag}{H:Hp}:∀ {kds:List (Key×Int)} {kvs:List (Key×V)},c6 K H kvs (dI kds)->kvs=kds.map fun kd=>(kd.1,V.int kd.2)
 | [],_,.nil=>rfl
 | (k,i)::kds,_,.cons r t=>by
   cases r;rw[HZ (kds:=kds) t];rfl
theorem allI (kds:List (Key×Int)):R7 (kds.map fun kd=>(kd.1,V.int kd.2)):=fun kv h=>by
 obtain⟨kd,_,rfl⟩:=aaQ.mp h;exact⟨_,rfl⟩
theorem Kw {kds:List (Key×Int)}(hu:X.A.units+64 < cLine)(ha:EE X G dl a (.cZ (dI kds)))(hb:EE X G dl b (.cZ (dI kds))):EB X G dl (.Compare a [.NotEq] [b] pos) false:=
 k8 (NZ hu) (fun v w Hf H Q s r1 r2 k=>by
   cases r1 with
   | @cZ q vs _ hq rp=>cases r2 with
     | @cZ q' vs' _ PJ rp'=>
       rw[HZ rp] at hq;rw[HZ rp'] at PJ;exact⟨q,q',_,rfl,rfl,s _ _ hq,s _ _ PJ,allI kds,k _ Hf H (.refl s) (.bl _)⟩) (kf _) ha hb
theorem zy {z w:Str}(ha:EE X G dl a (.str z))(hb:EE X G dl b (.str w))(jx:autoParam (attributeBase a "count" X.env (eval a X.env)=eval a X.env) jp)
   (tS:autoParam (((backTo bR (starEach [b] X.env)).all (fun x=>!x.1) && (backToKw bR (keywordEach [] X.env)).all (fun x=>x.1.isSome) && decide ([b].length+([]:List Keyword).length+(if ([]:List Keyword).isEmpty then 0 else 1) < 30))=true) jp)
   (jy:autoParam ((apos.endLine == bR.line)=true) jp) (ny:autoParam (starEach [b] X.env=(false,eval b X.env)::starEach [] X.env) jp):EE X G dl (.Call (.Attribute a "count" apos) [b] [] bR) (.int (Txt.count z w)):=
 iK (uP PySem.F.plainAttrs_str PySem.F.slot_str_count PySem.F.type_str_count HY ha (ae hb ah ny) jx tS jy ny rfl) fun st H Q zq=>ZL zq fun Hf zq=>have S:=zq.1;have k:=zq.2;⟨Hf,S,fun v Hf1 H1 g1 r1=>by
   cases r1;exact⟨rfl,Hf1,S.grow g1,fun vs b6 H2 g2 r2=>by
     cases r2 with
     | cons r t=>cases t;cases r;exact⟨z,w,rfl,rfl,k _ b6 H2 (g1.trans g2) (.int _)⟩⟩⟩
end
structure xc (X:Cx)(N:List Str)(xt:Str)(ix:List Nat)(sc:Scope):Prop where
 nd:N.Nodup
 nm:N=xt::ix.map (fun j=>X.N.getD j "")
 kind:sc.kind=.function
 one:sc.names.filter (fun y=>y.2 == .cell)=[(xt,.cell)]
 names:∀ y∈sc.names,y.2=.local->sc.names.lookup y.1=some .local
 hx:sc.names.lookup xt=some .cell
 QO:∀ y∈sc.names,y.2=.free->y.1≠xt
 fr:∀ y∈sc.names,y.2=.free->X.env.kindOf y.1=some .cell\/X.env.kindOf y.1=some .free
 VI:∀ j∈ix,∃ y,X.N[j]?=some y/\sc.names.lookup y=some .free
noncomputable def kY (X:Cx)(N:List Str)(sc:Scope)(xt:Str)(c C:Addr)(fp:List Addr)(s:Shared)(H:Hp):Cx:=
 { X with N:=N,s₀:=s,H₀:=H,env:=compEnvC sc ((xt,c)::mF sc X.env) C X.env,outer:=X.stack,stack:=X.stack,ex:=fp,fn:=fun y=>y == xt,pn:=[],xe:=yy}
theorem F9:∀ {names:List (Str×NameKind)} {acc:List (Str×Addr)} {n:Nat} {h:Heap},names.filter (fun y=>y.2 == .cell)=[]->cellsFrom n names acc=acc/\pushCells h names=h
 | [],_,_,_,_=>⟨rfl,rfl⟩
 | (y,k)::r,acc,n,h,e=>by
   by_cases hk:(k == NameKind.cell)=true
   . rw[acb (by exact hk)] at e;cases e
   . rw[aca (by exact hk)] at e
     unfold cellsFrom pushCells;rw[if_neg hk,if_neg hk];exact F9 e
theorem CH {x:Str}:∀ {names:List (Str×NameKind)} {acc:List (Str×Addr)} {n:Nat} {h:Heap},names.filter (fun y=>y.2 == .cell)=[(x,.cell)]->cellsFrom n names acc=(x,n)::acc/\pushCells h names=h.push { cls:=.type "cell",data:=.cell none}
 | [],_,_,_,e=>by cases e
 | (y,k)::r,acc,n,h,e=>by
   by_cases hk:(k == NameKind.cell)=true
   . rw[acb (by exact hk)] at e
     injection e with e1 e2
     cases e1;unfold cellsFrom pushCells;rw[if_pos hk,if_pos hk];exact F9 e2
   . rw[aca (by exact hk)] at e
     unfold cellsFrom pushCells;rw[if_neg hk,if_neg hk];exact CH e
theorem N1 {M:Model}{A:Around}{E:Value->Shared->Prop}{s:Shared}{sc:Scope}{globals:Addr}{cl:List (Str×Addr)}{qual:Str}{around:Env}{x:Str}{Q:Env->Shared->Prop}(h1:sc.names.filter (fun y=>y.2 == .cell)=[(x,.cell)])(hQ:Q { scope:=sc,locals:=s.heap.objs.size,globals:=globals,cells:=(x,s.heap.objs.size+1)::cl,qual:=qual,func:=none,code:=around.code,frame:=around.frame,builtins:=around.builtins} { s with heap:=(s.heap.push { cls:=.type "dict",data:=.dict #[]}).push { cls:=.type "cell",data:=.cell none}}):wpAny M A (newFunctionEnv sc globals cl [] qual none .none (some around)) Q E s:=by
 simp only[newFunctionEnv,Option.isSome_some,if_true];refine wpAny_bind (wpAny_alloc ?_);refine wpAny_bind (wpAny_layCells _ (fun name kind cells=>by cases hkc:kind == NameKind.cell <;> simp[hkc]) _ _ _ _ ?_);obtain⟨e1,e2⟩:=CH (acc:=cl) (n:=(s.heap.push { cls:=.type "dict",data:=.dict #[]}).objs.size) (h:=s.heap.push { cls:=.type "dict",data:=.dict #[]}) h1;show wpAny M A (forIn [] PUnit.unit _ >>= _) Q E _;rw[List.forIn_nil];refine wpAny_bind (wpAny_pure (wpAny_pure ?_));dsimp only;rw[e1,e2,abK];exact hQ
section
variable {X:Cx}{N:List Str}{xt:Str}{ix:List Nat}{sc:Scope}{pins:List (Addr×Obj)}{st:L2.St}{H H':Hp}{s s':Shared}{c C D:Addr}{fp:List Addr}{h1:Heap}
theorem Ga (B:xc X N xt ix sc)(ok:X.Ok):closureFor sc X.env=pure (mF sc X.env):=Aq fun y hy hk=>ok.has y.1 (B.fr y hy hk)
theorem qr (B:xc X N xt ix sc)(ok:X.Ok){y:Str}{c:Addr}(h:(mF sc X.env).lookup y=some c):X.env.cells.lookup y=some c/\(y,NameKind.free)∈sc.names:=by
 rcases sy _ _ h with⟨h1,h2⟩ | h1
 . obtain⟨c',h3⟩:=ok.has y (B.fr _ h1 rfl)
   rw[h3] at h2;cases h2;exact⟨h3,h1⟩
 . cases h1
theorem kg {y xt:Str}{c d:Addr}{cl:List (Str×Addr)}(h:((xt,c)::cl).lookup y=some d):(y=xt/\d=c)\/(y≠xt/\cl.lookup y=some d):=by
 rw[abe] at h;cases q:(y == xt) with
 | true=>rw[q] at h;exact .inl ⟨by simpa using q,(Option.some.inj h).symm⟩
 | false=>rw[q] at h;exact .inr ⟨by simpa using q,h⟩
theorem vM (B:xc X N xt ix sc)(I:L2.Inv X pins st H s)(hC:s.heap.objs.size<=C)(hc:s.heap.objs.size<=c)(hf:∀ b∈fp,mi X pins H b)(di:∀ b∈fp,b < s.heap.objs.size):(kY X N sc xt c C fp s H).Ok where
 mod:=I.ok.mod
 kind:=B.kind
 glob:=I.ok.glob
 blt:=I.ok.blt
 above:=hC
 inj:=fun y z d h1 h2=>by
   have old:∀ {y:Str},(mF sc X.env).lookup y=some c->False:=fun {y} h=>by
     obtain⟨v,q⟩:=I.cell y c (qr B I.ok h).1;exact absurd (aal q.lt hc) (abA _)
   rcases kg h1 with⟨e1,e2⟩ | ⟨e1,e2⟩ <;> rcases kg h2 with⟨e3,e4⟩ | ⟨e3,e4⟩
   . rw[e1,e3]
   . rw[e2] at e4;exact(old e4).elim
   . rw[e4] at e2;exact(old e2).elim
   . exact I.ok.inj y z d (qr B I.ok e2).1 (qr B I.ok e4).1
 has:=fun y hy=>by
   have hy:(relabel sc X.env).names.lookup y=some .cell\/(relabel sc X.env).names.lookup y=some .free:=hy;show ∃ d,((xt,c)::mF sc X.env).lookup y=some d;by_cases e:y=xt
   . subst e;exact⟨c,by simp[abe]⟩
   . have nc:(y,NameKind.cell) ∉ sc.names:=fun hm=>by
       have:(y,NameKind.cell)∈sc.names.filter (fun y=>y.2 == .cell):=List.mem_filter.mpr ⟨hm,rfl⟩;rw[B.one] at this;have:=List.mem_singleton.mp this;exact e (congrArg Prod.fst this)
     have:(y,NameKind.free)∈sc.names:=by
       rcases hy with hy | hy
       . obtain⟨k',h1,h2⟩:=gI hy
         rcases h2 with h2 | h2
         . subst h2;exact absurd h1 nc
         . subst h2;exact h1
       . obtain⟨k',h1,h2⟩:=gI hy
         rcases h2 with h2 | h2 <;> subst h2 <;> exact h1
     obtain⟨d,hd⟩:=kX (cells:=X.env.cells) sc.names [] (.inl this);refine⟨d,?_⟩;rw[abe,show(y == xt)=false by simpa using e];exact hd
 Uv:=fun y d h1 h2=>by
   rcases kg h2 with⟨_,e⟩ | ⟨e,_⟩
   . rw[e];exact hc
   . exact absurd (by have h1:(y == xt)=true:=h1;simpa using h1) e
 hd:=I.ok.hd
 frames:=I.ok.frames
 UU:=.inl rfl
 M7:=fun b hb=>⟨aat (aal (di b hb) hC),fun y d h=>by
   rcases kg h with⟨_,e⟩ | ⟨_,e⟩
   . rw[e];exact acd (aal (di b hb) hc)
   . exact(hf b hb).2.2.2.2.1 y d (qr B I.ok e).1⟩
 bs:=I.bs
 Fn:=aau I.ok.Fn I.sz
 BO:=fun b o e hb=>by
   rcases (hf b hb).2.2.2.1 with z | z
   . exact I.ok.BO b o e z
   . exact absurd (aal (aak e) (aau I.ok.Fn z)) (abA _)
 BP:=fun b hb z=>by
   rcases aaJ.mp (I.wz b z) with z | z
   . exact(hf b hb).2.1 z
   . exact(hf b hb).2.2.1 z
 tK:=I.stack
 Pw:=I.vD
theorem Eo (B:xc X N xt ix sc)(I:L2.Inv X pins st H s)(hf:∀ b∈fp,mi X pins H b)(di:∀ b∈fp,b < s.heap.objs.size)(hC:C=s.heap.objs.size+1)(UY:c=s.heap.objs.size+2)(k:∀ b o,s.heap.get? b=some o->h1.get? b=some o)(hn:h1.Ns C fun _=>none)(ZU:h1.IsCell c none)(hD:h1.get? s.heap.objs.size=some { cls:=.type "list",data:=.seq ([]:List Value).toArray 0}){t':Nat}:L2.Inv (kY X N sc xt c C fp s H) [] (aaj 1 none ++ frees ix st) (upd H s.heap.objs.size (.lst [])) { s with heap:=h1,toks:=t'}:=by
 have PN:s.heap.objs.size<=C:=by rw[hC];exact abG _
 have DG:s.heap.objs.size<=c:=by rw[UY];exact ab6 _ _
 have fr:∀ a,s.heap.objs.size<=a->H a=none:=fun a ha=>I.bO.fresh ha
 have ok:=vM (c:=c) B I PN DG hf di;have DF:∀ y c,(mF sc X.env).lookup y=some c->H c=none/\c < s.heap.objs.size/\∃ v,s.heap.IsCell c v:=fun y c h=>by
   have h:=(qr B I.ok h).1;obtain⟨v,q⟩:=I.cell y c h;exact⟨I.qW y c h,q.lt,v,q⟩
 refine⟨ok,rfl,I.bare,Un.laid k (aaa _) (fr _ (aaa _)),⟨_,hn,fun i y v e1 e2 e3=>?_⟩,fun y d h=>?_,?_,fun y d h=>?_,fun p hp=>absurd (show p∈([]:List (Addr×Obj)) from hp) (by simp),?_,?_⟩
 . have e1:N[i]?=some y:=e1
   cases i with
   | zero=>cases e2
   | succ i=>
     rw[B.nm,abD,aab] at e1;have e2:(frees ix st)[i]?=some (some v):=e2;unfold frees at e2;rw[aab] at e2;cases q:ix[i]? with
     | none=>rw[q] at e1;cases e1
     | some j=>
       rw[q] at e1 e2;obtain⟨y',MS,JU⟩:=B.VI j (abQ q);have NJ:=PySem.mem_of_lookup JU;have ey:y=y':=by
         have e1:X.N.getD j ""=y:=Option.some.inj e1;rw[Bn,MS] at e1;exact e1.symm
       subst ey;have e2:(st[j]?).join=some v:=Option.some.inj e2;have PQ:st[j]?=some (some v):=by
         cases q2:st[j]? with
         | none=>rw[q2] at e2;cases e2
         | some z=>rw[q2] at e2;rw[show z=some v from e2]
       have kd:=B.fr _ NJ rfl;have nx:y≠xt:=B.QO _ NJ rfl;have VJ:wu X.env.scope y:=by
         rcases kd with z | z
         . exact .inr (.inl z)
         . exact .inr (.inr z)
       obtain⟨m,_,hl⟩:=I.loc;obtain⟨u,r,l⟩:=hl j y v MS PQ VJ;refine⟨u,r,.inr ?_⟩;rcases l with⟨z,_⟩ | ⟨_,d,hd,ic⟩
       . rcases kd with z' | z' <;> rw[z] at z' <;> cases z'
       . obtain⟨d',Uw⟩:=kX (cells:=X.env.cells) sc.names [] (.inl NJ)
         have:=(qr B I.ok Uw).1;rw[hd] at this;cases this;obtain⟨oc,Fq,D6⟩:=ic;refine⟨?_,d,?_,oc,k _ _ Fq,D6⟩
         . rcases e3 with e3 | e3 | e3
           . have e3:(relabel sc X.env).names.lookup y=some .local:=e3
             rcases og (env:=X.env) JU with z | z
             . exact absurd (e3.symm.trans z) (by decide)
             . exact absurd (e3.symm.trans z) (by decide)
           . exact .inl e3
           . exact .inr e3
         . show((xt,c)::mF sc X.env).lookup y=some d
           rw[abe,show(y == xt)=false by simpa using nx];exact Uw
 . rcases kg h with⟨_,e⟩ | ⟨_,e⟩
   . rw[e];exact⟨none,ZU⟩
   . obtain⟨_,_,v,oc,Fq,hd⟩:=DF y d e
     exact⟨v,oc,k _ _ Fq,hd⟩
 . show upd H s.heap.objs.size (.lst []) C=none
   rw[ai (by rw[hC];exact ab5 _)];exact fr _ PN
 . show upd H s.heap.objs.size (.lst []) d=none
   rcases kg h with⟨_,e⟩ | ⟨_,e⟩
   . rw[e,ai (by rw[UY];exact acd (Nat.lt_add_of_pos_right (by decide)))]
     exact fr _ DG
   . obtain⟨q1,q2,_⟩:=DF y d e
     rw[ai (aat q2)];exact q1
 . exact I.bO.laid k (aaa _) ⟨aa1 _,[],0,.nil,hD⟩
 . show(aaj 1 none ++ frees ix st).length=N.length
   rw[B.nm];unfold frees;simp
theorem CI {elt iter tg:Expr}{ifs:List Expr}{pos:Pos}{g:TG}{tt:TT}{te:TE}{J:It}{it:Addr}{tj:Nat->Heap->Prop}{Q:Addr->List V->Hp->Prop}{RR:Value->Addr->Result->Shared->Prop}{E:Value->Shared->Prop}(hc:X.calm=true)(B:xc X N xt ix sc)(hg:∀ c C fp s H,PG (kY X N sc xt c C fp s H) tg g)(ht:∀ c C fp s H,NO (kY X N sc xt c C fp s H) ifs tt)(jC:∀ c C fp s H,PE (kY X N sc xt c C fp s H) elt te)(I:L2.Inv X pins st H s)(T:Turn X.prog X.w X.K tg J fp it tj)(h0:tj 0 s.heap)(hf:∀ b∈fp,mi X pins H b)(hq:∀ D,H D=none->F3 1 g tt te (frees ix st) J D (Q D) H)(VL:∀ D C ys H' s',L2.Inv X pins st H' s'->(∃ m,s'.heap.Ns C m)->mi X pins H' C->Q D ys H'->RR (.ref D) C (.ok .next) s'):wpAny (model X.prog X.w) X.A (newList []) (fun acc s3=>wpAny (model X.prog X.w) X.A (newFunctionEnv sc X.env.globals (mF sc X.env) [] X.env.qual none .none (some X.env)) (fun Cj s4=>codeAny (model X.prog X.w) X.A (.compStart (.ListComp elt [⟨tg,iter,ifs,0⟩] sc pos) 0 (.ref it) acc { Cj with scope:=relabel sc X.env}) (RR acc Cj.locals) s4) E s3) E s:=by
 have di:∀ b∈fp,b < s.heap.objs.size:=fun b hb=>by
   obtain⟨o,e,_⟩:=T.obj _ _ h0 b hb;exact aak e
 refine wpAny_newObj_type (N1 B.one ?_);dsimp only;generalize hG:s.heap.push { cls:=.type "list",dict:=none,data:=.seq ([]:List Value).toArray}=g';generalize Yq:(g'.push { cls:=.type "dict",data:=.dict #[]}).push { cls:=.type "cell",data:=.cell none}=h1;have hC:g'.objs.size=s.heap.objs.size+1:=by rw[<- hG,abK]
 have Yf:s.heap.objs.size≠g'.objs.size:=by rw[hC];exact aat (abN _)
 have old:∀ b o,s.heap.get? b=some o->h1.get? b=some o:=fun b o e=>by
   rw[<- Yq,<- hG];exact aac _ (aac _ (aac _ e))
 have JV:h1.get? s.heap.objs.size=some { cls:=.type "list",data:=.seq ([]:List Value).toArray 0}:=by
   rw[<- Yq,<- hG];exact aac _ (aac _ (aar _ rfl))
 have IY:h1.Ns g'.objs.size fun _=>none:=by
   rw[<- Yq];exact(Heap.Ns.new g' (.type "dict")).keeps fun b o e=>aac _ e
 have ZU:h1.IsCell (g'.objs.size+1) none:=by
   rw[<- Yq];have e:g'.objs.size+1=(g'.push { cls:=.type "dict",data:=.dict #[]}).objs.size:=by rw[abK]
   rw[e];exact⟨_,aar _ rfl,rfl⟩
 have hD:H s.heap.objs.size=none:=I.bO.fresh (aaa _);obtain⟨W,⟨m0,w0⟩,turn⟩:=hq _ hD;have I0:=Eo (t':=s.toks) B I hf di hC (show g'.objs.size+1=s.heap.objs.size+2 by rw[hC]) old IY ZU JV;have FV:tj 0 h1:=T.keep _ _ _ h0 fun b _ o e=>old b o e
 have pK:s.heap.objs.size<=g'.objs.size:=by rw[hC];exact abG _
 have rF:∀ {H':Hp},(∀ b∈fp,H' b=none)->∀ b∈fp,mi (kY X N sc xt (g'.objs.size+1) g'.objs.size fp s H) [] H' b:=fun {H'} hn b hb=>
   ⟨hn b hb,((vM B I pK (aau pK (abG _)) hf di).M7 b hb).1,(vM B I pK (aau pK (abG _)) hf di).BP b hb,.inl hb,((vM B I pK (aau pK (abG _)) hf di).M7 b hb).2,fun p hp=>absurd (show p∈([]:List (Addr×Obj)) from hp) (by simp)⟩
 have loop:∀ s3:Shared,s3={ s with heap:=h1} ->
     codeAny (model X.prog X.w) X.A (.compLoop (.ListComp elt [⟨tg,iter,ifs,0⟩] sc pos) 0 (.ref it) (.ref s.heap.objs.size) (compEnvC sc ((xt,g'.objs.size+1)::mF sc X.env) g'.objs.size X.env)) (RR (.ref s.heap.objs.size) g'.objs.size) s3:=by
   rintro s3 rfl
   refine Cu (fun n s'=>∃ i ys σ H',σ.length=1/\L2.Inv (kY X N sc xt (g'.objs.size+1) g'.objs.size fp s H) [] (σ ++ frees ix st) H' s'/\tj i s'.heap/\(∀ b∈fp,H' b=none)/\W i n ys H') ?_ m0
     ⟨0,[],aaj 1 none,_,by simp,I0,FV,fun b hb=>?_,w0⟩
   . rintro n s5 ⟨i,ys,σ,H5,hσ,I5,IW,MN,w5⟩
     rcases turn i n ys H5 w5 with⟨stop,qn⟩ | ⟨go,hz,step⟩
     . refine cn (T.done (kY X N sc xt (g'.objs.size+1) g'.objs.size fp s H) rfl rfl rfl hc i [] s5 _ H5 yy I5 (rF MN) IW stop) fun r s6 ⟨hr,I6⟩=>?_
       subst hr;refine VL _ _ ys H5 s6 ?_ ?_ (I.yu pK I6.free) qn
       . exact I.Jm I6.os I6.base I6.bO I6.bare fun b hb=>⟨(hf b hb).2.2.2.1,(hf b hb).2.1,(hf b hb).2.2.2.2.1,(hf b hb).2.2.2.2.2⟩
       . obtain⟨m,hm,_⟩:=I6.loc
         exact⟨m,hm⟩
     . refine cn (T.item (kY X N sc xt (g'.objs.size+1) g'.objs.size fp s H) rfl rfl rfl hc i [] s5 _ H5 yy I5 (rF MN) IW go) fun r s6 ⟨u,hr,h6⟩=>?_
       subst hr;refine cn h6 fun _ s7 ⟨v,H7,I7,r7,y7,JW,VM⟩=>?_
       have VN:=I7.pinned (rF VM) (T.obj _ _ JW);refine cn (hg (g'.objs.size+1) g'.objs.size fp s H _ s7 _ H7 v u _ VN r7 (step σ hσ v H7 y7)) fun _ s8 h8=>?_
       obtain⟨σ8,H8,I8,σ',e8,V1,h8⟩:=h8;subst e8;have pinned:∀ {σ9:L2.St} {H9:Hp} {s9:Shared},L2.Inv (kY X N sc xt (g'.objs.size+1) g'.objs.size fp s H) ([] ++ tP fp s7.heap) σ9 H9 s9->tj (i+1) s9.heap/\∀ b∈fp,H9 b=none:=fun {σ9 H9 s9} I9=>by
         refine⟨T.keep _ _ _ JW fun b hb o e=>(I9.pin (b,o) (aav _ (aav _ (gF hb e)))).1,fun b hb=>?_⟩;obtain⟨o,e,d⟩:=T.obj _ _ JW b hb;exact(I9.pin (b,o) (aav _ (aav _ (gF hb e)))).2.1
       refine cn (ht (g'.objs.size+1) g'.objs.size fp s H _ s8 _ H8 _ I8 h8) fun ok Zx NP=>?_
       obtain⟨Zy,NQ,NP⟩:=NP;cases ok with
       | false=>
         obtain⟨m',hm,w8⟩:=NP;exact⟨m',hm,i+1,ys,σ',_,V1,NQ.kT (pins:=[]),(pinned NQ).1,(pinned NQ).2,w8⟩
       | true=>
         refine cn (jC (g'.objs.size+1) g'.objs.size fp s H _ Zx _ Zy _ NQ NP) fun z s9 ⟨y,H9,I9,r9,VO,m',hm,w9⟩=>?_
         refine cn (qj _ s9 _ H9 (.ref s.heap.objs.size) [y] (.ref s.heap.objs.size) [z] (fun _ H'=>H'=upd H9 s.heap.objs.size (.lst (ys ++ [y]))) I9 rfl (.cons r9 .nil) ⟨_,ys,y,rfl,rfl,VO,hz,rfl⟩) fun _ s10 VP=>?_
         obtain⟨_,H10,JX,_,rfl⟩:=VP;exact⟨m',hm,i+1,ys ++ [y],σ',_,V1,JX.kT (pins:=[]),(pinned JX).1,(pinned JX).2,w9⟩
   . rw[ai (aat (di b hb))]
     exact(hf b hb).1
 exact codeAny_compStart_list (loop _ rfl) (T.self _ 0 _ _ _ FV (loop _ rfl))
theorem xf {env:Env}{y:Str}:∀ {names:List (Str×NameKind)},names.lookup y=some .cell->(names.map fun(n,k)=>if (k == NameKind.free && env.scope.kind == .function && env.kindOf n == some .cell) then (n,NameKind.cell) else (n,k)).lookup y=some .cell
 | [],h=>by simp at h
 | (n,kk)::r,h=>by
   rw[aao,abe];rw[abe] at h;cases q:(y == n) with
   | true=>
     rw[q] at h;have:kk=.cell:=Option.some.inj h;subst this;simp[q]
   | false=>
     rw[q] at h;have ih:=xf (env:=env) h;by_cases hc:(kk == NameKind.free && env.scope.kind == .function && env.kindOf n == some .cell)=true
     . simp only[hc,if_true,q];exact ih
     . simp only[hc,abE,if_false,q];exact ih
end
section
variable {X:Cx}{G:Gr}{E:XK}{dl:List Slot}{a b elt iter tg:Expr}{ifs:List Expr}{pos p px py sA:Pos}{o:Out}{xt y:Str}{N:List Str}{ix:List Nat}{sc:Scope}
variable {α:Type}{as:List α}{z f:α->Dt}{sl:α->List Slot}{keep:α->Bool}{g:TG}{wi:TI}
inductive xh (X:Cx)(N:List Str)(xt:Str)(sc:Scope)(dl:List Slot)(ix:List Nat)(as:List α)(sl:α->List Slot)(keep:α->Bool):List Expr->Prop
 | nil:(∀ a∈as,keep a=true)->xh X N xt sc dl ix as sl keep []
 | one {ce:Expr}:(∀ a∈as,∀ c C fp s H G',EB (kY X N sc xt c C fp s H) G' (sl a ++ j9 dl ix) ce (keep a))->xh X N xt sc dl ix as sl keep [ce]
theorem Gb (h:xh X N xt sc dl ix as sl keep ifs):∀ c C fp s H,NO (kY X N sc xt c C fp s H) ifs (NR X.K dl ix as sl keep):=fun c C fp s H=>by
 cases h with
 | nil h=>exact fun pins s' st H' Q I ⟨a,G',ha,Hf,S,k⟩=>wpAny_tests_nil ⟨H',I,by have:=k Hf H' (.refl S.sub);rw[h a ha] at this;exact this⟩
 | one h=>exact F2 fun pins s' st H' Q I ⟨a,G',ha,q⟩=>h a ha c C fp s H G' pins s' st H' Q I q
def R9 (X:Cx)(N:List Str)(xt:Str)(sc:Scope)(dl:List Slot)(ix:List Nat)(as:List α)(sl:α->List Slot)(keep:α->Bool)(f:α->Dt)(elt:Expr):Prop:=∀ a∈as,keep a=true->∀ c C fp s H G',EE (kY X N sc xt c C fp s H) G' (sl a ++ j9 dl ix) elt (f a)
theorem Kx (h:R9 X N xt sc dl ix as sl keep f elt):∀ c C fp s H,PE (kY X N sc xt c C fp s H) elt (NS X.K dl ix as sl keep f):=fun c C fp s H pins s' st H' Q I ⟨a,G',ha,hk,q⟩=>h a ha hk c C fp s H G' pins s' st H' Q I q
theorem Sa {tt:TT}{te:TE}(hc:X.calm=true)(B:xc X N xt ix sc)(hi:PI X tg iter wi)(hg:∀ c C fp s H,PG (kY X N sc xt c C fp s H) tg g)(ht:∀ c C fp s H,NO (kY X N sc xt c C fp s H) ifs tt)(jC:∀ c C fp s H,PE (kY X N sc xt c C fp s H) elt te)(hs:∀ z,foldedSetIterable iter X.env z=pure z):PE X (.ListComp elt [⟨tg,iter,ifs,0⟩] sc pos) (Kb wi 1 ix g tt te):=by
 intro pins s st H Q I h;rw[eval_ListComp];refine wpAny_comprehension_free (use:=none) rfl hs (Ga B I.ok) B.kind B.names (cn (hi pins s st H _ I h) fun v s1 h1=>cn h1 fun Pz s2 h2=>?_);obtain⟨it,fp,tj,J,H2,e,I2,T,Fu,f2,hq⟩:=h2;subst e;refine CI (RR:=fun acc C=>compPost (model X.prog X.w) X.A X.xe none (EP X pins st Q) acc C) hc B hg ht jC I2 T Fu f2 hq ?_;intro D C ws H' s' I' ⟨m,hn⟩ nJ q;exact⟨m,hn,fun h' J3=>⟨.ref D,H',I'.turned (t':=s'.toks) (it:=C) (fun b o hb e=>(J3.2 b hb).trans e) nJ.1 nJ.2.1 nJ.2.2.2.1 nJ.2.2.2.2.1 nJ.2.2.2.2.2,rfl,q⟩⟩
theorem Sb {tt:TT}{te:TE}{nN:Nat}(hc:X.calm=true)(B:xc X N xt ix sc)(hi:PI X tg iter wi)(hg:∀ c C fp s H,PG (kY X N sc xt c C fp s H) tg g)(ht:∀ c C fp s H,NO (kY X N sc xt c C fp s H) ifs tt)(jC:∀ c C fp s H,PE (kY X N sc xt c C fp s H) elt te)(hs:∀ z,foldedSetIterable iter X.env z=pure z)(J4:swapsWith (.ListComp elt [⟨tg,iter,ifs,0⟩] sc pos) (some (.Name y py)) sA.line X.env=pure true)(hN:X.N.Nodup)(hy:X.N[nN]?=some y)(hl:Loc X.env.scope y)(hf:X.fn y=true\/X.env.scope.names.lookup y=some .local):PS X (.Assign [.Name y py] (.ListComp elt [⟨tg,iter,ifs,0⟩] sc pos) sA) (fun D st H=>Kb wi 1 ix g tt te st H fun v H'=>D.nx (st.set nN (some v)) H'):=by
 intro pins s st H D0 I h;rw[exec_Assign_Name_used _ _ _ _ J4];refine wpAny_bind (wpAny_standAt (wpAny_bind ?_));show wpAny _ X.A (do let _ <- comprehension (.ListComp elt [⟨tg,iter,ifs,0⟩] sc pos) sc X.env _ (newList []) false (eval iter X.env) (some (assign (.Name y py) X.env))) _ _ s;refine wpAny_bind (wpAny_mono (wpAny_comprehension_free (use:=some (assign (.Name y py) X.env)) (Q:=fun _ s'=>SP X pins D0 .next s') rfl hs (Ga B I.ok) B.kind B.names (cn (hi pins s st H _ I h) fun v s1 h1=>cn h1 fun Pz s2 h2=>?_)) (fun _ s' hq=>wpAny_pure (wpAny_pure hq)) fun _ _ z=>z);obtain⟨it,fp,tj,J,H2,e,I2,T,Fu,f2,hq⟩:=h2;subst e;refine CI (RR:=fun acc C=>compPost (model X.prog X.w) X.A X.xe (some (assign (.Name y py) X.env)) (fun _ s'=>SP X pins D0 .next s') acc C) hc B hg ht jC I2 T Fu f2 hq ?_;intro D C ws H' s' I' ⟨m,hn⟩ nJ q;refine wpAny_assign_Name (qe I' hN hy hl (v:=.ref D) rfl (fun Nn VX ⟨ad,D8,ha⟩=>?_) hf);have ne:C≠ad:=by
   rcases ha with z | z
   . rw[z];exact nJ.2.1
   . exact Ne.symm (nJ.2.2.2.2.1 _ _ z)
 exact⟨m,hn.sameBut D8 ne,fun h' J3=>⟨_,H',VX.turned (t':=Nn.toks) (it:=C) (fun b o hb e=>(J3.2 b hb).trans e) nJ.1 nJ.2.1 nJ.2.2.2.1 nJ.2.2.2.2.1 nJ.2.2.2.2.2,q⟩⟩
theorem Ep (as:List α)(z f:α->Dt)(sl:α->List Slot)(keep:α->Bool)(hc:X.calm=true)(B:xc X N xt ix sc)(hi:PI X tg iter wi)(hg:∀ c C fp s H,PG (kY X N sc xt c C fp s H) tg g)(ua:sE X G dl (as.map z) wi)(HQ:∀ a∈as,PX X.K 1 g (z a) (sl a))(Eg:xh X N xt sc dl ix as sl keep ifs)(jC:R9 X N xt sc dl ix as sl keep f elt)(hn:as.length<=sizeLine)(hs:autoParam (∀ z,foldedSetIterable iter X.env z=pure z) v6):EO X G dl (.ListComp elt [⟨tg,iter,ifs,0⟩] sc pos) (.lst ((as.filter keep).map f)):=iK (Sa hc B hi hg (Gb Eg) (Kx jC) hs) (qm ua HQ hn)
theorem Sd (nN:Nat)(as:List α)(z f:α->Dt)(sl:α->List Slot)(keep:α->Bool)(hc:X.calm=true)(hN:X.N.Nodup)(B:xc X N xt ix sc)(hi:PI X tg iter wi)(hg:∀ c C fp s H,PG (kY X N sc xt c C fp s H) tg g)(ua:sE X G dl (as.map z) wi)(HQ:∀ a∈as,PX X.K 1 g (z a) (sl a))(Eg:xh X N xt sc dl ix as sl keep ifs)(jC:R9 X N xt sc dl ix as sl keep f elt)(hn:as.length<=sizeLine)(hs:autoParam (∀ z,foldedSetIterable iter X.env z=pure z) v6)(J4:autoParam (swapsWith (.ListComp elt [⟨tg,iter,ifs,0⟩] sc pos) (some (.Name y py)) sA.line X.env=pure true) jp)(hy:autoParam (X.N[nN]?=some y) jp)(hl:autoParam (Loc X.env.scope y) xz)(hf:autoParam (X.fn y=true\/X.env.scope.names.lookup y=some .local) wf):ES X G E dl (.Assign [.Name y py] (.ListComp elt [⟨tg,iter,ifs,0⟩] sc pos) sA) (.nx (dl.set nN (.own (.lst ((as.filter keep).map f))))):=
 tH (Sb hc B hi hg (Gb Eg) (Kx jC) hs J4 hN hy hl hf) fun D st H zq=>ZL zq fun Hf zq=>have S:=zq.1;have k:=zq.2;qm ua HQ hn st H _ ⟨Hf,S,fun p aJ H' g n1 n2 r=>k _ aJ H' g.bU (S.NK g n1 n2 r)⟩
theorem sG {px:Pos}(B:xc X N xt ix sc):∀ c C fp s H,PG (kY X N sc xt c C fp s H) (.Name xt px) (nB 0):=fun c C fp s H=>by
 have hN:(kY X N sc xt c C fp s H).N[0]?=some xt:=by
   show N[0]?=some xt;rw[B.nm];rfl
 have FW:(kY X N sc xt c C fp s H).env.scope.names.lookup xt=some .cell:=xf B.hx;exact bo (X:=kY X N sc xt c C fp s H) B.nd hN (.inr FW) (.inl (by show(xt == xt)=true;simp))
end
noncomputable def CJ (sc Ct:Scope)(XN N:List Str)(xt:Str)(ix:List Nat):Bool:=
 decide N.Nodup && (decide (N=xt::ix.map (fun j=>XN.getD j "")) && (decide (sc.kind=.function) && (decide (sc.names.filter (fun y=>y.2 == .cell)=[(xt,.cell)]) && (sc.names.all (fun y=>decide (y.2=.local->sc.names.lookup y.1=some .local)) && (decide (sc.names.lookup xt=some .cell) && (sc.names.all (fun y=>decide (y.2=.free->y.1≠xt)) &&
   (sc.names.all (fun y=>decide (y.2=.free->Ct.names.lookup y.1=some .cell\/Ct.names.lookup y.1=some .free)) && ix.all (fun j=>decide (sc.names.lookup (XN.getD j "")=some .free) && decide (j < XN.length)))))))))
theorem uY {X:Cx}{sc Ct:Scope}{XN N:List Str}{xt:Str}{ix:List Nat}(h:CJ sc Ct XN N xt ix=true)(e1:autoParam (X.env.scope=Ct) jp)(e2:autoParam (X.N=XN) jp):xc X N xt ix sc:=by
 subst e1 e2;unfold CJ at h;simp only[aa9,acm,decide_eq_true_eq] at h;obtain⟨h1,h2,h3,h4,h5,h6,h6',h7,h8⟩:=h;refine⟨h1,h2,h3,h4,h5,h6,h6',h7,fun j hj=>?_⟩;obtain⟨q1,q2⟩:=h8 j hj;refine⟨X.N.getD j "",?_,q1⟩;rw[Bn,k3 q2];rfl
noncomputable def mk:HO->Bool
 | .memo _=>true
 | .bN _ _=>true
 | _=>false
theorem Rd.ex {H:Hp}{a C dx:Addr}{fs:List (Str×V)}(h:Rd H a (.ins C dx fs)):∃ o,H a=some o/\mk o=false/\(∀ x,o≠.dK x)/\∀ H':Hp,H' a=some o->Rd H' a (.ins C dx fs):=by
 rcases h with h | ⟨o,h⟩ | ⟨tg,o,kvs,h,z⟩ | ⟨o,h⟩
 . exact⟨_,h,rfl,(fun _ z=>nomatch z),fun H' e=>.inl e⟩
 . exact⟨_,h,rfl,(fun _ z=>nomatch z),fun H' e=>.inr (.inl ⟨o,e⟩)⟩
 . cases z
 . exact⟨_,h,rfl,(fun _ z=>nomatch z),fun H' e=>.inr (.inr (.inr ⟨o,e⟩))⟩
theorem cq.mkd {H:Hp}{a:Addr}{ls:k7}(h:cq H a ls):∃ o,H a=some o/\mk o=true:=by
 rcases h with h | ⟨ns,h⟩
 . exact⟨_,h,rfl⟩
 . exact⟨_,h,rfl⟩
theorem cq.inj {H:Hp}{a:Addr}{ls ls':k7}(h:cq H a ls)(h':cq H a ls'):ls=ls':=by
 rcases h with h | ⟨ns,h⟩ <;> rcases h' with h' | ⟨ns',h'⟩ <;> rw[h] at h' <;> cases h' <;> rfl
section
variable {K:W.Frag}{Hf H:Hp}{a:Addr}{ls:k7}{u:HO}
theorem N2 (hm:cq Hf a ls){b:Addr}{o:HO}(h:Hf b=some o)(n:mk o=false):b≠a:=fun e=>by
 obtain⟨o',h1,h2⟩:=hm.mkd;rw[e,h1] at h;cases h;rw[h2] at n;cases n
theorem bw (hm:cq Hf a ls){b:Addr}{o:HO}(h:Hf b=some o)(n:mk o=false):(upd Hf a u) b=some o:=by rw[ai (N2 hm h n)];exact h
theorem sH (hm:cq Hf a ls)(hu:mk u=true):Kp Hf (upd Hf a u):=⟨fun b o e kq=>bw hm e (by cases o <;> first | rfl | exact(show False from kq).elim),fun b e=>by
 by_cases q:b=a
 . rw[q,ak]
   cases u <;> first | trivial | cases hu
 . rw[ai q];exact e,fun b x e=>bw hm e rfl⟩
def nK (ls:k7)(u:HO):Prop:=u=.memo ls\/∃ ns,u=.bN ls ns
theorem nK.mk {ls:k7}{u:HO}(h:nK ls u):mk u=true:=by rcases h with rfl | ⟨ns,rfl⟩ <;> rfl
theorem Ia (hm:cq Hf a ls)(hu:nK ls u){b:Addr}{ls':k7}(h:cq Hf b ls'):cq (upd Hf a u) b ls':=by
 by_cases e:b=a
 . subst e
   rw[h.inj hm];rcases hu with rfl | ⟨ns,rfl⟩
   . exact .inl ak
   . exact .inr ⟨ns,ak⟩
 . rcases h with h | ⟨ns,h⟩
   . exact .inl (by rw[ai e];exact h)
   . exact .inr ⟨ns,by rw[ai e];exact h⟩
theorem oi (hm:cq Hf a ls)(hu:nK ls u){p:Addr}{f:Nat->List (Key×FD)}{n:Nat}(h:Known Hf p f n):Known (upd Hf a u) p f n:=fun i hi=>let ⟨q,o,kvs,h1,h2⟩:=h i hi;⟨q,o,kvs,bw hm h1 rfl,h2.kp (sH hm hu.mk)⟩
theorem Se (hm:cq Hf a ls){b:Addr}{vs:List V}(s:DH K Hf b vs):DH K (upd Hf a u) b vs:=by
 rcases s with s | s
 . exact .inl (bw hm s rfl)
 . exact .inr s
theorem Ky (hm:cq Hf a ls){b C dx:Addr}{fs:List (Str×V)}(s:Rd Hf b (.ins C dx fs)):Rd (upd Hf a u) b (.ins C dx fs):=by
 rcases s with s | ⟨o,s⟩ | ⟨_,_,_,_,s⟩ | ⟨o,s⟩
 . exact .inl (bw hm s rfl)
 . exact .inr (.inl ⟨o,bw hm s rfl⟩)
 . cases s
 . exact .inr (.inr (.inr ⟨o,bw hm s rfl⟩))
theorem Sf (hm:cq Hf a ls){b:Addr}{vs:List V}(s:nA K Hf b vs):nA K (upd Hf a u) b vs:=by
 rcases s with(s | ⟨o,s⟩ | ⟨_,_,_,_,s⟩ | ⟨o,s⟩) | s
 . exact .inl (.inl (bw hm s rfl))
 . exact .inl (.inr (.inl ⟨o,bw hm s rfl⟩))
 . cases s
 . exact .inl (.inr (.inr (.inr ⟨o,bw hm s rfl⟩)))
 . exact .inr s
mutual
noncomputable def ug (a:Addr):Dt->Bool
 | .tup ds=>Kz a ds
 | .lst ds=>Kz a ds
 | .cZ kds=>Az a kds
 | .tV kds=>Az a kds
 | .eF kds=>Az a kds
 | .obj _ fs=>lE a fs
 | .HF _ fs=>lE a fs
 | .memo b _ _ _=>decide (b≠a)
 | .zl _ _ _ _ _=>false
 | _=>true
noncomputable def Kz (a:Addr):List Dt->Bool
 | []=>true
 | d::r=>ug a d && Kz a r
noncomputable def Az (a:Addr):List (Key×Dt)->Bool
 | []=>true
 | (_,d)::r=>ug a d && Az a r
noncomputable def lE (a:Addr):List (Str×Dt)->Bool
 | []=>true
 | (_,d)::r=>ug a d && lE a r
end
mutual
theorem jE (hm:cq Hf a ls)(hu:nK ls u):∀ {v:V} {d:Dt},ug a d=true->Rep K Hf v d->Rep K (upd Hf a u) v d
 | _,_,_,.dk=>.dk
 | _,_,_,.bl b=>.bl b
 | _,_,_,.int i=>.int i
 | _,_,_,.str x=>.str x
 | _,.tup ds,h,.tup s r=>.tup (Se hm s) (uh hm hu (by rw[ug] at h;exact h) r)
 | _,.lst ds,h,.lst s r=>.lst (bw hm s rfl) (uh hm hu (by rw[ug] at h;exact h) r)
 | _,_,_,.r8 s=>.r8 (Sf hm s)
 | _,.cZ _,h,.cZ s r=>.cZ (bw hm s rfl) (qt hm hu (by rw[ug] at h;exact h) r)
 | _,.obj _ _,h,.obj s r=>.obj (Ky hm s) (kh hm hu (by rw[ug] at h;exact h) r)
 | _,_,_,.ty n=>.ty n
 | _,_,_,.cls C=>.cls C
 | _,_,_,.xo s r=>.xo (bw hm s rfl) r
 | _,.tV _,h,.tV s r=>.tV (bw hm s rfl) (qt hm hu (by rw[ug] at h;exact h) r)
 | _,.HF _ _,h,.HF s q g r=>.HF (bw hm s rfl) q (bw hm g rfl) (kh hm hu (by rw[ug] at h;exact h) r)
 | _,.eF _,h,.eF s r=>.eF (bw hm s rfl) (qt hm hu (by rw[ug] at h;exact h) r)
 | _,.memo b _ _ _,h,.memo h1 h2 h3 h4=>.memo h1 (by rw[ug] at h;rw[ai (of_decide_eq_true h)];exact h2) (h3.imp id fun z=>bw hm z rfl) (oi hm hu h4)
 | _,_,_,.fZ h1 h2 h3 h4=>.fZ h1 (Ia hm hu h2) (h3.imp id fun z=>bw hm z rfl) (oi hm hu h4)
 | _,_,_,.yw h=>.yw fun j p f z=>oi hm hu (h j p f z)
 | _,.zl _ _ _ _ _,h,.zl _ _ _=>by rw[ug] at h;cases h
 | _,_,_,.jz s=>.jz (s.st (sH hm hu.mk).st)
 | _,_,_,.oe s=>.oe (bw hm s rfl)
theorem uh (hm:cq Hf a ls)(hu:nK ls u):∀ {v:List V} {d:List Dt},Kz a d=true->bJ K Hf v d->bJ K (upd Hf a u) v d
 | _,_,_,.nil=>.nil
 | _,d::ds,h,.cons r t=>by
   rw[Kz,aa9] at h;exact .cons (jE hm hu h.1 r) (uh hm hu h.2 t)
theorem qt (hm:cq Hf a ls)(hu:nK ls u):∀ {v:List (Key×V)} {d:List (Key×Dt)},Az a d=true->c6 K Hf v d->c6 K (upd Hf a u) v d
 | _,_,_,.nil=>.nil
 | _,(k,d)::ds,h,.cons r t=>by
   rw[Az,aa9] at h;exact .cons (jE hm hu h.1 r) (qt hm hu h.2 t)
theorem kh (hm:cq Hf a ls)(hu:nK ls u):∀ {v:List (Str×V)} {d:List (Str×Dt)},lE a d=true->br K Hf v d->br K (upd Hf a u) v d
 | _,_,_,.nil=>.nil
 | _,(k,d)::ds,h,.cons r t=>by
   rw[lE,aa9] at h;exact .cons (jE hm hu h.1 r) (kh hm hu h.2 t)
end
noncomputable def ki (Hf H:Hp):Hp:=fun b=>match H b with
 | some (.kd tg o kvs)=>some (.kd tg o kvs)
 | some (.kx o u)=>some (.kx o u)
 | some (.tup xs)=>some (.tup xs)
 | _=>Hf b
theorem AA {b:Addr}{u:HO}(h:H b=some u)(k:Kept u):ki Hf H b=some u:=by
 unfold ki;rw[h];cases u <;> first | rfl | exact(show False from k).elim
theorem Gd {b:Addr}{tg:Option (Addr×Nat)}{o:Obj}{kvs:List (Key×V)}(h:H b=some (.kd tg o kvs)):ki Hf H b=some (.kd tg o kvs):=by unfold ki;rw[h]
theorem qu (b:Addr):(∃ u,H b=some u/\Kept u/\ki Hf H b=some u)\/ki Hf H b=Hf b:=by
 unfold ki;cases h:H b with
 | none=>exact .inr rfl
 | some u=>cases u <;> first | exact .inr rfl | exact .inl ⟨_,rfl,trivial,rfl⟩
theorem gT (s:aI Hf H):aI Hf (ki Hf H):=fun b u e=>by
 rcases qu (Hf:=Hf) (H:=H) b with⟨u',h1,_,h3⟩ | h
 . rw[s _ _ e] at h1;cases h1;exact h3
 . rw[h];exact e
theorem pN (s:aI Hf H):aI (ki Hf H) H:=fun b u e=>by
 rcases qu (Hf:=Hf) (H:=H) b with⟨u',h1,_,h3⟩ | h
 . rw[h3] at e;cases e;exact h1
 . rw[h] at e;exact s _ _ e
theorem qv (s:aI Hf H):bB Hf H (ki Hf H) H:=⟨aI.refl _,gT s,pN s,fun b u e=>by
 rcases qu (Hf:=Hf) (H:=H) b with⟨u',h1,h2,h3⟩ | h
 . rw[h3] at e;cases e;exact .inr (.inr h2)
 . rw[h] at e;exact .inl ⟨u,e⟩⟩
end
noncomputable def Yr:FD->Dt
 | .int i=>.int i
 | .cZ kds=>.eF (dI kds)
 | d=>.jz d
noncomputable def pz (fd:List (Key×FD)):List (Key×Dt):=fd.map fun kd=>(kd.1,Yr kd.2)
theorem zA {K:W.Frag}{H:Hp}:∀ (kds:List (Key×Int)),c6 K H (kds.map fun kd=>(kd.1,V.int kd.2)) (dI kds)
 | []=>.nil
 | (k,i)::r=>.cons (.int i) (zA r)
theorem KA {K:W.Frag}{H:Hp}:∀ {v:V} {d:FD},Fz H v d->Rep K H v (Yr d)
 | _,_,.int i=>.int i
 | _,_,.cZ e=>.eF e (zA _)
 | _,_,.lst e=>.jz (.lst e)
 | _,_,.tup e=>.jz (.tup e)
 | _,_,.obj e f=>.jz (.obj e f)
theorem vN {K:W.Frag}{H:Hp}:∀ {kvs:List (Key×V)} {fd:List (Key×FD)},tJ H kvs fd->c6 K H kvs (pz fd)
 | _,_,.nil=>.nil
 | _,_,.cons h t=>.cons (KA h) (vN t)
theorem P1 {K:W.Frag}{H:Hp}:∀ {v:V} {d:FD},Rep K H v (Yr d)->Fz H v d
 | _,.int i,r=>by cases r;exact .int i
 | _,.lst ns,r=>by cases r with | jz h=>exact h
 | _,.tup K ns,r=>by cases r with | jz h=>exact h
 | _,.obj C fs,r=>by cases r with | jz h=>exact h
 | _,.cZ kds,r=>by
   cases r with
   | @eF a tg ob kvs _ h r=>
     rw[HZ r] at h;exact .cZ h
theorem rJ {K:W.Frag}{H:Hp}:∀ {kvs:List (Key×V)} {fd:List (Key×FD)},c6 K H kvs (pz fd)->tJ H kvs fd
 | _,[],.nil=>.nil
 | _,(k,d)::fd,.cons h t=>.cons (P1 h) (rJ t)
theorem Sh {H H':Hp}(k:∀ b u,H b=some u->Kept u->H' b=some u){v:V}{d:FD}(h:Fz H v d):Fz H' v d:=h.st k
theorem gU {H H':Hp}(k:∀ b u,H b=some u->Kept u->H' b=some u):∀ {kvs:List (Key×V)} {kds:List (Key×FD)},tJ H kvs kds->tJ H' kvs kds
 | _,_,.nil=>.nil
 | _,_,.cons h t=>.cons (Sh k h) (gU k t)
section
variable {X:Cx}{G:Gr}{dl:List Slot}{a b e i:Expr}{pos p:Pos}{ls:k7}{j n:Nat}{l:Addr}{f:Nat->List (Key×FD)}{ns:List Nat}
theorem N3:Uy X (fun x y H Q=>∃ (p:Addr) (k:Nat) (q:Addr) (o:Obj) (kvs:List (Key×V)),x=.ref p/\y=.int (k:Int)/\H q=some (.kd (some (p,k)) o kvs)/\k < 10000/\Q (.ref q) H):=by
 intro value slice pins s σ H x y v u Q I rx ry h hs;obtain⟨p,k,q,o,kvs,rfl,rfl,hq,hk,kk⟩:=h;cases rx;obtain⟨t,rfl⟩:=ry;obtain⟨_,_,hm⟩:=(show aV X.prog X.w H s.heap q (.kd (some (p,k)) o kvs) from I.bO q _ hq)
 obtain⟨_,aH,c,e1,e2⟩:=hm p k rfl;have hn:=mV;exact item_listR (items:=aH.toArray) ⟨_,e1,rfl,c,rfl⟩ (by omega) (by omega) (by rw[aaS];simpa using e2) ⟨.ref q,H,I,rfl,kk⟩ hs
theorem pO {k:Nat}(hb:EE X G dl b (.memo l ls j n))(hi:EE X G dl i (.int (k:Int)))(hf:(ls.map (·.2))[j]?=some f)(hk:k < n)(hn:n<=1000)(hs:autoParam (lD i) wl):EE X G dl (.Subscript b i pos) (.eF (pz (f k))):=
 iK (wH N3 hb hi hs) fun st H Q zq=>ZL zq fun Hf zq=>have S:=zq.1;have kk:=zq.2;⟨Hf,S,fun v Hf1 H1 g1 r1=>⟨Hf1,S.grow g1,fun w b6 H2 g2 r2=>by
   cases r2;cases r1 with
   | @memo _ p _ _ _ f' h1 h2 h3 h4=>
     have e:f'=f:=by
       rw[aab,h1] at hf;exact Option.some.inj hf
     subst e;obtain⟨q,o,kvs,q1,q2⟩:=h4 k hk;exact⟨p,k,q,o,kvs,rfl,rfl,g2.big _ _ (g1.sub _ _ q1),by omega,kk _ b6 H2 (g1.trans g2) (.eF (g2.bU _ _ q1) (vN (q2.kp (.of g2.bU))))⟩⟩⟩
theorem KC:Uy X (fun x y H Q=>∃ (a:Addr) (ls:k7) (ns:List Nat) (j:Nat) (p:Addr) (f:Nat->List (Key×FD)) (N:Nat),x=.ref p/\y=.int (-1)/\H a=some (.bN ls ns)/\ls[j]?=some (p,f)/\ns[j]?=some N/\0 < N/\∀ q o kvs,H q=some (.kd (some (p,N - 1)) o kvs)->tJ H kvs (f (N - 1))->Q (.ref q) H):=by
 intro value slice pins s σ H x y v u Q I rx ry h hs;obtain⟨a,ls,ns,j,p,f,N,rfl,rfl,ha,hj,hN,h0,kk⟩:=h;cases rx;obtain⟨t,rfl⟩:=ry;obtain⟨_,_,_,_,_,h5,h6⟩:=(show aV X.prog X.w H s.heap a (.bN ls ns) from I.bO a _ ha)
 obtain⟨aH,c,e1,e2,e3⟩:=h6 j p f N hj hN;obtain⟨q,o,kvs,q1,q2,q3⟩:=e3 (N - 1) (by omega);have hn:=mV;have hN':=h5 N (abQ hN);have hl:Heap.IsList s.heap p aH.toArray:=⟨_,e1,rfl,c,rfl⟩
 exact subscriptTail_builtinR (x:=.ref q) hl.typeIs slot_list_getitem.lookup
     (wpAny_getItem_list_neg (Q:=fun r s'=>r=.ref q/\EP X pins σ Q r s') hl (by omega) (by rw[aap] <;> omega) (by omega) (by rw[aap,e2,show((-1:Int)+(N:Nat)).toNat=N - 1 by omega];simpa using q1) ⟨rfl,.ref q,H,I,rfl,kk q o kvs q2 q3⟩) hs
theorem CK {N:Nat}(hx:G.Hf l=some (.bN ls ns))(hb:EE X G dl b (.fZ l ls j n))(hi:EE X G dl i (.int (-1)))(hf:(ls.map (·.2))[j]?=some f)(hN:ns[j]?=some N)(h0:0 < N)(hs:autoParam (lD i) wl):EE X G dl (.Subscript b i pos) (.eF (pz (f (N - 1)))):=
 iK (wH KC hb hi hs) fun st H Q zq=>ZL zq fun Hf zq=>have S:=zq.1;have kk:=zq.2;⟨Hf,S,fun v Hf1 H1 g1 r1=>⟨Hf1,S.grow g1,fun w b6 H2 g2 r2=>by
   cases r2;cases r1 with
   | @fZ _ p _ _ _ f' h1 h2 h3 h4=>
     have e:f'=f:=by
       rw[aab,h1] at hf;exact Option.some.inj hf
     subst e;have g:=g1.trans g2;refine⟨l,ls,ns,j,p,f',N,rfl,rfl,g.sub _ _ (g.bU _ _ (S.gr.bU _ _ hx)),h1,hN,h0,fun q o kvs q1 q2=>?_⟩;have ga:=qv g2.sub;exact kk _ _ H2 (g.trans ga) (.eF (Gd q1) (vN (gU (fun b u e kq=>AA e kq) q2)))⟩⟩
theorem Ib:kU X (.builtin "len") (fun xs H Q=>∃ (a:Addr) (ls:k7) (ns:List Nat) (j:Nat) (p:Addr) (f:Nat->List (Key×FD)) (N:Nat),xs=[.ref p]/\H a=some (.bN ls ns)/\ls[j]?=some (p,f)/\ns[j]?=some N/\Q (.int (N:Nat)) H):=by
 intro pins s σ H xs us Q I r h;obtain⟨a,ls,ns,j,p,f,N,rfl,ha,hj,hN,q⟩:=h;obtain⟨u,rfl,rx⟩:=vals1 r;cases rx;obtain⟨_,_,_,_,_,h5,h6⟩:=(show aV X.prog X.w H s.heap a (.bN ls ns) from I.bO a _ ha)
 obtain⟨aH,c,e1,e2,e3⟩:=h6 j p f N hj hN;have hn:=mV;have hN':=h5 N (abQ hN);have hl:Heap.IsList s.heap p aH.toArray:=⟨_,e1,rfl,c,rfl⟩
 exact Calls.call_len_list hl (by simp only[aap] <;> omega) ⟨.int (N:Nat),H,I.tok _,⟨s.toks+1,by rw[aap,e2]⟩,q⟩
theorem Ge {N:Nat}(hm:X.mg "len"=none)(hx:G.Hf l=some (.bN ls ns))(hb:EE X G dl b (.fZ l ls j n))(hN:ns[j]?=some N)(hg:autoParam (Gl X "len") jp)(he:autoParam (starEach [b] X.env=[(false,eval b X.env)]) jp):EE X G dl (.Call (.Name "len" p) [b] [] pos) (.int (N:Nat)):=
 iK (gG Ib hg hm PySem.boot_len (ae hb ah he) (he:=he)) fun st H Q zq=>ZL zq fun Hf zq=>have S:=zq.1;have kk:=zq.2;⟨Hf,S,fun vs Hf1 H1 g1 r1=>by
   cases r1 with
   | cons r t=>cases t;cases r with
     | @fZ _ p _ _ _ f' h1 h2 h3 h4=>exact⟨l,ls,ns,j,p,f',N,rfl,g1.sub _ _ (g1.bU _ _ (S.gr.bU _ _ hx)),h1,hN,kk _ Hf1 H1 g1 (.int _)⟩⟩
theorem d5 {d:Dt}{k:Str}{kds:List (Key×Dt)}(hu:X.A.units+1 < cLine)(ho:EE X G dl b (.eF kds))(hi:EE X G dl i (.str k))(h:mn kds (.inr k)=some d)(hs:Nx i):EE X G dl (.Subscript b i pos) d:=
 iK (FJ hu ho hi hs) fun st H Q zq=>ZL zq fun Hf zq=>have S:=zq.1;have kk:=zq.2;⟨Hf,S,fun v Hf1 H1 g1 r1=>⟨Hf1,S.grow g1,fun w b6 H2 g2 r2=>by
   cases r2;cases r1 with
   | @eF q tg ob kvs _ hq rp=>
     obtain⟨y,z1,z2⟩:=rp.val h;have e:vc H2 q (kV (.inr k)) (pH kvs (.inr k)):=.inl ⟨kvs,.inr k,.inr (.inr (.inl ⟨tg,ob,kvs,g2.big _ _ (g1.sub _ _ hq),rfl⟩)),rfl,rfl⟩;rw[z1] at e;exact⟨q,y,rfl,e,kk y b6 H2 (g1.trans g2) (z2.mono g2.bU)⟩⟩⟩
theorem KD {kds:List (Key×Dt)}(h:EO X G dl e (.cZ kds)):EE X G dl e (.eF kds):=by
 intro pins s st H Q I ⟨Hf,S,kk⟩;refine cn (h pins s st H (fun v H'=>∃ p aJ,v=.ref p/\bB Hf H aJ H'/\H p=none/\aJ p=none/\iJ X.K aJ H' p (.cZ kds)) I ⟨Hf,S,fun p aJ H' g n n' r=>⟨p,aJ,rfl,g,n,n',r⟩⟩) fun u s1 ⟨v,H',I1,rv,q,aJ,ev,g,n,n',kvs,hq,rp⟩=>?_
 subst ev;obtain⟨hz,lo,vs,kv,ob,es,ep,ho,hr⟩:=(show aV X.prog X.w H' s1.heap q (.dK kvs) from I1.bO q _ hq)
 have I2:L2.Inv X pins st (upd H' q (.kd none ob kvs)) s1:=n9 (h':=s1.heap) (t':=s1.toks) I1 (by rw[hq];trivial) ⟨rfl,fun _ _=>rfl⟩ ⟨ob,ho⟩ ⟨ho,⟨hz,lo,vs,kv,ob,es,ep,ho,hr⟩,fun p i z=>by cases z⟩;have sm:aI aJ (upd aJ q (.kd none ob kvs)):=bV n';refine⟨.ref q,_,I2,rv,kk _ (upd aJ q (.kd none ob kvs)) _ ⟨fun b o hb=>?_,g.bU.trans sm,dm g.sub,fun b o hb=>?_⟩ (.eF ak (rp.mono sm))⟩
 . rw[ai (ax hb n)];exact g.big _ _ hb
 . by_cases e:b=q
   . subst e;exact .inr (.inl n)
   . rw[ai e] at hb;exact g.new b o hb
theorem Er:Rb X "dict.values" (fun x xs H Q=>∃ (d:Addr) (kvs:List (Key×V)),x=.ref d/\xs=[]/\Rd H d (.dK kvs)/\∀ l,H l=none->Q (.ref l) (upd H l (.ext fun h=>h.IsValuesView l d))):=by
 intro pins s σ H x xs v us Q I rx rv ⟨d,kvs,e1,e2,hq,q⟩;subst e1 e2;cases rx;cases rv;obtain⟨hz,lo,vs,kv,hD⟩:=zj I.bO hq;refine call_meetsIn PySem.F.slot_dict_values hD.typeIs PySem.F.entry_dict_values (PySem.F.args_dict_values_1 _) (meets_dict_values (bF X.prog X.w) d lo) ⟨⟨vs,hD⟩,?_⟩;refine⟨.ref s.heap.objs.size,_,I.laid (a:=s.heap.objs.size) (t':=s.toks) (o:=.ext fun h=>h.IsValuesView s.heap.objs.size d) (fun b o e=>aac _ e) (aaa _) ?_,rfl,q _ (I.bO.fresh (aaa _))⟩;exact⟨⟨_,aar _ rfl,rfl,rfl⟩,⟨_,aar _ rfl⟩,fun h1 h2 ⟨ox,z1,z2⟩ kk=>⟨ox,kk _ z1,z2⟩⟩
theorem KG:∀ {kds:List (Key×Int)} {vs:List (Key×Value)} {i:Nat} {k:Key} {v:Value},KV (kds.map fun kd=>(kd.1,V.int kd.2)) vs->vs[i]?=some (k,v)->∃ t,v=.int ((kds.map (·.2)).getD i 0) t
 | [],_,_,_,_,.nil,e=>by simp at e
 | (k0,z)::kds,_,0,_,_,.cons r _,e=>by
   simp at e;subst e;obtain⟨_,t,q⟩:=r;exact⟨t,q⟩
 | (k0,z)::kds,_,i+1,_,_,.cons _ t,e=>by
   obtain⟨t',q⟩:=KG (i:=i) t (by simpa using e);exact⟨t',by simpa using q⟩
theorem Ic (hc:X.calm=true):kU X (.builtin "sum") (fun xs H Q=>∃ (v d:Addr) (φ:Heap->Prop) (kds:List (Key×Int)),xs=[.ref v]/\H v=some (.ext φ)/\(∀ h,φ h->h.IsValuesView v d)/\Rd H d (.dK (kds.map fun kd=>(kd.1,V.int kd.2)))/\Q (.int (kds.map (·.2)).sum) H):=by
 intro pins s σ H xs us Q I r h;obtain⟨v,d,φ,kds,rfl,hv,hφ,hq,q⟩:=h;obtain⟨u,rfl,rx⟩:=vals1 r;cases rx;obtain⟨hz,lo,vs,kv,o,es,ep,ho,hr⟩:=zj I.bO hq;have hvv:=hφ _ (I.bO v _ hv).1;have hl:=Ek kv;rw[k5] at hl;have hA:X.A.handled=none:=I.ok.hd hc;refine call_sum_walkAnyS ?_;have Ks:=PySem.W.kdl_values (prog:=X.prog) (w:=X.w) (knd:=bF X.prog X.w) (r:=v) (d:=d) (kvs:=vs) (ep:=ep);have bO:s.heap.IsValuesView v d/\s.heap.DictAt (bF X.prog X.w) d vs ep:=⟨hvv,o,es,ho,hr⟩
 obtain⟨oI,St,hit,W,st⟩:=Ks.iter X.A.in1 s hA bO;refine hit _ _ ⟨s.heap.objs.size,_,_,_,vs.length,_,_,fun i=>(kds.map (·.2)).getD i 0,rfl,W.toS,st,fun b hb=>?_,fun i w ⟨k,hk⟩=>KG kv hk,fun s' t' hm=>?_⟩
 . show b < (s.heap.push oI).objs.size
   rw[abK];rcases aaJ.mp hb with e | hb
   . rw[e];exact abN _
   . rw[List.mem_singleton.mp hb];exact acf (Ks.there _ bO).2
 . have hk:∀ b o,s.heap.get? b=some o->s'.heap.get? b=some o:=fun b o e=>
     hm.heap b o (fun hI=>absurd (aak e) (by rw[List.mem_singleton.mp hI];exact abA _)) (aac _ e)
   have es:preSum (fun i=>(kds.map (·.2)).getD i 0) vs.length=(kds.map (·.2)).sum:=by
     rw[ud _ _ (by rw[k5];omega),abT (by rw[k5];omega)]
   rw[es,Moved.eq_with hm];exact⟨.int _,H,I.kept (t':=s'.toks) hk,⟨t',rfl⟩,q⟩
def intsOf (d:Dt)(kds:List (Key×Int)):Prop:=d=.eF (dI kds)\/d=.cZ (dI kds)
theorem N4 {kds:List (Key×Int)}{d:Dt}{apos bR:Pos}(hm:X.mg "sum"=none)(hc:X.calm=true)(ha:EE X G dl a d)(hd:intsOf d kds)(hg:autoParam (Gl X "sum") jp)(jx:autoParam (attributeBase a "values" X.env (eval a X.env)=eval a X.env) jp)(jy:autoParam ((apos.endLine == bR.line)=true) jp)(he:autoParam (starEach [.Call (.Attribute a "values" apos) [] [] bR] X.env=[(false,eval (.Call (.Attribute a "values" apos) [] [] bR) X.env)]) jp):EE X G dl (.Call (.Name "sum" p) [.Call (.Attribute a "values" apos) [] [] bR] [] pos) (.int (kds.map (·.2)).sum):=
 iK (gG (Ic hc) hg hm boot_sum (mH (JE PySem.F.plainAttrs_dict PySem.F.slot_dict_values PySem.F.type_dict_values Er ha jx jy) pF he) (he:=he)) fun st H Q zq=>ZL zq fun Hf zq=>have S:=zq.1;have k:=zq.2;⟨Hf,S,fun v Hf1 H1 g1 r1=>by
   have key:∃ q,v=.ref q/\Rd H1 q (.dK (kds.map fun kd=>(kd.1,V.int kd.2)))/\X9 X.K "dict" v H1:=by
     rcases hd with rfl | rfl
     . cases r1 with
       | @eF q tg ob kvs _ hq rp=>
         rw[HZ rp] at hq;exact⟨q,rfl,.inr (.inr (.inl ⟨tg,ob,_,g1.sub _ _ hq,rfl⟩)),.inr (.inr (.inl ⟨rfl,.inr (.inr ⟨tg,ob,_,g1.sub _ _ hq⟩)⟩))⟩
     . cases r1 with
       | @cZ q kvs _ hq rp=>
         rw[HZ rp] at hq;exact⟨q,rfl,.inl (g1.sub _ _ hq),.inr (.inr (.inl ⟨rfl,.inl ⟨_,g1.sub _ _ hq⟩⟩))⟩
   obtain⟨q,rfl,hq,ty⟩:=key;refine⟨ty,q,_,rfl,rfl,hq,fun v hv=>⟨v,q,_,kds,rfl,ak,fun h x=>x,?_,k _ Hf1 _ (g1.trans (.fF g1.sub hv)) (.int _)⟩⟩;exact jA (bV hv) hq⟩
variable {pins:List (Addr×Obj)}{σ:L2.St}{H:Hp}{s:Shared}
theorem Inv.flip {u:HO}(I:L2.Inv X pins σ H s)(hm:cq H l ls)(hu:nK ls u)(new:aV X.prog X.w (upd H l u) s.heap l u):L2.Inv X pins σ (upd H l u) s:=by
 refine I.un (h':=s.heap) (t':=s.toks) ⟨fun b o e _ _ _=>e,fun b o e _ _ _=>⟨o.slots,e⟩,fun b o e n _=>?_,fun b o e _=>⟨o,e⟩,fun b xs e=>bw hm e rfl,fun b o u e=>bw hm e rfl,fun b ps e=>⟨#[],by rw[bw hm e rfl];simp⟩⟩ fun b o e=>?_
 . rw[ai (fun z=>by obtain⟨o',h1,_⟩:=hm.mkd;rw[z,h1] at n;cases n)];exact n
 . by_cases eb:b=l
   . subst eb;rw[ak] at e;cases e;exact new
   . rw[ai eb] at e
     exact(I.bO b o e).zX (fun _ _ _ q=>q) (fun c q=>bw hm q rfl) (fun c xs q=>bw hm q rfl) (sH hm hu.mk)
theorem Inv.exact(I:L2.Inv X pins σ H s)(hm:H l=some (.memo ls)):∃ n,0 < n/\n<=10000/\L2.Inv X pins σ (upd H l (.bN ls (aaj ls.length n))) s:=by
 obtain⟨ho,n,hn,q⟩:=(show aV X.prog X.w H s.heap l (.memo ls) from I.bO l _ hm)
 have hl:0 < ls.length:=by
   obtain⟨⟨f,hf⟩,_⟩:=q;exact(aae.mp hf).1
 have h5:n<=10000:=q.2.2.2.2.1 n (by rw[List.mem_replicate];exact⟨by omega,rfl⟩);exact⟨n,hn,h5,Inv.flip I (.inl hm) (.inr ⟨_,rfl⟩) ⟨ho,q.kp (sH (.inl hm) rfl) fun _ _ _ e=>e⟩⟩
theorem Inv.pack {n:Nat}(I:L2.Inv X pins σ H s)(hm:H l=some (.bN ls (aaj ls.length n)))(hn:0 < n):L2.Inv X pins σ (upd H l (.memo ls)) s:=by
 obtain⟨ho,q⟩:=(show aV X.prog X.w H s.heap l (.bN ls _) from I.bO l _ hm)
 exact Inv.flip I (.inr ⟨_,hm⟩) (.inl rfl) ⟨ho,n,hn,q.kp (sH (.inr ⟨_,hm⟩) rfl) fun _ _ _ e=>e⟩
theorem rK:Rb X "list.append" (fun x vs H Q=>∃ (a:Addr) (ls:k7) (ns:List Nat) (j:Nat) (p:Addr) (f:Nat->List (Key×FD)) (N:Nat) (q:Addr) (kvs:List (Key×V)),x=.ref p/\vs=[.ref q]/\H a=some (.bN ls ns)/\ls[j]?=some (p,f)/\ns[j]?=some N/\N < 9000/\H q=some (.dK kvs)/\tJ H kvs (f N)/\∀ o,Q .dk (upd (upd H a (.bN ls (ns.set j (N+1)))) q (.kd (some (p,N)) o kvs))):=by
 intro pins s σ H x vs v us Q I rx rv ⟨a,ls,ns,j,p,f,N,q,kvs,e1,e2,ha,hj,hN,hN9,hq,hfz,kk⟩;subst e1 e2;cases (show v=Value.ref p from rx);obtain⟨u,rfl,ru⟩:=vals1 rv;cases (show u=Value.ref q from ru);obtain⟨⟨oa,UK⟩,⟨f0,h1⟩,h2,h3,h4,h5,h6⟩:=(show aV X.prog X.w H s.heap a (.bN ls ns) from I.bO a _ ha)
 obtain⟨aH,c,e,hlen,hit⟩:=h6 j p f N hj hN;obtain⟨hz,lo,vs,kv,oq,es,ep,hoq,hr⟩:=(show aV X.prog X.w H s.heap q (.dK kvs) from I.bO q _ hq)
 have zB:mU (H p):=by
   rcases h3 j p f hj with z | z
   . rw[z,ha];trivial
   . rw[z];trivial
 have hpq:p≠q:=fun z=>by rw[z,hq] at zB;exact zB
 have haq:a≠q:=fun z=>by rw[z,hq] at ha;cases ha
 have hnm:=mV;refine call_meets PySem.F.slot_list_append ⟨_,e,rfl⟩ PySem.F.entry_list_append (PySem.F.args_list_append_2 _ _) (PySem.list_append p aH.toArray c (.ref q) (by rw[aap];exact aau (show aH.length<=10000 by omega) (by decide))) ⟨e,?_⟩;have e':=PySem.IsL.update e (fun x=>x.push (Value.ref q));rw[show aH.toArray.push (Value.ref q)=(aH ++ [Value.ref q]).toArray by simp] at e';generalize hh':s.heap.update p (Obj.mapSeq fun x=>x.push (Value.ref q))=h' at e';have Es:∀ b o,b≠p->s.heap.get? b=some o->h'.get? b=some o:=fun b o hb z=>by rw[<- hh'];exact(ace s.heap _ (Ne.symm hb)).trans z
 let H':Hp:=upd (upd H a (.bN ls (ns.set j (N+1)))) q (.kd (some (p,N)) oq kvs);have vg:∀ b o,H b=some o->b≠a->b≠q->H' b=some o:=fun b o z n1 n2=>by show(upd (upd H a _) q _) b=_;rw[ai n2,ai n1];exact z
 have nk:∀ b o,H b=some o->mk o=false->b≠a:=fun b o z n z'=>by rw[z',ha] at z;cases z;cases n
 have nq:∀ b o,H b=some o->(∀ x,o≠.dK x)->b≠q:=fun b o z n z'=>by rw[z',hq] at z;exact n _ (Option.some.inj z).symm
 have kp:Kp H H':=⟨fun b o z kq=>vg b _ z (nk b _ z (by cases o <;> first | rfl | exact(show False from kq).elim)) (nq b _ z fun x y=>by subst y;exact kq),fun b z=>by
   by_cases ba:b=a
   . rw[ba];show mU ((upd (upd H a _) q _) a);rw[ai haq,ak];trivial
   . have bq:b≠q:=fun z'=>by rw[z',hq] at z;exact z
     show mU ((upd (upd H a _) q _) b);rw[ai bq,ai ba];exact z,fun b x z=>vg b _ z (nk b _ z rfl) (nq b _ z fun x y=>by cases y)⟩
 have hl:∀ p' i c',mU (H p')->US s.heap p' i c'->US h' p' i c':=fun p' i c' _ ⟨its',n',z1,z2⟩=>by
   by_cases pp:p'=p
   . subst pp
     rw[e] at z1;have z3:its'=aH:=by
       have:=congrArg (fun o:Option Obj=>o.map (·.data)) z1;simp at this;exact this.1.symm
     subst z3;exact⟨_,_,e',by rw[aay (aae.mp z2).1];exact z2⟩
   . exact⟨its',n',Es _ _ pp z1,z2⟩
 have MU:US h' p N q:=⟨_,_,e',by rw[aaE (by omega),hlen,Nat.sub_self];rfl⟩
 have fz':tJ H' kvs (f N):=hfz.kp kp;have hqo:h'.get? q=some oq:=Es _ _ (Ne.symm hpq) hoq;have Wz:∀ b,H b=none->H' b=none:=fun b n=>by
   have n1:b≠a:=fun z=>by rw[z,ha] at n;cases n
   have n2:b≠q:=fun z=>by rw[z,hq] at n;cases n
   show(upd (upd H a _) q _) b=none;rw[ai n2,ai n1];exact n
 have nop:∀ b,H b=none->b≠p:=fun b n z=>by rw[<- z,n] at zB;exact zB
 have ths:∀ b o,s.heap.get? b=some o->∃ o',h'.get? b=some o':=fun b o z=>by
   by_cases bp:b=p
   . rw[bp];exact⟨_,e'⟩
   . exact⟨o,Es _ _ bp z⟩
 refine⟨.dk,H',I.un (h':=h') (t':=s.toks) ⟨fun b o z n _ _=>Es b o (nop b n) z,fun b o z n _ _=>⟨o.slots,Es b o (nop b n) z⟩,fun b o _ n _=>Wz b n,fun b o z _=>ths b o z,fun b xs z=>vg b _ z (nk b _ z rfl) (nq b _ z fun x y=>by cases y),
   fun b o u z=>vg b _ z (nk b _ z rfl) (nq b _ z fun x y=>by cases y),fun b ps z=>⟨#[],by rw[vg b _ z (nk b _ z rfl) (nq b _ z fun x y=>by cases y)];simp⟩⟩ fun b u z=>?_,rfl,kk oq⟩
 by_cases bq:b=q
 . subst bq
   have z:(upd (upd H a _) b _) b=some u:=z;rw[ak] at z;cases z;refine⟨hqo,⟨hz,lo,vs,kv,oq,es,ep,hqo,hr⟩,fun p' i ht=>?_⟩;cases ht;exact⟨kp.mem _ zB,MU⟩
 . by_cases ba:b=a
   . subst ba
     have z:(upd (upd H b _) q _) b=some u:=z;rw[ai bq,ak] at z;cases z;refine⟨ths _ _ UK,⟨f0,h1⟩,by rw[acr];exact h2,fun j' p' f' z=>(h3 j' p' f' z).imp id fun z=>kp.part _ _ z,h4,fun n hn=>?_,fun j' p' f' n z1 z2=>?_⟩
     . obtain⟨i,hi,ei⟩:=aa8.mp hn
       rw[List.getElem_set] at ei
       split at ei
       . omega
       . rw[<- ei];exact h5 _ (aaY _)
     . by_cases jj:j=j'
       . subst jj
         rw[hj] at z1;cases z1;have hjl:j < ns.length:=(aae.mp hN).1;rw[aaf hjl] at z2;cases z2;refine⟨_,_,e',by rw[aaq,hlen];rfl,fun i hi=>?_⟩;by_cases hiN:i < N
         . obtain⟨q',o',kv',w1,w2,w3⟩:=hit i hiN
           exact⟨q',o',kv',by rw[aay (by omega)];exact w1,kp.kd _ _ _ _ w2,w3.kp kp⟩
         . have:i=N:=by omega
           subst this;exact⟨q,oq,kvs,by rw[aaE (by omega),hlen,Nat.sub_self];rfl,ak,fz'⟩
       . rw[aag jj] at z2
         have pp:p'≠p:=fun z=>by
           subst z;obtain⟨i1,e1⟩:=aae.mp hj;obtain⟨i2,e2⟩:=aae.mp z1;have pw:=abt.mp h4;rcases Nat.lt_or_gt_of_ne jj with lt | lt
           . have:=pw j j' (by rw[k5];exact i1) (by rw[k5];exact i2) lt
             rw[aaL,aaL,e1,e2] at this;exact this rfl
           . have:=pw j' j (by rw[k5];exact i2) (by rw[k5];exact i1) lt
             rw[aaL,aaL,e1,e2] at this;exact this rfl
         exact(h6 j' p' f' n z1 z2).kp kp fun u z=>Es _ _ pp z
   . have z0:H b=some u:=by
       have z:(upd (upd H a _) q _) b=some u:=z;rw[ai bq,ai ba] at z;exact z
     by_cases bp:b=p
     . subst bp
       rcases h3 j b f hj with z1 | z1
       . exact absurd z1 ba
       . rw[z1] at z0;cases z0
         exact⟨_,e'⟩
     . refine(I.bO b u z0).Pu (fun c' v' DG z'=>Es c' v' ?_ z') (fun c' z'=>vg c' _ z' (nk c' _ z' rfl) (nq c' _ z' fun x y=>by cases y)) (fun c' xs z'=>vg c' _ z' (nk c' _ z' rfl) (nq c' _ z' fun x y=>by cases y)) kp hl
       rcases DG with rfl | z1 | z1
       . exact bp
       . exact fun z'=>by rw[z'] at z1;rw[z1] at zB;exact zB
       . intro z'
         rw[z'] at z1;rcases h3 j p f hj with z2 | z2
         . rw[z2,ha] at z1;cases z1
         . rw[z2] at z1;cases z1;exact ba rfl
end
noncomputable def qR (fs:List (Str×Dt))(nm:List Str)(a:Addr)(ls:k7)(n:Nat):List (Str×Dt):=fs ++ (aah nm.length).map fun j=>(nm.getD j "",.fZ a ls j n)
section
variable {K:W.Frag}{Hf H:Hp}
theorem br.split:∀ {UL MV:List (Str×Dt)} {fv:List (Str×V)},br K H fv (UL ++ MV)->∃ f1 f2,fv=f1 ++ f2/\br K H f1 UL/\br K H f2 MV
 | [],_,fv,r=>⟨[],fv,rfl,.nil,r⟩
 | (k,d)::UL,MV,_,.cons h t=>by
   obtain⟨f1,f2,e,r1,r2⟩:=br.split t;exact⟨(k,_)::f1,f2,by rw[e];rfl,.cons h r1,r2⟩
theorem br.join:∀ {UL MV:List (Str×Dt)} {f1 f2:List (Str×V)},br K H f1 UL->br K H f2 MV->br K H (f1 ++ f2) (UL ++ MV)
 | _,_,_,_,.nil,r=>r
 | _,_,_,_,.cons h t,r=>.cons h (br.join t r)
theorem qw {nm:Nat->Str}{d d':Nat->Dt}{H':Hp}(h:∀ j v,Rep K H v (d j)->Rep K H' v (d' j)):∀ {js:List Nat} {fv:List (Str×V)},br K H fv (js.map fun j=>(nm j,d j))->br K H' fv (js.map fun j=>(nm j,d' j))
 | [],_,.nil=>.nil
 | j::js,_,.cons r t=>.cons (h j _ r) (qw h t)
def vO (H:Hp)(ls:k7)(n:Nat):Prop:=∀ (j:Nat) (p:Addr) (f:Nat->List (Key×FD)),ls[j]?=some (p,f)->Known H p f n
variable {fs:List (Str×Dt)}{nm:List Str}{l:Addr}{ls:k7}{n m:Nat}{fv:List (Str×V)}{u:HO}
theorem xi (hn:0 < nm.length)(r:br K Hf fv (uR fs nm l ls n)):Hf l=some (.memo ls):=by
 obtain⟨f1,f2,_,_,r2⟩:=br.split r;cases hk:nm.length with
 | zero=>omega
 | succ k=>
   rw[hk,List.range_succ_eq_map,aao] at r2;cases r2 with
   | cons h t=>cases h with
     | memo _ h2 _ _=>exact h2
theorem WA (hs:lE l fs=true)(hm:Hf l=some (.memo ls))(hu:nK ls u)(r:br K Hf fv (uR fs nm l ls n)):br K (upd Hf l u) fv (qR fs nm l ls n):=by
 obtain⟨f1,f2,e,r1,r2⟩:=br.split r;subst e;refine br.join (kh (.inl hm) hu hs r1) (qw (fun j v q=>?_) r2);cases q with
 | memo h1 h2 h3 h4=>exact jE (.inl hm) hu rfl (.fZ h1 (.inl h2) h3 h4)
theorem P2 (hs:lE l fs=true)(hm:cq Hf l ls)(r:br K Hf fv (qR fs nm l ls n)):br K (upd Hf l (.memo ls)) fv (uR fs nm l ls n):=by
 obtain⟨f1,f2,e,r1,r2⟩:=br.split r;subst e;refine br.join (kh hm (.inl rfl) hs r1) (qw (fun j v q=>?_) r2);cases q with
 | fZ h1 h2 h3 h4=>exact .memo h1 ak (h3.imp id fun z=>bw hm z rfl) (oi hm (.inl rfl) h4)
theorem CL (hk:vO Hf ls m)(r:br K Hf fv (uR fs nm l ls n)):br K Hf fv (uR fs nm l ls m):=by
 obtain⟨f1,f2,e,r1,r2⟩:=br.split r;subst e;refine br.join r1 (qw (fun j v q=>?_) r2);cases q with
 | memo h1 h2 h3 h4=>exact .memo h1 h2 h3 (hk _ _ _ h1)
theorem N5 (hl:ls.length<=nm.length)(r:br K Hf fv (uR fs nm l ls n)):vO Hf ls n:=fun j p f e=>by
 obtain⟨f1,f2,_,_,r2⟩:=br.split r;have hj:j < nm.length:=aal (aae.mp e).1 hl;have key:∀ {js:List Nat} {fv:List (Str×V)},br K Hf fv (js.map fun j=>(nm.getD j "",Dt.memo l ls j n))->j∈js->Known Hf p f n:=by
   intro js
   induction js with
   | nil=>intro fv _ h;cases h
   | cons i js ih=>
     intro fv r h;cases r with
     | cons q t=>
       rcases aaJ.mp h with z | z
       . subst z
         cases q with
         | memo h1 h2 h3 h4=>rw[e] at h1;cases h1;exact h4
       . exact ih t z
 exact key r2 (abX.mpr hj)
theorem Si {A B b6 H2:Hp}(hA:A l=some (.memo ls))(hB:B l=some (.memo ls))(g:bB (upd A l u) (upd B l u) b6 H2):bB A B (upd b6 l (.memo ls)) (upd H2 l (.memo ls)):=by
 refine⟨fun b o e=>?_,fun b o e=>?_,dm g.sub,fun b o e=>?_⟩
 . by_cases hb:b=l
   . subst hb;rw[hB] at e;cases e;exact ak
   . rw[ai hb];exact g.big _ _ (by rw[ai hb];exact e)
 . by_cases hb:b=l
   . subst hb;rw[hA] at e;cases e;exact ak
   . rw[ai hb];exact g.bU _ _ (by rw[ai hb];exact e)
 . by_cases hb:b=l
   . subst hb;exact .inl ⟨_,hA⟩
   . rw[ai hb] at e
     rcases g.new b o e with⟨o',z⟩ | z | z
     . rw[ai hb] at z;exact .inl ⟨o',z⟩
     . rw[ai hb] at z;exact .inr (.inl z)
     . exact .inr (.inr z)
variable {G G0:Gr}{st:L2.St}{dl:List Slot}
theorem eG.rebase (S:eG K G0 st Hf H dl)(no:noOwn dl=true)(g:bB G.Hf G.H G0.Hf G0.H):eG K G st Hf H dl:=⟨g.trans S.gr,S.len,S.val,fun i o h=>absurd h (bb no i o),fun i j o o' a h=>absurd h (bb no i o)⟩
noncomputable def sI (a:Addr):List Slot->Bool
 | []=>true
 | .aS::r=>sI a r
 | .val d::r=>ug a d && sI a r
 | .own _::_=>false
theorem nL {l:Addr}:∀ {tl:List Slot} {i:Nat} {d:Dt},sI l tl=true->tl[i]?=some (.val d)->ug l d=true
 | [],_,_,_,e=>by simp at e
 | .aS::r,0,_,_,e=>by simp at e
 | .aS::r,i+1,_,h,e=>nL (tl:=r) (i:=i) h (by simpa using e)
 | .val d::r,0,_,h,e=>by
   rw[sI,aa9] at h;simp at e;subst e;exact h.1
 | .val d::r,i+1,_,h,e=>by
   rw[sI,aa9] at h;exact nL (tl:=r) (i:=i) h.2 (by simpa using e)
theorem iM {l:Addr}:∀ {tl:List Slot},sI l tl=true->noOwn tl=true
 | [],_=>rfl
 | .aS::r,h=>iM (tl:=r) h
 | .val d::r,h=>by
   rw[sI,aa9] at h;exact iM (tl:=r) h.2
variable {C:Addr}{tl:List Slot}
noncomputable abbrev BH (C:Addr)(fs:List (Str×Dt))(nm:List Str)(l:Addr)(ls:k7)(n:Nat)(tl:List Slot):List Slot:=.val (.obj C (uR fs nm l ls n))::tl
noncomputable abbrev ZV (C:Addr)(fs:List (Str×Dt))(nm:List Str)(l:Addr)(ls:k7)(n:Nat)(tl:List Slot):List Slot:=.val (.obj C (qR fs nm l ls n))::tl
theorem eG.WB {m:Nat}(S:eG K G st Hf H (BH C fs nm l ls n tl))(kn:vO Hf ls m):eG K G st Hf H (BH C fs nm l ls m tl):=by
 have own:∀ {i:Nat} {o:Own},(BH C fs nm l ls m tl)[i]?=some (.own o)->(BH C fs nm l ls n tl)[i]?=some (.own o):=fun {i o} h=>by
   cases i with
   | zero=>cases h
   | succ i=>exact h
 refine⟨S.gr,S.len,fun i d h=>?_,fun i o h=>S.own i o (own h),fun i j o o' a h1 h2=>S.HG i j o o' a (own h1) (own h2)⟩;cases i with
 | zero=>
   cases h;obtain⟨v,hv,rv⟩:=S.val 0 _ rfl;cases rv with
   | obj q r=>exact⟨_,hv,.obj q (CL kn r)⟩
 | succ i=>exact S.val (i+1) d h
noncomputable def WC (G0:Gr)(l:Addr)(u:HO):Gr:=⟨upd G0.Hf l u,upd G0.H l u⟩
theorem eG.ZW (S:eG K G st Hf H (BH C fs nm l ls n tl))(hs:lE l fs=true)(ht:sI l tl=true)(hn:0 < nm.length)(hu:nK ls u):Hf l=some (.memo ls)/\eG K (WC ⟨ki Hf H,H⟩ l u) st (upd (ki Hf H) l u) (upd H l u) (ZV C fs nm l ls n tl):=by
 obtain⟨v,hv,rv⟩:=S.val 0 _ rfl;have sm:=gT S.sub;cases rv with
 | @obj a _ dx fv _ q r=>
   have hm:=xi hn r;have ZX:ki Hf H l=some (.memo ls):=sm _ _ hm;refine⟨hm,⟨.refl (dm (pN S.sub)),S.len,fun i d h=>?_,fun i o h=>?_,fun i j o o' a h=>?_⟩⟩
   . cases i with
     | zero=>
       cases h;exact⟨_,hv,.obj (Ky (.inl ZX) (jA sm q)) (WA hs ZX hu (r.mono sm))⟩
     | succ i=>
       have h:tl[i]?=some (.val d):=h;obtain⟨w,w1,w2⟩:=S.val (i+1) d h;exact⟨w,w1,jE (.inl ZX) hu (nL ht h) (w2.mono sm)⟩
   . cases i with
     | zero=>cases h
     | succ i=>exact absurd h (bb (iM ht) i o)
   . cases i with
     | zero=>cases h
     | succ i=>exact absurd h (bb (iM ht) i o)
end
section
variable {X:Cx}{G:Gr}{E:XK}{dl:List Slot}{c e:Expr}{body:List Stmt}{pos p:Pos}{fs:List (Str×Dt)}{nm:List Str}{l C:Addr}{ls:k7}{n m age:Nat}{tl:List Slot}
def Sk (X:Cx)(c:Expr):TT:=fun st H Q=>∃ G dl b,EB X G dl c b/\VD X.K G dl b st H Q
theorem KH:PT X c (Sk X c):=fun pins s st H Q I ⟨G,dl,b,h,q⟩=>h pins s st H Q I q
def Sl (X:Cx)(E:XK)(body:List Stmt):TS:=fun D st H=>∃ G pre o,nH X G E pre body o/\tO X.K G E pre o D st H
theorem Ie {body:List Stmt}:DN X body (Sl X E body):=fun pins s st H D J ⟨G,pre,o,h,q⟩=>h pins s st H D J q
def RM (K:W.Frag)(G0:Gr)(C:Addr)(fs:List (Str×Dt))(nm:List Str)(l:Addr)(ls:k7)(n:Nat)(tl:List Slot)(M:Nat):L2.St->Hp->Prop:=fun st H=>H l=some (.bN ls (aaj ls.length M))/\∃ Hf,eG K G0 st Hf (upd H l (.memo ls)) (BH C fs nm l ls n tl)
theorem zC (hp:PassesOwn (model X.prog X.w) X.A X.env X.xe)(hs:lE l fs=true)(ht:sI l tl=true)(hn:0 < nm.length)(eZ:age < 9000)(hc:∀ (N:Nat) (G:Gr),G.Hf l=some (.bN ls (aaj ls.length N))->EB X G (ZV C fs nm l ls n tl) c (decide (N<=age)))(hb:∀ N,0 < N->N<=age->∀ G0:Gr,G0.Hf l=some (.memo ls)->G0.H l=some (.memo ls)->nH X (WC G0 l (.bN ls (aaj ls.length N))) E (ZV C fs nm l ls n tl) body (.raw (RM X.K G0 C fs nm l ls n tl (N+1)))):ES X G E (BH C fs nm l ls n tl) (.While c body [] pos) (.nx (BH C fs nm l ls (age+1) tl)):=by
 intro pins s st H D I ⟨Hf,S,k⟩;have no:noOwn (BH C fs nm l ls n tl)=true:=show noOwn tl=true from iM ht
 have hm:Hf l=some (.memo ls):=(S.ZW (u:=.memo ls) hs ht hn (.inl rfl)).1;obtain⟨N0,h0,h1,IX⟩:=Inv.exact I (S.sub _ _ hm);let XX:Nat->HO:=fun N=>.bN ls (aaj ls.length N)
 have mu:∀ N,nK ls (XX N):=fun N=>.inr ⟨_,rfl⟩
 let W:Nat->L2.St->Hp->Prop:=fun m st H=>∃ N,m=age+1 - N/\0 < N/\H l=some (XX N)/\∃ Hf1,aI Hf Hf1/\eG X.K G st Hf1 (upd H l (.memo ls)) (BH C fs nm l ls n tl)
 refine cn (BV (pos:=pos) hp (KH (X:=X) (c:=c)) (Ie (E:=E)) pins s st _ { D with nx:=fun kA H'=>∃ N,age < N/\H' l=some (XX N)/\∃ Hf1,aI Hf Hf1/\eG X.K G kA Hf1 (upd H' l (.memo ls)) (BH C fs nm l ls n tl)} IX ?_) fun f s7 q7=>?_
 . refine⟨W,⟨_,N0,rfl,h0,ak,Hf,aI.refl _,by rw[vC,xb (S.sub _ _ hm)];exact S⟩,?_⟩
   rintro mm Yj H1 ⟨N,rfl,hN,MU,Hf1,s1,S1⟩
   have eH:upd (upd H1 l (.memo ls)) l (XX N)=H1:=by rw[vC,xb MU]
   obtain⟨Ys,SX⟩:=S1.ZW (u:=XX N) hs ht hn (mu N);rw[eH] at SX;have hA:ki Hf1 (upd H1 l (.memo ls)) l=some (.memo ls):=gT S1.sub _ _ Ys;refine⟨_,_,decide (N<=age),hc N (WC ⟨ki Hf1 (upd H1 l (.memo ls)),upd H1 l (.memo ls)⟩ l (XX N)) ak,_,SX,fun b6 H2 g2=>?_⟩;have g2':bB (upd (ki Hf1 (upd H1 l (.memo ls))) l (XX N)) (upd (upd H1 l (.memo ls)) l (XX N)) b6 H2:=by rw[eH];exact g2
   have gp:=Si (ls:=ls) hA ak g2';have gg:=(qv S1.sub).trans gp;have S2:=S1.grow gg;have Rk:H2 l=some (XX N):=g2.big _ _ MU;by_cases hle:N<=age
   . rw[decide_eq_true hle]
     have eH2:upd (upd H2 l (.memo ls)) l (XX N)=H2:=by rw[vC,xb Rk]
     obtain⟨WD,SX2⟩:=S2.ZW (u:=XX N) hs ht hn (mu N);rw[eH2] at SX2;have hA2:ki (upd b6 l (.memo ls)) (upd H2 l (.memo ls)) l=some (.memo ls):=gT S2.sub _ _ WD;refine Ce ⟨fun kA H'=>H' l=some (XX (N+1))/\∃ Hf1,aI Hf Hf1/\eG X.K G kA Hf1 (upd H' l (.memo ls)) (BH C fs nm l ls n tl),fun kA H' ⟨z1,z2⟩=>⟨age+1 - (N+1),by omega,N+1,rfl,by omega,z1,z2⟩,?_⟩;refine⟨_,_,_,hb N hN hle ⟨ki (upd b6 l (.memo ls)) (upd H2 l (.memo ls)),upd H2 l (.memo ls)⟩ hA2 ak,_,SX2,fun kA H' ⟨z1,aJ,z2⟩=>⟨z1,aJ,?_,?_⟩⟩
     . exact((s1.trans gg.bU).trans (gT S2.sub)).trans z2.gr.bU
     . exact z2.rebase no (S2.gr.trans (qv S2.sub))
   . rw[decide_eq_false hle]
     exact Cd ⟨N,by omega,Rk,_,s1.trans gg.bU,S2⟩
 . cases f with
   | next=>
     obtain⟨σ7,H7,I7,N,hN,ZY,Hf7,s7',S7⟩:=q7;have I8:=Inv.pack I7 ZY (by omega);refine⟨σ7,_,I8,?_⟩;obtain⟨_,_,hlen,_,_,_,h6⟩:=(show aV X.prog X.w H7 s7.heap l (XX N) from I7.bO l _ ZY)
     have kn:vO (ki Hf7 (upd H7 l (.memo ls))) ls (age+1):=fun j p f e i hi=>by
       have hj:j < ls.length:=(aae.mp e).1;obtain⟨aH,cc,e1,e2,e3⟩:=h6 j p f N e (by rw[abq,if_pos hj]);obtain⟨q,o,kvs,q1,q2,q3⟩:=e3 i (by omega);have key:∀ b u,H7 b=some u->Kept u->ki Hf7 (upd H7 l (.memo ls)) b=some u:=fun b u z kq=>AA (by rw[ai (fun zz=>by rw[zz,ZY] at z;cases z;exact kq)];exact z) kq
       exact⟨q,o,kvs,key _ _ q2 trivial,gU key q3⟩
     have S8:=S7.grow (qv S7.sub);exact k σ7 _ _ (s7'.trans (gT S7.sub)) (S8.WB kn)
   | cont=>exact q7
   | brk=>exact q7
   | ret v=>exact q7
theorem jF (he:EE X G (BH C fs nm l ls n tl) e (.yw l ls m))(hs:autoParam (swapsWith e none pos.line X.env=pure false) jp):ES X G E (BH C fs nm l ls n tl) (.Expr e pos) (.nx (BH C fs nm l ls m tl)):=
 tH (mG he hs) fun D st H zq=>ZL zq fun Hf zq=>have S:=zq.1;have k:=zq.2;⟨Hf,S,fun v Hf1 H1 g1 r1=>by
   have S1:=S.grow g1;cases r1 with
   | yw kn=>
     exact k st Hf1 H1 g1.bU (S1.WB kn)⟩
theorem qx (hl:ls.length<=nm.length):Comes (.nx (BH C fs nm l ls n tl)) (.ret (.yw l ls n)):=.kn fun K G st Hf H S=>by
 obtain⟨v,hv,rv⟩:=S.val 0 _ rfl;cases rv with
 | obj q r=>exact .yw (N5 hl r)
theorem CM (i:Nat){o:Out}{sts:List Stmt}{gs:List (Nat->List (Key×FD))}(h:∀ l ls,ls.map (·.2)=gs->nH X G E (dl.set i (.val (.obj C (uR fs nm l ls n)))) sts o)(hd:autoParam (dl[i]?=some (.val (.zl C fs gs nm n))) jp):nH X G E dl sts o:=by
 intro pins s st H D I ⟨Hf,S,k⟩;obtain⟨v,hv,rv⟩:=S.val i _ hd;cases rv with
 | @zl s' a _ dx fv _ _ _ _ ls' e q r=>
   refine h a ls' e pins s st H D I ⟨Hf,⟨S.gr,by simp[S.len],fun j d hj=>?_,fun j o' hj=>?_,fun j m o1 o2 c q1 q2 q3 q4=>?_⟩,k⟩
   . by_cases ej:i=j
     . subst ej
       have hl:i < dl.length:=(aae.mp hd).1;rw[aaf hl] at hj;cases hj;exact⟨_,hv,.obj q r⟩
     . rw[aag ej] at hj;exact S.val j d hj
   . have ej:i≠j:=fun z=>by
       subst z;rw[aaf (aae.mp hd).1] at hj;cases hj
     rw[aag ej] at hj;exact S.own j o' hj
   . have ne:∀ {j:Nat} {o':Own},(dl.set i (.val (.obj C (uR fs nm a ls' n))))[j]?=some (.own o')->dl[j]?=some (.own o'):=fun {j o'} hj=>by
       have ej:i≠j:=fun z=>by
         subst z;rw[aaf (aae.mp hd).1] at hj;cases hj
       rw[aag ej] at hj;exact hj
     exact S.HG j m o1 o2 c (ne q1) (ne q2) q3 q4
end
theorem CN {l:Addr}:∀ (a b:List (Str×Dt)),lE l (a ++ b)=(lE l a && lE l b)
 | [],b=>by rw[List.nil_append,lE];rfl
 | (k,d)::a,b=>by rw[List.cons_append,lE,lE,CN a b,Bool.and_assoc]
theorem KI (nm:Nat->Str)(l:Addr)(ls:k7)(n:Nat):∀ js:List Nat,lE l (js.map fun j=>(nm j,Dt.fZ l ls j n))=true
 | []=>rfl
 | j::js=>by rw[aao,lE,KI nm l ls n js];rfl
theorem zD {fs:List (Str×Dt)}{nm:List Str}{l:Addr}{ls:k7}{n:Nat}(h:lE l fs=true):lE l (qR fs nm l ls n)=true:=by
 unfold qR;rw[CN,h,KI];rfl
section
variable {X:Cx}{G0:Gr}{E:XK}{arg:Expr}{fs:List (Str×Dt)}{l C:Addr}{ls:k7}{n N:Nat}{tl:List Slot}{f g:Nat->List (Key×FD)}{n0 n1 x0 xg:Str}{p1 p2 p3 p4 p5 a1 a2 c1 c2 q1 q2:Pos}
theorem CO (ng:Nat)(hs:lE l fs=true)(ht:sI l tl=true)(hu:tl[ng]?=some .aS)(ju:ls.map (·.2)=[f,g])(hN:N < 9000)(cl:vF X.K C)(Sm:bQ X.K C n0)(ZZ:bQ X.K C n1)(hA:G0.Hf l=some (.memo ls))(hB:G0.H l=some (.memo ls))
   (Z0:∀ G2,EO X G2 (.val (.obj C (qR fs [n0,n1] l ls n))::tl.set ng (.val (.eF (pz (f N))))) arg (.cZ (pz (g N))))
   (UI:autoParam ((qR fs [n0,n1] l ls n).lookup n0=some (.fZ l ls 0 n)) jp) (MU:autoParam ((qR fs [n0,n1] l ls n).lookup n1=some (.fZ l ls 1 n)) jp)
   (UH:autoParam (X.N[0]?=some x0) jp) (Yt:autoParam (wu X.env.scope x0) xL) (Yu:autoParam ((x0 == ("__debug__":Str))=false) zn) (Yv:autoParam ((x0 == ("__classdict__":Str))=false) zn)
   (Z1:autoParam (X.N[ng+1]?=some xg) jp) (Z2:autoParam (wu X.env.scope xg) xL) (Z3:autoParam ((xg == ("__debug__":Str))=false) zn) (Z4:autoParam ((xg == ("__classdict__":Str))=false) zn)
   (WE:autoParam (attributeBase (.Name x0 p1) n0 X.env (eval (.Name x0 p1) X.env)=eval (.Name x0 p1) X.env) jp) (Z5:autoParam (attributeBase (.Name x0 p4) n1 X.env (eval (.Name x0 p4) X.env)=eval (.Name x0 p4) X.env) jp)
   (Et:autoParam (attributeBase (.Attribute (.Name x0 p1) n0 p2) "append" X.env (eval (.Attribute (.Name x0 p1) n0 p2) X.env)=eval (.Attribute (.Name x0 p1) n0 p2) X.env) jp)
   (So:autoParam (attributeBase (.Attribute (.Name x0 p4) n1 p5) "append" X.env (eval (.Attribute (.Name x0 p4) n1 p5) X.env)=eval (.Attribute (.Name x0 p4) n1 p5) X.env) jp)
   (KJ:autoParam (((backTo c1 (starEach [.Name xg p3] X.env)).all (fun x=>!x.1) && (backToKw c1 (keywordEach [] X.env)).all (fun x=>x.1.isSome) && decide ([Expr.Name xg p3].length+([]:List Keyword).length+(if ([]:List Keyword).isEmpty then 0 else 1) < 30))=true) jp)
   (WG:autoParam (((backTo c2 (starEach [arg] X.env)).all (fun x=>!x.1) && (backToKw c2 (keywordEach [] X.env)).all (fun x=>x.1.isSome) && decide ([arg].length+([]:List Keyword).length+(if ([]:List Keyword).isEmpty then 0 else 1) < 30))=true) jp)
   (Eu:autoParam ((a1.endLine == c1.line)=true) jp) (Sq:autoParam ((a2.endLine == c2.line)=true) jp) (AB:autoParam (starEach [.Name xg p3] X.env=(false,eval (.Name xg p3) X.env)::starEach [] X.env) jp) (N6:autoParam (starEach [arg] X.env=(false,eval arg X.env)::starEach [] X.env) jp)
   (IZ:autoParam (swapsWith (.Call (.Attribute (.Attribute (.Name x0 p1) n0 p2) "append" a1) [.Name xg p3] [] c1) none q1.line X.env=pure false) jp) (BX:autoParam (swapsWith (.Call (.Attribute (.Attribute (.Name x0 p4) n1 p5) "append" a2) [arg] [] c2) none q2.line X.env=pure false) jp) :
   nH X (WC G0 l (.bN ls (aaj ls.length N))) E (.val (.obj C (qR fs [n0,n1] l ls n))::tl.set ng (.own (.cZ (pz (f N)))))
     [.Expr (.Call (.Attribute (.Attribute (.Name x0 p1) n0 p2) "append" a1) [.Name xg p3] [] c1) q1,.Expr (.Call (.Attribute (.Attribute (.Name x0 p4) n1 p5) "append" a2) [arg] [] c2) q2] (.raw (RM X.K G0 C fs [n0,n1] l ls n tl (N+1))):=by
 have WH:PE X arg (fun st H Q=>∃ G2,Yg X.K G2 (.val (.obj C (qR fs [n0,n1] l ls n))::tl.set ng (.val (.eF (pz (f N))))) (.cZ (pz (g N))) st H Q):=fun pins s st H Q I ⟨G2,q⟩=>Z0 G2 pins s st H Q I q
 refine Aj (pD (mG (uP PySem.F.plainAttrs_list PySem.F.slot_list_append PySem.F.type_list_append rK (wC (ke (pos:=p1) UH Yt Yu Yv) WE) (mH (ke (pos:=p3) Z1 Z2 Z3 Z4) pF AB) Et KJ Eu AB rfl) IZ)
   (n6 (mG (uP PySem.F.plainAttrs_list PySem.F.slot_list_append PySem.F.type_list_append rK (wC (ke (pos:=p4) UH Yt Yu Yv) Z5) (mH WH pF N6) So WG Sq N6 rfl) BX))) fun D st H zq=>ZL zq fun Hf zq=>have S:=zq.1;have k:=zq.2;?_
 have e2:ls.length=2:=by have:=congrArg abB ju;simpa using this
 have eR:∀ M:Nat,aaj ls.length M=[M,M]:=fun M=>by rw[e2];rfl
 rw[eR] at S;have WI:ng < tl.length:=(aae.mp hu).1;obtain⟨v0,hv,rv⟩:=S.val 0 _ rfl;cases rv with
 | @obj sa _ dx fv _ Sr rf=>
   obtain⟨oa,Ew,Yw,_,back⟩:=Rd.ex Sr;have Ss:Hf l=some (.bN ls [N,N]):=S.gr.bU _ _ ak;have P4:H l=some (.bN ls [N,N]):=S.sub _ _ Ss;have hm:cq Hf l ls:=.inr ⟨_,Ss⟩;obtain⟨y0,Z6,Z7⟩:=rf.lookup UI;obtain⟨y1,MS,ry1⟩:=rf.lookup MU;obtain⟨qa,hq,WJ,Z8,kvs,P5,rk⟩:=S.own (ng+1) (.cZ (pz (f N))) (by show(tl.set ng _)[ng]?=_;rw[aaf WI]);cases Z7 with
   | @fZ _ p _ _ _ f0 CD _ Z9 _=>cases ry1 with
     | @fZ _ pp _ _ _ f1 hp1 _ aej _=>
       have ef0:f0=f:=by
         have:=congrArg (fun z=>z[0]?) ju;simp only[aab,CD] at this;exact Option.some.inj this
       have ef1:f1=g:=by
         have:=congrArg (fun z=>z[1]?) ju;simp only[aab,hp1] at this;exact Option.some.inj this
       subst ef0 ef1;have Yx:tJ H kvs (f0 N):=gU (fun b u e _=>S.sub _ _ e) (rJ rk);have nql:qa≠l:=fun z=>by rw[z,P4] at P5;cases P5
       have WK:sa≠l:=fun z=>by rw[z,Ss] at Ew;cases Ew;cases Yw
       have nsq:sa≠qa:=fun z=>by rw[z,WJ] at Ew;cases Ew
       refine⟨_,hv,sa,C,dx,fv,_,rfl,back _ (S.sub _ _ Ew),cl,Sm,Z6,.inr (.inr (.inr (.inr ⟨rfl,l,ls,[N,N],0,f0,N,P4,CD,rfl⟩))),_,hq,l,ls,[N,N],0,p,f0,N,qa,kvs,rfl,rfl,P4,CD,rfl,hN,P5,Yx,fun oq=>?_⟩;let H4:Hp:=upd (upd H l (.bN ls ([N,N].set 0 (N+1)))) qa (.kd (some (p,N)) oq kvs);let u4:HO:=.bN ls [N+1,N];have Yy:H4 l=some u4:=by show(upd (upd H l _) qa _) l=_;rw[ai (Ne.symm nql),ak];rfl
       have h4q:H4 qa=some (.kd (some (p,N)) oq kvs):=ak;have Yz:∀ b o,H b=some o->b≠l->b≠qa->H4 b=some o:=fun b o e n1 n2=>by show(upd (upd H l _) qa _) b=_;rw[ai n2,ai n1];exact e
       have h4n:∀ b,H4 b=none->H b=none:=fun b e=>by
         have n1:b≠l:=fun z=>by rw[z,Yy] at e;cases e
         have n2:b≠qa:=fun z=>by rw[z,h4q] at e;cases e
         have e:(upd (upd H l _) qa _) b=none:=e;rw[ai n2,ai n1] at e;exact e
       have hfq:∀ b o,Hf b=some o->b≠qa:=fun b o e z=>by rw[z,WJ] at e;cases e
       have AD:aI (upd Hf l u4) H4:=fun b o e=>by
         by_cases bl:b=l
         . rw[bl,ak] at e;cases e;rw[bl];exact Yy
         . rw[ai bl] at e;exact Yz b o (S.sub _ _ e) bl (hfq b o e)
       let MT:Hp:=ki (upd Hf l u4) H4;have WL:aI (upd Hf l u4) MT:=gT AD;have YA:nK ls u4:=.inr ⟨_,rfl⟩;have aad:∀ b u,H b=some u->Kept u->MT b=some u:=fun b u e kq=>AA (Yz b _ e (fun z=>by rw[z,P4] at e;cases e;exact kq) (fun z=>by rw[z,P5] at e;cases e;exact kq)) kq
       have S4:eG X.K ⟨MT,H4⟩ st MT H4 (.val (.obj C (qR fs [n0,n1] l ls n))::tl.set ng (.val (.eF (pz (f0 N))))):=by
         have no:∀ (i:Nat) o,(Slot.val (.obj C (qR fs [n0,n1] l ls n))::tl.set ng (.val (.eF (pz (f0 N)))))[i]?≠some (.own o):=fun i o h=>by
           cases i with
           | zero=>cases h
           | succ i=>
             have h:(tl.set ng (.val (.eF (pz (f0 N)))))[i]?=some (.own o):=h;by_cases e:ng=i
             . subst e;rw[aaf WI] at h;cases h
             . rw[aag e] at h;exact bb (iM ht) i o h
         refine⟨.refl (pN AD),by have:=S.len;simpa using this,fun i d h=>?_,fun i o h=>absurd h (no i o),fun i j o o' a h=>absurd h (no i o)⟩;cases i with
         | zero=>
           cases h;exact⟨_,hv,.obj (back _ (WL _ _ (bw hm Ew Yw))) ((kh hm YA (zD hs) rf).mono WL)⟩
         | succ i=>
           have h:(tl.set ng (.val (.eF (pz (f0 N)))))[i]?=some (.val d):=h;by_cases e:ng=i
           . subst e
             rw[aaf WI] at h;cases h;exact⟨_,hq,.eF (Gd h4q) (vN (gU aad Yx))⟩
           . rw[aag e] at h
             obtain⟨w,w1,w2⟩:=S.val (i+1) d (by show(tl.set ng _)[i]?=_;rw[aag e];exact h);exact⟨w,w1,(jE hm YA (nL ht h) w2).mono WL⟩
       refine⟨_,hv,sa,C,dx,fv,_,rfl,back _ (Yz _ _ (S.sub _ _ Ew) WK nsq),cl,ZZ,MS,.inr (.inr (.inr (.inr ⟨rfl,l,ls,[N+1,N],1,f1,N,Yy,hp1,rfl⟩))),⟨MT,H4⟩,MT,S4,fun ra yt H5 g5 n5 n5' ⟨Sv,PL,Wf⟩=>?_⟩;have h5l:H5 l=some u4:=g5.big _ _ Yy;have nrl:ra≠l:=fun z=>by rw[z,h5l] at PL;have PL:=Option.some.inj PL;have PL:HO.bN ls [N+1,N]=.dK Sv:=PL;cases PL
       refine⟨l,ls,[N+1,N],1,pp,f1,N,ra,Sv,rfl,rfl,h5l,hp1,rfl,hN,PL,gU (fun b u e _=>g5.sub _ _ e) (rJ Wf),fun or=>?_⟩;let H6:Hp:=upd (upd H5 l (.bN ls ([N+1,N].set 1 (N+1)))) ra (.kd (some (pp,N)) or Sv);show D.nx st H6;have h6l:H6 l=some (.bN ls [N+1,N+1]):=by show(upd (upd H5 l _) ra _) l=_;rw[ai (Ne.symm nrl),ak];rfl
       have WM:∀ b o,H5 b=some o->b≠l->b≠ra->(upd H6 l (.memo ls)) b=some o:=fun b o e n1 n2=>by
         rw[ai n1];show(upd (upd H5 l _) ra _) b=_;rw[ai n2,ai n1];exact e
       have f5r:∀ b o,yt b=some o->b≠ra:=fun b o e z=>by rw[z,n5'] at e;cases e
       have KL:aI (upd yt l (.memo ls)) (upd H6 l (.memo ls)):=fun b o e=>by
         by_cases bl:b=l
         . rw[bl,ak] at e ⊢;exact e
         . rw[ai bl] at e;exact WM b o (g5.sub _ _ e) bl (f5r b o e)
       have KN:=gT KL;have f4:∀ b o,Hf b=some o->b≠l->yt b=some o:=fun b o e n1=>g5.bU _ _ (WL _ _ (by rw[ai n1];exact e))
       have g6:bB G0.Hf G0.H (ki (upd yt l (.memo ls)) (upd H6 l (.memo ls))) (upd H6 l (.memo ls)):=by
         refine⟨fun b o e=>?_,fun b o e=>?_,pN KL,fun b o e=>?_⟩
         . by_cases bl:b=l
           . rw[bl,hB] at e;cases e;rw[bl];exact ak
           . have h3:H b=some o:=S.gr.big _ _ (by show(upd G0.H l _) b=_;rw[ai bl];exact e)
             have nbq:b≠qa:=fun z=>by
               have:(upd G0.H l (.bN ls [N,N])) qa=none:=Z8;rw[<- z,ai bl,e] at this;cases this
             have h4:=Yz b o h3 bl nbq;exact WM b o (g5.big _ _ h4) bl (fun z=>by have n5:H4 ra=none:=n5;rw[z,n5] at h4;cases h4)
         . by_cases bl:b=l
           . rw[bl,hA] at e;cases e;rw[bl];exact KN _ _ ak
           . have h3:Hf b=some o:=S.gr.bU _ _ (by show(upd G0.Hf l _) b=_;rw[ai bl];exact e)
             exact KN _ _ (by rw[ai bl];exact f4 b o h3 bl)
         . rcases qu (Hf:=upd yt l (.memo ls)) (H:=upd H6 l (.memo ls)) b with⟨u',z1,z2,z3⟩ | z
           . rw[z3] at e;cases e;exact .inr (.inr z2)
           . rw[z] at e
             by_cases bl:b=l
             . rw[bl];exact .inl ⟨_,hA⟩
             . rw[ai bl] at e
               rcases g5.new b o e with⟨o',w⟩ | w | w
               . have eo:o'=o:=by have:=g5.bU _ _ w;rw[e] at this;exact(Option.some.inj this).symm
                 subst eo;rcases qu (Hf:=upd Hf l u4) (H:=H4) b with⟨u',z1,z2,z3⟩ | z'
                 . have w:ki (upd Hf l u4) H4 b=some o':=w
                   rw[z3] at w;cases w;exact .inr (.inr z2)
                 . have w:ki (upd Hf l u4) H4 b=some o':=w
                   rw[z',ai bl] at w;rcases S.gr.new b o' w with⟨Ru,y⟩ | y | y
                   . have y:(upd G0.Hf l _) b=some Ru:=y
                     rw[ai bl] at y;exact .inl ⟨Ru,y⟩
                   . have y:(upd G0.H l _) b=none:=y
                     rw[ai bl] at y;exact .inr (.inl y)
                   . exact .inr (.inr y)
               . have y:(upd G0.H l (.bN ls [N,N])) b=none:=S.gr.big.free (h4n b w)
                 rw[ai bl] at y;exact .inr (.inl y)
               . exact .inr (.inr w)
       have g45:aI (upd Hf l u4) yt:=WL.trans g5.bU;have hm5:cq yt l ls:=.inr ⟨_,g45 _ _ ak⟩;have Sx:∀ {v:V} {d:Dt},ug l d=true->Rep X.K Hf v d->Rep X.K (ki (upd yt l (.memo ls)) (upd H6 l (.memo ls))) v d:=fun {v d} hn r=>(jE hm5 (.inl rfl) hn ((jE hm YA hn r).mono g45)).mono KN
       refine k st H6 ⟨by rw[eR];exact h6l,_,⟨g6,by have:=S.len;simpa using this,fun i d h=>?_,fun i o h=>?_,fun i j o o' a h=>?_⟩⟩
       . cases i with
         | zero=>
           cases h;refine⟨_,hv,.obj (back _ (KN _ _ (by rw[ai WK];exact f4 _ _ Ew WK))) ?_⟩;have r5:=(kh hm YA (zD hs) rf).mono g45;exact(P2 hs hm5 r5).mono KN
         | succ i=>
           have h:tl[i]?=some (.val d):=h;have e:ng≠i:=fun z=>by rw[<- z,hu] at h;cases h
           obtain⟨w,w1,w2⟩:=S.val (i+1) d (by show(tl.set ng _)[i]?=_;rw[aag e];exact h);exact⟨w,w1,Sx (nL ht h) w2⟩
       . cases i with
         | zero=>cases h
         | succ i=>exact absurd h (bb (iM ht) i o)
       . cases i with
         | zero=>cases h
         | succ i=>exact absurd h (bb (iM ht) i o)
end
noncomputable def ldk:HO->Bool
 | .lst _=>true
 | .dK _=>true
 | _=>false
noncomputable def conv (H:Hp)(p p2 q1 q2:Addr)(u1 u2 u3 u4:HO):Hp:=upd (upd (upd (upd H p u1) p2 u2) q1 u3) q2 u4
section
variable {X:Cx}{pins:List (Addr×Obj)}{σ:L2.St}{H:Hp}{s:Shared}{p p2 q1 q2:Addr}{o4 BI:List (Key×V)}{f g:Nat->List (Key×FD)}
theorem Inv.Sy (I:L2.Inv X pins σ H s)(hp:H p=some (.lst [.ref q1]))(Ag:H p2=some (.lst [.ref q2]))(MX:H q1=some (.dK o4))(WN:H q2=some (.dK BI))(f1:tJ H o4 (f 0))(f2:tJ H BI (g 0))(n1:p≠p2)(n2:q1≠q2):∃ o1 o2,L2.Inv X pins σ (conv H p p2 q1 q2 (.memo [(p,f),(p2,g)]) (.part p) (.kd (some (p,0)) o1 o4) (.kd (some (p2,0)) o2 BI)) s:=by
 obtain⟨z1,i1,c1,r1,e1⟩:=(show aV X.prog X.w H s.heap p (.lst [.ref q1]) from I.bO p _ hp)
 obtain⟨z2,i2,c2,r2,e2⟩:=(show aV X.prog X.w H s.heap p2 (.lst [.ref q2]) from I.bO p2 _ Ag)
 obtain⟨N7,lo1,vs1,kr1,o1,es1,ep1,WO,hr1⟩:=(show aV X.prog X.w H s.heap q1 (.dK o4) from I.bO q1 _ MX)
 obtain⟨hz2,lo2,vs2,kr2,o2,es2,ep2,YB,hr2⟩:=(show aV X.prog X.w H s.heap q2 (.dK BI) from I.bO q2 _ WN)
 obtain⟨u1,rfl,w1⟩:=vals1 r1;obtain⟨u2,rfl,w2⟩:=vals1 r2;cases (show u1=Value.ref q1 from w1);cases (show u2=Value.ref q2 from w2);refine⟨o1,o2,?_⟩;have m1:p≠q1:=fun z=>by rw[z,MX] at hp;cases hp
 have m2:p≠q2:=fun z=>by rw[z,WN] at hp;cases hp
 have m3:p2≠q1:=fun z=>by rw[z,MX] at Ag;cases Ag
 have m4:p2≠q2:=fun z=>by rw[z,WN] at Ag;cases Ag
 generalize N8:conv H p p2 q1 q2 (.memo [(p,f),(p2,g)]) (.part p) (.kd (some (p,0)) o1 o4) (.kd (some (p2,0)) o2 BI)=H'
 have WQ:H' p=some (.memo [(p,f),(p2,g)]):=by rw[<- N8];unfold conv;rw[ai m2,ai m1,ai n1,ak]
 have Sz:H' p2=some (.part p):=by rw[<- N8];unfold conv;rw[ai m4,ai m3,ak]
 have KO:H' q1=some (.kd (some (p,0)) o1 o4):=by rw[<- N8];unfold conv;rw[ai n2,ak]
 have WR:H' q2=some (.kd (some (p2,0)) o2 BI):=by rw[<- N8];unfold conv;rw[ak]
 have Es:∀ b,b≠p->b≠p2->b≠q1->b≠q2->H' b=H b:=fun b a1 a2 a3 a4=>by rw[<- N8];unfold conv;rw[ai a4,ai a3,ai a2,ai a1]
 have vg:∀ b o,H b=some o->ldk o=false->H' b=some o:=fun b o e n=>by
   rw[Es b (fun z=>by rw[z,hp] at e;cases e;cases n) (fun z=>by rw[z,Ag] at e;cases e;cases n) (fun z=>by rw[z,MX] at e;cases e;cases n) (fun z=>by rw[z,WN] at e;cases e;cases n)];exact e
 have kp:Kp H H':=⟨fun b o e kq=>vg b _ e (by cases o <;> first | rfl | exact(show False from kq).elim),fun b e=>by
   cases q:H b with
   | none=>rw[q] at e;exact e.elim
   | some u=>
     rw[q] at e;rw[vg b u q (by cases u <;> first | rfl | exact e.elim)];exact e,fun b x e=>vg b _ e rfl⟩
 refine I.un (h':=s.heap) (t':=s.toks) ⟨fun b o e _ _ _=>e,fun b o e _ _ _=>⟨o.slots,e⟩,fun b o e n _=>?_,fun b o e _=>⟨o,e⟩,fun b xs e=>vg b _ e rfl,fun b o u e=>vg b _ e rfl,fun b ps e=>⟨#[],by rw[vg b _ e rfl];simp⟩⟩ fun b u e=>?_
 . rw[Es b (fun z=>by rw[z,hp] at n;cases n) (fun z=>by rw[z,Ag] at n;cases n) (fun z=>by rw[z,MX] at n;cases n) (fun z=>by rw[z,WN] at n;cases n)]
   exact n
 . by_cases b1:b=p
   . subst b1
     rw[WQ] at e;cases e;refine⟨⟨_,e1⟩,1,by decide,⟨f,rfl⟩,rfl,fun j a h hj=>?_,by simp[n1],fun n hn=>by rw[List.mem_replicate] at hn;omega,fun j a h n hj hn=>?_⟩
     . match j,hj with
       | 0,hj=>cases hj;exact .inl rfl
       | 1,hj=>cases hj;exact .inr Sz
     . match j,hj,hn with
       | 0,hj,hn=>
         cases hj;cases hn;refine⟨_,_,e1,rfl,fun i hi=>?_⟩;have:i=0:=by omega
         subst this;exact⟨q1,o1,o4,rfl,KO,f1.kp kp⟩
       | 1,hj,hn=>
         cases hj;cases hn;refine⟨_,_,e2,rfl,fun i hi=>?_⟩;have:i=0:=by omega
         subst this;exact⟨q2,o2,BI,rfl,WR,f2.kp kp⟩
   . by_cases b2:b=p2
     . subst b2;rw[Sz] at e;cases e;exact⟨_,e2⟩
     . by_cases b3:b=q1
       . subst b3;rw[KO] at e;cases e
         refine⟨WO,⟨N7,lo1,vs1,kr1,o1,es1,ep1,WO,hr1⟩,fun a i ht=>?_⟩;cases ht;exact⟨by rw[WQ];trivial,_,_,e1,rfl⟩
       . by_cases b4:b=q2
         . subst b4;rw[WR] at e;cases e
           refine⟨YB,⟨hz2,lo2,vs2,kr2,o2,es2,ep2,YB,hr2⟩,fun a i ht=>?_⟩;cases ht;exact⟨by rw[Sz];trivial,_,_,e2,rfl⟩
         . rw[Es b b1 b2 b3 b4] at e
           exact(I.bO b u e).zX (fun _ _ _ q=>q) (fun c q=>vg c _ q rfl) (fun c xs q=>vg c _ q rfl) kp
end
theorem Gf (n0:Str)(v:V):∀ fv:List (Str×V),(fY n0 v fv).length<=fv.length+1
 | []=>aaa _
 | (k,w)::r=>by
   have ih:=Gf n0 v r;unfold fY
   split
   . simp
   . simp only[aaI];omega
section
variable {X:Cx}{G:Gr}{E:XK}{e1 e2:Expr}{fs:List (Str×Dt)}{z C:Addr}{tl:List Slot}{f g:Nat->List (Key×FD)}{n0 n1 x0:Str}{SA pn2 SD ap2 SE lp2 q1 q2:Pos}
theorem AE (no:noOwn tl=true)(cl:vF X.K C)(Sm:bQ X.K C n0)(ZZ:bQ X.K C n1)(he1:EO X G (.own (.Cf z C fs)::tl) e1 (.cZ (pz (f 0))))(Wb:EO X G (.aS::tl) e2 (.cZ (pz (g 0))))(SF:autoParam (∀ p ls,putD n1 (.memo p ls 1 1) (putD n0 (.memo p ls 0 1) fs)=uR fs [n0,n1] p ls 1) wl)(hlen:autoParam (Nat.ble fs.length 990=true) jp)(hN:autoParam (X.N[0]?=some x0) jp)(hv:autoParam (wu X.env.scope x0) xL)(mI:autoParam ((x0 == ("__debug__":Str))=false) zn)(nz:autoParam ((x0 == ("__classdict__":Str))=false) zn)(AB:autoParam (starEach [e1] X.env=[(false,eval e1 X.env)]) jp)(N6:autoParam (starEach [e2] X.env=[(false,eval e2 X.env)]) jp)(IZ:autoParam (swapsWith (.List [e1] SE) (some (.Attribute (.Name x0 SA) n0 SD)) q1.line X.env=pure false) jp)(BX:autoParam (swapsWith (.List [e2] lp2) (some (.Attribute (.Name x0 pn2) n1 ap2)) q2.line X.env=pure false) jp):nH X G E (.own (.Cf z C fs)::tl) [.Assign [.Attribute (.Name x0 SA) n0 SD] (.List [e1] SE) q1,.Assign [.Attribute (.Name x0 pn2) n1 ap2] (.List [e2] lp2) q2] (.nx (.own (.Ai z C fs [f,g] [n0,n1] 1)::tl)):=by
 intro pins s st H D I ⟨Hf,S,k⟩;have base:=pD (wD (pos:=q1) (pos':=SD) (ke (pos:=SA) hN hv mI nz) (wG (pos:=SE) (mH he1 pF AB)) IZ) (n6 (wD (pos:=q2) (pos':=ap2) (ke (pos:=pn2) hN hv mI nz) (wG (pos:=lp2) (mH Wb pF N6)) BX));let RQ:L2.St->Hp->Prop:=fun kA H'=>∃ p p2 a1 a2 o4 BI,H' p=some (.lst [.ref a1])/\H' p2=some (.lst [.ref a2])/\H' a1=some (.dK o4)/\H' a2=some (.dK BI)/\tJ H' o4 (f 0)/\tJ H' BI (g 0)/\p≠p2/\a1≠a2/\ ∀ o1 o2,D.nx kA (conv H' p p2 a1 a2 (.memo [(p,f),(p2,g)]) (.part p) (.kd (some (p,0)) o1 o4) (.kd (some (p2,0)) o2 BI))
 refine cn (base pins s st H { D with nx:=RQ} I ?_) fun fl s7 q7=>?_
 . obtain⟨za,hz,hzf,UM,ez,dx,fv,N9,rf⟩:=S.own 0 _ rfl
   subst ez;refine⟨Hf,S,fun a1 Hf1 H1 g1 WS SG ⟨o4,RZ,rk1⟩=>⟨aaW rfl,fun p hp=>?_⟩⟩;have N7:H1 za=some (.ins C dx fv):=g1.big _ _ N9;have MY:za≠p:=ax N7 hp;have WT:a1≠p:=ax RZ hp;have P6:za≠a1:=fun w=>by rw[w,WS] at N9;cases N9
   have hzp:(upd H1 p (.lst [.ref a1])) za=some (.ins C dx fv):=by rw[ai MY];exact N7
   refine⟨_,hz,za,C,dx,fv,rfl,hzp,cl,Sm,by rw[rf.length];exact aaT (aaW hlen) (by decide),?_⟩;let H2:Hp:=upd (upd H1 p (.lst [.ref a1])) za (.ins C dx (fY n0 (.ref p) fv));have Ig:Hf1 za=none:=g1.mq hzf N9;have gz1:bB Hf1 H1 Hf1 (upd H1 p (.lst [.ref a1])):=.fF g1.sub hp;have S0:eG X.K G st Hf H (.aS::tl):=S.weak ⟨rfl,fun i s' e n=>by
     cases i with
     | zero=>cases e;exact absurd rfl n
     | succ i=>exact e⟩
   have YC:noOwn (.aS::tl)=true:=no;have S2:eG X.K G st Hf1 H2 (.aS::tl):=qp ((S0.grow g1).grow gz1) YC Ig UM;refine⟨Hf1,S2,fun a2 j6 H3 g3 n3 n3' ⟨BI,HW,Wf⟩=>⟨aaW rfl,fun p2 Ag=>?_⟩⟩;have n3h:H2 a2=none:=n3;have YD:H2 za=some (.ins C dx (fY n0 (.ref p) fv)):=ak;have YE:H2 p=some (.lst [.ref a1]):=by show(upd (upd H1 p _) za _) p=_;rw[ai (Ne.symm MY),ak]
   have YF:H2 a1=some (.dK o4):=by show(upd (upd H1 p _) za _) a1=_;rw[ai (Ne.symm P6),ai WT];exact RZ
   have h3z:=g3.big _ _ YD;have h3p:=g3.big _ _ YE;have h3a:=g3.big _ _ YF;have Oa:za≠p2:=ax h3z Ag;have SH:p≠p2:=ax h3p Ag;have P7:a1≠p2:=ax h3a Ag;have P8:a2≠p2:=ax HW Ag;have SI:za≠a2:=fun w=>by rw[w,n3h] at YD;cases YD
   have aaw:p≠a2:=fun w=>by rw[w,n3h] at YE;cases YE
   have WU:a1≠a2:=fun w=>by rw[w,n3h] at YF;cases YF
   have aax:(upd H3 p2 (.lst [.ref a2])) za=some (.ins C dx (fY n0 (.ref p) fv)):=by rw[ai Oa];exact h3z
   refine⟨_,hz,za,C,dx,_,rfl,aax,cl,ZZ,?_,?_⟩
   . have:=Gf n0 (.ref p) fv
     have h9:=aaW hlen;have:=rf.length;omega
   let H4:Hp:=upd (upd H3 p2 (.lst [.ref a2])) za (.ins C dx (fY n1 (.ref p2) (fY n0 (.ref p) fv)));have h4p:H4 p=some (.lst [.ref a1]):=by show(upd (upd H3 p2 _) za _) p=_;rw[ai (Ne.symm MY),ai SH];exact h3p
   have aaz:H4 p2=some (.lst [.ref a2]):=by show(upd (upd H3 p2 _) za _) p2=_;rw[ai (Ne.symm Oa),ak]
   have SJ:H4 a1=some (.dK o4):=by show(upd (upd H3 p2 _) za _) a1=_;rw[ai (Ne.symm P6),ai P7];exact h3a
   have aaA:H4 a2=some (.dK BI):=by show(upd (upd H3 p2 _) za _) a2=_;rw[ai (Ne.symm SI),ai P8];exact HW
   have h4z:H4 za=some (.ins C dx (fY n1 (.ref p2) (fY n0 (.ref p) fv))):=ak;have f3z:j6 za=none:=g3.mq Ig YD;have YG:j6 p=none:=g3.mq (g1.sub.free hp) YE;have aaD:j6 a1=none:=g3.mq SG YF;have WV:j6 p2=none:=g3.sub.free Ag;have AD:aI j6 H4:=fun b o e=>by
     have b1:b≠za:=fun w=>by rw[w,f3z] at e;cases e
     have b2:b≠p2:=fun w=>by rw[w,WV] at e;cases e
     show(upd (upd H3 p2 _) za _) b=_;rw[ai b1,ai b2];exact g3.sub _ _ e
   have S4:eG X.K G st j6 H4 (.aS::tl):=qp ((S2.grow g3).grow (.fF g3.sub Ag)) YC f3z UM;have gp:G.H p=none:=S.gr.big.free (g1.big.free hp);have WW:G.H a1=none:=S.gr.big.free WS;have gp2:G.H p2=none:=S2.gr.big.free (g3.big.free Ag);have ga2:G.H a2=none:=S2.gr.big.free n3;have WX:tJ j6 o4 (f 0):=rJ (rk1.mono g3.bU);have fz2:tJ j6 BI (g 0):=rJ Wf;refine⟨p,p2,a1,a2,o4,BI,h4p,aaz,SJ,aaA,gU (fun b u e _=>AD _ _ e) WX,gU (fun b u e _=>AD _ _ e) fz2,SH,WU,fun o1 o2=>?_⟩;let ls:k7:=[(p,f),(p2,g)]
   let u1:HO:=.memo ls;let u3:HO:=.kd (some (p,0)) o1 o4;let u4:HO:=.kd (some (p2,0)) o2 BI;have m1:p≠a1:=Ne.symm WT;have cat:∀ (B:Hp),conv B p p2 a1 a2 u1 (.part p) u3 u4 p=some u1/\conv B p p2 a1 a2 u1 (.part p) u3 u4 p2=some (.part p)/\conv B p p2 a1 a2 u1 (.part p) u3 u4 a1=some u3/\conv B p p2 a1 a2 u1 (.part p) u3 u4 a2=some u4:=fun B=>by
     unfold conv
     refine⟨?_,?_,?_,?_⟩
     . rw[ai aaw,ai m1,ai SH,ak]
     . rw[ai (Ne.symm P8),ai (Ne.symm P7),ak]
     . rw[ai WU,ak]
     . rw[ak]
   have xj:∀ (B:Hp) b,b≠p->b≠p2->b≠a1->b≠a2->conv B p p2 a1 a2 u1 (.part p) u3 u4 b=B b:=fun B b c1 c2 c3 c4=>by unfold conv;rw[ai c4,ai c3,ai c2,ai c1]
   let yt:Hp:=conv j6 p p2 a1 a2 u1 (.part p) u3 u4
   have Jc:aI j6 yt:=fun b o e=>by
     show conv j6 p p2 a1 a2 u1 (.part p) u3 u4 b=some o
     rw[xj j6 b (fun w=>by rw[w,YG] at e;cases e) (fun w=>by rw[w,WV] at e;cases e) (fun w=>by rw[w,aaD] at e;cases e) (fun w=>by rw[w,n3'] at e;cases e)];exact e
   have key:∀ (A B:Hp),aI A B->aI (conv A p p2 a1 a2 u1 (.part p) u3 u4) (conv B p p2 a1 a2 u1 (.part p) u3 u4):=fun A B sm=>dm (dm (dm (dm sm)))
   have SK:aI yt (conv H4 p p2 a1 a2 u1 (.part p) u3 u4):=key _ _ AD;have KP:br X.K yt (fY n1 (.ref p2) (fY n0 (.ref p) fv)) (uR fs [n0,n1] p ls 1):=by
     rw[<- SF p ls];refine((rf.mono ((g1.bU.trans g3.bU).trans Jc)).put (f:=n0) (d:=.memo p ls 0 1) ?_).put (f:=n1) (d:=.memo p ls 1 1) ?_
     . refine .memo (f:=f) rfl (cat j6).1 (.inl rfl) fun i hi=>?_
       have:i=0:=by omega
       subst this;exact⟨a1,o1,o4,(cat j6).2.2.1,gU (fun b u e _=>Jc _ _ e) WX⟩
     . refine .memo (f:=g) rfl (cat j6).1 (.inr (cat j6).2.1) fun i hi=>?_
       have:i=0:=by omega
       subst this;exact⟨a2,o2,BI,(cat j6).2.2.2,gU (fun b u e _=>Jc _ _ e) fz2⟩
   have czH:conv H4 p p2 a1 a2 u1 (.part p) u3 u4 za=some (.ins C dx (fY n1 (.ref p2) (fY n0 (.ref p) fv))):=by rw[xj H4 za MY Oa P6 SI];exact h4z
   have czF:yt za=none:=by show conv j6 p p2 a1 a2 u1 (.part p) u3 u4 za=none;rw[xj j6 za MY Oa P6 SI];exact f3z
   refine k st yt _ ((g1.bU.trans g3.bU).trans Jc) ⟨⟨fun b o e=>?_,S4.gr.bU.trans Jc,SK,fun b o e=>?_⟩,by have:=S4.len;simpa using this,fun i d h=>?_,fun i o h=>?_,fun i j o o' a w1 w2=>?_⟩
   . rw[xj H4 b (fun w=>by rw[w,gp] at e;cases e) (fun w=>by rw[w,gp2] at e;cases e) (fun w=>by rw[w,WW] at e;cases e) (fun w=>by rw[w,ga2] at e;cases e)]
     exact S4.gr.big _ _ e
   . by_cases c1:b=p
     . rw[c1];exact .inr (.inl gp)
     . by_cases c2:b=p2
       . rw[c2];exact .inr (.inl gp2)
       . by_cases c3:b=a1
         . rw[c3];exact .inr (.inl WW)
         . by_cases c4:b=a2
           . rw[c4];exact .inr (.inl ga2)
           . have e:conv j6 p p2 a1 a2 u1 (.part p) u3 u4 b=some o:=e
             rw[xj j6 b c1 c2 c3 c4] at e;exact S4.gr.new b o e
   . cases i with
     | zero=>cases h
     | succ i=>
       obtain⟨w,w1,w2⟩:=S4.val (i+1) d h;exact⟨w,w1,w2.mono Jc⟩
   . cases i with
     | zero=>
       cases h;exact⟨za,hz,czF,UM,rfl,dx,_,p,ls,rfl,czH,KP⟩
     | succ i=>exact absurd h (bb no i o)
   . cases i with
     | zero=>cases j with
       | zero=>exact fun _ _=>rfl
       | succ j=>exact absurd w2 (bb no j o')
     | succ i=>exact absurd w1 (bb no i o)
 . cases fl with
   | next=>
     obtain⟨σ7,H7,I7,p,p2,a1,a2,o4,BI,y1,y2,y3,y4,y5,y6,y7,y8,kk⟩:=q7;obtain⟨o1,o2,I8⟩:=Inv.Sy I7 y1 y2 y3 y4 y5 y6 y7 y8;exact⟨σ7,_,I8,kk o1 o2⟩
   | cont=>exact q7
   | brk=>exact q7
   | ret v=>exact q7
end
section
variable {X:Cx}{G:Gr}{E:XK}{dl:List Slot}{a b e:Expr}{pos:Pos}{k:Str}
variable {d1 d2 d3 d4:Dt}
theorem Ob (n1 n2 n3 n4:Nat){a b c f:Str}{pa pb pc pf tp:Pos}{cx:Nat}(hN:X.N.Nodup)(hc:X.calm=true)(he:EE X G dl e (.tup [d1,d2,d3,d4]))(V4:autoParam (X.N[n1]?=some a) jp)(V5:autoParam (X.N[n2]?=some b) jp)(hi3:autoParam (X.N[n3]?=some c) jp)(hi4:autoParam (X.N[n4]?=some f) jp)(V6:autoParam (Loc X.env.scope a) xz)(V7:autoParam (Loc X.env.scope b) xz)(hx3:autoParam (Loc X.env.scope c) xz)(hx4:autoParam (Loc X.env.scope f) xz)(V8:autoParam (X.fn a=true\/X.env.scope.names.lookup a=some .local) wr)(V9:autoParam (X.fn b=true\/X.env.scope.names.lookup b=some .local) wr)(hf3:autoParam (X.fn c=true\/X.env.scope.names.lookup c=some .local) wr)(hf4:autoParam (X.fn f=true\/X.env.scope.names.lookup f=some .local) wr)(hn:autoParam ((assignEach [.Name a pa,.Name b pb,.Name c pc,.Name f pf] X.env).length=4) jp)(ny:autoParam ((assignEach [.Name a pa,.Name b pb,.Name c pc,.Name f pf] X.env).findIdx? (·.1)=none) jp)(q1:autoParam ((assignEach [.Name a pa,.Name b pb,.Name c pc,.Name f pf] X.env).map (·.2)=assign (.Name a pa) X.env::(assignEach [.Name b pb,.Name c pc,.Name f pf] X.env).map (·.2)) jp)(q2:autoParam ((assignEach [.Name b pb,.Name c pc,.Name f pf] X.env).map (·.2)=assign (.Name b pb) X.env::(assignEach [.Name c pc,.Name f pf] X.env).map (·.2)) jp)(q3:autoParam ((assignEach [.Name c pc,.Name f pf] X.env).map (·.2)=assign (.Name c pc) X.env::(assignEach [.Name f pf] X.env).map (·.2)) jp)(q4:autoParam ((assignEach [.Name f pf] X.env).map (·.2)=assign (.Name f pf) X.env::(assignEach [] X.env).map (·.2)) jp)(hs:autoParam (swapsWithSole [.Tuple [.Name a pa,.Name b pb,.Name c pc,.Name f pf] cx tp] e pos.line X.env=pure false) jp)(hw:autoParam (swappedStores [.Tuple [.Name a pa,.Name b pb,.Name c pc,.Name f pf] cx tp] e X.env=pure none) jp)(h1:autoParam ((assignEach [.Tuple [.Name a pa,.Name b pb,.Name c pc,.Name f pf] cx tp] X.env).map (·.2)=[assign (.Tuple [.Name a pa,.Name b pb,.Name c pc,.Name f pf] cx tp) X.env]) jp):ES X G E dl (.Assign [.Tuple [.Name a pa,.Name b pb,.Name c pc,.Name f pf] cx tp] e pos) (.nx ((((dl.set n1 (.val d1)).set n2 (.val d2)).set n3 (.val d3)).set n4 (.val d4))):=
 tH (z6 he (tN hc (cN (bo (pos:=pa) hN V4 V6 V8) (cN (bo (pos:=pb) hN V5 V7 V9) (cN (bo (pos:=pc) hN hi3 hx3 hf3) (cN (bo (pos:=pf) hN hi4 hx4 hf4) n8 q4) q3) q2) q1) hn ny) hs hw h1) fun D st H zq=>ZL zq fun Hf zq=>have S:=zq.1;have k:=zq.2;⟨Hf,S,fun v Hf1 H1 g1 r1=>by
   cases r1 with
   | @tup q vs _ hq rp=>
     cases rp with
     | cons r1 t1=>cases t1 with
       | cons r2 t2=>cases t2 with
         | cons r3 t3=>cases t3 with
           | cons r4 t4=>
             cases t4;exact⟨q,_,rfl,f6 g1.sub hq,rfl,_,_,rfl,_,_,rfl,_,_,rfl,_,_,rfl,rfl,k _ Hf1 H1 g1.bU (((((S.grow g1).set r1).set r2).set r3).set r4)⟩⟩
end
theorem iN:PySem.Slot "reversed" "__next__" "reversed.__next__":=
 .of (owner:="reversed") (n:="__next__") (by rw[typeLookup_type,builtinLookup_eq_fast];kernel_rfl) (by decide +kernel) (by decide +kernel) (by decide +kernel)
   (by first | exact .inl (by decide +kernel) | exact .inr (by decide +kernel)) (by rw[isSubtype_type];kernel_rfl)
theorem pP:entryFor table "reversed.__next__"=some Builtin.«reversed.__next__»:=entryFor_of_tree (by kernel_rfl)
theorem o5 (a:Value):argsOk "reversed.__next__" ⟨[a],[]⟩:=by unfold argsOk;kernel_rfl
theorem rg:PySem.Slot "reversed" "__iter__" "reversed.__iter__":=
 .of (owner:="reversed") (n:="__iter__") (by rw[typeLookup_type,builtinLookup_eq_fast];kernel_rfl) (by decide +kernel) (by decide +kernel) (by decide +kernel)
   (by first | exact .inl (by decide +kernel) | exact .inr (by decide +kernel)) (by rw[isSubtype_type];kernel_rfl)
theorem vh (a:Value):argsOk "reversed.__iter__" ⟨[a],[]⟩:=by unfold argsOk;kernel_rfl
theorem xk:entryFor table "reversed.__iter__"=some Builtin.«dict_keyiterator.__iter__»:=
 entryFor_alias (id':="dict_keyiterator.__iter__") (by kernel_rfl) (by first | rfl | decide +kernel | (unfold String.splitOn;simp +decide [String.splitOnAux])) (by decide +kernel) (by kernel_rfl)
theorem yz:PySem.Slot "reversed" "__init__" "object.__init__":=
 .of (owner:="object") (n:="__init__") (by rw[typeLookup_type,builtinLookup_eq_fast];kernel_rfl) (by decide +kernel) (by decide +kernel) (by decide +kernel)
   (by first | exact .inl (by decide +kernel) | exact .inr (by decide +kernel)) (by rw[isSubtype_type];kernel_rfl)
theorem Ex:TypeCalled "reversed" "reversed.__new__" "object.__init__":=
 ⟨by decide +kernel,by decide +kernel,⟨_,_,F.mro_reversed⟩,F.made_reversed,by decide +kernel,F.sub_reversed_self,yz⟩
theorem qS:typeLookup (.type "str") "__reversed__"=pure none:=by rw[typeLookup_type,builtinLookup_eq_fast];kernel_rfl
theorem mw:typeLookup (.type "str") "__getitem__"=pure (some (.builtin "str.__getitem__")):=by rw[typeLookup_type,builtinLookup_eq_fast];kernel_rfl
theorem yA:isSubtype (.type "str") (.type "dict")=pure false:=by rw[isSubtype_type];kernel_rfl
section
variable {prog:Program}{w:World}{A:Around}{E:Value->Shared->Prop}{s:Shared}
noncomputable def P9 (x:Str)(t:Tok)(i:Int):Obj:={ cls:=.type "reversed",data:=.fields #[.str x t,rawInt i]}
def rL (h:Heap)(a:Addr)(x:Str)(t:Tok)(i:Int):Prop:=∃ o,h.get? a=some o/\o.cls=.type "reversed"/\o.data=.fields #[.str x t,rawInt i]
theorem rL.typeIs {a:Addr}{x:Str}{t:Tok}{i:Int}(q:rL s.heap a x t i):s.TypeIs (.ref a) "reversed":=let ⟨o,ho,hc,_⟩:=q;⟨o,ho,hc⟩
theorem KQ (x:Str)(t:Tok)(wI:¬ (x.length:Int) >= 2 ^ 63):MeetsIn prog w (Builtin.«reversed.__new__» ⟨[.type "reversed",.str x t],[]⟩) (fun A R s=>R (.ok (.ret (.ref s.heap.objs.size))) { s with heap:=s.heap.push (P9 x t ((x.length:Int) - 1)),toks:=s.toks+1+1}):=
 .of_wp fun A R s h=>by
   unfold Builtin.«reversed.__new__»;refine wpAny_bind (wpAny_of_eq (newClass_reversed _) ?_)
   try dsimp only
   refine wpAny_bind (wpAny_of_eq (a:=()) (by first | rfl | kernel_rfl) ?_);refine wpAny_bind (wpAny_of_eq (a:=()) (by first | rfl | kernel_rfl) ?_)
   try dsimp only
   refine wpAny_bind (wpAny_specialOf (typeIs_str s x t) qS ?_)
   try dsimp only
   refine wpAny_bind (wpAny_bind (wpAny_isInstance (typeIs_str s x t) yA ?_));rw[if_neg aam];refine wpAny_bind (wpAny_specialOf (typeIs_str s x t) mw ?_);refine wpAny_of_eq (a:=true) (by kernel_rfl) ?_;rw[if_neg (show ¬ ((!true)=true) from aam)]
   try dsimp only
   refine wpAny_bind (len_str wI ?_);refine wpAny_bind (wpAny_of_eq (a:=some (x.length:Int)) rfl ?_)
   try dsimp only
   refine wpAny_bind ?_;show wpAny _ _ (newObj (.type "reversed") (.fields #[.str x t,rawInt ((x.length:Int) - 1)])) _ _ _;exact wpAny_newObj_type (wpAny_pure ⟨_,rfl,h⟩)
theorem Ih {x:Str}{t:Tok}{Q:Value->Shared->Prop}(wI:¬ (x.length:Int) >= 2 ^ 63)(h:Q (.ref s.heap.objs.size) { s with heap:=s.heap.push (P9 x t ((x.length:Int) - 1)),toks:=s.toks+1+1}):wpAny (model prog w) A (call (.type "reversed") [.str x t]) Q E s:=
 callType_newIn Ex (by decide) (F.typeCall_reversed_1 _) (F.newCall_reversed_1 _) (fun obj=>F.args_object_init_2 obj _) F.entry_reversed_new (KQ x t wI) ⟨⟨_,aar _ rfl,rfl⟩,h⟩
theorem uk {it:Addr}{x:Str}{t:Tok}{i c:Nat}{Q:Option Value->Shared->Prop}(hit:rL s.heap it x t (i:Int))(hx:x.cps[i]?=some c)(wI:¬ (x.length:Int) >= 2 ^ 63)(hQ:∀ h',rL h' it x t ((i:Int) - 1)->abY it s.heap h'->Q (some (.str ⟨#[c]⟩ (s.toks+1))) { s with heap:=h',toks:=s.toks+1+1}):wpAny (model prog w) A (pyNext (.ref it)) Q E s:=by
 obtain⟨o,ho,hc,hd⟩:=id hit;have Ym:i < x.length:=by
   have:=(Array.getElem?_eq_some_iff.mp hx).1;exact this
 unfold pyNext;refine wpAny_bind (wpAny_attempt (wpAny_callSpecial?_slot (name:=Str.ofString "__next__") hit.typeIs iN
   (wpAny_call_entry iN hit.typeIs pP ?_ (o5 _))))
 unfold Builtin.«reversed.__next__»;refine wpAny_bind (wpAny_of_eq (a:=(Value.ref it,[])) rfl ?_)
 try dsimp only
 refine wpAny_bind (wpAny_field ho hd (x:=.str x t) rfl ?_);refine wpAny_bind (wpAny_field ho hd (x:=rawInt (i:Int)) rfl ?_);show wpAny _ _ (if (i:Int) < 0 then _ else _) _ _ s;rw[if_neg (by omega)];refine wpAny_bind (wpAny_specialOf (typeIs_str s x t) mw ?_);rw[if_neg (show ¬ ((some (Value.builtin "str.__getitem__")).isNone=true) from aam)]
 try dsimp only
 refine wpAny_bind (wpAny_mkInt ?_);refine wpAny_bind (wpAny_attempt (getItem_str (c:=c) ?_ ?_ ?_))
 . have e1:decide ((i:Int) < -(2 ^ 63:Int))=false:=decide_eq_false (by omega)
   have e2:decide ((i:Int) >= 2 ^ 63)=false:=decide_eq_false (by omega);rw[e1,e2];rfl
 . have e:seqIndex? (i:Int) x.length=some i:=by
     unfold seqIndex?;simp;omega
   rw[e];exact hx
 try dsimp only
 refine wpAny_bind (wpAny_field ho hd (x:=rawInt (i:Int)) rfl ?_)
 try dsimp only
 refine wpAny_bind (wpAny_setField ho hd (by simp) ?_);refine wpAny_pure ⟨_,rfl,wpAny_pure (hQ _ ?_ (abY.update ..))⟩;exact⟨_,aci _ ho (Obj.isFreed_of_fields (Obj.data_mapFields hd _)),(Obj.cls_mapFields ..).trans hc,by
   rw[Obj.data_mapFields hd];simp⟩
theorem vi {it:Addr}{x:Str}{t:Tok}{Q:Option Value->Shared->Prop}(hh:A.handled=none)(hit:rL s.heap it x t (-1))(hQ:∀ h',Heap.ExtBut it s.heap h'->Q none { s with heap:=h'}):wpAny (model prog w) A (pyNext (.ref it)) Q E s:=by
 obtain⟨o,ho,hc,hd⟩:=id hit;unfold pyNext;refine wpAny_bind (wpAny_attempt (wpAny_callSpecial?_slot (name:=Str.ofString "__next__") hit.typeIs iN
   (wpAny_call_entry iN hit.typeIs pP ?_ (o5 _))))
 unfold Builtin.«reversed.__next__»;refine wpAny_bind (wpAny_of_eq (a:=(Value.ref it,[])) rfl ?_)
 try dsimp only
 refine wpAny_bind (wpAny_field ho hd (x:=.str x t) rfl ?_);refine wpAny_bind (wpAny_field ho hd (x:=rawInt (-1)) rfl ?_);show wpAny _ _ (if (-1:Int) < 0 then _ else _) _ _ s;rw[if_pos (by decide)];refine wpAny_bind (wpAny_rule ?_);refine wpAny_bind (wpAny_bind (wpAny_setField ho hd (by simp) ?_));have YB:=aci (Obj.mapFields (·.setIfInBounds 1 (rawInt (-1)))) ho (Obj.isFreed_of_fields (Obj.data_mapFields hd _));refine wpAny_setField YB (Obj.data_mapFields hd _) (by simp) ?_;refine wpAny_bind ?_;show wpAny _ _ (newExc (.type "StopIteration") [] >>= _) _ _ _;refine wpAny_bind ?_;simp only[newExc,newTuple];refine wpAny_bind (wpAny_newObj_type ?_ (by size_fits));refine wpAny_bind (m:=firstArgMember _ _) (wpAny_of_eq (a:=Value.none) (by first | rfl | (simp only[firstArgMember];rfl)) ?_);refine wpAny_newObj_type ?_ (by size_fits);simp only[raiseNew];refine wpAny_bind (wpAny_handled ?_)
 first | rw[show A.in1.handled=none from hh] | rw[hh]
 refine wpAny_bind (wpAny_pure (wpAny_throw ?_));refine wpAny_bind (wpAny_isInstance (T:="StopIteration") (b:=true) ⟨_,aar _ rfl,rfl⟩ isSubtype_stop ?_);exact wpAny_pure (hQ _ (Heap.ExtBut.push (Heap.ExtBut.push (fun b o ne e=>((abY.update ..).2 b ne).trans (((abY.update ..).2 b ne).trans e)) _) _))
theorem uZ {it:Addr}{x:Str}{t:Tok}{i:Int}{Q:Value->Shared->Prop}(hit:rL s.heap it x t i)(h:Q (.ref it) s):wpAny (model prog w) A (pyIter (.ref it)) Q E s:=by
 refine wpAny_pyIter_slot hit.typeIs rg (wpAny_call_entry rg hit.typeIs xk ?_ (vh _));show wpAny _ _ (ret (.ref it)) _ _ s;exact wpAny_pure ⟨_,rfl,"reversed",_,hit.typeIs,iN.lookup,h⟩
end
noncomputable def WY (x:Str):It:=
 ⟨fun i H=>i < x.length,fun i H v H'=>H'=H/\∃ c,x.cps[x.length - 1 - i]?=some c/\v=.str ⟨#[c]⟩,fun i H=>i=x.length⟩
theorem Ii {P:Program}{w:World}{K:W.Frag}{tg:Expr}(x:Str)(t:Tok)(it:Addr)(wI:¬ (x.length:Int) >= 2 ^ 63):Turn P w K tg (WY x) [it] it (fun i h=>rL h it x t ((x.length:Int) - 1 - i)) where
 mem:=by simp
 obj:=fun i h st b hb=>by
   have e:b=it:=by simpa using hb
   subst e;obtain⟨o,e,c,d⟩:=st;exact⟨o,e,fun v z=>by rw[d] at z;cases z⟩
 keep:=fun i h h' st k=>let ⟨o,e,c,d⟩:=st;⟨o,k it (by simp) o e,c,d⟩
 item:=by
   intro X hP hw hK hc i pins s σ H E I hf st hg;subst hP hw hK;have hg:i < x.length:=hg;obtain⟨f0,f1,f2,f3,f4,f5⟩:=hf it (by simp);have e1:(x.length:Int) - 1 - i=((x.length - 1 - i:Nat):Int):=by omega
   rw[e1] at st;have di:x.length - 1 - i < x.cps.size:=by show _ < x.length;omega
   refine uk (c:=x.cps[x.length - 1 - i]) st (abU di) wI fun h' kA sb=>?_
   have I1:L2.Inv X pins σ H { s with heap:=h',toks:=s.toks+1+1}:=I.turned (t':=s.toks+1+1) (fun b o hb e=>(sb.2 b hb).trans e) f0 f1 f3 f4 f5;have e2:((x.length - 1 - i:Nat):Int) - 1=(x.length:Int) - 1 - ((i+1:Nat):Int):=by omega
   rw[e2] at kA;obtain⟨o,e,c,d⟩:=id kA;exact⟨_,rfl,Ft (s:={ s with heap:=h',toks:=s.toks+1+1}) e c d (by decide) ⟨.str ⟨#[x.cps[x.length - 1 - i]]⟩,H,I1,⟨_,rfl⟩,⟨rfl,_,abU di,rfl⟩,kA,fun b hb=>(hf b hb).1⟩⟩
 done:=by
   intro X hP hw hK hc i pins s σ H E I hf st hg;subst hP hw hK;have hg:i=x.length:=hg;subst hg;obtain⟨f0,f1,f2,f3,f4,f5⟩:=hf it (by simp);have e1:(x.length:Int) - 1 - (x.length:Nat)=-1:=by omega
   rw[e1] at st;exact vi (I.ok.hd hc) st fun h' eb=>⟨rfl,I.turned (t':=s.toks) (fun b o hb e=>eb b o hb e) f0 f1 f3 f4 f5⟩
 self:=fun _ _ _ _ _ st h=>uZ st h
theorem KR:bootBuiltins "reversed"=some (.type "reversed"):=by decide +kernel
section
variable {X:Cx}{G:Gr}{dl:List Slot}{a:Expr}{x:Str}{p pos:Pos}
def Qa (ta:TA):TI:=fun σ H R=>ta σ H fun vs H1=>∃ x,vs=[.str x]/\(¬ (x.length:Int) >= 2 ^ 63)/\R (WY x) H1
theorem Oc {tg:Expr}{ta:TA}(hm:X.mg "reversed"=none)(ha:PA X [a] ta)(hg:autoParam (Gl X "reversed") jp)(hs:autoParam (starEach [a] X.env=[(false,eval a X.env)]) jp):PI X tg (.Call (.Name "reversed" p) [a] [] pos) (Qa ta):=by
 intro pins s σ H R I h;refine Call_ (tL I hg hm KR (PyProof.Rows.callWith_type1 (cn (ha pos pins s σ H _ I h) fun us s1 zq=>Exists.elim zq fun vs zq=>Exists.elim zq fun H1 zq=>have I1:=zq.1;have r1:=zq.2.1;have q1:=zq.2.2;?_) hs rfl));obtain⟨x,e,wI,q⟩:=q1;subst e;cases r1 with
 | cons r rr=>
   cases rr;obtain⟨t,rfl⟩:=(show ∃ t,_=Value.str x t from r)
   refine Ih wI (uZ (x:=x) (t:=t) (i:=(x.length:Int) - 1) ⟨_,aar _ rfl,rfl,rfl⟩ ?_);refine⟨s1.heap.objs.size,[s1.heap.objs.size],_,_,H1,rfl,I1.kept (t':=s1.toks+1+1) fun b o e=>aac _ e,Ii x t _ wI,?_,fun b hb=>?_,q⟩
   . have e:((x.length:Int) - 1)=(x.length:Int) - 1 - ((0:Nat):Int):=by omega
     rw[<- e];exact⟨_,aar _ rfl,rfl,rfl⟩
   . have e:b=s1.heap.objs.size:=by simpa using hb
     subst e;exact I1.yu (aaa _) (I1.bO.fresh (aaa _))
theorem Ij (hl:x.length<=1000000):sE X G dl (signs x).reverse (Qa (UA X.K G dl [.str x])):=fun st H R zq=>ZL zq fun Hf zq=>have S:=zq.1;have k:=zq.2;⟨Hf,S,fun vs Hf1 H1 g1 r1=>by
 cases r1 with
 | cons r t=>
   cases t;cases r;have hsl:=qo x;refine⟨x,rfl,by omega,k _ Hf1 H1 g1 fun b6 H2 s1 s2 i=>⟨fun z hz=>?_,fun hi=>?_⟩⟩
   . have hi:i < (signs x).length:=by
       have:=(aae.mp hz).1;simpa using this
     rw[List.getElem?_reverse hi,signs_get,hsl] at hz;refine⟨by show i < x.length;omega,fun v H3 hy=>?_⟩;obtain⟨e1,c,e2,e3⟩:=hy;subst e1 e3;rw[e2] at hz;cases hz;exact⟨b6,.refl s2,.str _⟩
   . show i=x.length
     rw[hi,abS,hsl]⟩
theorem zE {K:W.Frag}{H:Hp}:∀ {ds:List Dt} {d:Dt} {vs:List V},bJ K H vs (ds ++ [d])->∃ ws v,vs=ws ++ [v]/\bJ K H ws ds/\Rep K H v d
 | [],d,_,.cons r .nil=>⟨[],_,rfl,.nil,r⟩
 | e::ds,d,_,.cons r t=>by
   obtain⟨ws,v,e1,r1,r2⟩:=zE t;exact⟨_::ws,v,by rw[e1];rfl,.cons r r1,r2⟩
variable {E:XK}{d:Dt}{ds:List Dt}{y z:Str}{px pn apos bR:Pos}
theorem Ey (m n:Nat)(hN:X.N.Nodup)(hd:dl[n]?=some (.own (.lst (ds ++ [d]))))(hm:autoParam (X.N[m]?=some y) jp)(hy:autoParam (Loc X.env.scope y) xz)(ZF:autoParam (X.N[n]?=some z) jp)(hv:autoParam (wu X.env.scope z) xL)(mI:autoParam ((z == ("__debug__":Str))=false) zn)(nz:autoParam ((z == ("__classdict__":Str))=false) zn)(jx:autoParam (attributeBase (.Name z pn) "pop" X.env (eval (.Name z pn) X.env)=eval (.Name z pn) X.env) jp)(jy:autoParam ((apos.endLine == bR.line)=true) jp)(hs:autoParam (swapsWith (.Call (.Attribute (.Name z pn) "pop" apos) [] [] bR) (some (.Name y px)) pos.line X.env=pure false) jp)(hf:autoParam (X.fn y=true\/X.env.scope.names.lookup y=some .local) wf):ES X G E dl (.Assign [.Name y px] (.Call (.Attribute (.Name z pn) "pop" apos) [] [] bR) pos) (.nx ((dl.set n (.own (.lst ds))).set m (.val d))):=
 tH (DP hN hm hy (JE PySem.F.plainAttrs_list PySem.F.slot_list_pop PySem.F.type_list_pop Rm (wU (G:=G) (p:=pn) n hd ZF hv mI nz) jx jy) hs hf) fun D st H zq=>ZL zq fun Hf zq=>have S:=zq.1;have k:=zq.2;by
   obtain⟨q,z1,z2,z3,vs,hq,rp⟩:=S.own n _ hd;obtain⟨ws,v,ev,r1,r2⟩:=zE rp;subst ev;refine⟨Hf,q,S,z1,z2,⟨_,hq,rp⟩,.inl ⟨rfl,_,.of hq⟩,q,_,v,rfl,rfl,hq,by simp,k _ Hf _ (aI.refl _) ((S.HH hd z1 (w':=.lst ds) ⟨_,ak,?_⟩).set r2)⟩;rw[List.dropLast_concat];exact r1
end
section
variable {X:Cx}{G:Gr}{dl:List Slot}{a b e:Expr}{pos p:Pos}{ns ns':List Int}
theorem nG:∀ {ns:List Int} {aH:List Value},Vals (ns.map V.int) aH->IntsAre aH ns
 | [],_,r=>by cases r;exact .nil
 | n::ns,_,r=>by
   cases r with
   | cons h t=>obtain⟨tk,rfl⟩:=h;exact .cons _ tk (nG t)
theorem um:∀ {ns:List Int} {aH:List Value},IntsAre aH ns->Vals (ns.map V.int) aH
 | [],_,r=>by cases r;exact .nil
 | n::ns,_,r=>by
   cases r with
   | cons n tk t=>exact .cons ⟨_,rfl⟩ (um t)
theorem AF:kU X (.builtin "sorted") (fun xs H Q=>∃ (p:Addr) (ns ns':List Int),xs=[.ref p]/\nA X.K H p (ns.map V.int)/\ns.length < 64/\ns'.Perm ns/\ns'.Pairwise (·<=·)/\∀ l,H l=none->Q (.ref l) (upd H l (.lst (ns'.map V.int)))):=by
 intro pins s σ H xs us Q I r h;obtain⟨p,ns,ns',rfl,hq,h64,hp,ho,q⟩:=h;obtain⟨u,rfl,rx⟩:=vals1 r;cases rx;obtain⟨aH,rv,pl,hz⟩:=I.list hq;have hlen:=rv.length;rw[k5] at hlen;refine sorted_ints (vs:=aH) pl.isList (nG rv) (by omega) fun out ns2 a1 a2 a3=>?_
 have e:ns2=ns':=W.ksm_same (a2.trans hp.symm) a3 ho;subst e;obtain⟨c,hc⟩:=sortedAll_at s.heap aH out;have Rk:=(um a1).length;rw[k5] at Rk;have hl3:=hp.length_eq;refine⟨.ref (s.heap.objs.size+1),_,I.laid (t':=s.toks) (fun b o=>sortedAll_old) (abG _) (show aV X.prog X.w _ (sortedAll s.heap aH out) _ (.lst (ns2.map V.int)) from⟨?_,out.toList,c,um a1,?_⟩),rfl,q _ (I.bO.fresh (abG _))⟩
 . rw[k5];exact aau (show ns2.length<=64 by omega) (by decide)
 . exact hc
theorem boot_sorted:bootBuiltins "sorted"=some (.builtin "sorted"):=by decide +kernel
theorem zF {K:W.Frag}{H:Hp}:∀ ns:List Int,bJ K H (ns.map V.int) (ns.map Dt.int)
 | []=>.nil
 | n::ns=>.cons (.int n) (zF ns)
theorem Il (hm:X.mg "sorted"=none)(ha:EE X G dl a (.lst (ns.map .int)))(h64:ns.length < 64)(hp:ns'.Perm ns)(ho:ns'.Pairwise (·<=·))(hg:autoParam (Gl X "sorted") jp)(he:autoParam (starEach [a] X.env=[(false,eval a X.env)]) jp):EO X G dl (.Call (.Name "sorted" p) [a] [] pos) (.lst (ns'.map .int)):=
 iK (gG AF hg hm boot_sorted (ae ha ah he) (by decide) (by decide) he rfl) fun st H Q zq=>ZL zq fun Hf zq=>have S:=zq.1;have k:=zq.2;⟨Hf,S,fun vs Hf1 H1 g1 r1=>by
   cases r1 with
   | cons r t=>cases t;cases r with
     | @lst q vs _ z r=>
       have ev:=ml r;subst ev;exact⟨q,ns,ns',rfl,.of (g1.sub _ _ z),h64,hp,ho,fun l hl=>k l Hf1 _ (g1.trans (.fF g1.sub hl)) (g1.big.free hl) (g1.sub.free hl) ⟨_,ak,zF ns'⟩⟩⟩
end
theorem zG {K:W.Frag}{H:Hp}:∀ (ns:List Int),bJ K H (ns.map V.int) (ns.map Dt.int)
 | []=>.nil
 | n::r=>.cons (.int n) (zG r)
theorem sJ {K:W.Frag}{H:Hp}:∀ {ns:List Int} {vs:List V},bJ K H vs (ns.map Dt.int)->vs=ns.map V.int
 | [],_,.nil=>rfl
 | n::r,_,.cons h t=>by cases h;rw[sJ t];rfl
noncomputable def Ez (fs:List (Str×FD)):List (Str×Dt):=fs.map fun kd=>(kd.1,Yr kd.2)
theorem Gg {K:W.Frag}{H:Hp}:∀ {fv:List (Str×V)} {fs:List (Str×FD)},Jf H fv fs->br K H fv (Ez fs)
 | _,_,.nil=>.nil
 | _,_,.cons h t=>.cons (KA h) (Gg t)
theorem KS {K:W.Frag}{H:Hp}:∀ {fv:List (Str×V)} {fs:List (Str×FD)},br K H fv (Ez fs)->Jf H fv fs
 | _,[],.nil=>.nil
 | _,(k,d)::fd,.cons h t=>.cons (P1 h) (KS t)
section
variable {X:Cx}{G:Gr}{E:XK}{dl:List Slot}{e:Expr}{sts:List Stmt}{ou:Out}{C:Addr}{fs:List (Str×FD)}{ns:List Int}{K':W.Frag}
theorem Qb (h:EE X G dl e (.jz (.obj C fs))):EE X G dl e (.obj C (Ez fs)):=iK h fun st H Q zq=>ZL zq fun Hf zq=>have S:=zq.1;have k:=zq.2;⟨Hf,S,fun v Hf1 H1 g1 r1=>by
 cases r1 with
 | jz h=>cases h with
   | @obj a _ dx o fv _ e f=>exact k _ Hf1 H1 g1 (.obj (.inr (.inr (.inr ⟨o,e⟩))) (Gg f))⟩
theorem rM (h:EE X G dl e (.jz (.lst ns))):EE X G dl e (.r8 ns):=iK h fun st H Q zq=>ZL zq fun Hf zq=>have S:=zq.1;have k:=zq.2;⟨Hf,S,fun v Hf1 H1 g1 r1=>by
 cases r1 with
 | jz h=>cases h with
   | @lst a o _ e=>exact k _ Hf1 H1 g1 (.r8 (.inl (.inr (.inr (.inr ⟨o,e⟩)))))⟩
theorem SM (h:EE X G dl e (.jz (.tup K' ns)))(hK:K'=X.K):EE X G dl e (.tup (ns.map .int)):=iK h fun st H Q zq=>ZL zq fun Hf zq=>have S:=zq.1;have k:=zq.2;⟨Hf,S,fun v Hf1 H1 g1 r1=>by
 subst hK;cases r1 with
 | jz h=>cases h with
   | tup e=>exact k _ Hf1 H1 g1 (.tup e (zG _))⟩
theorem SN (h:EE X G dl e (.tup (ns.map .int)))(hK:K'=X.K):EE X G dl e (.jz (.tup K' ns)):=iK h fun st H Q zq=>ZL zq fun Hf zq=>have S:=zq.1;have k:=zq.2;⟨Hf,S,fun v Hf1 H1 g1 r1=>by
 subst hK;cases r1 with
 | tup s r=>
   rw[sJ r] at s;exact k _ Hf1 H1 g1 (.jz (.tup s))⟩
theorem KU (h:EO X G dl e (.obj C (Ez fs))):EE X G dl e (.jz (.obj C fs)):=by
 intro pins s st H Q I ⟨Hf,S,kk⟩;refine cn (h pins s st H (fun v H'=>∃ p aJ,v=.ref p/\bB Hf H aJ H'/\H p=none/\aJ p=none/\iJ X.K aJ H' p (.obj C (Ez fs))) I ⟨Hf,S,fun p aJ H' g n n' r=>⟨p,aJ,rfl,g,n,n',r⟩⟩) fun u s1 ⟨v,H',I1,rv,q,aJ,ev,g,n,n',dx,fv,hq,rp⟩=>?_
 subst ev;obtain⟨hd,hz,ne,ho,mA,hr⟩:=(show aV X.prog X.w H' s1.heap q (.ins C dx fv) from I1.bO q _ hq)
 let ob:=W.instObj C dx;have I2:L2.Inv X pins st (upd H' q (.kx ob (.ins C dx fv))) s1:=n9 (h':=s1.heap) (t':=s1.toks) I1 (by rw[hq];trivial) ⟨rfl,fun _ _=>rfl⟩ ⟨ob,ho⟩ ⟨ho,⟨by rw[ai ne];exact hd,hz,ne,ho,mA,hr⟩⟩;have sm:aI aJ (upd aJ q (.kx ob (.ins C dx fv))):=bV n';refine⟨.ref q,_,I2,rv,kk _ (upd aJ q (.kx ob (.ins C dx fv))) _ ⟨fun b o hb=>?_,g.bU.trans sm,dm g.sub,fun b o hb=>?_⟩ (.jz (.obj ak ((KS rp).st fun b u e _=>sm b u e)))⟩
 . rw[ai (ax hb n)];exact g.big _ _ hb
 . by_cases e:b=q
   . subst e;exact .inr (.inl n)
   . rw[ai e] at hb;exact g.new b o hb
theorem SO (h:EO X G dl e (.lst (ns.map .int))):EE X G dl e (.jz (.lst ns)):=by
 intro pins s st H Q I ⟨Hf,S,kk⟩;refine cn (h pins s st H (fun v H'=>∃ p aJ,v=.ref p/\bB Hf H aJ H'/\H p=none/\aJ p=none/\iJ X.K aJ H' p (.lst (ns.map .int))) I ⟨Hf,S,fun p aJ H' g n n' r=>⟨p,aJ,rfl,g,n,n',r⟩⟩) fun u s1 ⟨v,H',I1,rv,q,aJ,ev,g,n,n',vs,hq,rp⟩=>?_
 subst ev;have ev:=sJ rp;subst ev;obtain⟨hz,aH,c,r,ho⟩:=(show aV X.prog X.w H' s1.heap q (.lst (ns.map V.int)) from I1.bO q _ hq)
 let ob:Obj:={ cls:=.type "list",data:=.seq aH.toArray c}
 have I2:L2.Inv X pins st (upd H' q (.kx ob (.lst (ns.map V.int)))) s1:=n9 (h':=s1.heap) (t':=s1.toks) I1 (by rw[hq];trivial) ⟨rfl,fun _ _=>rfl⟩ ⟨ob,ho⟩ ⟨ho,hz,aH,c,r,ho⟩;have sm:aI aJ (upd aJ q (.kx ob (.lst (ns.map V.int)))):=bV n';refine⟨.ref q,_,I2,rv,kk _ (upd aJ q (.kx ob (.lst (ns.map V.int)))) _ ⟨fun b o hb=>?_,g.bU.trans sm,dm g.sub,fun b o hb=>?_⟩ (.jz (.lst ak))⟩
 . rw[ai (ax hb n)];exact g.big _ _ hb
 . by_cases e:b=q
   . subst e;exact .inr (.inl n)
   . rw[ai e] at hb;exact g.new b o hb
theorem vP (n:Nat)(h:nH X G E (dl.set n (.val (.jz (.lst ns)))) sts ou)(hd:autoParam (dl[n]?=some (.own (.lst (ns.map .int)))) jp):nH X G E dl sts ou:=by
 intro pins s st H D I ⟨Hf,S,k⟩;have ln:=S.len;obtain⟨q,h1,h2,h3,vs,h4,h5⟩:=S.own n _ hd;have ev:=sJ h5;subst ev;have hl:n < dl.length:=(aae.mp hd).1;obtain⟨hz,aH,c,r,ho⟩:=(show aV X.prog X.w H s.heap q (.lst (ns.map V.int)) from I.bO q _ h4)
 let ob:Obj:={ cls:=.type "list",data:=.seq aH.toArray c}
 have I':L2.Inv X pins st (upd H q (.kx ob (.lst (ns.map V.int)))) s:=n9 (h':=s.heap) (t':=s.toks) I (by rw[h4];trivial) ⟨rfl,fun _ _=>rfl⟩ ⟨ob,ho⟩ ⟨ho,hz,aH,c,r,ho⟩;have sm:aI Hf (upd Hf q (.kx ob (.lst (ns.map V.int)))):=bV h2;refine h pins s st _ D I' ⟨upd Hf q (.kx ob (.lst (ns.map V.int))),⟨⟨fun b o hb=>?_,S.gr.bU.trans sm,dm S.sub,fun c o hc=>?_⟩,by simp[S.len],fun j y hj=>?_,fun j o' hj=>?_,fun j m o1 o2 c q1 q2 q3 q4=>?_⟩,k.mono sm⟩
 . rw[ai (ax hb h3)];exact S.gr.big _ _ hb
 . by_cases hb:c=q
   . subst hb;exact .inr (.inl h3)
   . rw[ai hb] at hc;exact S.gr.new c o hc
 . by_cases e:n=j
   . subst e
     rw[aaf hl] at hj;cases hj;exact⟨_,h1,.jz (.lst ak)⟩
   . rw[aag e] at hj
     obtain⟨v,z1,z2⟩:=S.val j y hj;exact⟨v,z1,z2.mono sm⟩
 . by_cases e:n=j
   . subst e;rw[aaf hl] at hj;cases hj
   . rw[aag e] at hj
     obtain⟨c,z1,z2,z3,z4⟩:=S.own j o' hj;have ne:c≠q:=fun z=>by subst z;exact e (S.HG n j _ _ _ hd hj h1 z1)
     exact⟨c,z1,by rw[ai ne];exact z2,z3,z4.grow (ai ne) sm⟩
 . have nj:n≠j:=fun e=>by subst e;rw[aaf hl] at q1;cases q1
   have nm:n≠m:=fun e=>by subst e;rw[aaf hl] at q2;cases q2
   rw[aag nj] at q1;rw[aag nm] at q2;exact S.HG j m o1 o2 c q1 q2 q3 q4
theorem Od {zs:List Int}:J5 X G dl zs.length (fun k=>(zs.map Dt.int).getD k .dk) (Jr X.K (tD X.K G dl (.r8 zs))):=fun st H R zq=>ZL zq fun Hf zq=>have S:=zq.1;have k:=zq.2;⟨Hf,S,fun v Hf1 H1 g1 r1=>by
 cases r1 with
 | @r8 q _ hq=>
   refine⟨q,rfl,⟨_,g1.sub.seq hq⟩,k _ Hf1 H1 g1 fun b6 H2 g2 i=>⟨fun hi=>?_,fun hi=>⟨_,g2.big.seq (g1.sub.seq hq),by rw[k5];omega⟩⟩⟩;have hs:nA X.K H2 q (zs.map V.int):=g2.big.seq (g1.sub.seq hq);have z1:(zs.map V.int)[i]?=some (.int zs[i]):=by rw[aab,k3 hi];rfl
   refine⟨⟨_,_,hs,z1⟩,fun v H3 hy=>?_⟩;obtain⟨e1,e2⟩:=hy;have e2:=e2 _ hs;rw[z1] at e2;cases e2;refine⟨e1,?_⟩;have e3:(zs.map Dt.int).getD i .dk=.int zs[i]:=by rw[Bn,aab,k3 hi];rfl
   show Rep _ _ _ ((zs.map Dt.int).getD i .dk);rw[e3];exact .int _⟩
theorem CP {x:Str}{p pos:Pos}(M:RB X.K C)(hm:X.mg x=some (.ref C))(hg:autoParam (Gl X x) jp)(mI:autoParam ((x == ("__debug__":Str))=false) zn):EE X G dl (.Call (.Name x p) [] [] pos) (.jz (.obj C [])):=by
 refine KU (fs:=[]) ?_;intro pins s st H Q I ⟨Hf,S,k⟩;refine wpAny_Call_Name_kw (vE I hg hm ?_ mI);refine W.callWith_K0 I.BQ M.kp (HK M I fun x dx hx VZ ne=>?_);have Fs:(upd H dx (.own x)) x=none:=by rw[ai (Ne.symm ne)];exact hx
 have g1:bB Hf H Hf (upd H dx (.own x)):=.fF S.sub VZ;have g2:bB Hf (upd H dx (.own x)) Hf (upd (upd H dx (.own x)) x (.ins C dx [])):=.fF g1.sub Fs;exact k _ _ _ (g1.trans g2) hx (S.sub.free hx) ⟨dx,[],ak,.nil⟩
end
noncomputable def jG (H:Hp)(p q1:Addr)(u1 u3:HO):Hp:=upd (upd H p u1) q1 u3
section
variable {X:Cx}{pins:List (Addr×Obj)}{σ:L2.St}{H:Hp}{s:Shared}{p q1:Addr}{o4:List (Key×V)}{f:Nat->List (Key×FD)}
theorem Inv.Oe (I:L2.Inv X pins σ H s)(hp:H p=some (.lst [.ref q1]))(MX:H q1=some (.dK o4))(f1:tJ H o4 (f 0)):∃ o1,L2.Inv X pins σ (jG H p q1 (.memo [(p,f)]) (.kd (some (p,0)) o1 o4)) s:=by
 obtain⟨z1,i1,c1,r1,e1⟩:=(show aV X.prog X.w H s.heap p (.lst [.ref q1]) from I.bO p _ hp)
 obtain⟨N7,lo1,vs1,kr1,o1,es1,ep1,WO,hr1⟩:=(show aV X.prog X.w H s.heap q1 (.dK o4) from I.bO q1 _ MX)
 obtain⟨u1,rfl,w1⟩:=vals1 r1;cases (show u1=Value.ref q1 from w1);refine⟨o1,?_⟩;have m1:p≠q1:=fun z=>by rw[z,MX] at hp;cases hp
 generalize N8:jG H p q1 (.memo [(p,f)]) (.kd (some (p,0)) o1 o4)=H';have WQ:H' p=some (.memo [(p,f)]):=by rw[<- N8];unfold jG;rw[ai m1,ak]
 have KO:H' q1=some (.kd (some (p,0)) o1 o4):=by rw[<- N8];unfold jG;rw[ak]
 have Es:∀ b,b≠p->b≠q1->H' b=H b:=fun b a1 a3=>by rw[<- N8];unfold jG;rw[ai a3,ai a1]
 have vg:∀ b o,H b=some o->ldk o=false->H' b=some o:=fun b o e n=>by
   rw[Es b (fun z=>by rw[z,hp] at e;cases e;cases n) (fun z=>by rw[z,MX] at e;cases e;cases n)];exact e
 have kp:Kp H H':=⟨fun b o e kq=>vg b _ e (by cases o <;> first | rfl | exact(show False from kq).elim),fun b e=>by
   cases q:H b with
   | none=>rw[q] at e;exact e.elim
   | some u=>
     rw[q] at e;rw[vg b u q (by cases u <;> first | rfl | exact e.elim)];exact e,fun b x e=>vg b _ e rfl⟩
 refine I.un (h':=s.heap) (t':=s.toks) ⟨fun b o e _ _ _=>e,fun b o e _ _ _=>⟨o.slots,e⟩,fun b o e n _=>?_,fun b o e _=>⟨o,e⟩,fun b xs e=>vg b _ e rfl,fun b o u e=>vg b _ e rfl,fun b ps e=>⟨#[],by rw[vg b _ e rfl];simp⟩⟩ fun b u e=>?_
 . rw[Es b (fun z=>by rw[z,hp] at n;cases n) (fun z=>by rw[z,MX] at n;cases n)]
   exact n
 . by_cases b1:b=p
   . subst b1
     rw[WQ] at e;cases e;refine⟨⟨_,e1⟩,1,by decide,⟨f,rfl⟩,rfl,fun j a h hj=>?_,by simp,fun n hn=>by rw[List.mem_replicate] at hn;omega,fun j a h n hj hn=>?_⟩
     . match j,hj with
       | 0,hj=>cases hj;exact .inl rfl
     . match j,hj,hn with
       | 0,hj,hn=>
         cases hj;cases hn;refine⟨_,_,e1,rfl,fun i hi=>?_⟩;have:i=0:=by omega
         subst this;exact⟨q1,o1,o4,rfl,KO,f1.kp kp⟩
   . by_cases b3:b=q1
     . subst b3;rw[KO] at e;cases e
       refine⟨WO,⟨N7,lo1,vs1,kr1,o1,es1,ep1,WO,hr1⟩,fun a i ht=>?_⟩;cases ht;exact⟨by rw[WQ];trivial,_,_,e1,rfl⟩
     . rw[Es b b1 b3] at e
       exact(I.bO b u e).zX (fun _ _ _ q=>q) (fun c q=>vg c _ q rfl) (fun c xs q=>vg c _ q rfl) kp
end
section
variable {X:Cx}{G:Gr}{E:XK}{e1:Expr}{fs:List (Str×Dt)}{z C:Addr}{tl:List Slot}{f:Nat->List (Key×FD)}{n0 x0:Str}{SA SD SE q1:Pos}
theorem yB (no:noOwn tl=true)(cl:vF X.K C)(Sm:bQ X.K C n0)(he1:EO X G (.own (.Cf z C fs)::tl) e1 (.cZ (pz (f 0))))(SF:autoParam (∀ p ls,putD n0 (.memo p ls 0 1) fs=uR fs [n0] p ls 1) wl)(hlen:autoParam (Nat.ble fs.length 990=true) jp)(hN:autoParam (X.N[0]?=some x0) jp)(hv:autoParam (wu X.env.scope x0) xL)(mI:autoParam ((x0 == ("__debug__":Str))=false) zn)(nz:autoParam ((x0 == ("__classdict__":Str))=false) zn)(AB:autoParam (starEach [e1] X.env=[(false,eval e1 X.env)]) jp)(IZ:autoParam (swapsWith (.List [e1] SE) (some (.Attribute (.Name x0 SA) n0 SD)) q1.line X.env=pure false) jp):nH X G E (.own (.Cf z C fs)::tl) [.Assign [.Attribute (.Name x0 SA) n0 SD] (.List [e1] SE) q1] (.nx (.own (.Ai z C fs [f] [n0] 1)::tl)):=by
 intro pins s st H D I ⟨Hf,S,k⟩;have base:=n6 (wD (pos:=q1) (pos':=SD) (ke (pos:=SA) hN hv mI nz) (wG (pos:=SE) (mH he1 pF AB)) IZ);let RQ:L2.St->Hp->Prop:=fun kA H'=>∃ p a1 o4,H' p=some (.lst [.ref a1])/\H' a1=some (.dK o4)/\tJ H' o4 (f 0)/\∀ o1,D.nx kA (jG H' p a1 (.memo [(p,f)]) (.kd (some (p,0)) o1 o4))
 refine cn (base pins s st H { D with nx:=RQ} I ?_) fun fl s7 q7=>?_
 . obtain⟨za,hz,hzf,UM,ez,dx,fv,N9,rf⟩:=S.own 0 _ rfl
   subst ez;refine⟨Hf,S,fun a1 Hf1 H1 g1 WS SG ⟨o4,RZ,rk1⟩=>⟨aaW rfl,fun p hp=>?_⟩⟩;have N7:H1 za=some (.ins C dx fv):=g1.big _ _ N9;have MY:za≠p:=ax N7 hp;have WT:a1≠p:=ax RZ hp;have P6:za≠a1:=fun w=>by rw[w,WS] at N9;cases N9
   have hzp:(upd H1 p (.lst [.ref a1])) za=some (.ins C dx fv):=by rw[ai MY];exact N7
   refine⟨_,hz,za,C,dx,fv,rfl,hzp,cl,Sm,by rw[rf.length];exact aaT (aaW hlen) (by decide),?_⟩;let H4:Hp:=upd (upd H1 p (.lst [.ref a1])) za (.ins C dx (fY n0 (.ref p) fv));have Ig:Hf1 za=none:=g1.mq hzf N9;have gz1:bB Hf1 H1 Hf1 (upd H1 p (.lst [.ref a1])):=.fF g1.sub hp;have S0:eG X.K G st Hf H (.aS::tl):=S.weak ⟨rfl,fun i s' e n=>by
     cases i with
     | zero=>cases e;exact absurd rfl n
     | succ i=>exact e⟩
   have YC:noOwn (.aS::tl)=true:=no;have S4:eG X.K G st Hf1 H4 (.aS::tl):=qp ((S0.grow g1).grow gz1) YC Ig UM;have h4z:H4 za=some (.ins C dx (fY n0 (.ref p) fv)):=ak;have h4p:H4 p=some (.lst [.ref a1]):=by show(upd (upd H1 p _) za _) p=_;rw[ai (Ne.symm MY),ak]
   have SJ:H4 a1=some (.dK o4):=by show(upd (upd H1 p _) za _) a1=_;rw[ai (Ne.symm P6),ai WT];exact RZ
   have YG:Hf1 p=none:=g1.sub.free hp;have AD:aI Hf1 H4:=fun b o e=>by
     have b1:b≠za:=fun w=>by rw[w,Ig] at e;cases e
     have b2:b≠p:=fun w=>by rw[w,YG] at e;cases e
     show(upd (upd H1 p _) za _) b=_;rw[ai b1,ai b2];exact g1.sub _ _ e
   have gp:G.H p=none:=S.gr.big.free (g1.big.free hp);have WW:G.H a1=none:=S.gr.big.free WS;have WX:tJ Hf1 o4 (f 0):=rJ rk1;refine⟨p,a1,o4,h4p,SJ,gU (fun b u e _=>AD _ _ e) WX,fun o1=>?_⟩;let ls:k7:=[(p,f)]
   let u1:HO:=.memo ls;let u3:HO:=.kd (some (p,0)) o1 o4;have m1:p≠a1:=Ne.symm WT;have cat:∀ (B:Hp),jG B p a1 u1 u3 p=some u1/\jG B p a1 u1 u3 a1=some u3:=fun B=>by
     unfold jG;refine⟨?_,?_⟩
     . rw[ai m1,ak]
     . rw[ak]
   have xj:∀ (B:Hp) b,b≠p->b≠a1->jG B p a1 u1 u3 b=B b:=fun B b c1 c3=>by unfold jG;rw[ai c3,ai c1]
   let yt:Hp:=jG Hf1 p a1 u1 u3;have Jc:aI Hf1 yt:=fun b o e=>by
     show jG Hf1 p a1 u1 u3 b=some o;rw[xj Hf1 b (fun w=>by rw[w,YG] at e;cases e) (fun w=>by rw[w,SG] at e;cases e)];exact e
   have key:∀ (A B:Hp),aI A B->aI (jG A p a1 u1 u3) (jG B p a1 u1 u3):=fun A B sm=>dm (dm sm)
   have SK:aI yt (jG H4 p a1 u1 u3):=key _ _ AD;have KP:br X.K yt (fY n0 (.ref p) fv) (uR fs [n0] p ls 1):=by
     rw[<- SF p ls];refine(rf.mono (g1.bU.trans Jc)).put (f:=n0) (d:=.memo p ls 0 1) ?_;refine .memo (f:=f) rfl (cat Hf1).1 (.inl rfl) fun i hi=>?_
     have:i=0:=by omega
     subst this;exact⟨a1,o1,o4,(cat Hf1).2,gU (fun b u e _=>Jc _ _ e) WX⟩
   have czH:jG H4 p a1 u1 u3 za=some (.ins C dx (fY n0 (.ref p) fv)):=by rw[xj H4 za MY P6];exact h4z
   have czF:yt za=none:=by show jG Hf1 p a1 u1 u3 za=none;rw[xj Hf1 za MY P6];exact Ig
   refine k st yt _ (g1.bU.trans Jc) ⟨⟨fun b o e=>?_,S4.gr.bU.trans Jc,SK,fun b o e=>?_⟩,by have:=S4.len;simpa using this,fun i d h=>?_,fun i o h=>?_,fun i j o o' a w1 w2=>?_⟩
   . rw[xj H4 b (fun w=>by rw[w,gp] at e;cases e) (fun w=>by rw[w,WW] at e;cases e)]
     exact S4.gr.big _ _ e
   . by_cases c1:b=p
     . rw[c1];exact .inr (.inl gp)
     . by_cases c3:b=a1
       . rw[c3];exact .inr (.inl WW)
       . have e:jG Hf1 p a1 u1 u3 b=some o:=e
         rw[xj Hf1 b c1 c3] at e;exact S4.gr.new b o e
   . cases i with
     | zero=>cases h
     | succ i=>
       obtain⟨w,w1,w2⟩:=S4.val (i+1) d h;exact⟨w,w1,w2.mono Jc⟩
   . cases i with
     | zero=>
       cases h;exact⟨za,hz,czF,UM,rfl,dx,_,p,ls,rfl,czH,KP⟩
     | succ i=>exact absurd h (bb no i o)
   . cases i with
     | zero=>cases j with
       | zero=>exact fun _ _=>rfl
       | succ j=>exact absurd w2 (bb no j o')
     | succ i=>exact absurd w1 (bb no i o)
 . cases fl with
   | next=>
     obtain⟨σ7,H7,I7,p,a1,o4,y1,y3,y5,kk⟩:=q7;obtain⟨o1,I8⟩:=Inv.Oe I7 y1 y3 y5;exact⟨σ7,_,I8,kk o1⟩
   | cont=>exact q7
   | brk=>exact q7
   | ret v=>exact q7
end
section
variable {X:Cx}{G0:Gr}{E:XK}{fs:List (Str×Dt)}{l C:Addr}{ls:k7}{n N:Nat}{tl:List Slot}{f:Nat->List (Key×FD)}{n0 x0 xg:Str}{p1 p2 p3 a1 c1 q1:Pos}
theorem CQ (ng:Nat)(hs:lE l fs=true)(ht:sI l tl=true)(hu:tl[ng]?=some .aS)(ju:ls.map (·.2)=[f])(hN:N < 9000)(cl:vF X.K C)(Sm:bQ X.K C n0)(hA:G0.Hf l=some (.memo ls))(hB:G0.H l=some (.memo ls))
   (UI:autoParam ((qR fs [n0] l ls n).lookup n0=some (.fZ l ls 0 n)) jp)
   (UH:autoParam (X.N[0]?=some x0) jp) (Yt:autoParam (wu X.env.scope x0) xL) (Yu:autoParam ((x0 == ("__debug__":Str))=false) zn) (Yv:autoParam ((x0 == ("__classdict__":Str))=false) zn)
   (Z1:autoParam (X.N[ng+1]?=some xg) jp) (Z2:autoParam (wu X.env.scope xg) xL) (Z3:autoParam ((xg == ("__debug__":Str))=false) zn) (Z4:autoParam ((xg == ("__classdict__":Str))=false) zn)
   (WE:autoParam (attributeBase (.Name x0 p1) n0 X.env (eval (.Name x0 p1) X.env)=eval (.Name x0 p1) X.env) jp)
   (Et:autoParam (attributeBase (.Attribute (.Name x0 p1) n0 p2) "append" X.env (eval (.Attribute (.Name x0 p1) n0 p2) X.env)=eval (.Attribute (.Name x0 p1) n0 p2) X.env) jp)
   (KJ:autoParam (((backTo c1 (starEach [.Name xg p3] X.env)).all (fun x=>!x.1) && (backToKw c1 (keywordEach [] X.env)).all (fun x=>x.1.isSome) && decide ([Expr.Name xg p3].length+([]:List Keyword).length+(if ([]:List Keyword).isEmpty then 0 else 1) < 30))=true) jp)
   (Eu:autoParam ((a1.endLine == c1.line)=true) jp) (AB:autoParam (starEach [.Name xg p3] X.env=(false,eval (.Name xg p3) X.env)::starEach [] X.env) jp)
   (IZ:autoParam (swapsWith (.Call (.Attribute (.Attribute (.Name x0 p1) n0 p2) "append" a1) [.Name xg p3] [] c1) none q1.line X.env=pure false) jp) :
   nH X (WC G0 l (.bN ls (aaj ls.length N))) E (.val (.obj C (qR fs [n0] l ls n))::tl.set ng (.own (.cZ (pz (f N)))))
     [.Expr (.Call (.Attribute (.Attribute (.Name x0 p1) n0 p2) "append" a1) [.Name xg p3] [] c1) q1] (.raw (RM X.K G0 C fs [n0] l ls n tl (N+1))):=by
 refine Aj (n6 (mG (uP PySem.F.plainAttrs_list PySem.F.slot_list_append PySem.F.type_list_append rK (wC (ke (pos:=p1) UH Yt Yu Yv) WE) (mH (ke (pos:=p3) Z1 Z2 Z3 Z4) pF AB) Et KJ Eu AB rfl) IZ)) fun D st H zq=>ZL zq fun Hf zq=>have S:=zq.1;have k:=zq.2;?_
 have e2:ls.length=1:=by have:=congrArg abB ju;simpa using this
 have eR:∀ M:Nat,aaj ls.length M=[M]:=fun M=>by rw[e2];rfl
 rw[eR] at S;have WI:ng < tl.length:=(aae.mp hu).1;obtain⟨v0,hv,rv⟩:=S.val 0 _ rfl;cases rv with
 | @obj sa _ dx fv _ Sr rf=>
   obtain⟨oa,Ew,Yw,_,back⟩:=Rd.ex Sr;have Ss:Hf l=some (.bN ls [N]):=S.gr.bU _ _ ak;have P4:H l=some (.bN ls [N]):=S.sub _ _ Ss;have hm:cq Hf l ls:=.inr ⟨_,Ss⟩;obtain⟨y0,Z6,Z7⟩:=rf.lookup UI;obtain⟨qa,hq,WJ,Z8,kvs,P5,rk⟩:=S.own (ng+1) (.cZ (pz (f N))) (by show(tl.set ng _)[ng]?=_;rw[aaf WI]);cases Z7 with
   | @fZ _ p _ _ _ f0 CD _ Z9 _=>
       have ef0:f0=f:=by
         have:=congrArg (fun z=>z[0]?) ju;simp only[aab,CD] at this;exact Option.some.inj this
       subst ef0;have Yx:tJ H kvs (f0 N):=gU (fun b u e _=>S.sub _ _ e) (rJ rk);have nql:qa≠l:=fun z=>by rw[z,P4] at P5;cases P5
       have WK:sa≠l:=fun z=>by rw[z,Ss] at Ew;cases Ew;cases Yw
       have nsq:sa≠qa:=fun z=>by rw[z,WJ] at Ew;cases Ew
       refine⟨_,hv,sa,C,dx,fv,_,rfl,back _ (S.sub _ _ Ew),cl,Sm,Z6,.inr (.inr (.inr (.inr ⟨rfl,l,ls,[N],0,f0,N,P4,CD,rfl⟩))),_,hq,l,ls,[N],0,p,f0,N,qa,kvs,rfl,rfl,P4,CD,rfl,hN,P5,Yx,fun oq=>?_⟩;let H6:Hp:=upd (upd H l (.bN ls ([N].set 0 (N+1)))) qa (.kd (some (p,N)) oq kvs);show D.nx st H6;have h6l:H6 l=some (.bN ls [N+1]):=by show(upd (upd H l _) qa _) l=_;rw[ai (Ne.symm nql),ak];rfl
       have WM:∀ b o,H b=some o->b≠l->b≠qa->(upd H6 l (.memo ls)) b=some o:=fun b o e n1 n2=>by
         rw[ai n1];show(upd (upd H l _) qa _) b=_;rw[ai n2,ai n1];exact e
       have f5r:∀ b o,Hf b=some o->b≠qa:=fun b o e z=>by rw[z,WJ] at e;cases e
       have KL:aI (upd Hf l (.memo ls)) (upd H6 l (.memo ls)):=fun b o e=>by
         by_cases bl:b=l
         . rw[bl,ak] at e ⊢;exact e
         . rw[ai bl] at e;exact WM b o (S.sub _ _ e) bl (f5r b o e)
       have KN:=gT KL;have g6:bB G0.Hf G0.H (ki (upd Hf l (.memo ls)) (upd H6 l (.memo ls))) (upd H6 l (.memo ls)):=by
         refine⟨fun b o e=>?_,fun b o e=>?_,pN KL,fun b o e=>?_⟩
         . by_cases bl:b=l
           . rw[bl,hB] at e;cases e;rw[bl];exact ak
           . have h3:H b=some o:=S.gr.big _ _ (by show(upd G0.H l _) b=_;rw[ai bl];exact e)
             have nbq:b≠qa:=fun z=>by
               have:(upd G0.H l (.bN ls [N])) qa=none:=Z8;rw[<- z,ai bl,e] at this;cases this
             exact WM b o h3 bl nbq
         . by_cases bl:b=l
           . rw[bl,hA] at e;cases e;rw[bl];exact KN _ _ ak
           . have h3:Hf b=some o:=S.gr.bU _ _ (by show(upd G0.Hf l _) b=_;rw[ai bl];exact e)
             exact KN _ _ (by rw[ai bl];exact h3)
         . rcases qu (Hf:=upd Hf l (.memo ls)) (H:=upd H6 l (.memo ls)) b with⟨u',z1,z2,z3⟩ | z
           . rw[z3] at e;cases e;exact .inr (.inr z2)
           . rw[z] at e
             by_cases bl:b=l
             . rw[bl];exact .inl ⟨_,hA⟩
             . rw[ai bl] at e
               rcases S.gr.new b o e with⟨Ru,y⟩ | y | y
               . have y:(upd G0.Hf l _) b=some Ru:=y
                 rw[ai bl] at y;exact .inl ⟨Ru,y⟩
               . have y:(upd G0.H l _) b=none:=y
                 rw[ai bl] at y;exact .inr (.inl y)
               . exact .inr (.inr y)
       have Sx:∀ {v:V} {d:Dt},ug l d=true->Rep X.K Hf v d->Rep X.K (ki (upd Hf l (.memo ls)) (upd H6 l (.memo ls))) v d:=fun {v d} hn r=>(jE hm (.inl rfl) hn r).mono KN
       refine k st H6 ⟨by rw[eR];exact h6l,_,⟨g6,by have:=S.len;simpa using this,fun i d h=>?_,fun i o h=>?_,fun i j o o' a h=>?_⟩⟩
       . cases i with
         | zero=>
           cases h;refine⟨_,hv,.obj (back _ (KN _ _ (by rw[ai WK];exact Ew))) ?_⟩;exact(P2 hs hm rf).mono KN
         | succ i=>
           have h:tl[i]?=some (.val d):=h;have e:ng≠i:=fun z=>by rw[<- z,hu] at h;cases h
           obtain⟨w,w1,w2⟩:=S.val (i+1) d (by show(tl.set ng _)[i]?=_;rw[aag e];exact h);exact⟨w,w1,Sx (nL ht h) w2⟩
       . cases i with
         | zero=>cases h
         | succ i=>exact absurd h (bb (iM ht) i o)
       . cases i with
         | zero=>cases h
         | succ i=>exact absurd h (bb (iM ht) i o)
end
noncomputable abbrev UN (g:Str)(C':Addr)(fs':List (Str×Dt))(nm':List Str)(l':Addr)(ls':k7)(n':Nat):List (Str×Dt):=[(g,.obj C' (uR fs' nm' l' ls' n'))]
section
variable {X:Cx}{G:Gr}{E:XK}{dl:List Slot}{e:Expr}{pos:Pos}{sts:List Stmt}{o:Out}{C C' l l':Addr}{ls ls':k7}{n n' m:Nat}{nm nm':List Str}{fs':List (Str×Dt)}{g:Str}{tl:List Slot}{K:W.Frag}{Hf H:Hp}{st:L2.St}
theorem Gh {fv:List (Str×V)}(r:br K Hf fv (uR (UN g C' fs' nm' l' ls' n') nm l ls n)):∃ v f2,fv=(g,v)::f2/\Rep K Hf v (.obj C' (uR fs' nm' l' ls' n'))/\br K Hf f2 ((aah nm.length).map fun j=>(nm.getD j "",.memo l ls j n)):=by
 have r:br K Hf fv ((g,.obj C' (uR fs' nm' l' ls' n'))::(aah nm.length).map fun j=>(nm.getD j "",.memo l ls j n)):=r;cases r with
 | cons h t=>exact⟨_,_,rfl,h,t⟩
theorem Im (i:Nat)(hn:0 < nm.length)(Ux:0 < nm'.length)(hl:ls'.length≠ls.length)(h:l'≠l->nH X G E dl sts o)(hd:autoParam (dl[i]?=some (.val (.obj C (uR (UN g C' fs' nm' l' ls' n') nm l ls n)))) jp):nH X G E dl sts o:=by
 intro pins s st H D I ⟨Hf,S,k⟩;obtain⟨v,hv,rv⟩:=S.val i _ hd;refine h ?_ pins s st H D I ⟨Hf,S,k⟩;cases rv with
 | obj q r=>
   obtain⟨v',f2,_,r1,r2⟩:=Gh r;have h1:=xi hn r;cases r1 with
   | obj q' r'=>
     have h2:=xi Ux r';intro z;rw[z,h1] at h2;have:=HO.memo.inj (Option.some.inj h2);exact hl (by rw[this])
theorem Io (he:EE X G (.val (.obj C (uR (UN g C' fs' nm' l' ls' n') nm l ls n))::tl) e (.yw l' ls' m))(hs:autoParam (swapsWith e none pos.line X.env=pure false) jp):ES X G E (.val (.obj C (uR (UN g C' fs' nm' l' ls' n') nm l ls n))::tl) (.Expr e pos) (.nx (.val (.obj C (uR (UN g C' fs' nm' l' ls' m) nm l ls n))::tl)):=
 tH (mG he hs) fun D st H zq=>ZL zq fun Hf zq=>have S:=zq.1;have k:=zq.2;⟨Hf,S,fun v Hf1 H1 g1 r1=>by
   have S1:=S.grow g1;cases r1 with
   | yw kn=>
     refine k st Hf1 H1 g1.bU ⟨S1.gr,S1.len,fun i d h=>?_,fun i o h=>S1.own i o ?_,fun i j o o' a h1 h2=>S1.HG i j o o' a ?_ ?_⟩
     . cases i with
       | zero=>
         cases h;obtain⟨v,hv,rv⟩:=S1.val 0 _ rfl;cases rv with
         | obj q r=>
           obtain⟨v',f2,ef,r1,r2⟩:=Gh r;subst ef;cases r1 with
           | obj q' r'=>exact⟨_,hv,.obj q (.cons (.obj q' (CL kn r')) r2)⟩
       | succ i=>exact S1.val (i+1) d h
     . cases i with
       | zero=>cases h
       | succ i=>exact h
     . cases i with
       | zero=>cases h1
       | succ i=>exact h1
     . cases j with
       | zero=>cases h2
       | succ j=>exact h2⟩
end
def aaH (K:PySem.W.Frag)(n:Nat)(t:Nb):TG:=fun v σ H Q=>∃ a xs,v=.ref a/\nA K H a xs/\xs.length=n/\t xs σ H Q
theorem SQ {X:Cx}{es:List Expr}{k:Nat}{t:Nb}{n:Nat}{pos:Pos}(hc:X.calm=true)(h:U3 X es t)(hn:autoParam ((assignEach es X.env).length=n) jp)(ny:autoParam ((assignEach es X.env).findIdx? (·.1)=none) jp):PG X (.Tuple es k pos) (aaH X.K n t):=by
 intro pins s σ H v u Q I r hw;obtain⟨a,xs,e1,hq,hl,hw⟩:=hw;subst e1;cases r;obtain⟨aH,rv,hp,hz⟩:=I.list hq;obtain⟨o,m,e,h1,h2,h3⟩:=hp;have hL:s.heap.IsList a aH.toArray:=⟨o,e,h1,m,h3⟩
 rw[assign_Tuple];refine wpAny_bind (wpAny_standAt ?_);unfold unpack;have e5:(assignEach es X.env).length=aH.toArray.size:=by simp[hn,<- hl,rv.length]
 rw[e5,ny];refine wpAny_bind (wpAny_holding (W.kun_itemsOf (I.ok.hd hc) hL fun h' hx=>?_));have I1:Inv X pins σ H { s with heap:=h'}:=I.kept (t':=s.toks) fun b o e=>hx b o (aat (aak e)) e
 exact h pins _ σ H xs _ Q I1 (by simpa using rv) hw
section
variable {X:Cx}{G:Gr}{E:XK}{dl:List Slot}{e:Expr}{d1 d2:Dt}{pos:Pos}
theorem KW (n1 n2:Nat){a b:Str}{pa pb tp:Pos}{cx:Nat}(hN:X.N.Nodup)(hc:X.calm=true)(he:EE X G dl e (.lst [d1,d2]))(V4:autoParam (X.N[n1]?=some a) jp)(V5:autoParam (X.N[n2]?=some b) jp)(V6:autoParam (Loc X.env.scope a) xz)(V7:autoParam (Loc X.env.scope b) xz)(V8:autoParam (X.fn a=true\/X.env.scope.names.lookup a=some .local) wr)(V9:autoParam (X.fn b=true\/X.env.scope.names.lookup b=some .local) wr)(hn:autoParam ((assignEach [.Name a pa,.Name b pb] X.env).length=2) jp)(ny:autoParam ((assignEach [.Name a pa,.Name b pb] X.env).findIdx? (·.1)=none) jp)(q1:autoParam ((assignEach [.Name a pa,.Name b pb] X.env).map (·.2)=assign (.Name a pa) X.env::(assignEach [.Name b pb] X.env).map (·.2)) jp)(q2:autoParam ((assignEach [.Name b pb] X.env).map (·.2)=assign (.Name b pb) X.env::(assignEach [] X.env).map (·.2)) jp)(hs:autoParam (swapsWithSole [.Tuple [.Name a pa,.Name b pb] cx tp] e pos.line X.env=pure false) jp)(hw:autoParam (swappedStores [.Tuple [.Name a pa,.Name b pb] cx tp] e X.env=pure none) jp)(h1:autoParam ((assignEach [.Tuple [.Name a pa,.Name b pb] cx tp] X.env).map (·.2)=[assign (.Tuple [.Name a pa,.Name b pb] cx tp) X.env]) jp):ES X G E dl (.Assign [.Tuple [.Name a pa,.Name b pb] cx tp] e pos) (.nx ((dl.set n1 (.val d1)).set n2 (.val d2))):=
 tH (z6 he (SQ hc (cN (bo (pos:=pa) hN V4 V6 V8) (cN (bo (pos:=pb) hN V5 V7 V9) n8 q2) q1) hn ny) hs hw h1) fun D st H zq=>ZL zq fun Hf zq=>have S:=zq.1;have k:=zq.2;⟨Hf,S,fun v Hf1 H1 g1 r1=>by
   cases r1 with
   | @lst q vs _ hq rp=>
     cases rp with
     | cons r1 t1=>cases t1 with
       | cons r2 t2=>
         cases t2;exact⟨q,_,rfl,.of (g1.sub _ _ hq),rfl,_,_,rfl,_,_,rfl,rfl,k _ Hf1 H1 g1.bU (((S.grow g1).set r1).set r2)⟩⟩
end
section
variable {X:Cx}{G:Gr}{dl:List Slot}{a e:Expr}{pos p apos bR:Pos}{ns:List Int}{k:Int}
theorem KY:Rb X "list.index" (fun x vs H Q=>∃ (l:Addr) (ns:List Int) (k:Int),x=.ref l/\vs=[.int k]/\nA X.K H l (ns.map V.int)/\PyData.layable0 (.list (ns.map .int))=true/\k∈ns/\Q (.int (ns.idxOf k:Nat)) H):=by
 intro pins s st H x vs v us Q I rx rv ⟨l,ns,k,e1,e2,hq,hy,hk,q⟩;subst e1 e2;cases (show v=Value.ref l from rx);obtain⟨z,rfl,ru⟩:=vals1 rv;obtain⟨t,e⟩:=(show ∃ t,z=Value.int k t from ru)
 subst e;obtain⟨aH,r,pl,hz⟩:=I.list hq;obtain⟨ob,n,h1,h2,h3,h4⟩:=pl;refine index_list_ints (vs:=aH) ⟨ob,h1,h2,n,h4⟩ (intsAre_of r) hy hk ?_;exact⟨.int _,H,I.tok _,⟨_,rfl⟩,q⟩
theorem KZ (ha:EE X G dl a (.lst (ns.map .int)))(he:EE X G dl e (.int k))(hy:PyData.layable0 (.list (ns.map .int))=true)(hk:k∈ns)(jx:autoParam (attributeBase a "index" X.env (eval a X.env)=eval a X.env) jp)
   (tS:autoParam (((backTo bR (starEach [e] X.env)).all (fun x=>!x.1) && (backToKw bR (keywordEach [] X.env)).all (fun x=>x.1.isSome) && decide ([e].length+([]:List Keyword).length+(if ([]:List Keyword).isEmpty then 0 else 1) < 30))=true) jp)
   (jy:autoParam ((apos.endLine == bR.line)=true) jp) (ny:autoParam (starEach [e] X.env=(false,eval e X.env)::starEach [] X.env) jp):EE X G dl (.Call (.Attribute a "index" apos) [e] [] bR) (.int (ns.idxOf k:Nat)):=
 iK (uP PySem.F.plainAttrs_list PySem.F.slot_list_index PySem.F.type_list_index KY ha (ae he ah ny) jx tS jy ny rfl) fun st H Q zq=>ZL zq fun Hf zq=>have S:=zq.1;have kk:=zq.2;⟨Hf,S,fun v Hf1 H1 g1 r1=>by
   cases r1 with
   | @lst q vs _ hq rp=>
     have ev:=ml rp;subst ev;refine⟨.inl ⟨rfl,_,.of (g1.sub _ _ hq)⟩,Hf1,S.grow g1,fun us b6 H2 g2 r2=>?_⟩;cases r2 with
     | cons r2 t2=>cases t2;cases r2;exact⟨q,ns,_,rfl,rfl,.of (g2.big _ _ (g1.sub _ _ hq)),hy,hk,kk _ b6 H2 (g1.trans g2) (.int _)⟩⟩
noncomputable def zH (ns:List Int):Int:=ns.getD (argBest (fun i j=>decide (ns.getD i 0 > ns.getD j 0)) (ns.length - 1)) 0
theorem xl:∀ {ns:List Int} {us:List Value},Vals (ns.map V.int) us->∃ l:List (Int×Tok),us=l.map (fun p=>Value.int p.1 p.2)/\l.map (·.1)=ns
 | [],_,.nil=>⟨[],rfl,rfl⟩
 | x::r,_,.cons h t=>by
   obtain⟨tk,rfl⟩:=h;obtain⟨l,rfl,e⟩:=xl t;exact⟨(x,tk)::l,rfl,by rw[aao,e]⟩
theorem Ip (hc:X.calm=true):kU X (.builtin "max") (fun xs H Q=>∃ (l:Addr) (ns:List Int),xs=[.ref l]/\nA X.K H l (ns.map V.int)/\0 < ns.length/\Q (.int (zH ns)) H):=by
 intro pins s σ H xs us Q I r h;obtain⟨l,ns,rfl,hq,h0,q⟩:=h;obtain⟨u,rfl,rx⟩:=vals1 r;cases rx;obtain⟨aH,rv,pl,hz⟩:=I.list hq;obtain⟨ob,n,h1,h2,h3,h4⟩:=pl;have hA:X.A.handled=none:=I.ok.hd hc;obtain⟨ps,e1,e2⟩:=xl rv;have hn:∀ i,numAt ps.toArray i=ns.getD i 0:=fun i=>by
   unfold numAt;rw[List.getElem?_toArray,<- e2,Bn,aab]
 have hs:ps.toArray.size=ns.length:=by rw[<- e2];simp
 refine max_intList (xs:=ps.toArray) hA ⟨ob,h1,h2,n,by rw[h4,e1];unfold intItems;simp⟩ (by rw[hs];exact h0) fun v h' tk hv hk=>?_
 obtain⟨t',e'⟩:=intItems_at hv;have ev:(fun i j=>decide (numAt ps.toArray i > numAt ps.toArray j))=fun i j=>decide (ns.getD i 0 > ns.getD j 0):=by
   funext i j;rw[hn,hn]
 refine⟨.int (zH ns),H,I.kept (t':=tk) hk,⟨t',?_⟩,q⟩;rw[e',hn,ev,hs];rfl
theorem Of (hm:X.mg "max"=none)(hc:X.calm=true)(ha:EE X G dl a (.lst (ns.map .int)))(h0:0 < ns.length)(hg:autoParam (Gl X "max") jp)(he:autoParam (starEach [a] X.env=[(false,eval a X.env)]) jp):EE X G dl (.Call (.Name "max" p) [a] [] pos) (.int (zH ns)):=
 iK (gG (Ip hc) hg hm boot_max (ae ha ah he) (by decide) (by decide) he rfl) fun st H Q zq=>ZL zq fun Hf zq=>have S:=zq.1;have k:=zq.2;⟨Hf,S,fun vs Hf1 H1 g1 r1=>by
   cases r1 with
   | cons r t=>cases t;cases r with
     | @lst q vs _ z r=>
       have ev:=ml r;subst ev;exact⟨q,ns,rfl,.of (g1.sub _ _ z),h0,k _ Hf1 H1 g1 (.int _)⟩⟩
theorem CS (f:Nat->Int):∀ n:Nat,argBest (fun i j=>decide (f i > f j)) n<=n/\∀ j,j<=n->f j<=f (argBest (fun i j=>decide (f i > f j)) n)
 | 0=>⟨aaa _,fun j hj=>by
   have:j=0:=by omega
   subst this;exact Int.le_refl _⟩
 | n+1=>by
   obtain⟨h1,h2⟩:=CS f n;unfold argBest;by_cases c:f (n+1) > f (argBest (fun i j=>decide (f i > f j)) n)
   . rw[if_pos (by simpa using c)]
     refine⟨aaa _,fun j hj=>?_⟩;rcases Nat.lt_or_ge n j with h | h
     . have:j=n+1:=by omega
       subst this;exact Int.le_refl _
     . exact Int.le_trans (h2 j h) (Int.le_of_lt c)
   . rw[if_neg (by simpa using c)]
     refine⟨by omega,fun j hj=>?_⟩;rcases Nat.lt_or_ge n j with h | h
     . have:j=n+1:=by omega
       subst this;omega
     . exact h2 j h
theorem K0 {ns:List Int}{r:Int}(h0:0 < ns.length)(hm:r∈ns)(hr:∀ x∈ns,x<=r):zH ns=r:=by
 obtain⟨h1,h2⟩:=CS (fun i=>ns.getD i 0) (ns.length - 1);unfold zH;generalize argBest (fun i j=>decide (ns.getD i 0 > ns.getD j 0)) (ns.length - 1)=b at h1 h2 ⊢;obtain⟨j,hj,e⟩:=List.getElem_of_mem hm;have h3:=h2 j (by omega);have hb:b < ns.length:=by omega
 have h4:=hr ns[b] (aaY hb);rw[Bn,Bn,k3 hj,k3 hb] at h3;rw[Bn,k3 hb];simp only[Option.getD_some] at h3 ⊢;omega
end
end Sg
namespace Pf
open PySem PySem.Spec PyProof.Rows L2 Sg
structure fB (K:W.Frag)(x q:Str)(st:Stmt)(ps:List Str)(f:Addr)(d:FuncData):Prop where
 F:Uz K x q st f d
 b:Binds K d ps []
structure Og (K:W.Frag)(x q:Str)(st:Stmt)(ps:List Str)(f:Addr)(d:FuncData):Prop where
 F:Cp K x q st f d
 b:Binds K d ps []
structure j7 (K:W.Frag)(x:Str)(st:Stmt)(ps:List Str)(f:Addr)(d:FuncData):Prop where
 F:Uz K x x st f d
 b:Binds K d ps []
 a:W.nsIn K mainGlobals x=some (some (.ref f))
structure Iq (K:W.Frag)(x:Str)(C:Addr):Prop where
 a:W.nsIn K mainGlobals x=some (some (.ref C))
 cl:vF K C
 kc:W.keepIn K (.ref C)=true
abbrev SR (x q:Str)(st:Stmt)(ps:List Str):Prop:=∀ (kV doc pm:Value) (an:Option Addr) (aZ ct:Value) (us:List Value),us.length=ps.length->bindArgs (W.fnOf x q (cv st) (aC st) (af st) .none kV doc pm an aZ ct) ⟨us,[]⟩=pure (ps.zip us)
section
variable {K:W.Frag}{x q:Str}{st:Stmt}{ps:List Str}{f:Addr}{oc:Value}{od an:Option Addr}{zg:Array (Option Value)}{kV doc pm aZ ct:Value}
theorem SS (l:K.lookup f=some ⟨oc,od,.func (W.fnOf x q (cv st) (aC st) (af st) .none kV doc pm an aZ ct),zg⟩)(c:W.codeIn K aZ q=true)(k:W.keepIn K (.ref f)=true)(b:SR x q st ps):fB K x q st ps f (W.fnOf x q (cv st) (aC st) (af st) .none kV doc pm an aZ ct):=⟨wJ l c k,(wJ l c k).binds b⟩
theorem SU (l:K.lookup f=some ⟨oc,od,.func (W.fnOf x q (cv st) (aC st) (af st) .none kV doc pm an aZ ct),zg⟩)(c:W.codeIn K aZ q=true)(k:W.keepIn K (.ref f)=true)(b:SR x q st ps):Og K x q st ps f (W.fnOf x q (cv st) (aC st) (af st) .none kV doc pm an aZ ct):=⟨sC l c,(wJ l c k).binds b⟩
theorem SV (a:W.nsIn K mainGlobals q=some (some (.ref f)))(l:K.lookup f=some ⟨oc,od,.func (W.fnOf q q (cv st) (aC st) (af st) .none kV doc pm an aZ ct),zg⟩)(c:W.codeIn K aZ q=true)(k:W.keepIn K (.ref f)=true)(b:SR q q st ps):j7 K q st ps f (W.fnOf q q (cv st) (aC st) (af st) .none kV doc pm an aZ ct):=⟨wJ l c k,(wJ l c k).binds b,a⟩
theorem SW {C:Addr}(a:W.nsIn K mainGlobals x=some (some (.ref C)))(p:W.plainGet K C Str.empty=true)(h:W.hasDictIn K C=true)(o:W.plainOver K C=true)(s:W.findIn K (.ref C) "__setattr__"=some (some (.builtin "object.__setattr__")))(k:W.keepIn K (.ref C)=true):Iq K x C:=⟨a,⟨p,h,o,s⟩,k⟩
end
theorem gc {N P:List Str}{sc:Scope}(h:(sc.kind == .function && !sc.isCoroutine && !sc.isGenerator && decide N.Nodup && decide (N.take P.length=P) && P.all (fun x=>decide (sc.names.lookup x=some .local\/sc.names.lookup x=some .cell)) && sc.names.all fun y=>decide (y.2≠.free))=true):ar N P sc:=by
 simp only[aa9,acm,decide_eq_true_eq,Bool.not_eq_true',beq_iff_eq] at h;exact⟨h.1.1.1.1.1.1,h.1.1.1.1.1.2,h.1.1.1.1.2,h.1.1.1.2,h.1.1.2,h.1.2,h.2⟩
noncomputable def top (i:Nat):Stmt:=PySem.Challenge.pw_strokegrow_k56_whole_written_out.main.body.getD i (.Pass ⟨0,0,0,0⟩)
noncomputable abbrev mY:Stmt:=top 14
noncomputable abbrev lg:Stmt:=top 15
noncomputable abbrev sL:Stmt:=top 16
noncomputable abbrev xm:Stmt:=top 17
noncomputable abbrev uo:Stmt:=top 18
noncomputable abbrev jH:Stmt:=top 20
noncomputable abbrev e6:Stmt:=top 21
noncomputable abbrev eD:Stmt:=inClass (top 22) 0
noncomputable abbrev ip:Stmt:=inClass (top 22) 1
noncomputable abbrev bS:Stmt:=inClass (top 22) 3
noncomputable abbrev mx:Stmt:=inClass (top 22) 4
noncomputable abbrev gJ:Stmt:=inClass (top 22) 5
noncomputable abbrev c7:Stmt:=inClass (top 22) 6
noncomputable abbrev dC:Stmt:=inClass (top 22) 7
noncomputable abbrev fH:Stmt:=inClass (top 22) 8
noncomputable abbrev dQ:Stmt:=inClass (top 22) 9
noncomputable abbrev dR:Stmt:=inClass (top 22) 10
noncomputable abbrev iV:Stmt:=inClass (top 22) 11
noncomputable abbrev e9:Stmt:=inClass (top 22) 12
noncomputable abbrev jl:Stmt:=inClass (top 22) 13
noncomputable abbrev gx:Stmt:=inClass (top 22) 14
noncomputable abbrev iO:Stmt:=inClass (top 22) 17
noncomputable abbrev AG:Stmt:=top 26
noncomputable abbrev AH:Stmt:=top 27
noncomputable abbrev my:Stmt:=top 28
noncomputable abbrev oj:Stmt:=inClass (top 29) 3
noncomputable abbrev om:Stmt:=inClass (top 29) 4
noncomputable abbrev rN:Stmt:=inClass (top 29) 5
noncomputable abbrev pQ:Stmt:=inClass (top 29) 6
noncomputable abbrev mz:Stmt:=inClass (top 30) 0
noncomputable abbrev gj:Stmt:=inClass (top 30) 1
noncomputable abbrev lh:Stmt:=inClass (top 30) 2
noncomputable abbrev oo:Stmt:=inClass (top 31) 0
noncomputable abbrev iq:Stmt:=inClass (top 31) 1
noncomputable abbrev mZ:Stmt:=inClass (top 31) 2
noncomputable abbrev xn:Stmt:=top 32
noncomputable abbrev jI:Stmt:=top 36
noncomputable abbrev gK:Stmt:=top 37
noncomputable abbrev fJ:Stmt:=top 38
noncomputable abbrev lF:Stmt:=inClass (top 39) 0
noncomputable abbrev pR:Stmt:=inClass (top 39) 1
noncomputable abbrev lj:Stmt:=inClass (top 39) 2
noncomputable abbrev jJ:Stmt:=inClass (top 39) 4
noncomputable abbrev ow:Stmt:=inClass (top 39) 5
noncomputable abbrev oy:Stmt:=inClass (top 39) 6
noncomputable abbrev bg:Stmt:=inClass (top 39) 7
noncomputable abbrev oA:Stmt:=inClass (top 41) 0
noncomputable abbrev oB:Stmt:=inClass (top 41) 1
noncomputable abbrev oC:Stmt:=inClass (top 41) 2
noncomputable abbrev ll:Stmt:=inClass (top 41) 3
noncomputable abbrev cG:Stmt:=inClass (top 41) 4
noncomputable abbrev f7:Stmt:=inClass (top 41) 5
noncomputable abbrev cH:Stmt:=inClass (top 41) 6
noncomputable abbrev cI:Stmt:=inClass (top 41) 7
noncomputable abbrev oE:Stmt:=inClass (top 41) 8
noncomputable abbrev mB:Stmt:=inClass (top 41) 10
noncomputable abbrev oF:Stmt:=inClass (top 41) 11
noncomputable abbrev AI:Stmt:=top 42
noncomputable abbrev cS:Stmt:=top 43
noncomputable abbrev rO:Stmt:=top 44
noncomputable abbrev gL:Stmt:=inClass (top 46) 0
noncomputable abbrev jm:Stmt:=inClass (top 46) 1
noncomputable abbrev cg:Stmt:=inClass (top 46) 2
noncomputable abbrev cP:Stmt:=inClass (top 46) 4
noncomputable abbrev kj:Stmt:=inClass (top 46) 5
noncomputable abbrev EC:Stmt:=top 48
noncomputable abbrev rP:Stmt:=top 50
noncomputable abbrev ED:Stmt:=top 51
noncomputable abbrev AJ:Stmt:=top 52
noncomputable abbrev qy:Stmt:=top 53
noncomputable abbrev s_row:Stmt:=top 54
noncomputable abbrev CT:Stmt:=top 55
noncomputable abbrev xp:Stmt:=top 56
noncomputable abbrev AK:Stmt:=top 57
noncomputable abbrev lG:Stmt:=top 58
noncomputable abbrev Gi:Stmt:=top 59
noncomputable abbrev yC:List Str:=["age","first","last"]
theorem xq:ar yC ["age","first","last"] (af mY):=gc (by decide +kernel)
noncomputable abbrev vj:List Str:=["many"]
theorem uq:ar vj ["many"] (af lg):=gc (by decide +kernel)
noncomputable abbrev Gj:List Str:=["rules","word"]
theorem CU:ar Gj ["rules","word"] (af sL):=gc (by decide +kernel)
noncomputable abbrev K1:List Str:=["rules","word","grown"]
theorem Gk:ar K1 ["rules","word"] (af xm):=gc (by decide +kernel)
noncomputable abbrev Ir:List Str:=["rules","word","age","grown","rounds"]
theorem xu:ar Ir ["rules","word","age"] (af uo):=gc (by decide +kernel)
noncomputable abbrev CV:List Str:=["tallies","letters"]
theorem qz:ar CV ["tallies","letters"] (af jH):=gc (by decide +kernel)
noncomputable abbrev nM:List Str:=["word","rounds"]
theorem sM:ar nM ["word","rounds"] (af e6):=gc (by decide +kernel)
noncomputable abbrev m5:List Str:=["self","rules","start"]
theorem pS:ar m5 ["self","rules","start"] (af eD):=gc (by decide +kernel)
noncomputable abbrev qT:List Str:=["self"]
theorem pT:ar qT ["self"] (af ip):=gc (by decide +kernel)
noncomputable abbrev jo:List Str:=["self","age","letters","last","grown","letter"]
theorem ly:ar jo ["self","age"] (af bS):=gc (by decide +kernel)
noncomputable abbrev xv:List Str:=["self","age"]
theorem vk:ar xv ["self","age"] (af mx):=gc (by decide +kernel)
noncomputable abbrev pU:List Str:=["self","age","place"]
theorem pA:ar pU ["self","age","place"] (af gJ):=gc (by decide +kernel)
noncomputable abbrev lH:List Str:=["self","age","place"]
theorem lq:ar lH ["self","age","place"] (af c7):=gc (by decide +kernel)
noncomputable abbrev pB:List Str:=["self","letter"]
theorem oG:ar pB ["self","letter"] (af dC):=gc (by decide +kernel)
noncomputable abbrev oH:List Str:=["self","age","begin","end"]
theorem nO:ar oH ["self","age","begin","end"] (af fH):=gc (by decide +kernel)
noncomputable abbrev o6:List Str:=["self","age"]
theorem ur:ar o6 ["self","age"] (af dQ):=gc (by decide +kernel)
noncomputable abbrev o7:List Str:=["self","age"]
theorem uu:ar o7 ["self","age"] (af dR):=gc (by decide +kernel)
noncomputable abbrev vm:List Str:=["self","age","begin","end","between","waiting","place","piece","rounds","behind"]
theorem nP:ar vm ["self","age","begin","end"] (af iV):=gc (by decide +kernel)
noncomputable abbrev pV:List Str:=["self","age","place","passed"]
theorem o8:ar pV ["self","age","place"] (af e9):=gc (by decide +kernel)
noncomputable abbrev rQ:List Str:=["self","age","place"]
theorem qU:ar rQ ["self","age","place"] (af jl):=gc (by decide +kernel)
noncomputable abbrev sN:List Str:=["self","age","letter","number","place","missing","waiting","piece","rounds","held"]
theorem mC:ar sN ["self","age","letter","number"] (af gx):=gc (by decide +kernel)
noncomputable abbrev rh:List Str:=["self","age","begin","end"]
theorem xw:ar rh ["self","age","begin","end"] (af iO):=gc (by decide +kernel)
noncomputable abbrev Oh:List Str:=["one","other"]
theorem K2:ar Oh ["one","other"] (af AG):=gc (by decide +kernel)
noncomputable abbrev Oi:List Str:=["one","other"]
theorem K3:ar Oi ["one","other"] (af AH):=gc (by decide +kernel)
noncomputable abbrev xx:List Str:=["deed"]
theorem vn:ar xx ["deed"] (af my):=gc (by decide +kernel)
noncomputable abbrev AL:List Str:=["self","number"]
theorem yD:ar AL ["self","number"] (af oj):=gc (by decide +kernel)
noncomputable abbrev AM:List Str:=["self","spot","by","turns"]
theorem m6:ar AM ["self","spot","by"] (af om):=gc (by decide +kernel)
noncomputable abbrev EF:List Str:=["self","way"]
theorem CW:ar EF ["self","way"] (af rN):=gc (by decide +kernel)
noncomputable abbrev CY:List Str:=["self","deed","spot","way"]
theorem sO:ar CY ["self","deed","spot","way"] (af pQ):=gc (by decide +kernel)
noncomputable abbrev xy:List Str:=["self"]
theorem vo:ar xy ["self"] (af mz):=gc (by decide +kernel)
noncomputable abbrev pC:List Str:=["self","spot"]
theorem oJ:ar pC ["self","spot"] (af gj):=gc (by decide +kernel)
noncomputable abbrev vp:List Str:=["self","way","spot","x","y"]
theorem kl:ar vp ["self","way","spot"] (af lh):=gc (by decide +kernel)
noncomputable abbrev AN:List Str:=["self"]
theorem yE:ar AN ["self"] (af oo):=gc (by decide +kernel)
noncomputable abbrev qV:List Str:=["self","spot"]
theorem pW:ar qV ["self","spot"] (af iq):=gc (by decide +kernel)
noncomputable abbrev yF:List Str:=["self","way","spot","x","y"]
theorem mD:ar yF ["self","way","spot"] (af mZ):=gc (by decide +kernel)
noncomputable abbrev K4:List Str:=["ways"]
theorem Iu:ar K4 ["ways"] (af xn):=gc (by decide +kernel)
noncomputable abbrev sP:List Str:=["text"]
theorem rR:ar sP ["text"] (af jI):=gc (by decide +kernel)
noncomputable abbrev pX:List Str:=["word","letters"]
theorem vq:ar pX ["word","letters"] (af gK):=gc (by decide +kernel)
noncomputable abbrev oK:List Str:=["rows","firsts","letters","number","row","letter_fits"]
theorem rj:ar oK ["rows"] (af fJ):=gc (by decide +kernel)
noncomputable abbrev AO:List Str:=["self","ways","rows","drawer","row"]
theorem rm:ar AO ["self","ways","rows"] (af lF):=gc (by decide +kernel)
noncomputable abbrev CZ:List Str:=["self"]
theorem AQ:ar CZ ["self"] (af pR):=gc (by decide +kernel)
noncomputable abbrev vt:List Str:=["self"]
theorem uv:ar vt ["self"] (af lj):=gc (by decide +kernel)
noncomputable abbrev xA:List Str:=["self","letter"]
theorem vv:ar xA ["self","letter"] (af jJ):=gc (by decide +kernel)
noncomputable abbrev AR:List Str:=["self","letter"]
theorem yG:ar AR ["self","letter"] (af ow):=gc (by decide +kernel)
noncomputable abbrev AS:List Str:=["self","letter"]
theorem yH:ar AS ["self","letter"] (af oy):=gc (by decide +kernel)
noncomputable abbrev vw:List Str:=["self","text","most","at","sign"]
theorem nQ:ar vw ["self","text","most"] (af bg):=gc (by decide +kernel)
noncomputable abbrev AU:List Str:=["self","pen","deed_count","last_way","last_spot","stroke_count","reaches","touches","crosses"]
theorem yI:ar AU ["self","pen","deed_count","last_way","last_spot","stroke_count","reaches","touches","crosses"] (af oA):=gc (by decide +kernel)
noncomputable abbrev AV:List Str:=["self"]
theorem yJ:ar AV ["self"] (af oB):=gc (by decide +kernel)
noncomputable abbrev AW:List Str:=["self"]
theorem yK:ar AW ["self"] (af oC):=gc (by decide +kernel)
noncomputable abbrev vx:List Str:=["self"]
theorem uw:ar vx ["self"] (af ll):=gc (by decide +kernel)
noncomputable abbrev yL:List Str:=["self","first"]
theorem xB:ar yL ["self","first"] (af cG):=gc (by decide +kernel)
noncomputable abbrev o9:List Str:=["self","numbers","first"]
theorem ux:ar o9 ["self","numbers","first"] (af f7):=gc (by decide +kernel)
noncomputable abbrev yM:List Str:=["self","first"]
theorem xC:ar yM ["self","first"] (af cH):=gc (by decide +kernel)
noncomputable abbrev yN:List Str:=["self","first"]
theorem xD:ar yN ["self","first"] (af cI):=gc (by decide +kernel)
noncomputable abbrev AX:List Str:=["self"]
theorem yO:ar AX ["self"] (af oE):=gc (by decide +kernel)
noncomputable abbrev xE:List Str:=["self","other","pen","shift","reaches","touches","way"]
theorem pk:ar xE ["self","other"] (af mB):=gc (by decide +kernel)
noncomputable abbrev AY:List Str:=["self"]
theorem yP:ar AY ["self"] (af oF):=gc (by decide +kernel)
noncomputable abbrev Oj:List Str:=["pen"]
theorem K5:ar Oj ["pen"] (af AI):=gc (by decide +kernel)
noncomputable abbrev lr:List Str:=["pen","deed","behind","spot","reaches","touches"]
theorem nS:ar lr ["pen","deed"] (af cS):=gc (by decide +kernel)
noncomputable abbrev EG:List Str:=["pen","deeds","track","deed"]
theorem u0:ar EG ["pen","deeds"] (af rO):=gc (by decide +kernel)
noncomputable abbrev pY:List Str:=["self","growth","rules"]
theorem pq:ar pY ["self","growth"] (af gL):=gc (by decide +kernel)
noncomputable abbrev rS:List Str:=["self","tracks","whole","track"]
theorem lz:ar rS ["self","tracks"] (af jm):=gc (by decide +kernel)
noncomputable abbrev lC:List Str:=["self","age","rules","last","grown","letter"]
theorem kZ:ar lC ["self","age"] (af cg):=gc (by decide +kernel)
noncomputable abbrev mM:List Str:=["self","age","begin","end"]
theorem rT:ar mM ["self","age","begin","end"] (af cP):=gc (by decide +kernel)
noncomputable abbrev uy:List Str:=["self","age","place","track"]
theorem mN:ar uy ["self","age","place"] (af kj):=gc (by decide +kernel)
noncomputable abbrev SY:List Str:=["_law_script","_law_k","_law_cell_here","_law_low"]
theorem vQ:ar SY ["_law_script","_law_k"] (af EC):=gc (by decide +kernel)
noncomputable abbrev EH:List Str:=["_law_cell_here","_law_many","_law_free","_law_found","_law_k","_law_at"]
theorem u5:ar EH ["_law_cell_here","_law_many"] (af rP):=gc (by decide +kernel)
noncomputable abbrev S5:List Str:=["_law_number","_law_alphabet_here","_law_most","_law_found","_law_size","_law_k"]
theorem Gm:ar S5 ["_law_number","_law_alphabet_here","_law_most"] (af ED):=gc (by decide +kernel)
noncomputable abbrev Ol:List Str:=["_law_script","_law_far","_law_first","_law_way","_law_age","_law_many","_law_most","_law_alphabet_here","_law_rows","_law_k","_law_cell_here","_law_deed","_law_start"]
theorem C0:ar Ol ["_law_script","_law_far"] (af AJ):=gc (by decide +kernel)
noncomputable abbrev Iv:List Str:=["_law_rows","_law_text_here","_law_found","_law_letter","_law_deed","_law_word"]
theorem xF:ar Iv ["_law_rows","_law_text_here"] (af qy):=gc (by decide +kernel)
noncomputable abbrev WZ:List Str:=["_law_rows","_law_letter","_law_row_here"]
theorem K6:ar WZ ["_law_rows","_law_letter"] (af s_row):=gc (by decide +kernel)
noncomputable abbrev Qc:List Str:=["_law_rows","_law_text_here","_law_age","_law_most","_law_k","_law_longer"]
theorem K7:ar Qc ["_law_rows","_law_text_here","_law_age","_law_most"] (af CT):=gc (by decide +kernel)
noncomputable abbrev K8:List Str:=["_law_ways","_law_spot","_law_by","_law_x","_law_y","_law_k"]
theorem zI:ar K8 ["_law_ways","_law_spot","_law_by"] (af xp):=gc (by decide +kernel)
noncomputable abbrev Om:List Str:=["_law_ways","_law_spot","_law_x","_law_y"]
theorem C1:ar Om ["_law_ways","_law_spot"] (af AK):=gc (by decide +kernel)
noncomputable abbrev vR:List Str:=["_law_ways","_law_rows","_law_text_here","_law_way","_law_spot","_law_strokes","_law_area","_law_spots","_law_letter","_law_deed","_law_step","_law_alongs","_law_reach","_law_touch"]
theorem C3:ar vR ["_law_ways","_law_rows","_law_text_here"] (af lG):=gc (by decide +kernel)
noncomputable abbrev W0:List Str:=["_law_script","_law_ways","_law_rows","_law_start","_law_age","_law_text_here","_law_growth","_law_drawing","_law_place","_law_counts","_law_due","_law_letter","_law_begin","_law_end"]
theorem K9:ar W0 ["_law_script"] (af Gi):=gc (by decide +kernel)
structure dM where
 (kF iW vS AZ qA nT gW gd cj bT fe bX aL aX bx cU cV cW dt cA b8 gf vT vU jK d6 d7 gM fC ff bK dS gX ck gh sQ gy jL lI fK jv dU du gY gZ bh g7 g8 g9 dW cJ dX cK cL hE fg hU vV iX oM fh cB bD b9 dn A0 oN A1 vW nU Gn Gp sR vX vY rq:Addr)
 (kG iY vZ A2 qB sS hZ kH eI fL jM d8 b0 dD c8 iZ i0 i3 jN fM gz kI v3 v5 jO lJ lK oO mO jP dF i4 lL eJ kJ sT gA jQ lM lN mP i5 jR lO lP i6 lQ lR lS i7 kK i8 kL kM lU jS lW v7 i9 oP jT fN eK gB ia A3 oQ A4 v8 qC Gq Gs sU v9 wa xG:FuncData)
 (ja kN kO kP:Tok)
 (aQ cw aN aq aw aA lX dj:Addr)
 (C4 xH A5 xI:Tok)
 K:W.Frag
structure Txt (K:W.Frag)(mg:Str->Option Value)(t:dM):Prop where
 hK:t.K=K
 g:∀ {x:Str} {v:Value},W.nsIn K mainGlobals x=some (some v)->mg x=some v
 gn:∀ {x:Str},W.nsIn K mainGlobals x=some none->mg x=none
 km:Iq K "Quarter" t.aQ
 oR:Iq K "Sixth" t.cw
 eO:Iq K "Rules" t.aN
 aB:Iq K "Growth" t.aq
 ay:Iq K "Track" t.aw
 bY:Iq K "Drawing" t.aA
 rV:RB K t.aQ
 xJ:RB K t.cw
 xK:L2.Mk K t.aN t.fK
 uz:L2.Mk K t.aq t.gd
 xM:L2.Mk K t.aw t.g7
 rW:L2.Mk K t.aA t.fh
 jb:bQ K t.aN "drawer"
 aR:bQ K t.aN "row_by_letter"
 aU:bQ K t.aq "rules"
 dv:bQ K t.aq "seed"
 aY:bQ K t.aq "tallies"
 bH:bQ K t.aq "lengths"
 dY:bQ K t.aw "drawer"
 bE:bQ K t.aw "deed_count"
 bI:bQ K t.aw "last_way"
 bc:bQ K t.aw "last_spot"
 cy:bQ K t.aw "stroke_count"
 cC:bQ K t.aw "reaches"
 fi:bQ K t.aw "touches"
 fj:bQ K t.aw "crosses"
 cb:bQ K t.aA "growth"
 cf:bQ K t.aA "tracks"
 A6:mg "DEEDS"=some (.ref t.lX)
 A7:∀ H,Rep K H (.ref t.lX) (.tup [.str "stroke",.str "step",.str "left",.str "right",.str "rest"])
 rA:mg "GOING_DEEDS"=some (.ref t.dj)
 rB:∀ H,Rep K H (.ref t.dj) (.tup [.str "stroke",.str "step"])
 C5:mg "MOST_ROWS"=some (.int 6 t.C4)
 xN:mg "MOST_IN_WORD"=some (.int 8 t.xH)
 sV:mg "LAST_ROUND"=some (.int 200 t.A5)
 xO:mg "MOST_WRITTEN"=some (.int 400 t.xI)
 gi:j7 K "check_round" mY ["age","first","last"] t.kF t.kG
 dZ:j7 K "check_written" lg ["many"] t.iW t.iY
 qD:j7 K "tally" sL ["rules","word"] t.vS t.vZ
 uA:j7 K "once" xm ["rules","word"] t.AZ t.A2
 me:j7 K "written" uo ["rules","word","age"] t.qA t.qB
 iP:j7 K "summed" jH ["tallies","letters"] t.nT t.sS
 dq:j7 K "waiting_pieces" e6 ["word","rounds"] t.gW t.hZ
 kQ:Og K "__init__" "Growth.__init__" eD ["self","rules","start"] t.gd t.kH
 c9:Meth K t.aq "rules_told" t.cj
 eP:fB K "rules_told" "Growth.rules_told" ip ["self"] t.cj t.eI
 dw:Meth K t.aq "deepen_to" t.bT
 fO:fB K "deepen_to" "Growth.deepen_to" bS ["self","age"] t.bT t.fL
 fP:Meth K t.aq "enter" t.fe
 jU:fB K "enter" "Growth.enter" mx ["self","age"] t.fe t.jM
 cX:Meth K t.aq "check_place" t.bX
 d9:fB K "check_place" "Growth.check_place" gJ ["self","age","place"] t.bX t.d8
 bM:Meth K t.aq "check_letter_place" t.aL
 b5:fB K "check_letter_place" "Growth.check_letter_place" c7 ["self","age","place"] t.aL t.b0
 cO:Meth K t.aq "check_letter" t.aX
 dH:fB K "check_letter" "Growth.check_letter" dC ["self","letter"] t.aX t.dD
 cE:Meth K t.aq "check_stretch" t.bx
 dc:fB K "check_stretch" "Growth.check_stretch" fH ["self","age","begin","end"] t.bx t.c8
 fk:Meth K t.aq "length" t.cU
 jc:fB K "length" "Growth.length" dQ ["self","age"] t.cU t.iZ
 fm:Meth K t.aq "counts" t.cV
 jd:fB K "counts" "Growth.counts" dR ["self","age"] t.cV t.i0
 fo:Meth K t.aq "pieces" t.cW
 je:fB K "pieces" "Growth.pieces" iV ["self","age","begin","end"] t.cW t.i3
 fQ:Meth K t.aq "ahead" t.dt
 jV:fB K "ahead" "Growth.ahead" e9 ["self","age","place"] t.dt t.jN
 dy:Meth K t.aq "letter_at" t.cA
 fR:fB K "letter_at" "Growth.letter_at" jl ["self","age","place"] t.cA t.fM
 dN:Meth K t.aq "place_of" t.b8
 gC:fB K "place_of" "Growth.place_of" gx ["self","age","letter","number"] t.b8 t.gz
 gk:Meth K t.aq "part" t.gf
 kR:fB K "part" "Growth.part" iO ["self","age","begin","end"] t.gf t.kI
 qE:j7 K "added" AG ["one","other"] t.vT t.v3
 qF:j7 K "cross" AH ["one","other"] t.vU t.v5
 fq:j7 K "turn_of_deed" my ["deed"] t.jK t.jO
 gm:Meth K t.aQ "way_of" t.d6
 ir:Meth K t.cw "way_of" t.d6
 lY:fB K "way_of" "Pen.way_of" oj ["self","number"] t.d6 t.lJ
 gq:Meth K t.aQ "turned" t.d7
 iu:Meth K t.cw "turned" t.d7
 lZ:fB K "turned" "Pen.turned" om ["self","spot","by"] t.d7 t.lK
 iw:Meth K t.aQ "step" t.gM
 jW:Meth K t.cw "step" t.gM
 oS:fB K "step" "Pen.step" rN ["self","way"] t.gM t.oO
 gN:Meth K t.aQ "after" t.fC
 jq:Meth K t.cw "after" t.fC
 mQ:fB K "after" "Pen.after" pQ ["self","deed","spot","way"] t.fC t.mO
 fu:Meth K t.aQ "ways" t.ff
 jX:fB K "ways" "Quarter.ways" mz ["self"] t.ff t.jP
 cF:Meth K t.aQ "turned_left" t.bK
 dJ:fB K "turned_left" "Quarter.turned_left" gj ["self","spot"] t.bK t.dF
 eE:Meth K t.aQ "along" t.dS
 jf:fB K "along" "Quarter.along" lh ["self","way","spot"] t.dS t.i4
 iy:Meth K t.cw "ways" t.gX
 l3:fB K "ways" "Sixth.ways" oo ["self"] t.gX t.lL
 dA:Meth K t.cw "turned_left" t.ck
 eQ:fB K "turned_left" "Sixth.turned_left" iq ["self","spot"] t.ck t.eJ
 gO:Meth K t.cw "along" t.gh
 kS:fB K "along" "Sixth.along" mZ ["self","way","spot"] t.gh t.kJ
 nV:j7 K "pen_of" xn ["ways"] t.sQ t.sT
 cQ:j7 K "is_small_letter" jI ["text"] t.gy t.gA
 fw:j7 K "is_word_over" gK ["word","letters"] t.jL t.jQ
 ib:j7 K "check_rows" fJ ["rows"] t.lI t.lM
 l4:Og K "__init__" "Rules.__init__" lF ["self","ways","rows"] t.fK t.lN
 jr:Meth K t.aN "pen" t.jv
 mR:fB K "pen" "Rules.pen" pR ["self"] t.jv t.mP
 fS:Meth K t.aN "letters" t.dU
 jg:fB K "letters" "Rules.letters" lj ["self"] t.dU t.i5
 gu:Meth K t.aN "row_of" t.du
 jY:fB K "row_of" "Rules.row_of" jJ ["self","letter"] t.du t.jR
 iz:Meth K t.aN "deed" t.gY
 l5:fB K "deed" "Rules.deed" ow ["self","letter"] t.gY t.lO
 iC:Meth K t.aN "word" t.gZ
 l6:fB K "word" "Rules.word" oy ["self","letter"] t.gZ t.lP
 fT:Meth K t.aN "word_of" t.bh
 uB:Binds K t.i6 ["self","text","most"] [.int 8 t.ja]
 vy:Cp K "word_of" "Rules.word_of" bg t.bh t.i6
 Jd:W.keepIn K (.ref t.bh)=true
 Je:Binds K t.i6 ["self","text","most"] []
 l7:Og K "__init__" "Track.__init__" oA ["self","pen","deed_count","last_way","last_spot","stroke_count","reaches","touches","crosses"] t.g7 t.lQ
 iD:Meth K t.aw "many" t.g8
 l8:fB K "many" "Track.many" oB ["self"] t.g8 t.lR
 iE:Meth K t.aw "turn" t.g9
 l9:fB K "turn" "Track.turn" oC ["self"] t.g9 t.lS
 fU:Meth K t.aw "strokes" t.dW
 jh:fB K "strokes" "Track.strokes" ll ["self"] t.dW t.i7
 ee:Meth K t.aw "shift" t.cJ
 xP:Binds K t.kK ["self","first"] [.int 0 t.kN]
 yQ:Cp K "shift" "Track.shift" cG t.cJ t.kK
 MZ:W.keepIn K (.ref t.cJ)=true
 yR:Binds K t.kK ["self","first"] []
 fV:Meth K t.aw "by_ways" t.dX
 ji:fB K "by_ways" "Track.by_ways" f7 ["self","numbers","first"] t.dX t.i8
 eu:Meth K t.aw "reach" t.cK
 xQ:Binds K t.kL ["self","first"] [.int 0 t.kO]
 yS:Cp K "reach" "Track.reach" cH t.cK t.kL
 M0:W.keepIn K (.ref t.cK)=true
 yT:Binds K t.kL ["self","first"] []
 eB:Meth K t.aw "touch" t.cL
 xR:Binds K t.kM ["self","first"] [.int 0 t.kP]
 yU:Cp K "touch" "Track.touch" cI t.cL t.kM
 M3:W.keepIn K (.ref t.cL)=true
 yV:Binds K t.kM ["self","first"] []
 iG:Meth K t.aw "area" t.hE
 ma:fB K "area" "Track.area" oE ["self"] t.hE t.lU
 gv:Meth K t.aw "joined" t.fg
 jZ:fB K "joined" "Track.joined" mB ["self","other"] t.fg t.jS
 iH:Meth K t.aw "told" t.hU
 md:fB K "told" "Track.told" oF ["self"] t.hU t.lW
 qG:j7 K "still" AI ["pen"] t.vV t.v7
 d0:j7 K "track_of_deed" cS ["pen","deed"] t.iX t.i9
 ko:j7 K "track_of" rO ["pen","deeds"] t.oM t.oP
 j0:Og K "__init__" "Drawing.__init__" gL ["self","growth"] t.fh t.jT
 de:Meth K t.aA "join_all" t.cB
 fW:fB K "join_all" "Drawing.join_all" jm ["self","tracks"] t.cB t.fN
 cY:Meth K t.aA "deepen_to" t.bD
 eU:fB K "deepen_to" "Drawing.deepen_to" cg ["self","age"] t.bD t.eK
 dB:Meth K t.aA "stretch" t.b9
 gD:fB K "stretch" "Drawing.stretch" cP ["self","age","begin","end"] t.b9 t.gB
 dO:Meth K t.aA "pen_at" t.dn
 ig:fB K "pen_at" "Drawing.pen_at" kj ["self","age","place"] t.dn t.ia
 uC:j7 K "_law_cell" EC ["_law_script","_law_k"] t.A0 t.A3
 kr:j7 K "_law_alphabet" rP ["_law_cell_here","_law_many"] t.oN t.oQ
 uD:j7 K "_law_text" ED ["_law_number","_law_alphabet_here","_law_most"] t.A1 t.A4
 qH:j7 K "_law_shape" AJ ["_law_script","_law_far"] t.vW t.v8
 mf:j7 K "_law_counted" qy ["_law_rows","_law_text_here"] t.nU t.qC
 zJ:j7 K "_law_row" s_row ["_law_rows","_law_letter"] t.Gn t.Gq
 zK:j7 K "_law_out" CT ["_law_rows","_law_text_here","_law_age","_law_most"] t.Gp t.Gs
 nW:j7 K "_law_turned" xp ["_law_ways","_law_spot","_law_by"] t.sR t.sU
 qI:j7 K "_law_along" AK ["_law_ways","_law_spot"] t.vX t.v9
 qJ:j7 K "_law_drawn" lG ["_law_ways","_law_rows","_law_text_here"] t.vY t.wa
 C6:j7 K "law" Gi ["_law_script"] t.rq t.xG
 La:mg "all"=none
 oT:mg "dict"=none
 mS:mg "enumerate"=none
 Lb:mg "int"=none
 fD:mg "len"=none
 A8:mg "list"=none
 Gu:mg "max"=none
 Lc:mg "min"=none
 eW:mg "range"=none
 rX:mg "reversed"=none
 xS:mg "sorted"=none
 zL:mg "sum"=none
 A9:mg "tuple"=none
theorem S6 {K:W.Frag}{h:Heap}{mg:Str->Option Value}(X:K.In h)(G:h.Ns mainGlobals mg){kF iW vS AZ qA nT gW gd cj bT fe bX aL aX bx cU cV cW dt cA b8 gf vT vU jK d6 d7 gM fC ff bK dS gX ck gh sQ gy jL lI fK jv dU du gY gZ bh g7 g8 g9 dW cJ dX cK cL hE fg hU vV iX oM fh cB bD b9 dn A0 oN A1 vW nU Gn Gp sR vX vY rq aQ cw aN aq aw aA lX dj:Addr}{kG iY vZ A2 qB sS hZ kH eI fL jM d8 b0 dD c8 iZ i0 i3 jN fM gz kI v3 v5 jO lJ lK oO mO jP dF i4 lL eJ kJ sT gA jQ lM lN mP i5 jR lO lP lQ lR lS i7 i8 lU jS lW v7 i9 oP jT fN eK gB ia A3 oQ A4 v8 qC Gq Gs sU v9 wa xG:FuncData}{ja kN kO kP y0 y1 y2 y3:Tok}{y4:Option Addr}{y5:Nat}{y6:Array (Option Value)}{Ld Lf Lg Lh Li:Tok}{y7:Option Addr}{y8:Nat}{y9:Array (Option Value)}{xU xV:Tok}{y10 y11:Option Addr}{y12:Array (Option Value)}{y13 y14 y15 y16 y17 y18:Value}{lu:Addr}{y19:Option Addr}{y20:Value}{y21:Nat}{y22:Array (Option Value)}{y23 y24:Option Addr}{y25:Array (Option Value)}{y26 y27 y28 y29 y30 y31:Value}{m7:Addr}{y32:Option Addr}{y33:Value}{y34:Nat}{y35:Array (Option Value)}{y36 y37:Option Addr}{y38:Array (Option Value)}{y39 y40 y41 y42 y43 y44:Value}{m8:Addr}{y45:Option Addr}{y46:Value}{y47:Nat}{y48:Array (Option Value)}{y49 y50:Option Addr}{y51:Array (Option Value)}{y52 y53 y54 y55 y56 y57:Value}{m9:Addr}{y58:Option Addr}{y59:Value}{y60:Nat}{y61:Array (Option Value)}
   (km:Iq K "Quarter" aQ)
   (oR:Iq K "Sixth" cw)
   (eO:Iq K "Rules" aN)
   (aB:Iq K "Growth" aq)
   (ay:Iq K "Track" aw)
   (bY:Iq K "Drawing" aA)
   (rV:RB K aQ)
   (xJ:RB K cw)
   (xK:L2.Mk K aN fK)
   (uz:L2.Mk K aq gd)
   (xM:L2.Mk K aw g7)
   (rW:L2.Mk K aA fh)
   (jb:W.findIn K (.ref aN) "drawer"=some none)
   (aR:W.findIn K (.ref aN) "row_by_letter"=some none)
   (aU:W.findIn K (.ref aq) "rules"=some none)
   (dv:W.findIn K (.ref aq) "seed"=some none)
   (aY:W.findIn K (.ref aq) "tallies"=some none)
   (bH:W.findIn K (.ref aq) "lengths"=some none)
   (dY:W.findIn K (.ref aw) "drawer"=some none)
   (bE:W.findIn K (.ref aw) "deed_count"=some none)
   (bI:W.findIn K (.ref aw) "last_way"=some none)
   (bc:W.findIn K (.ref aw) "last_spot"=some none)
   (cy:W.findIn K (.ref aw) "stroke_count"=some none)
   (cC:W.findIn K (.ref aw) "reaches"=some none)
   (fi:W.findIn K (.ref aw) "touches"=some none)
   (fj:W.findIn K (.ref aw) "crosses"=some none)
   (cb:W.findIn K (.ref aA) "growth"=some none)
   (cf:W.findIn K (.ref aA) "tracks"=some none)
   (Lj:W.nsIn K mainGlobals "DEEDS"=some (some (.ref lX)))
   (Lk:K.lookup lX=some ⟨.type "tuple",y4,.seq #[.str "stroke" Ld,.str "step" Lf,.str "left" Lg,.str "right" Lh,.str "rest" Li] y5,y6⟩)
   (xW:W.nsIn K mainGlobals "GOING_DEEDS"=some (some (.ref dj)))
   (xX:K.lookup dj=some ⟨.type "tuple",y7,.seq #[.str "stroke" xU,.str "step" xV] y8,y9⟩)
   (Ba:W.nsIn K mainGlobals "MOST_ROWS"=some (some (.int 6 y0)))
   (vz:W.nsIn K mainGlobals "MOST_IN_WORD"=some (some (.int 8 y1)))
   (yW:W.nsIn K mainGlobals "LAST_ROUND"=some (some (.int 200 y2)))
   (vA:W.nsIn K mainGlobals "MOST_WRITTEN"=some (some (.int 400 y3)))
   (gi:j7 K "check_round" mY ["age","first","last"] kF kG)
   (dZ:j7 K "check_written" lg ["many"] iW iY)
   (qD:j7 K "tally" sL ["rules","word"] vS vZ)
   (uA:j7 K "once" xm ["rules","word"] AZ A2)
   (me:j7 K "written" uo ["rules","word","age"] qA qB)
   (iP:j7 K "summed" jH ["tallies","letters"] nT sS)
   (dq:j7 K "waiting_pieces" e6 ["word","rounds"] gW hZ)
   (kQ:Og K "__init__" "Growth.__init__" eD ["self","rules","start"] gd kH)
   (c9:Meth K aq "rules_told" cj)
   (eP:fB K "rules_told" "Growth.rules_told" ip ["self"] cj eI)
   (dw:Meth K aq "deepen_to" bT)
   (fO:fB K "deepen_to" "Growth.deepen_to" bS ["self","age"] bT fL)
   (fP:Meth K aq "enter" fe)
   (jU:fB K "enter" "Growth.enter" mx ["self","age"] fe jM)
   (cX:Meth K aq "check_place" bX)
   (d9:fB K "check_place" "Growth.check_place" gJ ["self","age","place"] bX d8)
   (bM:Meth K aq "check_letter_place" aL)
   (b5:fB K "check_letter_place" "Growth.check_letter_place" c7 ["self","age","place"] aL b0)
   (cO:Meth K aq "check_letter" aX)
   (dH:fB K "check_letter" "Growth.check_letter" dC ["self","letter"] aX dD)
   (cE:Meth K aq "check_stretch" bx)
   (dc:fB K "check_stretch" "Growth.check_stretch" fH ["self","age","begin","end"] bx c8)
   (fk:Meth K aq "length" cU)
   (jc:fB K "length" "Growth.length" dQ ["self","age"] cU iZ)
   (fm:Meth K aq "counts" cV)
   (jd:fB K "counts" "Growth.counts" dR ["self","age"] cV i0)
   (fo:Meth K aq "pieces" cW)
   (je:fB K "pieces" "Growth.pieces" iV ["self","age","begin","end"] cW i3)
   (fQ:Meth K aq "ahead" dt)
   (jV:fB K "ahead" "Growth.ahead" e9 ["self","age","place"] dt jN)
   (dy:Meth K aq "letter_at" cA)
   (fR:fB K "letter_at" "Growth.letter_at" jl ["self","age","place"] cA fM)
   (dN:Meth K aq "place_of" b8)
   (gC:fB K "place_of" "Growth.place_of" gx ["self","age","letter","number"] b8 gz)
   (gk:Meth K aq "part" gf)
   (kR:fB K "part" "Growth.part" iO ["self","age","begin","end"] gf kI)
   (qE:j7 K "added" AG ["one","other"] vT v3)
   (qF:j7 K "cross" AH ["one","other"] vU v5)
   (fq:j7 K "turn_of_deed" my ["deed"] jK jO)
   (gm:Meth K aQ "way_of" d6)
   (ir:Meth K cw "way_of" d6)
   (lY:fB K "way_of" "Pen.way_of" oj ["self","number"] d6 lJ)
   (gq:Meth K aQ "turned" d7)
   (iu:Meth K cw "turned" d7)
   (lZ:fB K "turned" "Pen.turned" om ["self","spot","by"] d7 lK)
   (iw:Meth K aQ "step" gM)
   (jW:Meth K cw "step" gM)
   (oS:fB K "step" "Pen.step" rN ["self","way"] gM oO)
   (gN:Meth K aQ "after" fC)
   (jq:Meth K cw "after" fC)
   (mQ:fB K "after" "Pen.after" pQ ["self","deed","spot","way"] fC mO)
   (fu:Meth K aQ "ways" ff)
   (jX:fB K "ways" "Quarter.ways" mz ["self"] ff jP)
   (cF:Meth K aQ "turned_left" bK)
   (dJ:fB K "turned_left" "Quarter.turned_left" gj ["self","spot"] bK dF)
   (eE:Meth K aQ "along" dS)
   (jf:fB K "along" "Quarter.along" lh ["self","way","spot"] dS i4)
   (iy:Meth K cw "ways" gX)
   (l3:fB K "ways" "Sixth.ways" oo ["self"] gX lL)
   (dA:Meth K cw "turned_left" ck)
   (eQ:fB K "turned_left" "Sixth.turned_left" iq ["self","spot"] ck eJ)
   (gO:Meth K cw "along" gh)
   (kS:fB K "along" "Sixth.along" mZ ["self","way","spot"] gh kJ)
   (nV:j7 K "pen_of" xn ["ways"] sQ sT)
   (cQ:j7 K "is_small_letter" jI ["text"] gy gA)
   (fw:j7 K "is_word_over" gK ["word","letters"] jL jQ)
   (ib:j7 K "check_rows" fJ ["rows"] lI lM)
   (l4:Og K "__init__" "Rules.__init__" lF ["self","ways","rows"] fK lN)
   (jr:Meth K aN "pen" jv)
   (mR:fB K "pen" "Rules.pen" pR ["self"] jv mP)
   (fS:Meth K aN "letters" dU)
   (jg:fB K "letters" "Rules.letters" lj ["self"] dU i5)
   (gu:Meth K aN "row_of" du)
   (jY:fB K "row_of" "Rules.row_of" jJ ["self","letter"] du jR)
   (iz:Meth K aN "deed" gY)
   (l5:fB K "deed" "Rules.deed" ow ["self","letter"] gY lO)
   (iC:Meth K aN "word" gZ)
   (l6:fB K "word" "Rules.word" oy ["self","letter"] gZ lP)
   (fT:Meth K aN "word_of" bh)
   (y62:K.lookup bh=some ⟨y13,y10,.func (W.fnOf "word_of" "Rules.word_of" (cv bg) (aC bg) (af bg) (.ref lu) y14 y15 y16 y11 y17 y18),y12⟩)
   (y63:K.lookup lu=some ⟨y20,y19,.seq #[.int 8 ja] y21,y22⟩)
   (y64:W.codeIn K y17 "Rules.word_of"=true)
   (y65:W.keepIn K (.ref bh)=true)
   (l7:Og K "__init__" "Track.__init__" oA ["self","pen","deed_count","last_way","last_spot","stroke_count","reaches","touches","crosses"] g7 lQ)
   (iD:Meth K aw "many" g8)
   (l8:fB K "many" "Track.many" oB ["self"] g8 lR)
   (iE:Meth K aw "turn" g9)
   (l9:fB K "turn" "Track.turn" oC ["self"] g9 lS)
   (fU:Meth K aw "strokes" dW)
   (jh:fB K "strokes" "Track.strokes" ll ["self"] dW i7)
   (ee:Meth K aw "shift" cJ)
   (y66:K.lookup cJ=some ⟨y26,y23,.func (W.fnOf "shift" "Track.shift" (cv cG) (aC cG) (af cG) (.ref m7) y27 y28 y29 y24 y30 y31),y25⟩)
   (y67:K.lookup m7=some ⟨y33,y32,.seq #[.int 0 kN] y34,y35⟩)
   (y68:W.codeIn K y30 "Track.shift"=true)
   (y69:W.keepIn K (.ref cJ)=true)
   (fV:Meth K aw "by_ways" dX)
   (ji:fB K "by_ways" "Track.by_ways" f7 ["self","numbers","first"] dX i8)
   (eu:Meth K aw "reach" cK)
   (y70:K.lookup cK=some ⟨y39,y36,.func (W.fnOf "reach" "Track.reach" (cv cH) (aC cH) (af cH) (.ref m8) y40 y41 y42 y37 y43 y44),y38⟩)
   (y71:K.lookup m8=some ⟨y46,y45,.seq #[.int 0 kO] y47,y48⟩)
   (y72:W.codeIn K y43 "Track.reach"=true)
   (y73:W.keepIn K (.ref cK)=true)
   (eB:Meth K aw "touch" cL)
   (y74:K.lookup cL=some ⟨y52,y49,.func (W.fnOf "touch" "Track.touch" (cv cI) (aC cI) (af cI) (.ref m9) y53 y54 y55 y50 y56 y57),y51⟩)
   (y75:K.lookup m9=some ⟨y59,y58,.seq #[.int 0 kP] y60,y61⟩)
   (y76:W.codeIn K y56 "Track.touch"=true)
   (y77:W.keepIn K (.ref cL)=true)
   (iG:Meth K aw "area" hE)
   (ma:fB K "area" "Track.area" oE ["self"] hE lU)
   (gv:Meth K aw "joined" fg)
   (jZ:fB K "joined" "Track.joined" mB ["self","other"] fg jS)
   (iH:Meth K aw "told" hU)
   (md:fB K "told" "Track.told" oF ["self"] hU lW)
   (qG:j7 K "still" AI ["pen"] vV v7)
   (d0:j7 K "track_of_deed" cS ["pen","deed"] iX i9)
   (ko:j7 K "track_of" rO ["pen","deeds"] oM oP)
   (j0:Og K "__init__" "Drawing.__init__" gL ["self","growth"] fh jT)
   (de:Meth K aA "join_all" cB)
   (fW:fB K "join_all" "Drawing.join_all" jm ["self","tracks"] cB fN)
   (cY:Meth K aA "deepen_to" bD)
   (eU:fB K "deepen_to" "Drawing.deepen_to" cg ["self","age"] bD eK)
   (dB:Meth K aA "stretch" b9)
   (gD:fB K "stretch" "Drawing.stretch" cP ["self","age","begin","end"] b9 gB)
   (dO:Meth K aA "pen_at" dn)
   (ig:fB K "pen_at" "Drawing.pen_at" kj ["self","age","place"] dn ia)
   (uC:j7 K "_law_cell" EC ["_law_script","_law_k"] A0 A3)
   (kr:j7 K "_law_alphabet" rP ["_law_cell_here","_law_many"] oN oQ)
   (uD:j7 K "_law_text" ED ["_law_number","_law_alphabet_here","_law_most"] A1 A4)
   (qH:j7 K "_law_shape" AJ ["_law_script","_law_far"] vW v8)
   (mf:j7 K "_law_counted" qy ["_law_rows","_law_text_here"] nU qC)
   (zJ:j7 K "_law_row" s_row ["_law_rows","_law_letter"] Gn Gq)
   (zK:j7 K "_law_out" CT ["_law_rows","_law_text_here","_law_age","_law_most"] Gp Gs)
   (nW:j7 K "_law_turned" xp ["_law_ways","_law_spot","_law_by"] sR sU)
   (qI:j7 K "_law_along" AK ["_law_ways","_law_spot"] vX v9)
   (qJ:j7 K "_law_drawn" lG ["_law_ways","_law_rows","_law_text_here"] vY wa)
   (C6:j7 K "law" Gi ["_law_script"] rq xG)
   (La:W.nsIn K mainGlobals "all"=some none)
   (oT:W.nsIn K mainGlobals "dict"=some none)
   (mS:W.nsIn K mainGlobals "enumerate"=some none)
   (Lb:W.nsIn K mainGlobals "int"=some none)
   (fD:W.nsIn K mainGlobals "len"=some none)
   (A8:W.nsIn K mainGlobals "list"=some none)
   (Gu:W.nsIn K mainGlobals "max"=some none)
   (Lc:W.nsIn K mainGlobals "min"=some none)
   (eW:W.nsIn K mainGlobals "range"=some none)
   (rX:W.nsIn K mainGlobals "reversed"=some none)
   (xS:W.nsIn K mainGlobals "sorted"=some none)
   (zL:W.nsIn K mainGlobals "sum"=some none)
   (A9:W.nsIn K mainGlobals "tuple"=some none)
   : ∃ t,Txt K mg t/\t.rq=rq:=
 ⟨⟨kF,iW,vS,AZ,qA,nT,gW,gd,cj,bT,fe,bX,aL,aX,bx,cU,cV,cW,dt,cA,b8,gf,vT,vU,jK,d6,d7,gM,fC,ff,bK,dS,gX,ck,gh,sQ,gy,jL,lI,fK,jv,dU,du,gY,gZ,bh,g7,g8,g9,dW,cJ,dX,cK,cL,hE,fg,hU,vV,iX,oM,fh,cB,bD,b9,dn,A0,oN,A1,vW,nU,Gn,Gp,sR,vX,vY,rq,kG,iY,vZ,A2,qB,sS,hZ,kH,eI,fL,jM,d8,b0,dD,c8,iZ,i0,i3,jN,fM,gz,kI,v3,v5,jO,lJ,lK,oO,mO,jP,dF,i4,lL,eJ,kJ,sT,gA,jQ,lM,lN,mP,i5,jR,lO,lP,(W.fnOf "word_of" "Rules.word_of" (cv bg) (aC bg) (af bg) (.ref lu) y14 y15 y16 y11 y17 y18),lQ,lR,lS,i7,(W.fnOf "shift" "Track.shift" (cv cG) (aC cG) (af cG) (.ref m7) y27 y28 y29 y24 y30 y31),i8,(W.fnOf "reach" "Track.reach" (cv cH) (aC cH) (af cH) (.ref m8) y40 y41 y42 y37 y43 y44),(W.fnOf "touch" "Track.touch" (cv cI) (aC cI) (af cI) (.ref m9) y53 y54 y55 y50 y56 y57),lU,jS,lW,v7,i9,oP,jT,fN,eK,gB,ia,A3,oQ,A4,v8,qC,Gq,Gs,sU,v9,wa,xG,ja,kN,kO,kP,aQ,cw,aN,aq,aw,aA,lX,dj,y0,y1,y2,y3,K⟩,⟨rfl,
   W.mg_of X G,
   W.mg_none_of X G,
   km,
   oR,
   eO,
   aB,
   ay,
   bY,
   rV,
   xJ,
   xK,
   uz,
   xM,
   rW,
   jb,
   aR,
   aU,
   dv,
   aY,
   bH,
   dY,
   bE,
   bI,
   bc,
   cy,
   cC,
   fi,
   fj,
   cb,
   cf,
   W.mg_of X G Lj,
   fun H=>.tup (vs:=[.str "stroke",.str "step",.str "left",.str "right",.str "rest"]) (.inr ⟨_,_,_,Lk,rfl,rfl,aaW rfl,.cons ⟨_,rfl⟩ (.cons ⟨_,rfl⟩ (.cons ⟨_,rfl⟩ (.cons ⟨_,rfl⟩ (.cons ⟨_,rfl⟩ (.nil)))))⟩) (.cons (.str _) (.cons (.str _) (.cons (.str _) (.cons (.str _) (.cons (.str _) (.nil)))))),
   W.mg_of X G xW,
   fun H=>.tup (vs:=[.str "stroke",.str "step"]) (.inr ⟨_,_,_,xX,rfl,rfl,aaW rfl,.cons ⟨_,rfl⟩ (.cons ⟨_,rfl⟩ (.nil))⟩) (.cons (.str _) (.cons (.str _) (.nil))),
   W.mg_of X G Ba,
   W.mg_of X G vz,
   W.mg_of X G yW,
   W.mg_of X G vA,
   gi,
   dZ,
   qD,
   uA,
   me,
   iP,
   dq,
   kQ,
   c9,
   eP,
   dw,
   fO,
   fP,
   jU,
   cX,
   d9,
   bM,
   b5,
   cO,
   dH,
   cE,
   dc,
   fk,
   jc,
   fm,
   jd,
   fo,
   je,
   fQ,
   jV,
   dy,
   fR,
   dN,
   gC,
   gk,
   kR,
   qE,
   qF,
   fq,
   gm,
   ir,
   lY,
   gq,
   iu,
   lZ,
   iw,
   jW,
   oS,
   gN,
   jq,
   mQ,
   fu,
   jX,
   cF,
   dJ,
   eE,
   jf,
   iy,
   l3,
   dA,
   eQ,
   gO,
   kS,
   nV,
   cQ,
   fw,
   ib,
   l4,
   jr,
   mR,
   fS,
   jg,
   gu,
   jY,
   iz,
   l5,
   iC,
   l6,
   fT,
   fun s us X hl=>by obtain⟨z,y,rfl⟩:=R4 hl;exact BindsTo.of_defaults rfl (X _ _ y63) rfl rfl rfl,
   sC (st:=bg) y62 y64,
   y65,
   fun s us X hl=>match us,hl with | [_,_,_],_=>BindsTo.of_defaults rfl (X _ _ y63) rfl rfl rfl,
   l7,
   iD,
   l8,
   iE,
   l9,
   fU,
   jh,
   ee,
   fun s us X hl=>by obtain⟨z,rfl⟩:=D9 hl;exact BindsTo.of_defaults rfl (X _ _ y67) rfl rfl rfl,
   sC (st:=cG) y66 y68,
   y69,
   fun s us X hl=>by obtain⟨z,y,rfl⟩:=As hl;exact BindsTo.of_defaults rfl (X _ _ y67) rfl rfl rfl,
   fV,
   ji,
   eu,
   fun s us X hl=>by obtain⟨z,rfl⟩:=D9 hl;exact BindsTo.of_defaults rfl (X _ _ y71) rfl rfl rfl,
   sC (st:=cH) y70 y72,
   y73,
   fun s us X hl=>by obtain⟨z,y,rfl⟩:=As hl;exact BindsTo.of_defaults rfl (X _ _ y71) rfl rfl rfl,
   eB,
   fun s us X hl=>by obtain⟨z,rfl⟩:=D9 hl;exact BindsTo.of_defaults rfl (X _ _ y75) rfl rfl rfl,
   sC (st:=cI) y74 y76,
   y77,
   fun s us X hl=>by obtain⟨z,y,rfl⟩:=As hl;exact BindsTo.of_defaults rfl (X _ _ y75) rfl rfl rfl,
   iG,
   ma,
   gv,
   jZ,
   iH,
   md,
   qG,
   d0,
   ko,
   j0,
   de,
   fW,
   cY,
   eU,
   dB,
   gD,
   dO,
   ig,
   uC,
   kr,
   uD,
   qH,
   mf,
   zJ,
   zK,
   nW,
   qI,
   qJ,
   C6,
   W.mg_none_of X G La,
   W.mg_none_of X G oT,
   W.mg_none_of X G mS,
   W.mg_none_of X G Lb,
   W.mg_none_of X G fD,
   W.mg_none_of X G A8,
   W.mg_none_of X G Gu,
   W.mg_none_of X G Lc,
   W.mg_none_of X G eW,
   W.mg_none_of X G rX,
   W.mg_none_of X G xS,
   W.mg_none_of X G zL,
   W.mg_none_of X G A9⟩,rfl⟩
theorem S9 {K:W.Frag}{mg:Str->Option Value}{t:dM}(T:Txt K mg t)(s:Shared)(u:Value):BindsTo s t.xG ⟨[u],[]⟩ [("_law_script",u)]:=by
 obtain⟨oc,od,kV,doc,pm,an,aZ,ct,zg,e,lk,nz⟩:=T.C6.F.ex;rw[e];exact .of_eq rfl
abbrev CX:tR:=CX0
noncomputable def sg (c:Nat):Str:=⟨#[c]⟩
noncomputable def tx (w:List Nat):Str:=⟨w.toArray⟩
structure Row where
 c:Nat
 d:Str
 w:List Nat
noncomputable def pv:List Str:=["stroke","step","left","right","rest"]
noncomputable def nh (r:Row):Dt:=.tup [.str (sg r.c),.str r.d,.str (tx r.w)]
def small (c:Nat):Prop:=97<=c/\c<=122
structure a0 (rows:List Row):Prop where
 pos:0 < rows.length
 le:rows.length<=6
 nd:(rows.map (·.c)).Nodup
 sm:∀ r∈rows,small r.c
 dd:∀ r∈rows,r.d∈pv
 wp:∀ r∈rows,0 < r.w.length/\r.w.length<=8
 wo:∀ r∈rows,∀ x∈r.w,x∈rows.map (·.c)
noncomputable def uE (rows:List Row):List (Key×Dt):=rows.map fun r=>(.inr (sg r.c),nh r)
abbrev Rl:=List Dt->Res->Prop
noncomputable def wy (six:Bool):Int:=if six then 6 else 4
noncomputable def dM.pc (t:dM)(six:Bool):Addr:=if six then t.cw else t.aQ
noncomputable def dM.yX (t:dM)(six:Bool)(rows:List Row):Dt:=.obj t.aN [("drawer",.jz (.obj (t.pc six) [])),("row_by_letter",.cZ (uE rows))]
theorem pZ {a b:Nat}(h:sg a=sg b):a=b:=by
 have:=congrArg (fun s:Str=>s.cps.toList) h;simpa [sg] using this
theorem Ll {c:Nat}{L:List Nat}:sg c∈L.map sg ↔ c∈L:=by
 constructor
 . intro h
   obtain⟨x,hx,e⟩:=aaQ.mp h;rw[<- pZ e];exact hx
 . exact fun h=>aaQ.mpr ⟨c,h,rfl⟩
theorem aaM {c:Nat}(h:97<=c):RV "a" (sg c)=true:=by
 have e:("a":Str).cps.toList=[97]:=rfl;unfold RV;rw[e];show(!decide ([c] < [97]))=true;have:¬ ([c] < [97]):=by
   intro z;rcases List.cons_lt_cons_iff.mp z with z | ⟨_,z⟩
   . omega
   . exact absurd z (by simp)
 simp[this]
theorem aaN {c:Nat}(h:c<=122):RV (sg c) "z"=true:=by
 have e:("z":Str).cps.toList=[122]:=rfl;unfold RV;rw[e];show(!decide ([122] < [c]))=true;have:¬ ([122] < [c]):=by
   intro z;rcases List.cons_lt_cons_iff.mp z with z | ⟨_,z⟩
   . omega
   . exact absurd z (by simp)
 simp[this]
theorem xY (w:List Nat):Sg.signs (tx w)=(w.map sg).map Dt.str:=by
 unfold Sg.signs tx;rw[aai];rfl
theorem fX (w:List Nat):(tx w).length=w.length:=by show w.toArray.size=w.length;simp
theorem iQ {w:List Nat}(h:∀ x∈w,x < 128):lb (tx w)=true:=by
 unfold lb tx;rw[Array.all_eq_true_iff_forall_mem];intro x hx;exact decide_eq_true (h x (by simpa using hx))
theorem uF:∀ {rows:List Row},(rows.map (·.c)).Nodup->∀ {r:Row},r∈rows->mn (uE rows) (.inr (sg r.c))=some (nh r)
 | [],_,r,h=>by cases h
 | q::rows,nd,r,h=>by
   rw[aao,ab1] at nd;rcases aaJ.mp h with rfl | h
   . exact sF (p:=(.inr (sg r.c),nh r)) rfl
   . have ne:¬ (Sum.inr (sg q.c):Key)=.inr (sg r.c):=fun z=>nd.1 (by
       rw[pZ (Sum.inr.inj z)];exact aaQ.mpr ⟨r,h,rfl⟩)
     show mn ((.inr (sg q.c),nh q)::uE rows) _=_;rw[pM (p:=(.inr (sg q.c),nh q)) ne];exact uF nd.2 h
theorem qK {n:Nat}(h:n<=2000):n<=sizeLine:=aau h (by decide)
def Oo:Rl:=fun ds r=>∃ c,ds=[.str (sg c)]/\small c/\r=.ret (.bl true)
def Ta:Rl:=fun ds r=>∃ (w L:List Nat),ds=[.str (tx w),.lst ((L.map sg).map .str)]/\(0 < w.length/\w.length<=8)/\(∀ x∈w,x∈L)/\(∀ x∈L,small x)/\r=.ret (.bl true)
def Oq:Rl:=fun ds r=>∃ rows,ds=[.lst (rows.map nh)]/\a0 rows/\r=.ret .dk
noncomputable def Tb:Stmt->Scope
 | .Return (some (.BoolOp _ [_,.Call _ [.ListComp _ _ sc _] _ _] _)) _=>sc
 | _=>af (.Pass ⟨0,0,0,0⟩)
noncomputable abbrev Ot:Scope:=Tb ((aC gK).getD 0 (.Pass ⟨0,0,0,0⟩))
theorem Gv:gw Ot (af gK) pX ["sign","letters"] ["sign"] [1]=true:=by decide +kernel
noncomputable abbrev Iw:Scope:=PU ((aC fJ).getD 2 (.Pass ⟨0,0,0,0⟩))
theorem zM:gw Iw (af fJ) oK ["row"] ["row"] []=true:=by decide +kernel
noncomputable abbrev Ou:Scope:=PU ((aC fJ).getD 3 (.Pass ⟨0,0,0,0⟩))
theorem Gw:gw Ou (af fJ) oK ["first"] ["first"] []=true:=by decide +kernel
theorem cM {X:Cx}{G:Gr}{dl:List Slot}{zs zs':List Dt}{wi:TI}(h:sE X G dl zs wi)(e:zs'=zs):sE X G dl zs' wi:=by subst e;exact h
variable {P:Program}{w:World}{K:W.Frag}{mg:Str->Option Value}{base:Heap}{t:dM}
theorem Lm (T:Txt K mg t):GF P w K mg base CX 1 "is_small_letter" 1 Oo:=by
 refine⟨_,_,_,gS T.cQ.F rR rfl fun aZ A outer s H E G ds r hr hl hR=>?_,(T.g T.cQ.a),T.cQ.F.kp,T.cQ.b⟩;obtain⟨c,rfl,⟨h1,h2⟩,rfl⟩:=hR;exact⟨_,.rt _,ao (aG (D4 (u:=true) (v:=true) (aK (RF (vG T.fD (aa 0 rfl) (qK (n:=1) (by decide))) aj) rfl) fun _=>(Al (aK (Kh bC (aa 0 rfl) bC) (by rw[aaM h1,aaN h2];rfl)))))⟩
theorem Ov (T:Txt K mg t):GF P w K mg base CX 1 "is_word_over" 2 Ta:=by
 refine⟨_,_,_,gS T.fw.F vq rfl fun aZ A outer s H E G ds r hr hl hR=>?_,(T.g T.fw.a),T.fw.F.kp,T.fw.b⟩;obtain⟨wd,L,rfl,⟨h0,h8⟩,hw,hL,rfl⟩:=hR;have R3:lb (tx wd)=true:=iQ fun x hx=>by have:=hL x (hw x hx);unfold small at this;omega
 have hlen:=fX wd;have e1:(decide ((1:Int)<=((tx wd).length:Nat)) && decide (((tx wd).length:Nat)<=(8:Int)))=true:=by
   rw[hlen,decide_eq_true (by omega),decide_eq_true (by omega)];rfl
 have e2:(((wd.filter fun _=>true).map fun x=>Dt.bl (decide (sg x∈L.map sg))))=((aaj wd.length true).map Dt.bl):=by
   rw[aan.mpr (fun _ _=>rfl)];refine List.ext_getElem (by simp) fun i h1 h2=>?_
   simp only[aaL,List.getElem_replicate];have hi:i < wd.length:=by simpa using h1
   rw[decide_eq_true (Ll.mpr (hw _ (aaY hi)))]
 have e3:(aaj wd.length true).all id=true:=by simp
 have es:wd.map (fun x=>Dt.str (sg x))=Sg.signs (tx wd):=by rw[xY,aai];rfl
 refine⟨_,.rt _,ao (aG (D4 (u:=true) (v:=true) (aK (Ki aj (vG T.fD (aa 0 rfl) (qK (by omega))) (kC (w:=.int 8) T.xN ⟨_,rfl⟩ fun _=>.int 8)) (congrArg Dt.bl e1)) fun _=>(Al (aK (RX (bs:=aaj wd.length true) T.La rfl (aK (mL (dr wd (fun x=>Dt.str (sg x)) (fun x=>.bl (decide (sg x∈L.map sg))) (fun x=>[.val (.str (sg x))]) (fun _=>true) rfl (aW Gv) (fG (aa 0 rfl)) (bA (aW Gv) rfl) (cM (b7 R3) es) (fun a _=>bG) (.nil fun _ _=>rfl)
   (fun a ha _ C fp s' H' G'=>RW (aa 0 rfl) (aa 1 rfl)) (qK (by omega)))) (congrArg Dt.lst e2))) (congrArg Dt.bl e3)))))⟩
theorem EI {k:Nat}{ds:List Dt}{K:W.Frag}{H:Hp}{vs:List V}(r:bJ K H vs ds)(hk:k<=ds.length):bJ K H (Hx vs none (some (k:Int))) (ds.take k):=by
 unfold Hx;rw[HT.JB,HT.Np,List.drop_zero,r.length,Nat.min_eq_left hk,Nat.sub_zero];exact r.take k
theorem Ow {X:Cx}{G:Gr}{dl:List Slot}{a b:Expr}{ds:List Dt}{k:Nat}{pos p2:Pos}(ha:EE X G dl a (.lst ds))(hb:EE X G dl b (.int (k:Int)))(hk:k<=ds.length):EO X G dl (.Subscript a (.Slice none (some b) none p2) pos) (.lst (ds.take k)):=
 iK (B4 Nr ha FC (FE hb)) fun st H Q zq=>ZL zq fun Hf zq=>have S:=zq.1;have kk:=zq.2;⟨Hf,S,fun v Hf1 H1 g1 r1=>by
   cases r1 with
   | @lst q vs _ hq rp=>
     refine⟨Hf1,S.grow g1,fun z b6 H2 g2 r2=>?_⟩;cases r2;have g:=g1.trans g2;refine⟨(k:Int),rfl,q,vs,rfl,.of (g2.big _ _ (g1.sub _ _ hq)),fun p hp=>kk p b6 _ (g.trans (.fF g.sub hp)) (g.big.free hp) (g.sub.free hp) ⟨_,ak,EI (rp.mono g2.bU) hk⟩⟩⟩
theorem df {L:List Dt}{L':List Dt}(e:L=L'){X:Cx}{G:Gr}{dl:List Slot}{z:Expr}(h:EO X G dl z (.lst L)):EE X G dl z (.lst L'):=by subst e;exact mL h
theorem Ln (T:Txt K mg t):GF P w K mg base CX 2 "check_rows" 1 Oq:=by
 refine⟨_,_,_,gS T.ib.F rj rfl fun aZ A outer s H E G ds r hr hl hR=>?_,(T.g T.ib.a),T.ib.F.kp,T.ib.b⟩;obtain⟨rows,rfl,ok,rfl⟩:=hR;have Gx:=Lm (P:=P) (w:=w) (base:=base) T;have Tc:=Ov (P:=P) (w:=w) (base:=base) T;have nd:=rj.nd;have hp:=ok.pos;have hl6:=ok.le;let cs:=rows.map (·.c);let lt:List Dt:=(cs.map sg).map Dt.str;have e0:(decide ((((rows.map nh).length:Nat):Int)=0))=false:=by rw[k5];exact decide_eq_false (by omega)
 have e1:(decide ((6:Int) < (((rows.map nh).length:Nat):Int)))=false:=by rw[k5];exact decide_eq_false (by omega)
 have ef:((rows.filter fun _=>true).map fun r=>Dt.str (sg r.c))=lt:=by
   rw[aan.mpr (fun _ _=>rfl)];show _=((rows.map (·.c)).map sg).map Dt.str;rw[aai,aai];rfl
 have ez:(rows.map fun r=>Dt.str (sg r.c))=lt:=by
   show _=((rows.map (·.c)).map sg).map Dt.str;rw[aai,aai];rfl
 have hsz:rows.length<=sizeLine:=qK (by omega);let S:Nat->List Slot:=fun _=>[.val (.lst (rows.map nh)),.val (.lst lt),.val (.lst lt),.aS,.aS,.aS]
 let xs:=rows.map nh;have Ox:xs.length=rows.length:=k5 ..;refine⟨.nx (S rows.length),.nx _,ag (aM (u:=false) (aP (mX (FT T.fD (aa 0 rfl)) aj) e0) (fun h=>nomatch h) (fun h=>bu))
   (ag (aM (u:=false) (aP (oZ (FT T.fD (aa 0 rfl)) (kC (w:=.int 6) T.C5 ⟨_,rfl⟩ fun _=>.int 6)) e1) (fun h=>nomatch h) (fun h=>bu))
   (ag (Kc 1 rows nh (fun r=>Dt.str (sg r.c)) (fun r=>[.val (nh r)]) (fun _=>true) rfl nd (aW zM) (fE (aa 0 rfl)) (bA (aW zM) rfl) dP (fun a _=>bG) (.nil fun _ _=>rfl) (fun a ha _ C fp s' H' G'=>aF (aa 0 rfl) aj rfl) hsz)
   ?r1))⟩
 rw[ef];refine rG 1 (w:=.lst lt) (ag (Kc 2 rows (fun r=>Dt.str (sg r.c)) (fun r=>Dt.str (sg r.c)) (fun r=>[.val (.str (sg r.c))]) (fun _=>true) rfl nd (aW Gw) (fE (aa 1 rfl)) (bA (aW Gw) rfl) (cM dP ez) (fun a _=>bG)
   (.one fun a ha C fp s' H' G'=>JL (bW Gx av hr (ae (aa 0 rfl) ah) ⟨a.c,rfl,ok.sm a ha,rfl⟩)) (fun a ha _ C fp s' H' G'=>aa 0 rfl) hsz) ?r2)
 rw[ef];refine rG 2 (w:=.lst lt) (ao (oh (o:=.nx (S rows.length)) (m:=rows.length) (aah xs.length) (fun(j:Nat)=>.tup [.int j,xs.getD j .dk]) (fun(j:Nat) dl=>(dl.set 3 (.val (.int j))).set 4 (.val (xs.getD j .dk))) S rfl PassesOwn.leaving
   (NT rfl T.mS (ae (aa 0 rfl) ah)) (HS (xs:=xs)) (tN rfl (cN (bo nd rfl (.inl rfl)) (cN (bo nd rfl (.inl rfl)) n8))) (fun a _=>F4) (Le.of ⟨rfl,rfl,rfl,trivial⟩) (by rw[aaV,Ox];exact aaa _) (fun j a hj ha=>?l) (by rw[aaV,Ox];exact .all rfl)))
 rw[aa0 (by omega)] at ha;cases ha;have ex:xs.getD j .dk=nh rows[j]:=by
   show(rows.map nh).getD j .dk=_;rw[Bn,aab,k3 hj];rfl
 have hm:=aaY hj;have ZO:cs.length=rows.length:=k5 ..;have eT:lt.take j=((cs.take j).map sg).map Dt.str:=by
   show((cs.map sg).map Dt.str).take j=_;rw[<- List.map_take,<- List.map_take]
 have di:lt.length=rows.length:=by show((cs.map sg).map Dt.str).length=_;rw[k5,k5,ZO]
 have aaO:sg rows[j].c ∉ (cs.take j).map sg:=by
   intro z;have z:=Ll.mp z;obtain⟨i,hi,e⟩:=aa8.mp z;rw[aas] at hi;rw[ab2] at e;have h:=abt.mp ok.nd i j (by rw[k5];omega) (by rw[k5];exact hj) (by omega);exact h (e.trans (aaL (f:=Row.c) (l:=rows) (i:=j) (h:=by rw[k5];exact hj)).symm)
 have en:(!decide (sg rows[j].c∈(cs.take j).map sg))=true:=by rw[decide_eq_false aaO];rfl
 have v4:∀ {X:Cx} {G:Gr} {dl:List Slot} {e:Expr},EE X G dl e (xs.getD j .dk)->EE X G dl e (.tup [.str (sg rows[j].c),.str rows[j].d,.str (tx rows[j].w)]):=fun h=>by rw[ex] at h;exact h
 refine .nx (ag (au 5 nd (D4 (u:=true) (v:=true) (bW Gx av hr (ae (aF (v4 (aa 4 rfl)) aj rfl) ah) ⟨_,rfl,ok.sm _ hm,rfl⟩) fun _=>(Al (aK (NU (xs:=(cs.take j).map sg) (aF (v4 (aa 4 rfl)) aj rfl) (df eT (Ow (aa 1 rfl) (aa 3 rfl) (by rw[di];exact abw hj)))) (congrArg Dt.bl en)))))
   (ao (aM (u:=false) (Ry (u:=true) (su (wN (u:=true) (v:=true) (JL (aa 5 rfl)) fun _=>(wN (u:=true) (v:=true) (aP (Ed (xs:=pv) (aF (v4 (aa 4 rfl)) aj rfl) (kC (w:=.ref t.lX) T.A6 rfl T.A7)) (decide_eq_true (ok.dd _ hm))) fun _=>(Ak (JL (bW Tc av hr (ae (aF (v4 (aa 4 rfl)) aj rfl) (ae (aa 2 rfl) ah)) ⟨rows[j].w,cs,rfl,ok.wp _ hm,ok.wo _ hm,fun x hx=>?_,rfl⟩))))))) (fun h=>nomatch h) (fun h=>bu)))) (Le.of ⟨rfl,rfl,rfl,trivial⟩)
 obtain⟨r,hr',rfl⟩:=aaQ.mp hx;exact ok.sm r hr'
def Lo (t:dM):Rl:=fun ds r=>∃ six,ds=[.int (wy six)]/\r=.ret (.jz (.obj (t.pc six) []))
def Oy (t:dM):Rl:=fun ds r=>∃ six rows,ds=[.int (wy six),.lst (rows.map nh)]/\a0 rows/\r=.own (.obj t.aN [("drawer",.jz (.obj (t.pc six) [])),("row_by_letter",.cZ (uE rows))])
noncomputable def rr (r:Row):Str×List Dt:=(sg r.c,[.str r.d,.str (tx r.w)])
theorem Gy (rows:List Row):rows.map nh=(rows.map rr).map wZ:=by rw[aai];rfl
theorem Td (rows:List Row):uE rows=q9 (rows.map rr):=by unfold q9 uE;rw[aai];rfl
theorem W2 {rows:List Row}(nd:(rows.map (·.c)).Nodup):((rows.map rr).map (·.1)).Nodup:=by
 have e:(rows.map rr).map (·.1)=(rows.map (·.c)).map sg:=by rw[aai,aai];rfl
 rw[e];exact List.Pairwise.map sg (fun a b h z=>h (pZ z)) nd
theorem Iy (T:Txt K mg t):GF P w K mg base CX 1 "pen_of" 1 (Lo t):=by
 refine⟨_,_,_,gS T.nV.F Iu rfl fun aZ A outer s H E G ds r hr hl hR=>?_,(T.g T.nV.a),T.nV.F.kp,T.nV.b⟩;obtain⟨six,rfl,rfl⟩:=hR;cases six with
 | false=>exact⟨_,.rt _,mK (aM (mX (aa 0 rfl) aj) (fun h=>ao (aG (CP T.rV (T.g T.km.a)))) (fun h=>absurd h (by decide)))⟩
 | true=>exact⟨_,.rt _,ag (aM (mX (aa 0 rfl) aj) (fun h=>absurd h (by decide)) (fun h=>bu)) (mK (aM (mX (aa 0 rfl) aj) (fun h=>ao (aG (CP T.xJ (T.g T.oR.a)))) (fun h=>absurd h (by decide))))⟩
theorem Lp (T:Txt K mg t):UD P w K mg base CX 3 "Rules" t.aN 3 (Oy t):=by
 refine⟨_,_,_,Yi T.l4.F rm rfl fun aZ A outer s H E G z ds r hr hl hR=>?_,T.xK,(T.g T.eO.a),T.l4.b⟩;obtain⟨six,rows,rfl,ok,rfl⟩:=hR;have W3:=Iy (P:=P) (w:=w) (base:=base) T;have Oz:=Ln (P:=P) (w:=w) (base:=base) T;have nd:=rm.nd;have hu:(A.deeper (envOfC "Rules.__init__" (af lF) s.heap.objs.size t.fK aZ)).units+1 < cLine:=by have:=hr.units;omega
 rw[Td,Gy];refine⟨_,.nx ?fin,ag (au 3 nd (bW W3 av hr (ae (aa 1 rfl) ah) ⟨six,rfl,rfl⟩))
   (ag (kB (bW Oz av hr (ae (aa 2 rfl) ah) ⟨rows,by rw[Gy],ok,rfl⟩))
   (ag (k9 (aa 3 rfl) T.eO.cl T.jb)
   (Kl 2 4 (C:=t.aN) (rows:=rows.map rr) (dlu:=[.aS,.val (.int (wy six)),.val (.lst ((rows.map rr).map wZ)),.val (.jz (.obj (t.pc six) [])),.aS]) hu nd rfl PassesOwn.leaving T.eO.cl T.aR rfl rfl rfl rfl (by decide) (by decide) rfl (W2 ok.nd) (by rw[k5];exact aaT ok.le (by decide))
     (fun r=>aF (aa 4 rfl) aj (mJ (j:=0) rfl)) (fun r=>NX T.A9 (aa 4 rfl)))))⟩
 rfl
open PySem.Builtin.Str in
theorem uG (x:Str){a b:Nat}(W4:a<=b)(hb:b<=x.length){l u:Option Int}(h:strSliceIndices l u 1 x.length=strSliceIndices (some (a:Int)) (some (b:Int)) 1 x.length):Txt.slice x l u=⟨((x.cps.toList.drop a).take (b - a)).toArray⟩:=by
 unfold Txt.slice;rw[h,PySem.StrLaws.sliced_plain x W4 hb]
 split
 . rename_i q
   rw[PySem.StrLaws.strSliceIndices_plain W4 hb,k5,aaV] at q;have q:b - a=x.length:=by simpa using q
   have ea:a=0:=by omega
   have eb:b=x.length:=by omega
   subst ea eb;rw[List.drop_zero,Nat.sub_zero];have:x.cps.toList.take x.length=x.cps.toList:=abT (by simp[Str.length]);rw[this]
 . rfl
open PySem.Builtin.Str in
theorem Lq (L:List Nat){k:Nat}(h:k<=L.length):Txt.slice (tx L) none (some (k:Int))=tx (L.take k):=by
 rw[uG (tx L) (a:=0) (b:=k) (aa1 _) (by rw[fX];exact h)]
 . show(⟨(((L.toArray.toList).drop 0).take (k - 0)).toArray⟩:Str)=_
   simp[tx]
 . simp[strSliceIndices]
   have e:max (0:Int) (min 0 ((tx L).length:Int))=0:=by omega
   rw[e]
open PySem.Builtin.Str in
theorem EJ (L:List Nat){k:Nat}(h:k<=L.length):Txt.slice (tx L) (some (k:Int)) none=tx (L.drop k):=by
 rw[uG (tx L) (a:=k) (b:=(tx L).length) (by rw[fX];exact h) (aaa _)]
 . show(⟨(((L.toArray.toList).drop k).take ((tx L).length - k)).toArray⟩:Str)=_
   rw[fX,acu,abT (by rw[abu];exact aaa _)];rfl
 . simp[strSliceIndices]
   have e:max (0:Int) (min (if ((tx L).length:Int) < 0 then ((tx L).length:Int)+(tx L).length else (tx L).length) ((tx L).length:Int))=(tx L).length:=by
     rw[if_neg (by omega)];omega
   rw[e]
theorem Te (a b:List Nat):tx a ++ tx b=tx (a ++ b):=by
 show(⟨a.toArray ++ b.toArray⟩:Str)=⟨(a ++ b).toArray⟩;simp
theorem W5 (L:List Nat){k:Nat}(h:k < L.length):qi (tx L).cps.toList (k:Int)=some (L.getD k 0):=by
 show qi L.toArray.toList (k:Int)=_;rw[acu];refine mJ ?_;rw[Bn,k3 h];rfl
section
variable {X:Cx}{G:Gr}{dl:List Slot}{a b:Expr}{L M:List Nat}{k:Nat}{pos p p2:Pos}
theorem Bb (ha:EE X G dl a (.str (tx L)))(hb:EE X G dl b (.str (tx M)))(h:L.length+M.length<=2000):EE X G dl (.BinOp a .Add b pos) (.str (tx (L ++ M))):=
 aK (Rx ha hb (by rw[fX,fX];exact qK h)) (by rw[Te])
theorem wb (ha:EE X G dl a (.str (tx L)))(hb:EE X G dl b (.int (k:Int)))(h:k < L.length)(hl:L.length<=2000)(hs:autoParam (lD b) wl):EE X G dl (.Subscript a b pos) (.str (tx [L.getD k 0])):=
 RA ha hb (W5 L h) (by rw[fX];exact qK hl) hs
theorem Bc (ha:EE X G dl a (.str (tx L)))(hb:EE X G dl b (.int (k:Int)))(h:k<=L.length)(hl:L.length<=2000):EE X G dl (.Subscript a (.Slice none (some b) none p2) pos) (.str (tx (L.take k))):=
 aK (Eh ha Ke (vL hb) (by rw[fX];exact qK hl)) (by rw[Lq L h])
theorem Iz (ha:EE X G dl a (.str (tx L)))(hb:EE X G dl b (.int (k:Int)))(h:k<=L.length)(hl:L.length<=2000):EE X G dl (.Subscript a (.Slice (some b) none none p2) pos) (.str (tx (L.drop k))):=
 aK (Eh ha (vL hb) Ke (by rw[fX];exact qK hl)) (by rw[EJ L h])
theorem gQ (hm:X.mg "len"=none)(ha:EE X G dl a (.str (tx L)))(hl:L.length<=2000)(hg:autoParam (Gl X "len") jp)(he:autoParam (starEach [a] X.env=[(false,eval a X.env)]) jp):EE X G dl (.Call (.Name "len" p) [a] [] pos) (.int (L.length:Nat)):=
 aK (vG hm ha (by rw[fX];exact qK hl) hg he) (by rw[fX])
end
theorem Gz:∀ (Ls:List (List Nat)) (a:List Nat),(Ls.map tx).foldl (fun acc p=>acc ++ (("":Str).cps) ++ p.cps) a.toArray=(a ++ Ls.flatten).toArray
 | [],a=>by simp
 | l::r,a=>by
   have e:a.toArray ++ ("":Str).cps ++ (tx l).cps=(a ++ l).toArray:=by
     show a.toArray ++ (#[]:Array Nat) ++ l.toArray=_;simp
   rw[aao,List.foldl_cons,e,Gz r,abC,List.append_assoc]
theorem OA (Ls:List (List Nat)):Txt.join "" (Ls.map tx)=tx Ls.flatten:=by
 cases Ls with
 | nil=>rfl
 | cons l r=>
   show(⟨(r.map tx).foldl (fun acc p=>acc ++ (("":Str).cps) ++ p.cps) l.toArray⟩:Str)=_;rw[Gz,abC];rfl
theorem mh {X:Cx}{G:Gr}{dl:List Slot}{a e:Expr}{apos bR:Pos}{Ls:List (List Nat)}(ha:EE X G dl a (.str ""))(he:EE X G dl e (.lst ((Ls.map tx).map .str)))(hw:Ls.flatten.length+Ls.length<=100000)(jx:autoParam (attributeBase a "join" X.env (eval a X.env)=eval a X.env) jp)
   (tS:autoParam (((backTo bR (starEach [e] X.env)).all (fun x=>!x.1) && (backToKw bR (keywordEach [] X.env)).all (fun x=>x.1.isSome) && decide ([e].length+([]:List Keyword).length+(if ([]:List Keyword).isEmpty then 0 else 1) < 30))=true) jp)
   (jy:autoParam ((apos.endLine == bR.line)=true) jp) (ny:autoParam (starEach [e] X.env=(false,eval e X.env)::starEach [] X.env) jp):EE X G dl (.Call (.Attribute a "join" apos) [e] [] bR) (.str (tx Ls.flatten)):=by
 have e1:((Ls.map tx).map (·.length)).sum=Ls.flatten.length:=by
   rw[List.length_flatten,aai]
   congr 1
 exact aK (NW ha he (joinOk_of_weight (by rw[e1,k5];omega) (by decide)) jx tS jy ny) (by rw[OA])
theorem C7:∀ rows:List Row,(rows.map fun r=>[r.c]).flatten=rows.map (·.c)
 | []=>rfl
 | a::r=>by rw[aao,abC,C7 r];rfl
noncomputable def dM.vB (t:dM)(six:Bool)(rows:List Row):List (Str×Dt):=[("drawer",.jz (.obj (t.pc six) [])),("row_by_letter",.cZ (uE rows))]
noncomputable def ni (rows:List Row)(x:Nat):Str:=((rows.find? fun r=>decide (r.c=x)).map (·.d)).getD ""
noncomputable def wordOf (rows:List Row)(x:Nat):List Nat:=((rows.find? fun r=>decide (r.c=x)).map (·.w)).getD []
theorem f9 {rows:List Row}{x:Nat}(h:x∈rows.map (·.c)):∃ r∈rows,r.c=x/\ni rows x=r.d/\wordOf rows x=r.w:=by
 obtain⟨q,hq,e⟩:=aaQ.mp h;cases f:rows.find? (fun r=>decide (r.c=x)) with
 | none=>exact absurd (decide_eq_true e) (by simpa using List.find?_eq_none.mp f q hq)
 | some r=>
   refine⟨r,List.mem_of_find?_eq_some f,of_decide_eq_true (List.find?_some (p:=fun r:Row=>decide (r.c=x)) f),?_,?_⟩
   . unfold ni;rw[f];rfl
   . unfold wordOf;rw[f];rfl
def EK (t:dM):Rl:=fun ds r=>∃ six rows,ds=[t.yX six rows]/\a0 rows/\r=.ret (.str (tx (rows.map (·.c))))
def Lr (t:dM):Rl:=fun ds r=>∃ six rows q,ds=[t.yX six rows,.str (sg q.c)]/\a0 rows/\q∈rows/\r=.ret (nh q)
def OB (t:dM):Rl:=fun ds r=>∃ six rows x,ds=[t.yX six rows,.str (sg x)]/\a0 rows/\x∈rows.map (·.c)/\r=.ret (.str (ni rows x))
def OC (t:dM):Rl:=fun ds r=>∃ six rows x,ds=[t.yX six rows,.str (sg x)]/\a0 rows/\x∈rows.map (·.c)/\r=.ret (.str (tx (wordOf rows x)))
theorem zN (T:Txt K mg t):MF P w K mg base CX 1 t.aN "row_of" 2 (Lr t):=by
 refine⟨T.eO.cl,_,_,_,gS T.jY.F vv rfl fun aZ A outer s H E G ds r hr hl hR=>?_,T.gu,T.jY.b⟩;obtain⟨six,rows,q,rfl,ok,hq,rfl⟩:=hR;have hu:(A.deeper (envOfC "Rules.row_of" (af jJ) s.heap.objs.size t.du aZ)).units+1 < cLine:=by have:=hr.units;omega
 have hv:=uF ok.nd hq;exact⟨_,.rt _,ag (aM (u:=false) (aP (F7 hu (aa 1 rfl) (aE (fs:=t.vB six rows) (aa 0 rfl) T.eO.cl T.aR rfl)) (by rw[hv];rfl)) (fun h=>nomatch h) (fun h=>bu))
   (ao (aG (F6 hu (aE (fs:=t.vB six rows) (aa 0 rfl) T.eO.cl T.aR rfl) (aa 1 rfl) hv (fun _ _=>rfl))))⟩
theorem p7 (T:Txt K mg t):MF P w K mg base CX 2 t.aN "word" 2 (OC t):=by
 refine⟨T.eO.cl,_,_,_,gS T.l6.F yH rfl fun aZ A outer s H E G ds r hr hl hR=>?_,T.iC,T.l6.b⟩;obtain⟨six,rows,x,rfl,ok,hx,rfl⟩:=hR;obtain⟨q,hq,rfl,e1,e2⟩:=f9 hx;have m:=zN (P:=P) (w:=w) (base:=base) T;rw[e2];exact⟨_,.rt _,ao (aG (aF (aT (fs:=t.vB six rows) (aa 0 rfl) m av hr (ae (aa 1 rfl) ah) ⟨six,rows,q,rfl,ok,hq,rfl⟩) aj rfl))⟩
theorem gR (T:Txt K mg t):MF P w K mg base CX 1 t.aN "letters" 1 (EK t):=by
 refine⟨T.eO.cl,_,_,_,gS T.jg.F uv rfl fun aZ A outer s H E G ds r hr hl hR=>?_,T.fS,T.jg.b⟩;obtain⟨six,rows,rfl,ok,rfl⟩:=hR;have h6:=ok.le;have el:((uE rows).map fun kd=>kD kd.1)=((rows.map fun r=>[r.c]).map tx).map Dt.str:=by
   unfold uE;rw[aai,aai,aai];rfl
 have ef:(rows.map fun r=>[r.c]).flatten=rows.map (·.c):=C7 rows;refine⟨_,.rt _,ao (aG (aK (mh (Ls:=rows.map fun r=>[r.c]) bC (df el (Kn T.A8 rfl (aE (fs:=t.vB six rows) (aa 0 rfl) T.eO.cl T.aR rfl))) (by rw[ef,k5,k5];omega)) (by rw[ef])))⟩
theorem Lu (T:Txt K mg t):MF P w K mg base CX 2 t.aN "deed" 2 (OB t):=by
 refine⟨T.eO.cl,_,_,_,gS T.l5.F yG rfl fun aZ A outer s H E G ds r hr hl hR=>?_,T.iz,T.l5.b⟩;obtain⟨six,rows,x,rfl,ok,hx,rfl⟩:=hR;obtain⟨q,hq,rfl,e1,e2⟩:=f9 hx;have m:=zN (P:=P) (w:=w) (base:=base) T;rw[e1];exact⟨_,.rt _,ao (aG (aF (aT (fs:=t.vB six rows) (aa 0 rfl) m av hr (ae (aa 1 rfl) ah) ⟨six,rows,q,rfl,ok,hq,rfl⟩) aj rfl))⟩
def zO (t:dM):Rl:=fun ds r=>∃ (six:Bool) (rows:List Row) (w:List Nat) (m:Nat),ds=[t.yX six rows,.str (tx w),.int (m:Nat)]/\a0 rows/\(∀ x∈w,x∈rows.map (·.c))/\(0 < w.length/\w.length<=m/\m<=1000)/\r=.ret (.str (tx w))
theorem OD (w:List Nat):w.map (fun x=>Dt.str (sg x))=Sg.signs (tx w):=by rw[xY,aai];rfl
theorem mT {rows:List Row}(ok:a0 rows){w:List Nat}(h:∀ x∈w,x∈rows.map (·.c)):lb (tx w)=true:=iQ fun x hx=>by
 obtain⟨r,hr,rfl⟩:=aaQ.mp (h x hx);have:=ok.sm r hr;unfold small at this;omega
theorem EL (T:Txt K mg t):kW P w K mg base CX 1 t.bh t.i6 ["self","text","most"] (FQ K 3 (zO t)):=by
 refine Yh T.vy nQ rfl fun aZ A outer s H E G ds r hr hl hR=>?_
 obtain⟨six,rows,wd,m,rfl,ok,hw,⟨h0,hm,WD⟩,rfl⟩:=hR;have nd:=nQ.nd;have hu:(A.deeper (envOfC "Rules.word_of" (af bg) s.heap.objs.size t.bh aZ)).units+1 < cLine:=by have:=hr.units;omega
 have ne:¬ tx wd=("":Str):=fun z=>by
   have:=congrArg Str.length z;rw[fX] at this;have e:("":Str).length=0:=rfl;omega
 let xs:=Sg.signs (tx wd);have Ox:xs.length=wd.length:=by show(Sg.signs (tx wd)).length=_;rw[qo,fX]
 let S:Nat->List Slot:=fun _=>[.val (t.yX six rows),.val (.str (tx wd)),.val (.int (m:Nat)),.aS,.aS]
 refine⟨_,.rt _,ag (aM (u:=false) (aP (il (aa 1 rfl) bC) (decide_eq_false ne)) (fun h=>nomatch h) (fun h=>bu))
   (ag (oh (o:=.nx (S wd.length)) (m:=wd.length) (aah xs.length) (fun(j:Nat)=>.tup [.int j,xs.getD j .dk]) (fun(j:Nat) dl=>(dl.set 3 (.val (.int j))).set 4 (.val (xs.getD j .dk))) S rfl PassesOwn.leaving
     (Kq rfl T.mS (ae (aa 1 rfl) ah)) (En (mT ok hw)) (tN rfl (cN (bo nd rfl (.inl rfl)) (cN (bo nd rfl (.inl rfl)) n8))) (fun a _=>F4) (Le.of ⟨rfl,rfl,rfl,trivial⟩) (by rw[aaV,Ox];exact aaa _) (fun j a hj ha=>?_) (by rw[aaV,Ox];exact .all rfl))
   (ao (aG (aa 1 rfl))))⟩
 rw[aa0 (by omega)] at ha;cases ha;have ex:xs.getD j .dk=.str (sg wd[j]):=by
   show(Sg.signs (tx wd)).getD j .dk=_;rw[<- OD,Bn,aab,k3 hj];rfl
 have v4:∀ {X:Cx} {G:Gr} {dl:List Slot} {e:Expr},EE X G dl e (xs.getD j .dk)->EE X G dl e (.str (sg wd[j])):=fun h=>by rw[ex] at h;exact h
 obtain⟨q,hq,hc,_,_⟩:=f9 (hw _ (aaY hj));have hv:=uF ok.nd hq;rw[hc] at hv;exact .nx (ao (aM (u:=false) (su (oY (u:=false) (v:=false) (aP (Ci (aa 3 rfl) (aa 2 rfl)) (decide_eq_false (by omega))) fun _=>(mW (aP (F7 hu (v4 (aa 4 rfl)) (aE (fs:=t.vB six rows) (aa 0 rfl) T.eO.cl T.aR rfl)) (by rw[hv];rfl))))) (fun h=>nomatch h) (fun h=>bu))) (Le.of ⟨rfl,rfl,rfl,trivial⟩)
theorem aaP {K:W.Frag}:∀ H,bJ K H [.int 8] [.int 8]:=fun _=>.cons (.int 8) .nil
theorem u6 (T:Txt K mg t):Ja P w K mg base CX 1 t.aN "word_of" 3 [.int 8] (zO t):=⟨T.eO.cl,_,_,_,_,[.int 8],EL T,T.fT,T.uB,.cons ⟨_,rfl⟩ .nil,aaP⟩
def Tf (t:dM):Rl:=fun ds r=>∃ six rows,ds=[t.yX six rows]/\r=.ret (.jz (.obj (t.pc six) []))
theorem GA (T:Txt K mg t):MF P w K mg base CX 1 t.aN "pen" 1 (Tf t):=by
 refine⟨T.eO.cl,_,_,_,gS T.mR.F AQ rfl fun aZ A outer s H E G ds r hr hl hR=>?_,T.jr,T.mR.b⟩;obtain⟨six,rows,rfl,rfl⟩:=hR;exact⟨_,.rt _,ao (aG (aE (fs:=t.vB six rows) (aa 0 rfl) T.eO.cl T.jb rfl))⟩
noncomputable def tl (six:Bool)(p:Int×Int):Int×Int:=if six then (-p.2,p.1+p.2) else (-p.2,p.1)
noncomputable def tn (six:Bool):Nat->Int×Int->Int×Int
 | 0,p=>p
 | n+1,p=>tl six (tn six n p)
noncomputable def sp (p:Int×Int):Dt:=.tup [.int p.1,.int p.2]
theorem fz (six:Bool):0 < wy six:=by cases six <;> decide
def Tg (t:dM)(six:Bool):Rl:=fun ds r=>ds=[.obj (t.pc six) []]/\r=.ret (.int (wy six))
def Th (t:dM)(six:Bool):Rl:=fun ds r=>∃ p,ds=[.obj (t.pc six) [],sp p]/\r=.ret (sp (tl six p))
def Lv (t:dM)(six:Bool):Rl:=fun ds r=>∃ z,ds=[.obj (t.pc six) [],.int z]/\r=.ret (.int (z % wy six))
def Lw (t:dM)(six:Bool):Rl:=fun ds r=>∃ p b,ds=[.obj (t.pc six) [],sp p,.int b]/\r=.ret (sp (tn six (b % wy six).toNat p))
theorem wc (T:Txt K mg t)(six:Bool):MF P w K mg base CX 1 (t.pc six) "ways" 1 (Tg t six):=by
 cases six with
 | false=>
   refine⟨T.km.cl,_,_,_,gS T.jX.F vo rfl fun aZ A outer s H E G ds r hr hl hR=>?_,T.fu,T.jX.b⟩;obtain⟨rfl,rfl⟩:=hR;exact⟨_,.rt _,ao (aG aj)⟩
 | true=>
   refine⟨T.oR.cl,_,_,_,gS T.l3.F yE rfl fun aZ A outer s H E G ds r hr hl hR=>?_,T.iy,T.l3.b⟩;obtain⟨rfl,rfl⟩:=hR;exact⟨_,.rt _,ao (aG aj)⟩
theorem OE (T:Txt K mg t)(six:Bool):MF P w K mg base CX 1 (t.pc six) "turned_left" 2 (Th t six):=by
 cases six with
 | false=>
   refine⟨T.km.cl,_,_,_,gS T.dJ.F oJ rfl fun aZ A outer s H E G ds r hr hl hR=>?_,T.cF,T.dJ.b⟩;obtain⟨p,rfl,rfl⟩:=hR;exact⟨_,.rt _,(ao (aG (bL (ae (jk (aF (aa 1 rfl) aj rfl)) (ae (aF (aa 1 rfl) aj rfl) ah)) AA3)))⟩
 | true=>
   refine⟨T.oR.cl,_,_,_,gS T.eQ.F pW rfl fun aZ A outer s H E G ds r hr hl hR=>?_,T.dA,T.eQ.b⟩;obtain⟨p,rfl,rfl⟩:=hR;exact⟨_,.rt _,(ao (aG (bL (ae (jk (aF (aa 1 rfl) aj rfl)) (ae (aO (aF (aa 1 rfl) aj rfl) (aF (aa 1 rfl) aj rfl)) ah)) AA3)))⟩
theorem GB {six:Bool}{m:Str}{f:Addr}(hQ:Meth K t.aQ m f)(hS:Meth K t.cw m f):Meth K (t.pc six) m f:=by cases six <;> assumption
theorem GC (T:Txt K mg t)(six:Bool):vF K (t.pc six):=by cases six;exact T.km.cl;exact T.oR.cl
theorem nX (T:Txt K mg t)(six:Bool):MF P w K mg base CX 2 (t.pc six) "way_of" 2 (Lv t six):=by
 refine⟨GC T six,_,_,_,gS T.lY.F yD rfl fun aZ A outer s H E G ds r hr hl hR=>?_,GB T.gm T.ir,T.lY.b⟩;obtain⟨z,rfl,rfl⟩:=hR;have h1:=wc (P:=P) (w:=w) (base:=base) T six;refine⟨_,.rt _,ao (aG (eY (aa 1 rfl) (cu (aa 0 rfl) h1 av hr ⟨rfl,rfl⟩) (fz six)))⟩
theorem zP (T:Txt K mg t)(six:Bool):MF P w K mg base CX 3 (t.pc six) "turned" 3 (Lw t six):=by
 refine⟨GC T six,_,_,_,gS T.lZ.F m6 rfl fun aZ A outer s H E G ds r hr hl hR=>?_,GB T.gq T.iu,T.lZ.b⟩;obtain⟨p,b,rfl,rfl⟩:=hR;have h1:=nX (P:=P) (w:=w) (base:=base) T six;have h2:=OE (P:=P) (w:=w) (base:=base) T six;have WE:=aaF b (abO (fz six));have Z5:=aaK b (fz six);have hb3:wy six<=6:=by cases six <;> decide
 refine⟨_,.rt _,ag (gb 3 (fun k=>[.val (.obj (t.pc six) []),.val (sp (tn six k p)),.val (.int b),.aS]) m6.nd rfl PassesOwn.leaving T.eW
   (ae (aT (aa 0 rfl) h1 av hr (ae (aa 2 rfl) ah) ⟨b,rfl,rfl⟩) ah) ⟨by omega,by omega⟩ (Le.of ⟨rfl,rfl,rfl,trivial⟩) (aaa _) (fun k hk=>?_) (.all rfl)) (ao (aG (aa 1 rfl)))⟩
 refine .nx (ao (au 1 m6.nd (aT (aa 0 rfl) h2 av hr (ae (aa 1 rfl) ah) ⟨_,rfl,rfl⟩))) (Le.of ⟨rfl,rfl,rfl,trivial⟩)
theorem Qd {m n:Nat}{a b:Int}(ha:a.natAbs < 2 ^ m)(hb:b.natAbs < 2 ^ n)(h:m+n<=134217728):IntMulOk a b:=IntMulOk.of_le (PySem.intBits_le_iff.mpr ha) (PySem.intBits_le_iff.mpr hb) h
noncomputable def jt (six:Bool)(w:Int)(p:Int×Int):Int:=
 if six then (if w=0 then 2 * p.1+p.2 else if w=1 then p.1+2 * p.2 else if w=2 then p.2 - p.1 else if w=3 then -2 * p.1 - p.2 else if w=4 then -p.1 - 2 * p.2 else p.1 - p.2)
 else (if w=0 then p.1 else if w=1 then p.2 else if w=2 then -p.1 else -p.2)
theorem W6 (six:Bool){w:Int}(h0:0<=w)(h1:w < wy six)(p:Int×Int):jt six ((w+1) % wy six) (Pf.tl six p)=jt six w p:=by
 obtain⟨x,y⟩:=p;cases six with
 | false=>
   have h1:w < 4:=h1;have h:w=0\/w=1\/w=2\/w=3:=by omega
   rcases h with rfl | rfl | rfl | rfl <;> simp[jt,Pf.tl,wy]
 | true=>
   have h1:w < 6:=h1;have h:w=0\/w=1\/w=2\/w=3\/w=4\/w=5:=by omega
   rcases h with rfl | rfl | rfl | rfl | rfl | rfl <;> simp[jt,Pf.tl,wy] <;> omega
theorem Qe (six:Bool){w:Int}(h0:0<=w)(h1:w < wy six)(p:Int×Int):∀ n:Nat,jt six ((w+n) % wy six) (tn six n p)=jt six w p
 | 0=>by
   show jt six ((w+0) % wy six) p=_;rw[abZ,ab3 h0 h1]
 | n+1=>by
   have hp:=fz six;have a:=aaF (w+n) (abO hp);have b:=aaK (w+n) hp;show jt six ((w+((n+1:Nat):Int)) % wy six) (Pf.tl six (tn six n p))=_;rw[<- Qe six h0 h1 p n,<- W6 six a b]
   congr 1
   rw[Int.emod_add_emod]
   congr 1
   push_cast
   omega
theorem Lx (six:Bool){w:Int}(h0:0<=w)(h1:w < wy six)(b:Int)(p:Int×Int):jt six ((w+b) % wy six) (tn six (b % wy six).toNat p)=jt six w p:=by
 have a:=aaF b (abO (fz six));have e:((((b % wy six).toNat:Nat):Int))=b % wy six:=by omega
 have:=Qe six h0 h1 p (b % wy six).toNat;rw[e,Int.add_emod_emod] at this;exact this
def OF (t:dM)(six:Bool):Rl:=fun ds r=>∃ z p,ds=[.obj (t.pc six) [],.int z,sp p]/\(0<=z/\z < wy six)/\r=.ret (.int (jt six z p))
theorem W7 {z:Int}(p:Int×Int)(h0:0<=z)(h1:z < 4):qi [Dt.int p.1,Dt.int p.2,Dt.int (-p.1),Dt.int (-p.2)] z=some (Dt.int (jt false z p)):=by
 have h:z=0\/z=1\/z=2\/z=3:=by omega
 rcases h with rfl | rfl | rfl | rfl <;> rfl
theorem W8 {z:Int}(p:Int×Int)(h0:0<=z)(h1:z < 6):qi [Dt.int (2 * p.1+p.2),Dt.int (p.1+2 * p.2),Dt.int (p.2 - p.1),Dt.int (-2 * p.1 - p.2),Dt.int (-p.1 - 2 * p.2),Dt.int (p.1 - p.2)] z=some (Dt.int (jt true z p)):=by
 have h:z=0\/z=1\/z=2\/z=3\/z=4\/z=5:=by omega
 rcases h with rfl | rfl | rfl | rfl | rfl | rfl <;> rfl
theorem mod_lt {z m:Int}(h0:0<=z)(h1:z < m):z % m=z:=ab3 h0 h1
theorem C8 (T:Txt K mg t)(six:Bool):MF P w K mg base CX 3 (t.pc six) "along" 3 (OF t six):=by
 have sW:=nX (P:=P) (w:=w) (base:=base) T six;cases six with
 | false=>
   refine⟨T.km.cl,_,_,_,gS T.jf.F kl rfl fun aZ A outer s H E G ds r hr hl hR=>?_,T.eE,T.jf.b⟩;obtain⟨z,p,rfl,⟨h0,h1⟩,rfl⟩:=hR;exact⟨_,.rt _,(ag (au 3 kl.nd (aF (aa 2 rfl) aj rfl))
 (ag (au 4 kl.nd (aF (aa 2 rfl) aj rfl))
 (ao (aG (aF (bL (ae (aa 3 rfl) (ae (aa 4 rfl) (ae (jk (aa 3 rfl)) (ae (jk (aa 4 rfl)) ah)))) AA3) (aT (aa 0 rfl) sW av hr (ae (aa 1 rfl) ah) ⟨z,rfl,rfl⟩) (by rw[mod_lt h0 h1];exact W7 p h0 h1))))))⟩
 | true=>
   refine⟨T.oR.cl,_,_,_,gS T.kS.F mD rfl fun aZ A outer s H E G ds r hr hl hR=>?_,T.gO,T.kS.b⟩;obtain⟨z,p,rfl,⟨h0,h1⟩,rfl⟩:=hR;exact⟨_,.rt _,(ag (au 3 mD.nd (aF (aa 2 rfl) aj rfl))
 (ag (au 4 mD.nd (aF (aa 2 rfl) aj rfl))
 (ao (aG (aF (bL (ae (aO (ik aj (aa 3 rfl) (qQ.ok (aaR ⟨by decide,by decide⟩))) (aa 4 rfl)) (ae (aO (aa 3 rfl) (ik aj (aa 4 rfl) (qQ.ok (aaR ⟨by decide,by decide⟩)))) (ae (gH (aa 4 rfl) (aa 3 rfl)) (ae (gH (ik (jk aj) (aa 3 rfl) (qQ.ok (aaR ⟨by decide,by decide⟩))) (aa 4 rfl)) (ae (gH (jk (aa 3 rfl)) (ik aj (aa 4 rfl) (qQ.ok (aaR ⟨by decide,by decide⟩)))) (ae (gH (aa 3 rfl) (aa 4 rfl)) ah)))))) AA3) (aT (aa 0 rfl) sW av hr (ae (aa 1 rfl) ah) ⟨z,rfl,rfl⟩) (by rw[mod_lt h0 h1];exact W8 p h0 h1))))))⟩
noncomputable def ad (p q:Int×Int):Int×Int:=(p.1+q.1,p.2+q.2)
def OG:Rl:=fun ds r=>∃ p q,ds=[sp p,sp q]/\r=.ret (sp (ad p q))
noncomputable def DJ:List Str:=["stroke","step"]
noncomputable def ka (d:Str):Int:=if d="left" then 1 else if d="right" then -1 else 0
noncomputable def we (six:Bool)(d:Str)(p:Int×Int)(w:Int):(Int×Int)×Int:=(if d∈DJ then ad p (tn six (w % wy six).toNat (1,0)) else p,(w+ka d) % wy six)
def OH:Rl:=fun ds r=>∃ d:Str,ds=[.str d]/\r=.ret (.int (ka d))
def Ti (t:dM)(six:Bool):Rl:=fun ds r=>∃ w,ds=[.obj (t.pc six) [],.int w]/\r=.ret (sp (tn six (w % wy six).toNat (1,0)))
def OI (t:dM)(six:Bool):Rl:=fun ds r=>∃ d p w,ds=[.obj (t.pc six) [],.str d,sp p,.int w]/\d∈pv/\r=.ret (.tup [sp (we six d p w).1,.int (we six d p w).2])
theorem C9 (T:Txt K mg t):GF P w K mg base CX 1 "added" 2 OG:=by
 refine⟨_,_,_,gS T.qE.F K2 rfl fun aZ A outer s H E G ds r hr hl hR=>?_,(T.g T.qE.a),T.qE.F.kp,T.qE.b⟩;obtain⟨p,q,rfl,rfl⟩:=hR;exact⟨_,.rt _,(ao (aG (bL (ae (aO (aF (aa 0 rfl) aj rfl) (aF (aa 1 rfl) aj rfl)) (ae (aO (aF (aa 0 rfl) aj rfl) (aF (aa 1 rfl) aj rfl)) ah)) AA3)))⟩
theorem Ly (T:Txt K mg t):GF P w K mg base CX 1 "turn_of_deed" 1 OH:=by
 refine⟨_,_,_,gS T.fq.F vn rfl fun aZ A outer s H E G ds r hr hl hR=>?_,(T.g T.fq.a),T.fq.F.kp,T.fq.b⟩;obtain⟨d,rfl,rfl⟩:=hR;by_cases c0:d="left"
 . rw[show ka d=1 from if_pos c0]
   exact⟨_,.rt _,mK (aM (il (aa 0 rfl) bC) (fun h=>ao (aG aj)) (fun h=>absurd c0 (of_decide_eq_false h)))⟩
 by_cases c1:d="right"
 . rw[show ka d=-1 by unfold ka;rw[if_neg c0,if_pos c1]]
   exact⟨_,.rt _,ag (aM (il (aa 0 rfl) bC) (fun h=>absurd (of_decide_eq_true h) c0) (fun h=>bu)) (mK (aM (il (aa 0 rfl) bC) (fun h=>ao (aG (jk aj))) (fun h=>absurd c1 (of_decide_eq_false h))))⟩
 . rw[show ka d=0 by unfold ka;rw[if_neg c0,if_neg c1]]
   exact⟨_,.rt _,ag (aM (il (aa 0 rfl) bC) (fun h=>absurd (of_decide_eq_true h) c0) (fun h=>bu)) (ag (aM (il (aa 0 rfl) bC) (fun h=>absurd (of_decide_eq_true h) c1) (fun h=>bu)) (ao (aG aj)))⟩
theorem OJ (T:Txt K mg t)(six:Bool):MF P w K mg base CX 4 (t.pc six) "step" 2 (Ti t six):=by
 refine⟨GC T six,_,_,_,gS T.oS.F CW rfl fun aZ A outer s H E G ds r hr hl hR=>?_,GB T.iw T.jW,T.oS.b⟩;obtain⟨z,rfl,rfl⟩:=hR;have h1:=zP (P:=P) (w:=w) (base:=base) T six;exact⟨_,.rt _,ao (aG (aT (aa 0 rfl) h1 av hr (ae (bL (ae aj (ae aj ah)) AA3) (ae (aa 1 rfl) ah)) ⟨(1,0),z,rfl,rfl⟩))⟩
theorem Lz (T:Txt K mg t)(six:Bool):MF P w K mg base CX 5 (t.pc six) "after" 4 (OI t six):=by
 refine⟨GC T six,_,_,_,gS T.mQ.F sO rfl fun aZ A outer s H E G ds r hr hl hR=>?_,GB T.gN T.jq,T.mQ.b⟩;obtain⟨d,p,z,rfl,hd,rfl⟩:=hR;have h1:=OJ (P:=P) (w:=w) (base:=base) T six;have h2:=C9 (P:=P) (w:=w) (base:=base) T;have h3:=Ly (P:=P) (w:=w) (base:=base) T;have h4:=nX (P:=P) (w:=w) (base:=base) T six;by_cases c:d∈DJ
 . rw[show we six d p z=(ad p (tn six (z % wy six).toNat (1,0)),(z+ka d) % wy six) by unfold we;rw[if_pos c]]
   exact⟨_,.rt _,(ag (aM (F0 (xs:=pv) (aa 1 rfl) (kC (w:=.ref t.lX) T.A6 rfl T.A7)) (fun h=>absurd h (by simp[hd])) (fun h=>bu))
 (ag (aM (Ed (xs:=DJ) (aa 1 rfl) (kC (w:=.ref t.dj) T.rA rfl T.rB)) (fun h=>
     (ao (au 2 sO.nd (bW h2 av hr (ae (aa 2 rfl) (ae (aT (aa 0 rfl) h1 av hr (ae (aa 3 rfl) ah) ⟨_,rfl,rfl⟩) ah)) ⟨_,_,rfl,rfl⟩)))) (fun h=>absurd c (of_decide_eq_false h)))
 (ao (aG (bL (ae (aa 2 rfl) (ae (aT (aa 0 rfl) h4 av hr (ae (aO (aa 3 rfl) (bW h3 av hr (ae (aa 1 rfl) ah) ⟨_,rfl,rfl⟩)) ah) ⟨_,rfl,rfl⟩) ah)) AA3)))))⟩
 . rw[show we six d p z=(p,(z+ka d) % wy six) by unfold we;rw[if_neg c]]
   exact⟨_,.rt _,(ag (aM (F0 (xs:=pv) (aa 1 rfl) (kC (w:=.ref t.lX) T.A6 rfl T.A7)) (fun h=>absurd h (by simp[hd])) (fun h=>bu))
 (ag (aM (Ed (xs:=DJ) (aa 1 rfl) (kC (w:=.ref t.dj) T.rA rfl T.rB)) (fun h=>absurd (of_decide_eq_true h) c) (fun h=>bu))
 (ao (aG (bL (ae (aa 2 rfl) (ae (aT (aa 0 rfl) h4 av hr (ae (aO (aa 3 rfl) (bW h3 av hr (ae (aa 1 rfl) ah) ⟨_,rfl,rfl⟩)) ah) ⟨_,rfl,rfl⟩) ah)) AA3)))))⟩
def sm (p:Int×Int):Prop:=p.1.natAbs < 2 ^ 1000/\p.2.natAbs < 2 ^ 1000
noncomputable def cr (p q:Int×Int):Int:=p.1 * q.2 - p.2 * q.1
def OK:Rl:=fun ds r=>∃ p q,ds=[sp p,sp q]/\(sm p/\sm q)/\r=.ret (.int (cr p q))
theorem LA (T:Txt K mg t):GF P w K mg base CX 1 "cross" 2 OK:=by
 refine⟨_,_,_,gS T.qF.F K3 rfl fun aZ A outer s H E G ds r hr hl hR=>?_,(T.g T.qF.a),T.qF.F.kp,T.qF.b⟩;obtain⟨p,q,rfl,⟨hp,hq⟩,rfl⟩:=hR;exact⟨_,.rt _,(ao (aG (gH (ik (aF (aa 0 rfl) aj rfl) (aF (aa 1 rfl) aj rfl) (Qd hp.1 hq.2 (by decide))) (ik (aF (aa 0 rfl) aj rfl) (aF (aa 1 rfl) aj rfl) (Qd hp.2 hq.1 (by decide))))))⟩
structure Tr where
 many:Int
 turn:Int
 shift:Int×Int
 a5:Int
 reach:List Int
 bf:List Int
 iS:Int
noncomputable def dM.trK (t:dM)(six:Bool)(x:Tr):List (Str×FD):=[("drawer",.obj (t.pc six) []),("deed_count",.int x.many),("last_way",.int x.turn),("last_spot",.tup t.K [x.shift.1,x.shift.2]),("stroke_count",.int x.a5),("reaches",.lst x.reach),("touches",.lst x.bf),("crosses",.int x.iS)]
noncomputable def dM.lx (t:dM)(six:Bool)(x:Tr):List (Str×Dt):=[("drawer",.jz (.obj (t.pc six) [])),("deed_count",.int x.many),("last_way",.int x.turn),("last_spot",.jz (.tup t.K [x.shift.1,x.shift.2])),("stroke_count",.int x.a5),("reaches",.jz (.lst x.reach)),("touches",.jz (.lst x.bf)),("crosses",.int x.iS)]
noncomputable def dM.EM (t:dM)(six:Bool)(x:Tr):Dt:=.obj t.aw (t.lx six x)
noncomputable def dM.rY (t:dM)(six:Bool)(x:Tr):Dt:=.jz (.obj t.aw (t.trK six x))
theorem rZ {X:Cx}{G:Gr}{dl:List Slot}{e:Expr}{t:dM}{six:Bool}{x:Tr}(h:EE X G dl e (t.rY six x)):EE X G dl e (t.EM six x):=Qb h
theorem EN {X:Cx}{G:Gr}{dl:List Slot}{e:Expr}{t:dM}{six:Bool}{x:Tr}(h:EO X G dl e (.obj t.aw (t.lx six x))):EE X G dl e (t.rY six x):=KU (fs:=t.trK six x) h
theorem mE {X:Cx}{G:Gr}{dl:List Slot}{e:Expr}{t:dM}{six:Bool}(h:EE X G dl e (.jz (.obj (t.pc six) []))):EE X G dl e (.obj (t.pc six) []):=Qb h
theorem xZ {X:Cx}{G:Gr}{dl:List Slot}{e:Expr}{K':W.Frag}{p:Int×Int}(hK:K'=X.K)(h:EE X G dl e (.jz (.tup K' [p.1,p.2]))):EE X G dl e (sp p):=SM h hK
theorem ER {X:Cx}{G:Gr}{dl:List Slot}{e:Expr}{K':W.Frag}{p:Int×Int}(hK:K'=X.K)(h:EE X G dl e (sp p)):EE X G dl e (.jz (.tup K' [p.1,p.2])):=SN (ns:=[p.1,p.2]) h hK
noncomputable def wn (six:Bool):Nat:=if six then 6 else 4
theorem u7 (six:Bool):(wn six:Int)=wy six:=by cases six <;> rfl
noncomputable def rC (six:Bool)(ns:List Int)(f:Int):List Int:=(aah (wn six)).map fun(w:Nat)=>ns.getD (((w:Int) - f) % wy six).toNat 0
noncomputable def yY (six:Bool)(x y:Tr)(w:Nat):Int:=if (rC six y.reach x.turn).getD w 0+jt six w x.shift<=x.reach.getD w 0 then x.reach.getD w 0 else (rC six y.reach x.turn).getD w 0+jt six w x.shift
noncomputable def Bd (six:Bool)(x y:Tr)(w:Nat):Int:=if (rC six y.reach x.turn).getD w 0+jt six w x.shift<=x.reach.getD w 0 then x.bf.getD w 0 else (rC six y.bf x.turn).getD w 0+x.many
noncomputable def jn (six:Bool)(x y:Tr):Tr where
 many:=x.many+y.many
 turn:=(x.turn+y.turn) % wy six
 shift:=ad x.shift (tn six (x.turn % wy six).toNat y.shift)
 a5:=x.a5+y.a5
 reach:=(aah (wn six)).map (yY six x y)
 bf:=(aah (wn six)).map (Bd six x y)
 iS:=x.iS+y.iS+cr x.shift (tn six (x.turn % wy six).toNat y.shift)
noncomputable def DK (six:Bool):Tr:=⟨0,0,(0,0),0,aaj (wn six) 0,aaj (wn six) 0,0⟩
noncomputable def one (six:Bool)(d:Str):Tr:=⟨1,(we six d (0,0) 0).2,(we six d (0,0) 0).1,if d="stroke" then 1 else 0,(aah (wn six)).map fun(w:Nat)=>if jt six w (we six d (0,0) 0).1 > 0 then jt six w (we six d (0,0) 0).1 else 0,
 (aah (wn six)).map fun(w:Nat)=>if (if jt six w (we six d (0,0) 0).1 > 0 then jt six w (we six d (0,0) 0).1 else 0) < 1 then (if jt six w (we six d (0,0) 0).1 > 0 then jt six w (we six d (0,0) 0).1 else 0) else 1,0⟩
noncomputable def cm (six:Bool)(ds:List Str):Tr:=ds.foldl (fun x d=>jn six x (one six d)) (DK six)
structure WF (six:Bool)(x:Tr):Prop where
 rl:x.reach.length=wn six
 tl:x.bf.length=wn six
 sm:x.shift.1.natAbs < 2 ^ 990/\x.shift.2.natAbs < 2 ^ 990
def Tj (t:dM):Rl:=fun ds r=>∃ six x,ds=[.jz (.obj (t.pc six) []),.int x.many,.int x.turn,.jz (.tup t.K [x.shift.1,x.shift.2]),.int x.a5,.jz (.lst x.reach),.jz (.lst x.bf),.int x.iS]/\r=.own (.obj t.aw (t.lx six x))
def GD (t:dM)(f:Tr->Dt):Rl:=fun ds r=>∃ six x,ds=[t.EM six x]/\r=.ret (f x)
def Be (t:dM):Rl:=fun ds r=>∃ six x f,ds=[t.EM six x,.int f]/\r=.ret (sp (tn six (f % wy six).toNat x.shift))
def W9 (t:dM):Rl:=fun ds r=>∃ six x ns f,ds=[t.EM six x,.r8 ns,.int f]/\ns.length=wn six/\r=.own (.lst ((rC six ns f).map .int))
def Bf (t:dM):Rl:=fun ds r=>∃ six x f,ds=[t.EM six x,.int f]/\WF six x/\r=.own (.lst ((rC six x.reach f).map .int))
def Bg (t:dM):Rl:=fun ds r=>∃ six x f,ds=[t.EM six x,.int f]/\WF six x/\r=.own (.lst ((rC six x.bf f).map .int))
def LB (t:dM):Rl:=fun ds r=>∃ six x y,ds=[t.EM six x,t.EM six y]/\(WF six x/\WF six y)/\r=.ret (t.rY six (jn six x y))
def OL (t:dM):Rl:=fun ds r=>∃ six,ds=[.jz (.obj (t.pc six) [])]/\r=.ret (t.rY six (DK six))
def IA (t:dM):Rl:=fun ds r=>∃ six d,ds=[.jz (.obj (t.pc six) []),.str d]/\d∈pv/\r=.ret (t.rY six (one six d))
def ET (t:dM):Rl:=fun ds r=>∃ (six:Bool) (xs:List Str),ds=[.jz (.obj (t.pc six) []),.lst (xs.map .str)]/\(∀ d∈xs,d∈pv)/\xs.length<=1000/\r=.ret (t.rY six (cm six xs))
theorem Bh (T:Txt K mg t):UD P w K mg base CX 1 "Track" t.aw 9 (Tj t):=by
 refine⟨_,_,_,Yi T.l7.F yI rfl fun aZ A outer s H E G z ds r hr hl hR=>?_,T.xM,(T.g T.ay.a),T.l7.b⟩;obtain⟨six,x,rfl,rfl⟩:=hR;exact⟨_,.nx rfl,ag (k9 (aa 1 rfl) T.ay.cl T.dY) (ag (k9 (aa 2 rfl) T.ay.cl T.bE) (ag (k9 (aa 3 rfl) T.ay.cl T.bI) (ag (k9 (aa 4 rfl) T.ay.cl T.bc)
   (ag (k9 (aa 5 rfl) T.ay.cl T.cy) (ag (k9 (aa 6 rfl) T.ay.cl T.cC) (ag (k9 (aa 7 rfl) T.ay.cl T.fi) (ao (k9 (aa 8 rfl) T.ay.cl T.fj))))))))⟩
theorem GG (T:Txt K mg t):MF P w K mg base CX 1 t.aw "many" 1 (GD t fun x=>.int x.many):=by
 refine⟨T.ay.cl,_,_,_,gS T.l8.F yJ rfl fun aZ A outer s H E G ds r hr hl hR=>?_,T.iD,T.l8.b⟩;obtain⟨six,x,rfl,rfl⟩:=hR;exact⟨_,.rt _,ao (aG (aE (fs:=t.lx six x) (aa 0 rfl) T.ay.cl T.bE rfl))⟩
theorem Bi (T:Txt K mg t):MF P w K mg base CX 1 t.aw "turn" 1 (GD t fun x=>.int x.turn):=by
 refine⟨T.ay.cl,_,_,_,gS T.l9.F yK rfl fun aZ A outer s H E G ds r hr hl hR=>?_,T.iE,T.l9.b⟩;obtain⟨six,x,rfl,rfl⟩:=hR;exact⟨_,.rt _,ao (aG (aE (fs:=t.lx six x) (aa 0 rfl) T.ay.cl T.bI rfl))⟩
theorem x3 (T:Txt K mg t):MF P w K mg base CX 1 t.aw "strokes" 1 (GD t fun x=>.int x.a5):=by
 refine⟨T.ay.cl,_,_,_,gS T.jh.F uw rfl fun aZ A outer s H E G ds r hr hl hR=>?_,T.fU,T.jh.b⟩;obtain⟨six,x,rfl,rfl⟩:=hR;exact⟨_,.rt _,ao (aG (aE (fs:=t.lx six x) (aa 0 rfl) T.ay.cl T.cy rfl))⟩
theorem GH (T:Txt K mg t):MF P w K mg base CX 1 t.aw "area" 1 (GD t fun x=>.int x.iS):=by
 refine⟨T.ay.cl,_,_,_,gS T.ma.F yO rfl fun aZ A outer s H E G ds r hr hl hR=>?_,T.iG,T.ma.b⟩;obtain⟨six,x,rfl,rfl⟩:=hR;exact⟨_,.rt _,ao (aG (aE (fs:=t.lx six x) (aa 0 rfl) T.ay.cl T.fj rfl))⟩
theorem Dc (T:Txt K mg t):kW P w K mg base CX 4 t.cJ t.kK ["self","first"] (FQ K 2 (Be t)):=by
 refine Yh T.yQ xB rfl fun aZ A outer s H E G ds r hr hl hR=>?_
 obtain⟨six,x,f,rfl,rfl⟩:=hR;have h1:=zP (P:=P) (w:=w) (base:=base) T six;exact⟨_,.rt _,ao (aG (aT (mE (aE (fs:=t.lx six x) (aa 0 rfl) T.ay.cl T.dY rfl)) h1 av hr (ae (xZ T.hK (aE (fs:=t.lx six x) (aa 0 rfl) T.ay.cl T.bc rfl)) (ae (aa 1 rfl) ah)) ⟨_,_,rfl,rfl⟩))⟩
theorem rep0 {K:W.Frag}:∀ H,bJ K H [.int 0] [.int 0]:=fun _=>.cons (.int 0) .nil
theorem LC (T:Txt K mg t):Ja P w K mg base CX 4 t.aw "shift" 2 [] (Be t):=⟨T.ay.cl,_,_,_,[],[],Dc T,T.ee,T.yR,.nil,fun _=>.nil⟩
theorem zQ (T:Txt K mg t):Ja P w K mg base CX 4 t.aw "shift" 2 [.int 0] (Be t):=⟨T.ay.cl,_,_,_,_,[.int 0],Dc T,T.ee,T.xP,.cons ⟨_,rfl⟩ .nil,rep0⟩
noncomputable abbrev EU:Scope:=PU ((aC f7).getD 0 (.Pass ⟨0,0,0,0⟩))
theorem EV:wW EU (af f7) o9 ["way","self","numbers","first"] [0,1,2] "way"=true:=by decide +kernel
theorem OM {ns:List Int}{k:Int}(h0:0<=k)(h1:k < ns.length):qi (ns.map Dt.int) k=some (.int (ns.getD k.toNat 0)):=by
 obtain⟨n,rfl⟩:=Int.eq_ofNat_of_zero_le h0;refine mJ ?_;have h:n < ns.length:=by omega
 rw[aab,k3 h,aaS,Bn,k3 h];rfl
theorem x4 {ns:List Int}{k:Int}(h0:0<=k)(h1:k < ns.length):qi ns k=some (ns.getD k.toNat 0):=by
 obtain⟨n,rfl⟩:=Int.eq_ofNat_of_zero_le h0;refine mJ ?_;have h:n < ns.length:=by omega
 rw[k3 h,aaS,Bn,k3 h];rfl
theorem qL {f:Nat->Int}{n k:Nat}(h:k < n):(((aah n).map f).map Dt.int).getD k .dk=.int (f k):=by
 rw[Bn,aab,aab,aa0 h];rfl
theorem x5 (T:Txt K mg t):MF P w K mg base CX 3 t.aw "by_ways" 3 (W9 t):=by
 refine⟨T.ay.cl,_,_,_,gS T.ji.F ux rfl fun aZ A outer s H E G ds r hr hl hR=>?_,T.fV,T.ji.b⟩;obtain⟨six,x,ns,f,rfl,hn,rfl⟩:=hR;have h1:=nX (P:=P) (w:=w) (base:=base) T six;have hw:=u7 six;have hw6:wn six<=6:=by cases six <;> decide
 have Ux:ns.length=wn six:=hn;refine⟨_,.ro _,ao (jD (VY (N:=["way","self","numbers","first"]) (ix:=[0,1,2]) rfl (Ec EV) (nC rfl T.eW (ae (Am T.fD (aa 1 rfl)) ah)) (wV ?_) (fun k hk C fp s' H' G'=>?_) ?_ ?_))⟩
 . omega
 . rw[aaS,Ux] at hk
   have e:((rC six ns f).map Dt.int).getD k .dk=.int (ns.getD (((k:Int) - f) % wy six).toNat 0):=qL hk;rw[e];have MR:=aaF ((k:Int) - f) (abO (fz six));have Ys:=aaK ((k:Int) - f) (fz six);exact tX (aa 2 rfl) (aT (mE (aE (fs:=t.lx six x) (aa 1 rfl) T.ay.cl T.dY rfl)) h1 av hr (ae (gH (aa 0 rfl) (aa 3 rfl)) ah) ⟨_,rfl,rfl⟩) (x4 MR (by omega))
 . rw[k5,aaS,Ux]
   unfold rC;simp
 . rw[aaS]
   exact abw (tU (by omega))
theorem Dd (T:Txt K mg t):kW P w K mg base CX 4 t.cK t.kL ["self","first"] (FQ K 2 (Bf t)):=by
 refine Yh T.yS xC rfl fun aZ A outer s H E G ds r hr hl hR=>?_
 obtain⟨six,x,f,rfl,hw,rfl⟩:=hR;have h1:=Cr (x5 (P:=P) (w:=w) (base:=base) T);exact⟨_,.ro _,ao (jD (q8 (fs:=t.lx six x) (aa 0 rfl) h1 av hr (ae (rM (aE (fs:=t.lx six x) (aa 0 rfl) T.ay.cl T.cC rfl)) (ae (aa 1 rfl) ah)) ⟨six,x,_,_,rfl,hw.rl,rfl⟩))⟩
theorem De (T:Txt K mg t):kW P w K mg base CX 4 t.cL t.kM ["self","first"] (FQ K 2 (Bg t)):=by
 refine Yh T.yU xD rfl fun aZ A outer s H E G ds r hr hl hR=>?_
 obtain⟨six,x,f,rfl,hw,rfl⟩:=hR;have h1:=Cr (x5 (P:=P) (w:=w) (base:=base) T);exact⟨_,.ro _,ao (jD (q8 (fs:=t.lx six x) (aa 0 rfl) h1 av hr (ae (rM (aE (fs:=t.lx six x) (aa 0 rfl) T.ay.cl T.fi rfl)) (ae (aa 1 rfl) ah)) ⟨six,x,_,_,rfl,hw.tl,rfl⟩))⟩
theorem LD (T:Txt K mg t):Ja P w K mg base CX 4 t.aw "reach" 2 [] (Bf t):=⟨T.ay.cl,_,_,_,[],[],Dd T,T.eu,T.yT,.nil,fun _=>.nil⟩
theorem LF (T:Txt K mg t):Ja P w K mg base CX 4 t.aw "touch" 2 [] (Bg t):=⟨T.ay.cl,_,_,_,[],[],De T,T.eB,T.yV,.nil,fun _=>.nil⟩
theorem IB (T:Txt K mg t):Ja P w K mg base CX 4 t.aw "reach" 2 [.int 0] (Bf t):=⟨T.ay.cl,_,_,_,_,[.int 0],Dd T,T.eu,T.xQ,.cons ⟨_,rfl⟩ .nil,rep0⟩
theorem IC (T:Txt K mg t):Ja P w K mg base CX 4 t.aw "touch" 2 [.int 0] (Bg t):=⟨T.ay.cl,_,_,_,_,[.int 0],De T,T.eB,T.xR,.cons ⟨_,rfl⟩ .nil,rep0⟩
theorem Df (T:Txt K mg t):GF P w K mg base CX 3 "still" 1 (OL t):=by
 refine⟨_,_,_,gS T.qG.F K5 rfl fun aZ A outer s H E G ds r hr hl hR=>?_,(T.g T.qG.a),T.qG.F.kp,T.qG.b⟩;obtain⟨six,rfl,rfl⟩:=hR;have h1:=wc (P:=P) (w:=w) (base:=base) T six;have h2:=Bh (P:=P) (w:=w) (base:=base) T;have e:∀ {X:Cx} {G:Gr} {dl:List Slot} {e:Expr},EO X G dl e (.lst (aaj (wy six).toNat [Dt.int 0]).flatten)->EE X G dl e (.jz (.lst (aaj (wn six) (0:Int)))):=fun h=>by
   refine SO (wR h ?_);cases six <;> rfl
 have hb:-(2 ^ 63)<=wy six/\wy six < 2 ^ 63/\[Dt.int 0].length * (wy six).toNat<=sizeLine:=by cases six <;> decide
 exact⟨_,.rt _,ao (aG (EN (vH h2 av hr (ae (aa 0 rfl) (ae aj (ae aj (ae (ER (p:=(0,0)) T.hK (bL (ae aj (ae aj ah)) AA3)) (ae aj
   (ae (e (JZ (JM (ae aj ah) AA3) (cu (mE (aa 0 rfl)) h1 av hr ⟨rfl,rfl⟩) hb.1 hb.2.1 hb.2.2)) (ae (e (JZ (JM (ae aj ah) AA3) (cu (mE (aa 0 rfl)) h1 av hr ⟨rfl,rfl⟩) hb.1 hb.2.1 hb.2.2)) (ae aj ah)))))))) ⟨six,DK six,rfl,rfl⟩)))⟩
noncomputable abbrev Tn:Scope:=PU ((aC cS).getD 2 (.Pass ⟨0,0,0,0⟩))
noncomputable abbrev To:Scope:=PU ((aC cS).getD 3 (.Pass ⟨0,0,0,0⟩))
theorem Tp:wW Tn (af cS) lr ["way","pen","spot"] [0,3] "way"=true:=by decide +kernel
theorem Tq:wW To (af cS) lr ["reach"] [] "reach"=true:=by decide +kernel
noncomputable def oU (six:Bool)(d:Str)(w:Nat):Int:=if jt six w (we six d (0,0) 0).1 > 0 then jt six w (we six d (0,0) 0).1 else 0
theorem EX (T:Txt K mg t):GF P w K mg base CX 6 "track_of_deed" 2 (IA t):=by
 refine⟨_,_,_,gS T.d0.F nS rfl fun aZ A outer s H E G ds r hr hl hR=>?_,(T.g T.d0.a),T.d0.F.kp,T.d0.b⟩;obtain⟨six,d,rfl,hd,rfl⟩:=hR;have h1:=wc (P:=P) (w:=w) (base:=base) T six;have h2:=Bh (P:=P) (w:=w) (base:=base) T;have h3:=Lz (P:=P) (w:=w) (base:=base) T six;have h4:=C8 (P:=P) (w:=w) (base:=base) T six;have hw:=u7 six;have hw6:wn six<=6:=by cases six <;> decide
 have Xa:(wy six).toNat=wn six:=by omega
 have nd:=nS.nd;refine⟨_,.rt _,ag (au 2 nd (aT (mE (aa 0 rfl)) h3 av hr (ae (aa 1 rfl) (ae (bL (ae aj (ae aj ah)) AA3) (ae aj ah))) ⟨d,(0,0),0,rfl,hd,rfl⟩)) (ag (au 3 nd (aF (aa 2 rfl) aj rfl))
   (ag (PR (ys:=((aah (wn six)).map (oU six d)).map .int) 4 (N:=["way","pen","spot"]) (ix:=[0,3]) rfl nd (Ec Tp) (nC rfl T.eW (ae (cu (mE (aa 0 rfl)) h1 av hr ⟨rfl,rfl⟩) ah)) (wV ?_) (fun k hk C fp s' H' G'=>?_) ?_ ?_)
   (vP (ns:=(aah (wn six)).map (oU six d)) 4 (ag (PR (ys:=((aah (wn six)).map (fun k=>if oU six d k < 1 then oU six d k else 1)).map .int) 5 (N:=["reach"]) (ix:=[]) rfl nd (Ec Tq) (fE (rM (aa 4 rfl))) Od (fun k hk C fp s' H' G'=>?_) ?_ ?_)
   (vP (ns:=(aah (wn six)).map fun k=>if oU six d k < 1 then oU six d k else 1) 5 (ao (aG (EN (vH h2 av hr (ae (aa 0 rfl) (ae aj (ae (aF (aa 2 rfl) aj rfl) (ae (ER T.hK (aa 3 rfl)) (ae (aK (d:=.int (if d="stroke" then 1 else 0)) ?_ rfl) (ae (aa 4 rfl) (ae (aa 5 rfl) (ae aj ah)))))))) ⟨six,one six d,rfl,rfl⟩)))))))))⟩
 . omega
 . rw[Xa] at hk
   rw[qL hk];exact RI T.Gu rfl (ae aj (ae (aT (mE (aa 1 rfl)) h4 av hr (ae (aa 0 rfl) (ae (aa 2 rfl) ah)) ⟨_,_,rfl,⟨by omega,by omega⟩,rfl⟩) ah))
 . rw[k5,k5,aaV,Xa]
 . rw[Xa];exact abw (tU (by omega))
 . rw[k5,aaV] at hk
   rw[show(((aah (wn six)).map (fun k=>if oU six d k < 1 then oU six d k else 1)).map Dt.int).getD k .dk=.int (if oU six d k < 1 then oU six d k else 1) from qL hk];have e:((List.map (oU six d) (aah (wn six))).map Dt.int).getD k .dk=.int (oU six d k):=qL hk;refine RJ (i:=1) (j:=oU six d k) T.Lc rfl (ae aj (ae ?_ ah));rw[<- e];exact aa 0 rfl
 . simp
 . rw[k5,aaV];exact abw (tU (by omega))
 . exact Rz (il (aa 1 rfl) bC) (fun h=>aK aj (by rw[if_pos (of_decide_eq_true h)])) (fun h=>aK aj (by rw[if_neg (of_decide_eq_false h)]))
theorem wg {f g:Nat->Int}{n k:Nat}(h:k < n):((aah n).map fun w=>if w < k then f w else g w).set k (f k)=(aah n).map fun w=>if w < k+1 then f w else g w:=by
 refine List.ext_getElem? fun i=>?_
 by_cases hi:i < n
 . by_cases e:k=i
   . subst e
     rw[aaf (by simp;exact h),aab,aa0 h];simp
   . rw[aag e,aab,aab,aa0 hi]
     have:(i < k+1) ↔ (i < k):=by omega
     simp[this]
 . rw[aaG (by simp;omega),aaG (by simp;omega)]
theorem Qf {f g:Nat->Int}{n:Nat}:((aah n).map fun w=>if w < 0 then f w else g w)=(aah n).map g:=by simp
theorem Qg {f g:Nat->Int}{n:Nat}:((aah n).map fun w=>if w < n then f w else g w)=(aah n).map f:=by
 refine acv fun i hi=>?_
 rw[if_pos (abX.mp hi)]
theorem sX {l:List Int}{k:Nat}{z:Int}:(l.map Dt.int).set k (.int z)=(l.set k z).map Dt.int:=by rw[List.map_set]
theorem GI (six:Bool)(ns:List Int)(f:Int):(aah (wn six)).map (fun w=>(rC six ns f).getD w 0)=rC six ns f:=by
 refine List.ext_getElem? fun i=>?_
 by_cases hi:i < wn six
 . rw[aab,aa0 hi]
   have hl:i < (rC six ns f).length:=by unfold rC;simpa using hi
   rw[k3 hl];simp[Bn,hl]
 . rw[aaG (by simp;omega),aaG (by unfold rC;simp;omega)]
theorem ON {n k:Nat}(h:k < n):DY n (k:Int)=some k:=by
 unfold DY;simp[h]
theorem Xb {six:Bool}{b:Int}{p:Int×Int}(h:p.1.natAbs < 2 ^ 990/\p.2.natAbs < 2 ^ 990):sm (tn six (b % wy six).toNat p):=by
 obtain⟨x,y⟩:=p;obtain⟨h1,h2⟩:=h;simp only at h1 h2;unfold sm;cases six with
 | false=>
   have e:wy false=4:=rfl;rw[e];have h:b % 4=0\/b % 4=1\/b % 4=2\/b % 4=3:=by omega
   rcases h with h | h | h | h <;> rw[h] <;> simp[tn,Pf.tl] <;> omega
 | true=>
   have e:wy true=6:=rfl;rw[e];have h:b % 6=0\/b % 6=1\/b % 6=2\/b % 6=3\/b % 6=4\/b % 6=5:=by omega
   rcases h with h | h | h | h | h | h <;> rw[h] <;> simp[tn,Pf.tl] <;> omega
theorem zR (T:Txt K mg t):MF P w K mg base CX 5 t.aw "joined" 2 (LB t):=by
 refine⟨T.ay.cl,_,_,_,gS T.jZ.F pk rfl fun aZ A outer s H E G ds r hr hl hR=>?_,T.gv,T.jZ.b⟩;obtain⟨six,x,y,rfl,⟨wx,wy'⟩,rfl⟩:=hR;have sY:=LC (P:=P) (w:=w) (base:=base) T;have Bj:=LD (P:=P) (w:=w) (base:=base) T;have Bk:=LF (P:=P) (w:=w) (base:=base) T;have Ts:=wc (P:=P) (w:=w) (base:=base) T six;have GJ:=C8 (P:=P) (w:=w) (base:=base) T six;have sW:=nX (P:=P) (w:=w) (base:=base) T six;have EY:=GG (P:=P) (w:=w) (base:=base) T;have x6:=Bi (P:=P) (w:=w) (base:=base) T;have uH:=x3 (P:=P) (w:=w) (base:=base) T;have EZ:=GH (P:=P) (w:=w) (base:=base) T;have OO:=C9 (P:=P) (w:=w) (base:=base) T;have OP:=LA (P:=P) (w:=w) (base:=base) T;have Tt:=Bh (P:=P) (w:=w) (base:=base) T;have hw:=u7 six;have Xa:(wy six).toNat=wn six:=by omega
 have hw6:wn six<=6:=by cases six <;> decide
 have nd:=pk.nd;let S:Nat->List Slot:=fun k=>[.val (t.EM six x),.val (t.EM six y),.val (.jz (.obj (t.pc six) [])),.val (sp (tn six (x.turn % wy six).toNat y.shift)),
   .own (.lst (((aah (wn six)).map fun w=>if w < k then yY six x y w else (rC six y.reach x.turn).getD w 0).map .int)),
   .own (.lst (((aah (wn six)).map fun w=>if w < k then Bd six x y w else (rC six y.bf x.turn).getD w 0).map .int)),.aS]
 have e0:S 0=[.val (t.EM six x),.val (t.EM six y),.val (.jz (.obj (t.pc six) [])),.val (sp (tn six (x.turn % wy six).toNat y.shift)),.own (.lst ((rC six y.reach x.turn).map .int)),.own (.lst ((rC six y.bf x.turn).map .int)),.aS]:=by
   show [_,_,_,_,Slot.own (.lst (((aah (wn six)).map fun w=>if w < 0 then _ else _).map .int)),Slot.own (.lst (((aah (wn six)).map fun w=>if w < 0 then _ else _).map .int)),_]=_;rw[Qf,Qf,GI,GI]
 have en:S (wn six)=[.val (t.EM six x),.val (t.EM six y),.val (.jz (.obj (t.pc six) [])),.val (sp (tn six (x.turn % wy six).toNat y.shift)),.own (.lst ((jn six x y).reach.map .int)),.own (.lst ((jn six x y).bf.map .int)),.aS]:=by
   show [_,_,_,_,Slot.own (.lst (((aah (wn six)).map fun w=>if w < wn six then _ else _).map .int)),Slot.own (.lst (((aah (wn six)).map fun w=>if w < wn six then _ else _).map .int)),_]=_;rw[Qg,Qg];rfl
 refine⟨_,.rt _,ag (au 2 nd (aE (fs:=t.lx six x) (aa 0 rfl) T.ay.cl T.dY rfl))
   (ag (au 3 nd (Eb (fs:=t.lx six y) (aa 1 rfl) sY av hr (ae (aE (fs:=t.lx six x) (aa 0 rfl) T.ay.cl T.bI rfl) ah) ⟨six,y,_,rfl,rfl⟩))
   (ag (iU 4 nd (q8 (fs:=t.lx six y) (aa 1 rfl) Bj av hr (ae (aE (fs:=t.lx six x) (aa 0 rfl) T.ay.cl T.bI rfl) ah) ⟨six,y,_,rfl,wy',rfl⟩))
   (ag (iU 5 nd (q8 (fs:=t.lx six y) (aa 1 rfl) Bk av hr (ae (aE (fs:=t.lx six x) (aa 0 rfl) T.ay.cl T.bI rfl) ah) ⟨six,y,_,rfl,wy',rfl⟩))
   (ag (gb (m:=wn six) 6 S nd rfl PassesOwn.leaving T.eW (ae (cu (mE (aa 2 rfl)) Ts av hr ⟨rfl,rfl⟩) ah) ⟨by omega,by omega⟩ (by rw[e0];exact Le.of ⟨rfl,rfl,rfl,rfl,rfl,rfl,trivial⟩) (by omega) (fun k hk=>?_) (by rw[Xa];exact .all rfl))
   ?_))))⟩
 . have Ye:k < ((aah (wn six)).map fun w=>if w < k then yY six x y w else (rC six y.reach x.turn).getD w 0).length:=by simpa using hk
   have afj:k < ((aah (wn six)).map fun w=>if w < k then Bd six x y w else (rC six y.bf x.turn).getD w 0).length:=by simpa using hk
   have ga:∀ (f g:Nat->Int) (z:Int),qi ((((aah (wn six)).map fun w=>if w < k then f w else g w)).map Dt.int) (k:Int)=some (.int (g k)):=fun f g z=>by
     refine mJ ?_;rw[aab,aab,aa0 hk];simp
   have gs:∀ (l:List Int) (z:Int),l.length=wn six->qi ((l.map Dt.int).set k (.int z)) (k:Int)=some (.int z):=fun l z hl=>by
     refine mJ ?_;rw[aaf (by simp;omega)]
   have ix:∀ (l:List Dt),l.length=wn six->DY l.length (k:Int)=some k:=fun l hl=>ON (by omega)
   have xr:qi x.reach (k:Int)=some (x.reach.getD k 0):=by
     have:=x4 (ns:=x.reach) (k:=k) (by omega) (by rw[wx.rl];omega);simpa using this
   have xt:qi x.bf (k:Int)=some (x.bf.getD k 0):=by
     have:=x4 (ns:=x.bf) (k:=k) (by omega) (by rw[wx.tl];omega);simpa using this
   have lA:(((aah (wn six)).map fun w=>if w < k then yY six x y w else (rC six y.reach x.turn).getD w 0).map Dt.int).length=wn six:=by simp
   have lB:(((aah (wn six)).map fun w=>if w < k then Bd six x y w else (rC six y.bf x.turn).getD w 0).map Dt.int).length=wn six:=by simp
   have lA0:((aah (wn six)).map fun w=>if w < k then yY six x y w else (rC six y.reach x.turn).getD w 0).length=wn six:=by simp
   have iA:=ix _ lA;have iB:=ix _ lB;have iA':∀ z,DY (abB (List.set (((aah (wn six)).map fun w=>if w < k then yY six x y w else (rC six y.reach x.turn).getD w 0).map Dt.int) k z)) (k:Int)=some k:=fun z=>ix _ (by rw[acr];exact lA)
   have iB':∀ z,DY (abB (List.set (((aah (wn six)).map fun w=>if w < k then Bd six x y w else (rC six y.bf x.turn).getD w 0).map Dt.int) k z)) (k:Int)=some k:=fun z=>ix _ (by rw[acr];exact lB)
   by_cases c:(rC six y.reach x.turn).getD k 0+jt six k x.shift<=x.reach.getD k 0
   . have eR:yY six x y k=x.reach.getD k 0:=if_pos c
     have eT:Bd six x y k=x.bf.getD k 0:=if_pos c;refine .nx (ag (nI (m:=k) 4 (aO (t8 4 (aa 6 rfl) (ga _ _ 0)) (aT (mE (aa 2 rfl)) GJ av hr (ae (aa 6 rfl) (ae (xZ T.hK (aE (fs:=t.lx six x) (aa 0 rfl) T.ay.cl T.bc rfl)) ah)) ⟨_,_,rfl,⟨by omega,by omega⟩,rfl⟩)) (aa 6 rfl) iA)
       (ag (nI (m:=k) 5 (aO (t8 5 (aa 6 rfl) (ga _ _ 0)) (aE (fs:=t.lx six x) (aa 0 rfl) T.ay.cl T.bE rfl)) (aa 6 rfl) iB)
       (ao (aM (Ci (tX (rM (aE (fs:=t.lx six x) (aa 0 rfl) T.ay.cl T.cC rfl)) (aa 6 rfl) xr) (t8 4 (aa 6 rfl) (gs _ _ lA0)))
         (fun h=>ag (nI (m:=k) 4 (tX (rM (aE (fs:=t.lx six x) (aa 0 rfl) T.ay.cl T.cC rfl)) (aa 6 rfl) xr) (aa 6 rfl) (iA' _))
           (ao (nI (m:=k) 5 (tX (rM (aE (fs:=t.lx six x) (aa 0 rfl) T.ay.cl T.fi rfl)) (aa 6 rfl) xt) (aa 6 rfl) (iB' _))))
         (fun h=>absurd c (of_decide_eq_false h)))))) (Le.of ⟨rfl,rfl,rfl,rfl,?_,?_,trivial⟩)
     . rw[List.set_set,sX,<- eR,wg hk]
     . rw[List.set_set,sX,<- eT,wg hk]
   . have eR:yY six x y k=(rC six y.reach x.turn).getD k 0+jt six k x.shift:=if_neg c
     have eT:Bd six x y k=(rC six y.bf x.turn).getD k 0+x.many:=if_neg c;refine .nx (ag (nI (m:=k) 4 (aO (t8 4 (aa 6 rfl) (ga _ _ 0)) (aT (mE (aa 2 rfl)) GJ av hr (ae (aa 6 rfl) (ae (xZ T.hK (aE (fs:=t.lx six x) (aa 0 rfl) T.ay.cl T.bc rfl)) ah)) ⟨_,_,rfl,⟨by omega,by omega⟩,rfl⟩)) (aa 6 rfl) iA)
       (ag (nI (m:=k) 5 (aO (t8 5 (aa 6 rfl) (ga _ _ 0)) (aE (fs:=t.lx six x) (aa 0 rfl) T.ay.cl T.bE rfl)) (aa 6 rfl) iB)
       (ao (aM (Ci (tX (rM (aE (fs:=t.lx six x) (aa 0 rfl) T.ay.cl T.cC rfl)) (aa 6 rfl) xr) (t8 4 (aa 6 rfl) (gs _ _ lA0)))
         (fun h=>absurd (of_decide_eq_true h) c)
         (fun h=>bu))))) (Le.of ⟨rfl,rfl,rfl,rfl,?_,?_,trivial⟩)
     . rw[sX,<- eR,wg hk]
     . rw[sX,<- eT,wg hk]
 . rw[en]
   exact vP (ns:=(jn six x y).reach) 4 (vP (ns:=(jn six x y).bf) 5 (ao (aG (EN (vH Tt av hr (ae (aa 2 rfl) (ae (aO (aE (fs:=t.lx six x) (aa 0 rfl) T.ay.cl T.bE rfl) (cu (fs:=t.lx six y) (aa 1 rfl) EY av hr ⟨six,y,rfl,rfl⟩))
     (ae (aT (mE (aa 2 rfl)) sW av hr (ae (aO (aE (fs:=t.lx six x) (aa 0 rfl) T.ay.cl T.bI rfl) (cu (fs:=t.lx six y) (aa 1 rfl) x6 av hr ⟨six,y,rfl,rfl⟩)) ah) ⟨_,rfl,rfl⟩)
     (ae (ER T.hK (bW OO av hr (ae (xZ T.hK (aE (fs:=t.lx six x) (aa 0 rfl) T.ay.cl T.bc rfl)) (ae (aa 3 rfl) ah)) ⟨_,_,rfl,rfl⟩))
     (ae (aO (aE (fs:=t.lx six x) (aa 0 rfl) T.ay.cl T.cy rfl) (cu (fs:=t.lx six y) (aa 1 rfl) uH av hr ⟨six,y,rfl,rfl⟩))
     (ae (aa 4 rfl) (ae (aa 5 rfl) (ae (aO (aO (aE (fs:=t.lx six x) (aa 0 rfl) T.ay.cl T.fj rfl) (cu (fs:=t.lx six y) (aa 1 rfl) EZ av hr ⟨six,y,rfl,rfl⟩))
       (bW OP av hr (ae (xZ T.hK (aE (fs:=t.lx six x) (aa 0 rfl) T.ay.cl T.bc rfl)) (ae (aa 3 rfl) ah)) ⟨_,_,rfl,⟨⟨by have:=wx.sm;omega,by have:=wx.sm;omega⟩,Xb wy'.sm⟩,rfl⟩)) ah)))))))) ⟨six,jn six x y,rfl,rfl⟩)))))
theorem k4 (six:Bool)(xs:List Str)(d:Str):cm six (xs ++ [d])=jn six (cm six xs) (one six d):=by
 unfold cm;rw[List.foldl_append];rfl
theorem qM (six:Bool):∀ n:Nat,tn six n (0,0)=(0,0)
 | 0=>rfl
 | n+1=>by rw[tn,qM six n];cases six <;> rfl
theorem x8 (six:Bool)(d:Str):(we six d (0,0) 0).1=if d∈DJ then (1,0) else (0,0):=by
 have e:tn six ((0:Int) % wy six).toNat (1,0)=(1,0):=by cases six <;> rfl
 unfold we;show(if d∈DJ then ad (0,0) (tn six ((0:Int) % wy six).toNat (1,0)) else (0,0))=_;rw[e];rfl
theorem GK (six:Bool)(b:Int):(tn six (b % wy six).toNat (1,0)).1.natAbs<=1/\(tn six (b % wy six).toNat (1,0)).2.natAbs<=1:=by
 cases six with
 | false=>
   have e:wy false=4:=rfl;rw[e];have h:b % 4=0\/b % 4=1\/b % 4=2\/b % 4=3:=by omega
   rcases h with h | h | h | h <;> rw[h] <;> decide
 | true=>
   have e:wy true=6:=rfl;rw[e];have h:b % 6=0\/b % 6=1\/b % 6=2\/b % 6=3\/b % 6=4\/b % 6=5:=by omega
   rcases h with h | h | h | h | h | h <;> rw[h] <;> decide
theorem OQ (six:Bool)(x:Tr)(d:Str):(jn six x (one six d)).shift.1.natAbs<=x.shift.1.natAbs+1/\(jn six x (one six d)).shift.2.natAbs<=x.shift.2.natAbs+1:=by
 show(x.shift.1+(tn six (x.turn % wy six).toNat (we six d (0,0) 0).1).1).natAbs<=_/\(x.shift.2+(tn six (x.turn % wy six).toNat (we six d (0,0) 0).1).2).natAbs<=_;rw[x8];by_cases c:d∈DJ
 . rw[if_pos c]
   have:=GK six x.turn;omega
 . rw[if_neg c,qM]
   simp
theorem Tu (six:Bool)(d:Str):WF six (one six d):=⟨by unfold one;simp,by unfold one;simp,by
 show(we six d (0,0) 0).1.1.natAbs < _/\(we six d (0,0) 0).1.2.natAbs < _;rw[x8];by_cases c:d∈DJ
 . rw[if_pos c];decide
 . rw[if_neg c];decide⟩
theorem Tv (six:Bool):WF six (DK six):=⟨by unfold DK;simp,by unfold DK;simp,by show(0:Int).natAbs < _/\(0:Int).natAbs < _;decide⟩
theorem Bl (six:Bool):∀ (n:Nat) (xs:List Str),xs.length=n->(cm six xs).shift.1.natAbs<=n/\(cm six xs).shift.2.natAbs<=n/\(cm six xs).reach.length=wn six/\(cm six xs).bf.length=wn six:=by
 intro n
 induction n with
 | zero=>
   intro xs h;have e:xs=[]:=abz h;subst e;have w:=Tv six;exact⟨aaa _,aaa _,w.rl,w.tl⟩
 | succ n ih=>
   intro xs h;have BJ:xs≠[]:=fun e=>by rw[e] at h;cases h
   have e:=abJ BJ;have hl:xs.dropLast.length=n:=by rw[abV];omega
   obtain⟨h1,h2,h3,h4⟩:=ih _ hl;rw[<- e,k4];obtain⟨q1,q2⟩:=OQ six (cm six xs.dropLast) (xs.getLast BJ);refine⟨by omega,by omega,?_,?_⟩
   . unfold jn;simp
   . unfold jn;simp
theorem Bm (six:Bool){xs:List Str}(h:xs.length < 2 ^ 990):WF six (cm six xs):=by
 obtain⟨h1,h2,h3,h4⟩:=Bl six _ xs rfl;exact⟨h3,h4,aaT h1 h,aaT h2 h⟩
theorem LG (six:Bool){xs:List Str}(h:xs.length<=100000):WF six (cm six xs):=Bm six (aaT h (aal (show 100000 < 2 ^ 20 by decide) (aco (by decide) (by decide))))
theorem Dg (T:Txt K mg t):GF P w K mg base CX 7 "track_of" 2 (ET t):=by
 refine⟨_,_,_,gS T.ko.F u0 rfl fun aZ A outer s H E G ds r hr hl hR=>?_,(T.g T.ko.a),T.ko.F.kp,T.ko.b⟩;obtain⟨six,xs,rfl,hd,hn,rfl⟩:=hR;have Bo:=Df (P:=P) (w:=w) (base:=base) T;have Xc:=EX (P:=P) (w:=w) (base:=base) T;have x9:=zR (P:=P) (w:=w) (base:=base) T;have nd:=u0.nd;let S:Nat->List Slot:=fun k=>[.val (.jz (.obj (t.pc six) [])),.val (.lst (xs.map .str)),.val (t.rY six (cm six (xs.take k))),.aS]
 have en:S (xs.map Dt.str).length=[.val (.jz (.obj (t.pc six) [])),.val (.lst (xs.map .str)),.val (t.rY six (cm six xs)),.aS]:=by
   show [_,_,Slot.val (t.rY six (cm six (xs.take (xs.map Dt.str).length))),_]=_;rw[k5,abF]
 refine⟨_,.rt _,ag (au 2 nd (bW Bo av hr (ae (aa 0 rfl) ah) ⟨six,rfl,rfl⟩))
   (ag (FP (m:=(xs.map Dt.str).length) 3 S nd rfl PassesOwn.leaving (aa 1 rfl) (Le.of ⟨rfl,rfl,rfl,trivial⟩) (aaa _) (fun k z hk hz=>?_) (.all rfl)) ?_)⟩
 . rw[k5] at hk
   rw[aab,k3 hk] at hz;cases hz;have hm:xs[k]∈xs:=aaY hk;have e:cm six (xs.take (k+1))=jn six (cm six (xs.take k)) (one six xs[k]):=by
     rw[aby,k3 hk];exact k4 _ _ _
   have hl:(xs.take k).length<=100000:=by rw[aas];omega
   refine .nx (ao (au 2 nd (aT (fs:=t.lx six (cm six (xs.take k))) (rZ (aa 2 rfl)) x9 av hr (ae (rZ (bW Xc av hr (ae (aa 0 rfl) (ae (aa 3 rfl) ah)) ⟨six,xs[k],rfl,hd _ hm,rfl⟩)) ah) ⟨six,_,one six xs[k],rfl,⟨LG six hl,Tu six _⟩,rfl⟩))) (Le.of ⟨rfl,rfl,?_,trivial⟩);show Slot.val (t.rY six (cm six (xs.take (k+1))))=_;rw[e]
 . rw[en]
   exact ao (aG (aa 2 rfl))
theorem Dh (six:Bool):∀ (n:Nat) (xs:List Str),xs.length=n->(cm six xs).many=n/\(cm six xs).a5=(xs.count ("stroke":Str):Nat):=by
 intro n
 induction n with
 | zero=>
   intro xs h;have e:xs=[]:=abz h;subst e;exact⟨rfl,rfl⟩
 | succ n ih=>
   intro xs h;have BJ:xs≠[]:=fun e=>by rw[e] at h;cases h
   have e:=abJ BJ;have hl:xs.dropLast.length=n:=by rw[abV];omega
   obtain⟨h1,h2⟩:=ih _ hl;have ec:xs.count ("stroke":Str)=xs.dropLast.count ("stroke":Str)+if xs.getLast BJ="stroke" then 1 else 0:=by
     conv=>lhs;rw[<- e]
     rw[abL,List.count_singleton]
     congr 1
     by_cases c:xs.getLast BJ="stroke" <;> simp[c]
   rw[ec]
   conv=>lhs;rw[<- e]
   rw[show(cm six xs).a5=(cm six (xs.dropLast ++ [xs.getLast BJ])).a5 by rw[e],k4];refine⟨?_,?_⟩
   . show(cm six xs.dropLast).many+1=_
     rw[h1];omega
   . show(cm six xs.dropLast).a5+(if xs.getLast BJ="stroke" then 1 else 0)=_
     rw[h2];by_cases c:xs.getLast BJ="stroke"
     . rw[if_pos c,if_pos c];omega
     . rw[if_neg c,if_neg c];omega
noncomputable abbrev TSA:=Int×(Int×Int)×Int
noncomputable def pj (x:Tr):TSA:=(x.turn,x.shift,x.iS)
noncomputable def stp (six:Bool)(s:TSA)(d:Str):TSA:=((s.1+ka d) % wy six,ad s.2.1 (tn six (s.1 % wy six).toNat (if d∈DJ then (1,0) else (0,0))),s.2.2+cr s.2.1 (tn six (s.1 % wy six).toNat (if d∈DJ then (1,0) else (0,0))))
theorem Xd (six:Bool)(x:Tr)(d:Str):pj (jn six x (one six d))=stp six (pj x) d:=by
 unfold pj stp jn;have e1:(one six d).turn=(0+ka d) % wy six:=rfl;have e2:(one six d).shift=if d∈DJ then (1,0) else (0,0):=x8 six d
 have e3:(one six d).iS=0:=rfl;simp only[e1,e2,e3];refine Prod.ext ?_ (Prod.ext rfl ?_)
 . show(x.turn+(0+ka d) % wy six) % wy six=_
   rw[Int.add_emod_emod];simp
 . show x.iS+0+_=x.iS+_
   rw[abZ]
open PySem.Builtin.Str PySem.StrLaws in
theorem Bp (s:Str)(c limit:Nat):∀ (n i:Nat) (acc:Array Nat) (free:Nat),free<=i->acc.size+n<=limit->(forIn (ab4 i n) (acc,free) (occBody s ⟨#[c]⟩ s.length limit)).run.fst.size=acc.size+(ab4 i n).countP (fun j=>decide (s.cps.toList[j]?=some c))
 | 0,i,acc,free,_,_=>by simp
 | n+1,i,acc,free,hf,hl=>by
   rw[List.range'_succ,List.forIn_cons,List.countP_cons];have hso:=subAt_one s c i;by_cases hc:s.cps.toList[i]?=some c
   . obtain⟨h1,h2⟩:=hso.mpr hc
     have e:occBody s ⟨#[c]⟩ s.length limit i (acc,free)=pure (ForInStep.yield (acc.push i,i+(⟨#[c]⟩:Str).length)):=by
       unfold occBody;exact if_pos ⟨⟨⟨by show acc.size < limit;omega,hf⟩,h1⟩,h2⟩
     rw[e];show(forIn (ab4 (i+1) n) (acc.push i,i+(⟨#[c]⟩:Str).length) (occBody s ⟨#[c]⟩ s.length limit)).run.fst.size=_;rw[Bp s c limit n (i+1) (acc.push i) _ (by show i+1<=i+1;omega) (by rw[Array.size_push];omega),Array.size_push,if_pos (decide_eq_true hc)];omega
   . have e:occBody s ⟨#[c]⟩ s.length limit i (acc,free)=pure (ForInStep.yield (acc,free)):=by
       unfold occBody;exact if_neg fun h=>hc (hso.mp ⟨h.1.2,h.2⟩)
     rw[e];show(forIn (ab4 (i+1) n) (acc,free) (occBody s ⟨#[c]⟩ s.length limit)).run.fst.size=_;rw[Bp s c limit n (i+1) acc free (by omega) (by omega),if_neg (by simpa using hc)];omega
theorem ID (L:List Nat)(c:Nat):(ab4 0 (L.length+1)).countP (fun j=>decide (L[j]?=some c))=L.count c:=by
 rw[<- List.range_eq_range',List.range_succ,List.countP_append];have e1:(aah L.length).map (fun j=>L[j]?)=L.map some:=by
   refine List.ext_getElem? fun i=>?_
   rw[aab,aab];by_cases h:i < L.length
   . rw[aa0 h];simp[h]
   . rw[aaG (by simp;omega),aaG (by omega)];rfl
 have e2:(aah L.length).countP (fun j=>decide (L[j]?=some c))=((aah L.length).map (fun j=>L[j]?)).countP (fun o=>decide (o=some c)):=by
   rw[List.countP_map];rfl
 rw[e2,e1,List.countP_map];have e3:((fun o=>decide (o=some c)) ∘ some)=fun x:Nat=>x == c:=by
   funext x
   by_cases h:x=c <;> simp[h]
 rw[e3];simp[List.count]
open PySem.Builtin.Str PySem.StrLaws in
theorem Di (w:List Nat)(x:Nat):Txt.count (tx w) (sg x)=((w.count x:Nat):Int):=by
 unfold Txt.count;have hl:=fX w;rw[occ_eq,abW];show(((forIn (ab4 0 ((tx w).length+1 - 0)) (#[],0) (occBody (tx w) ⟨#[x]⟩ (tx w).length ((tx w).length+1))).run.fst.size:Nat):Int)=_;rw[Bp (tx w) x _ _ 0 #[] 0 (aaa _) (by simp)];have e:(tx w).cps.toList=w:=by show w.toArray.toList=w;simp
 rw[e,hl,Nat.sub_zero,ID];simp
noncomputable def Qh (L w:List Nat):List (Key×Int):=L.map fun x=>(.inr (sg x),((w.count x:Nat):Int))
theorem LH (L w:List Nat):(dI (Qh L w)).map (·.1)=L.map fun x=>(Sum.inr (sg x):Key):=by
 unfold dI Qh;rw[aai,aai];rfl
theorem ky {L:List Nat}(h:L.Nodup):(L.map fun x=>(Sum.inr (sg x):Key)).Nodup:=by
 rw[List.nodup_iff_pairwise_ne,List.pairwise_map];exact(List.nodup_iff_pairwise_ne.mp h).imp fun hn e=>hn (pZ (Sum.inr.inj e))
theorem Tw (L w:List Nat):(L.map fun x=>Dt.tup [.str (sg x),.int ((w.count x:Nat):Int)])=(dI (Qh L w)).map Kt:=by
 unfold dI Qh;rw[aai,aai];rfl
def OR (t:dM):Rl:=fun ds r=>∃ six rows w,ds=[t.yX six rows,.str (tx w)]/\a0 rows/\r=.own (.cZ (dI (Qh (rows.map (·.c)) w)))
noncomputable abbrev aaU:Stmt->Scope
 | .Return (some (.Call _ (.ListComp _ _ sc _::_) _ _)) _=>sc
 | _=>af (.Pass ⟨0,0,0,0⟩)
noncomputable abbrev LI:Scope:=aaU ((aC sL).getD 0 (.Pass ⟨0,0,0,0⟩))
theorem Dj:gw LI (af sL) Gj ["letter","word"] ["letter"] [1]=true:=by decide +kernel
theorem dg (w:List Nat):w.map (fun x=>Dt.str (sg x))=Sg.signs (tx w):=by rw[xY,aai];rfl
theorem ya {rows:List Row}(ok:a0 rows):lb (tx (rows.map (·.c)))=true:=iQ fun x hx=>by
 obtain⟨r,hr,rfl⟩:=aaQ.mp hx;have:=ok.sm r hr;unfold small at this;omega
theorem LJ (T:Txt K mg t):GF P w K mg base CX 3 "tally" 2 (OR t):=by
 refine⟨_,_,_,gS T.qD.F CU rfl fun aZ A outer s H E G ds r hr hl hR=>?_,(T.g T.qD.a),T.qD.F.kp,T.qD.b⟩;obtain⟨six,rows,wd,rfl,ok,rfl⟩:=hR;have cR:=gR (P:=P) (w:=w) (base:=base) T;have nd:=CU.nd;have h6:=ok.le;let L:=rows.map (·.c);have e2:((L.filter fun _=>true).map fun x=>Dt.tup [.str (sg x),.int ((wd.count x:Nat):Int)])=(dI (Qh L wd)).map Kt:=by
   rw[aan.mpr (fun _ _=>rfl)];exact Tw L wd
 refine⟨_,.ro _,ao (jD (mv T.oT rfl (df e2 (dr L (fun x=>Dt.str (sg x)) (fun x=>.tup [.str (sg x),.int ((wd.count x:Nat):Int)]) (fun x=>[.val (.str (sg x))]) (fun _=>true) rfl (aW Dj) (fG (cu (fs:=t.vB six rows) (aa 0 rfl) cR av hr ⟨six,rows,rfl,ok,rfl⟩)) (bA (aW Dj) rfl) (cM (b7 (ya ok)) (dg L)) (fun a _=>bG) (.nil fun _ _=>rfl)
     (fun a ha _ C fp s' H' G'=>bL (ae (aa 0 rfl) (ae (aK (zy (aa 1 rfl) (aa 0 rfl)) (congrArg Dt.int (Di wd a))) ah)) AA3) (qK (by show(rows.map (·.c)).length<=_;rw[k5];omega)))) ?_ ?_))⟩
 . rw[LH];exact ky ok.nd
 . show((Qh (rows.map (·.c)) wd).map _).length<=_
   unfold Qh;rw[k5,k5,k5];exact qK (by omega)
noncomputable def cT (rows:List Row):Nat->Nat->Nat->Int
 | 0,c,x=>(([c].count x:Nat):Int)
 | i+1,c,x=>((wordOf rows c).map fun y=>cT rows i y x).sum
noncomputable def kc (L:List Nat)(T:Nat->Int):List (Key×Int):=L.map fun x=>(.inr (sg x),T x)
noncomputable def lT (rows:List Row)(i c:Nat):Int:=((rows.map (·.c)).map fun x=>cT rows i c x).sum
noncomputable def sZ (rows:List Row)(i:Nat):List (Key×FD):=(rows.map (·.c)).map fun c=>(.inr (sg c),.cZ (kc (rows.map (·.c)) (cT rows i c)))
noncomputable def yb (rows:List Row)(i:Nat):List (Key×FD):=(rows.map (·.c)).map fun c=>(.inr (sg c),.int (lT rows i c))
theorem OS (L:List Nat)(T:Nat->Int):(kc L T).map (·.2)=L.map T:=by unfold kc;rw[aai];rfl
theorem GL (L:List Nat)(T:Nat->Int):(dI (kc L T)).map (·.1)=L.map fun x=>(Sum.inr (sg x):Key):=by unfold dI kc;rw[aai,aai];rfl
theorem LK (L:List Nat)(T:Nat->Int):(dI (kc L T)).length=L.length:=by unfold dI kc;rw[k5,k5]
noncomputable def kd (L:List Nat)(D:Nat->Dt):List (Key×Dt):=L.map fun x=>(.inr (sg x),D x)
theorem eC {D:Nat->Dt}:∀ {L:List Nat} {x:Nat},x∈L->mn (kd L D) (.inr (sg x))=some (D x)
 | [],_,h=>by cases h
 | y::L,x,h=>by
   by_cases e:y=x
   . subst e
     exact sF (p:=((.inr (sg y):Key),D y)) rfl
   . have ne:¬ (Sum.inr (sg y):Key)=.inr (sg x):=fun z=>e (pZ (Sum.inr.inj z))
     have hx:x∈L:=by
       rcases aaJ.mp h with z | z
       . exact absurd z.symm e
       . exact z
     exact(pM (p:=((.inr (sg y):Key),D y)) ne).trans (eC hx)
theorem u9 (L:List Nat)(T:Nat->Int):dI (kc L T)=kd L fun x=>.int (T x):=by unfold dI kc kd;rw[aai];rfl
theorem Ez (rows:List Row)(i:Nat):pz (sZ rows i)=kd (rows.map (·.c)) fun c=>.eF (dI (kc (rows.map (·.c)) (cT rows i c))):=by unfold pz sZ kd;rw[aai];rfl
theorem M4 (rows:List Row)(i:Nat):pz (yb rows i)=kd (rows.map (·.c)) fun c=>.int (lT rows i c):=by unfold pz yb kd;rw[aai];rfl
theorem tf (L:List Nat)(D:Nat->Dt):(kd L D).map (·.1)=L.map fun x=>(Sum.inr (sg x):Key):=by unfold kd;rw[aai];rfl
theorem zS (L:List Nat)(D:Nat->Dt):(L.map fun x=>Dt.tup [.str (sg x),D x])=(kd L D).map Kt:=by unfold kd;rw[aai];rfl
theorem E1 {L:List Nat}(nd:L.Nodup){D:Nat->Dt}{j:Nat}(hj:j < L.length):uX (kd (L.take j) D) (.inr (sg L[j])) (D L[j])=kd (L.take (j+1)) D:=by
 have hn:mn (kd (L.take j) D) (.inr (sg L[j]))=none:=by
   refine ue fun kv UG=>?_
   have:kv.1∈(kd (L.take j) D).map (·.1):=aaQ.mpr ⟨kv,UG,rfl⟩;rw[tf] at this;obtain⟨y,hy,e⟩:=aaQ.mp this;intro z;rw[<- e] at z;have z:y=L[j]:=pZ (Sum.inr.inj z);obtain⟨i,hi,e⟩:=aa8.mp hy;rw[aas] at hi;rw[ab2] at e;exact abt.mp nd i j (by omega) hj (by omega) (e.trans z)
 unfold uX;rw[hn,if_neg (by simp)];unfold kd;rw[aby,k3 hj,abv];rfl
noncomputable def zT (L:List Nat)(T:Nat->Int):Dt:=.eF (dI (kc L T))
def LL:Rl:=fun ds r=>∃ (L:List Nat) (ts:List (Nat->Int)),ds=[.lst (ts.map (zT L)),.str (tx L)]/\L.Nodup/\L.length<=6/\(∀ x∈L,x < 128)/\ts.length<=1000/\r=.own (.cZ (dI (kc L fun x=>(ts.map fun T=>T x).sum)))
noncomputable abbrev Tx:Stmt->Scope
 | .Return (some (.Call _ (.ListComp _ _ sc _::_) _ _)) _=>sc
 | _=>af (.Pass ⟨0,0,0,0⟩)
noncomputable abbrev Xe:Stmt->Scope
 | .Return (some (.Call _ (.ListComp (.Tuple [_,.Call _ (.ListComp _ _ sc _::_) _ _] _ _) _ _ _::_) _ _)) _=>sc
 | _=>af (.Pass ⟨0,0,0,0⟩)
noncomputable abbrev Qi:Scope:=Tx ((aC jH).getD 0 (.Pass ⟨0,0,0,0⟩))
noncomputable abbrev Tz:Scope:=Xe ((aC jH).getD 0 (.Pass ⟨0,0,0,0⟩))
noncomputable def TB (sc:Scope):Env:={ scope:=sc,locals:=0,globals:=0,cells:=[],qual:="",func:=none,code:=.none,frame:=none,builtins:=0}
noncomputable abbrev Xf:Scope:=relabel Qi (TB (af jH))
theorem GN:CJ Qi (af jH) CV ["letter","tallies"] "letter" [0]=true:=by decide +kernel
theorem Bq:gw Tz Xf ["letter","tallies"] ["counts","letter"] ["counts"] [0]=true:=by decide +kernel
theorem zU (T:Txt K mg t):GF P w K mg base CX 2 "summed" 2 LL:=by
 refine⟨_,_,_,gS T.iP.F qz rfl fun aZ A outer s H E G ds r hr hl hR=>?_,(T.g T.iP.a),T.iP.F.kp,T.iP.b⟩;obtain⟨L,ts,rfl,hnd,hL,h7,hts,rfl⟩:=hR;have nd:=qz.nd;have hu:(A.deeper (envOfC "summed" (af jH) s.heap.objs.size t.nT aZ)).units+1 < cLine:=by have:=hr.units;omega
 let D:Nat->Dt:=fun x=>.int (ts.map fun T=>T x).sum
 have e2:((L.filter fun _=>true).map fun x=>Dt.tup [.str (sg x),D x])=(dI (kc L fun x=>(ts.map fun T=>T x).sum)).map Kt:=by
   rw[aan.mpr (fun _ _=>rfl),u9];exact zS L D
 refine⟨_,.ro _,ao (jD (mv T.oT rfl (df e2 (Ep L (fun x=>Dt.str (sg x)) (fun x=>.tup [.str (sg x),D x]) (fun x=>[.val (.str (sg x))]) (fun _=>true) rfl (uY GN) (fG (aa 1 rfl)) (sG (uY GN)) (cM (b7 (iQ h7)) (dg L)) (fun a _=>bG) (.nil fun _ _=>rfl)
     (fun a ha _ c C fp s' H' G'=>?_) (qK (by omega)))) (by rw[GL];exact ky hnd) (by rw[LK];exact qK (by omega))))⟩
 have e3:((ts.filter fun _=>true).map fun T=>Dt.int (T a))=(ts.map fun T=>T a).map Dt.int:=by
   rw[aan.mpr (fun _ _=>rfl),aai];rfl
 refine bL (ae (aa 0 rfl) (ae (Ei T.zL rfl (df e3 (dr ts (zT L) (fun T=>Dt.int (T a)) (fun T=>[.val (zT L T)]) (fun _=>true) rfl (aW Bq) (fE (aa 1 rfl)) (bA (aW Bq) rfl) dP (fun a _=>bG) (.nil fun _ _=>rfl)
   (fun T' hT' _ C2 UJ s2 H2 G2=>?_) (qK (by omega))))) ah)) AA3
 exact d5 hu (aa 0 rfl) (aa 1 rfl) (by rw[u9];exact eC ha) (fun _ _=>rfl)
noncomputable def dM.Br (t:dM)(six:Bool)(rows:List Row)(w:List Nat):List (Str×Dt):=[("rules",t.yX six rows),("seed",.str (tx w))]
noncomputable def nr (rows:List Row):List (Nat->List (Key×FD)):=[sZ rows,yb rows]
noncomputable abbrev dM.cz (t:dM)(six:Bool)(rows:List Row)(w:List Nat)(l:Addr)(ls:k7)(n:Nat):List (Str×Dt):=uR (t.Br six rows w) ["tallies","lengths"] l ls n
noncomputable abbrev dM.IE (t:dM)(six:Bool)(rows:List Row)(w:List Nat)(l:Addr)(ls:k7)(n:Nat):List (Str×Dt):=qR (t.Br six rows w) ["tallies","lengths"] l ls n
noncomputable abbrev dM.aaX (t:dM)(six:Bool)(rows:List Row)(w:List Nat)(n:Nat):Dt:=.zl t.aq (t.Br six rows w) (nr rows) ["tallies","lengths"] n
structure j8 (rows:List Row)(w:List Nat):Prop where
 ok:a0 rows
 w0:0 < w.length
 w8:w.length<=8
 wm:∀ x∈w,x∈rows.map (·.c)
theorem Dl {a:Addr}:∀ rows:List Row,Az a (uE rows)=true
 | []=>rfl
 | r::rows=>by
   show(ug a (nh r) && Az a (uE rows))=true;rw[Dl rows];rfl
theorem E2 {a:Addr}(t:dM)(six:Bool)(rows:List Row):ug a (t.yX six rows)=true:=by
 show lE a [("drawer",.jz (.obj (t.pc six) [])),("row_by_letter",.cZ (uE rows))]=true;show(true && (Az a (uE rows) && true))=true;rw[Dl];rfl
theorem Dm {a:Addr}(t:dM)(six:Bool)(rows:List Row)(w:List Nat):lE a (t.Br six rows w)=true:=by
 show(ug a (t.yX six rows) && (true && true))=true;rw[E2];rfl
def OT (t:dM):Rl:=fun ds r=>∃ six rows w,ds=[t.yX six rows,.str (tx w)]/\j8 rows w/\r=.own (.tW t.aq (t.Br six rows w) (nr rows) ["tallies","lengths"] 1)
noncomputable abbrev E3:Stmt->Scope
 | .Assign _ (.List [.Call _ (.ListComp _ _ sc _::_) _ _] _) _=>sc
 | _=>af (.Pass ⟨0,0,0,0⟩)
noncomputable abbrev TC:Scope:=E3 ((aC eD).getD 2 (.Pass ⟨0,0,0,0⟩))
noncomputable abbrev TF:Scope:=E3 ((aC eD).getD 3 (.Pass ⟨0,0,0,0⟩))
theorem LM:gw TC (af eD) m5 ["letter","rules"] ["letter"] [1]=true:=by decide +kernel
theorem LN:gw TF (af eD) m5 ["letter"] ["letter"] []=true:=by decide +kernel
theorem GO:∀ {L:List Nat} {c:Nat},L.Nodup->c∈L->(L.map fun x=>(([c].count x:Nat):Int)).sum=1
 | [],_,_,h=>by cases h
 | y::L,c,nd,h=>by
   rw[ab1] at nd;rw[aao,abP];by_cases e:c=y
   . subst e
     have z:(L.map fun x=>(([c].count x:Nat):Int)).sum=0:=by
       have:∀ x∈L,(([c].count x:Nat):Int)=0:=fun x hx=>by
         have:¬ c=x:=fun z=>nd.1 (z ▸ hx)
         simp[List.count_cons,this]
       rw[acv this];clear this nd h
       induction L with
       | nil=>rfl
       | cons a r ih=>rw[aao,abP,ih];rfl
     rw[z];simp
   . have hc:c∈L:=by
       rcases aaJ.mp h with z | z
       . exact absurd z e
       . exact z
     rw[GO nd.2 hc];simp[List.count_cons,e]
theorem Xg {rows:List Row}(ok:a0 rows){c:Nat}(h:c∈rows.map (·.c)):lT rows 0 c=1:=GO ok.nd h
theorem LO (T:Txt K mg t):UD P w K mg base CX 4 "Growth" t.aq 3 (OT t):=by
 refine⟨_,_,_,Yi T.kQ.F pS rfl fun aZ A outer s H E G z ds r hr hl hR=>?_,T.uz,(T.g T.aB.a),T.kQ.b⟩;obtain⟨six,rows,wd,rfl,ok,rfl⟩:=hR;have cR:=gR (P:=P) (w:=w) (base:=base) T;have IF:=u6 (P:=P) (w:=w) (base:=base) T;have OU:=LJ (P:=P) (w:=w) (base:=base) T;have h6:=ok.ok.le;let L:=rows.map (·.c);have hL:L.length<=6:=by show(rows.map (·.c)).length<=6;rw[k5];exact h6
 have nd:=pS.nd;have e1:((L.filter fun _=>true).map fun x=>Dt.tup [.str (sg x),zT L (cT rows 0 x)])=(pz (sZ rows 0)).map Kt:=by
   rw[aan.mpr (fun _ _=>rfl),Ez];exact zS L _
 have e2:((L.filter fun _=>true).map fun x=>Dt.tup [.str (sg x),.int 1])=(pz (yb rows 0)).map Kt:=by
   rw[aan.mpr (fun _ _=>rfl),M4,<- zS];exact acv fun x hx=>by rw[Xg ok.ok hx]
 refine⟨_,.Zv (fs:=t.Br six rows wd) (gs:=nr rows) (nm:=["tallies","lengths"]) (n:=1) rfl,ag (k9 (aa 1 rfl) T.aB.cl T.aU) (ag (k9 (Eb (fs:=t.vB six rows) (aa 1 rfl) IF av hr (ae (aa 2 rfl) ah) ⟨six,rows,wd,8,rfl,ok.ok,ok.wm,⟨ok.w0,ok.w8,by decide⟩,rfl⟩) T.aB.cl T.dv)
   (AE (f:=sZ rows) (g:=yb rows) rfl T.aB.cl T.aY T.bH ?_ ?_))⟩
 . refine mv T.oT rfl (df e1 (dr L (fun x=>Dt.str (sg x)) (fun x=>.tup [.str (sg x),zT L (cT rows 0 x)]) (fun x=>[.val (.str (sg x))]) (fun _=>true) rfl (aW LM) (fG (cu (fs:=t.vB six rows) (aa 1 rfl) cR av hr ⟨six,rows,rfl,ok.ok,rfl⟩)) (bA (aW LM) rfl) (cM (b7 (ya ok.ok)) (dg L)) (fun a _=>bG) (.nil fun _ _=>rfl)
     (fun a ha _ C fp s' H' G'=>bL (ae (aa 0 rfl) (ae (KD (pL OU av hr (ae (aa 1 rfl) (ae (aa 0 rfl) ah)) ⟨six,rows,[a],rfl,ok.ok,rfl⟩)) ah)) AA3) (qK (by omega)))) (by rw[Ez,tf];exact ky ok.ok.nd) (by rw[Ez];show(List.map _ _).length<=_;rw[k5,k5];exact qK (by omega))
 . refine mv T.oT rfl (df e2 (dr L (fun x=>Dt.str (sg x)) (fun x=>.tup [.str (sg x),.int 1]) (fun x=>[.val (.str (sg x))]) (fun _=>true) rfl (aW LN) (fG (cu (fs:=t.vB six rows) (aa 1 rfl) cR av hr ⟨six,rows,rfl,ok.ok,rfl⟩)) (bA (aW LN) rfl) (cM (b7 (ya ok.ok)) (dg L)) (fun a _=>bG) (.nil fun _ _=>rfl)
     (fun a ha _ C fp s' H' G'=>bL (ae (aa 0 rfl) (ae aj ah)) AA3) (qK (by omega)))) (by rw[M4,tf];exact ky ok.ok.nd) (by rw[M4];show(List.map _ _).length<=_;rw[k5,k5];exact qK (by omega))
def LP (t:dM):Rl:=fun ds r=>∃ six rows w l ls n age,ds=[.obj t.aq (t.cz six rows w l ls n),.int ((age:Nat):Int)]/\j8 rows w/\ls.map (·.2)=nr rows/\age<=1000/\r=.ret (.yw l ls (age+1))
noncomputable abbrev Xh:Stmt->List Stmt
 | .While _ b _ _=>b
 | _=>[]
noncomputable abbrev Dn:Stmt->Scope
 | .For _ _ [.Assign _ (.Call _ (.ListComp _ _ sc _::_) _ _) _] _ _=>sc
 | _=>af (.Pass ⟨0,0,0,0⟩)
noncomputable abbrev OV:Stmt->Scope
 | .Expr (.Call _ [.Call _ (.ListComp _ _ sc _::_) _ _] _ _) _=>sc
 | _=>af (.Pass ⟨0,0,0,0⟩)
noncomputable abbrev wB:List Stmt:=Xh ((aC bS).getD 1 (.Pass ⟨0,0,0,0⟩))
noncomputable abbrev Xi:Scope:=Dn (wB.getD 2 (.Pass ⟨0,0,0,0⟩))
noncomputable abbrev Xj:Scope:=OV (wB.getD 4 (.Pass ⟨0,0,0,0⟩))
theorem Qj:gw Xi (af bS) jo ["younger","last"] ["younger"] [3]=true:=by decide +kernel
theorem Qk:gw Xj (af bS) jo ["letter","grown"] ["letter"] [4]=true:=by decide +kernel
theorem IG (T:Txt K mg t):MF P w K mg base CX 4 t.aq "deepen_to" 2 (LP t):=by
 refine⟨T.aB.cl,_,_,_,gS T.fO.F ly rfl fun aZ A outer s H E G ds r hr hl hR=>?_,T.dw,T.fO.b⟩;obtain⟨six,rows,wd,l,ls,n,age,rfl,ok,ju,eZ,rfl⟩:=hR;have cR:=gR (P:=P) (w:=w) (base:=base) T;have oV:=p7 (P:=P) (w:=w) (base:=base) T;have p8:=zU (P:=P) (w:=w) (base:=base) T;have nd:=ly.nd;have h6:=ok.ok.le;let L:=rows.map (·.c);have hL:L.length<=6:=by show(rows.map (·.c)).length<=6;rw[k5];exact h6
 have h7:∀ x∈L,x < 128:=fun x hx=>by
   obtain⟨r,hr,rfl⟩:=aaQ.mp hx;have:=ok.ok.sm r hr;unfold small at this;omega
 have hu:(A.deeper (envOfC "Growth.deepen_to" (af bS) s.heap.objs.size t.bT aZ)).units+1 < cLine:=by have:=hr.units;omega
 have e2:ls.length=2:=by have:=congrArg abB ju;simpa [nr] using this
 let tl:List Slot:=[.val (.int ((age:Nat):Int)),.val (.str (tx L)),.aS,.aS,.aS]
 refine⟨_,qx (by rw[e2];exact aaa 2),ag (dl1:=BH t.aq (t.Br six rows wd) ["tallies","lengths"] l ls n tl) (au 2 nd (cu (fs:=t.vB six rows) (aE (fs:=t.cz six rows wd l ls n) (aa 0 rfl) T.aB.cl T.aU rfl) cR av hr ⟨six,rows,rfl,ok.ok,rfl⟩))
   (ao (zC (age:=age) PassesOwn.leaving (Dm t six rows wd) rfl (by decide) (by omega) (fun N G hx=>?_) (fun N hN hNa G0 hA hB=>?_)))⟩
 . exact aP (uU (Ge (N:=N) T.fD hx (aE (fs:=t.IE six rows wd l ls n) (aa 0 rfl) T.aB.cl T.aY rfl) (by rw[e2];rfl)) (aa 1 rfl)) (decide_eq_decide.mpr (by omega))
 . let Dk:Nat->Dt:=fun c=>zT L (cT rows N c)
   let S:Nat->List Slot:=fun k=>[.val (.obj t.aq (t.IE six rows wd l ls n)),.val (.int ((age:Nat):Int)),.val (.str (tx L)),.val (.eF (pz (sZ rows (N - 1)))),.own (.cZ (kd (L.take k) Dk)),.aS]
   have eS:S L.length=[.val (.obj t.aq (t.IE six rows wd l ls n)),.val (.int ((age:Nat):Int)),.val (.str (tx L)),.val (.eF (pz (sZ rows (N - 1)))),.own (.cZ (pz (sZ rows N))),.aS]:=by
     show [_,_,_,_,Slot.own (.cZ (kd (L.take L.length) Dk)),_]=_;rw[abF,Ez rows N];rfl
   refine ag (au 3 nd (CK (f:=sZ rows) (N:=N) ak (aE (fs:=t.IE six rows wd l ls n) (aa 0 rfl) T.aB.cl T.aY rfl) (jk aj) (by rw[ju];rfl) (by rw[e2];rfl) hN)) (ag (iU 4 nd Aw)
     (ag (dl1:=S L.length) (oh (o:=.nx (S L.length)) (m:=L.length) L (fun x=>Dt.str (sg x)) (fun x dl=>dl.set 5 (.val (.str (sg x)))) S rfl PassesOwn.leaving (fG (aa 2 rfl)) (cM (b7 (iQ h7)) (dg L)) (bo nd rfl (.inl rfl)) (fun a _=>vJ) (Le.of ⟨rfl,rfl,rfl,rfl,rfl,trivial⟩) (aaa _) (fun k a hk ha=>?_) (.all rfl)) ?_))
   . rw[k3 hk] at ha
     cases ha;have hm:L[k]∈L:=aaY hk;obtain⟨q,hq,hc,_,ew⟩:=f9 hm;have hwp:=ok.ok.wp q hq;have Xk:∀ y∈wordOf rows L[k],y∈L:=fun y hy=>ok.ok.wo q hq y (by rw[ew] at hy;exact hy)
     have Rr:(wordOf rows L[k]).length<=8:=by rw[ew];exact hwp.2
     have Wg:(kd (L.take k) Dk).length < sizeLine:=by
       unfold kd;rw[k5,aas];exact aal (show min k L.length < 2000 by omega) (by decide)
     have e3:(((wordOf rows L[k]).filter fun _=>true).map fun y=>zT L (cT rows (N - 1) y))=((wordOf rows L[k]).map fun y=>cT rows (N - 1) y).map (zT L):=by
       rw[aan.mpr (fun _ _=>rfl),aai];rfl
     have eN:N=(N - 1)+1:=by omega
     have ed:Dk L[k]=.eF (dI (kc L fun x=>(((wordOf rows L[k]).map fun y=>cT rows (N - 1) y).map fun T=>T x).sum)):=by
       have e7:(cT rows N L[k])=fun x=>(((wordOf rows L[k]).map fun y=>cT rows (N - 1) y).map fun T=>T x).sum:=by
         funext x
         rw[aai];obtain⟨M,rfl⟩:∃ M,N=M+1:=⟨N - 1,eN⟩
         rfl
       show zT L (cT rows N L[k])=_;rw[e7];rfl
     refine .nx (ao (Ax (kds:=kd (L.take k) Dk) (d:=Dk L[k]) 4 hu (by rw[ed];exact KD (pL p8 av hr (ae (df e3 (dr (wordOf rows L[k]) (fun x=>Dt.str (sg x)) (fun y=>zT L (cT rows (N - 1) y)) (fun x=>[.val (.str (sg x))]) (fun _=>true) rfl (aW Qj) (fG (aT (fs:=t.vB six rows) (aE (fs:=t.IE six rows wd l ls n) (aa 0 rfl) T.aB.cl T.aU rfl) oV av hr (ae (aa 5 rfl) ah) ⟨six,rows,L[k],rfl,ok.ok,hm,rfl⟩)) (bA (aW Qj) rfl) (cM (b7 (mT ok.ok Xk)) (dg _)) (fun a _=>bG) (.nil fun _ _=>rfl)
       (fun y hy _ C fp s' H' G'=>d5 hu (aa 1 rfl) (aa 0 rfl) (by rw[Ez];exact eC (Xk y hy)) (fun _ _=>rfl)) (qK (by omega)))) (ae (aa 2 rfl) ah)) ⟨L,_,rfl,ok.ok.nd,hL,h7,by rw[k5];omega,rfl⟩)) (aa 5 rfl) Wg)) (Le.of ⟨rfl,rfl,rfl,rfl,?_,trivial⟩)
     show Slot.own (.cZ (kd (L.take (k+1)) Dk))=Slot.own (.cZ (uX (kd (L.take k) Dk) (.inr (sg L[k])) (Dk L[k])));rw[E1 ok.ok.nd hk]
   . rw[eS]
     refine FO (dl1:=.val (.obj t.aq (t.IE six rows wd l ls n))::tl.set 3 (.own (.cZ (pz (sZ rows N))))) (CO (f:=sZ rows) (g:=yb rows) (tl:=tl) 3 (Dm t six rows wd) rfl rfl ju (by omega) T.aB.cl T.aY T.bH hA hB (fun G2=>?_)) (Le.of ⟨rfl,rfl,rfl,rfl,trivial⟩);have e4:((L.filter fun _=>true).map fun x=>Dt.tup [.str (sg x),.int (lT rows N x)])=(pz (yb rows N)).map Kt:=by
       rw[aan.mpr (fun _ _=>rfl),M4];exact zS L _
     exact mv T.oT rfl (df e4 (dr L (fun x=>Dt.str (sg x)) (fun x=>.tup [.str (sg x),.int (lT rows N x)]) (fun x=>[.val (.str (sg x))]) (fun _=>true) rfl (aW Qk) (fG (aa 2 rfl)) (bA (aW Qk) rfl) (cM (b7 (iQ h7)) (dg L)) (fun a _=>bG) (.nil fun _ _=>rfl)
       (fun a ha _ C fp s' H' G'=>bL (ae (aa 0 rfl) (ae (aK (N4 (kds:=kc L (cT rows N a)) T.zL rfl (d5 (d:=zT L (cT rows N a)) hu (aa 1 rfl) (aa 0 rfl) (by rw[Ez];exact eC ha) (fun _ _=>rfl)) (.inl rfl)) (by rw[OS];rfl)) ah)) AA3) (qK (by omega)))) (by rw[M4,tf];exact ky ok.ok.nd) (by rw[M4];show(List.map _ _).length<=_;rw[k5,k5];exact qK (by omega))
def aaZ:Rl:=fun ds r=>∃ z f l:Int,ds=[.int z,.int f,.int l]/\f<=z/\z<=l/\r=.ret .dk
def OW (t:dM):Rl:=fun ds r=>∃ six rows w l ls n age,ds=[.obj t.aq (t.cz six rows w l ls n),.int ((age:Nat):Int)]/\j8 rows w/\ls.map (·.2)=nr rows/\age<=200/\r=.ret (.yw l ls (age+1))
noncomputable def lnT (rows:List Row)(w:List Nat)(age:Nat):Int:=(w.map (lT rows age)).sum
noncomputable def YH (rows:List Row)(w:List Nat)(age:Nat)(x:Nat):Int:=(w.map fun c=>cT rows age c x).sum
def TH (t:dM):Rl:=fun ds r=>∃ six rows w l ls n age,ds=[.obj t.aq (t.cz six rows w l ls n),.int ((age:Nat):Int)]/\j8 rows w/\ls.map (·.2)=nr rows/\age<=200/\r=.ret (.int (lnT rows w age))
def TJ (t:dM):Rl:=fun ds r=>∃ six rows w l ls n age,ds=[.obj t.aq (t.cz six rows w l ls n),.int ((age:Nat):Int)]/\j8 rows w/\ls.map (·.2)=nr rows/\age<=200/\r=.own (.cZ (dI (kc (rows.map (·.c)) (YH rows w age))))
def TK (t:dM):Rl:=fun ds r=>∃ six rows w l ls n,ds=[.obj t.aq (t.cz six rows w l ls n)]/\r=.ret (t.yX six rows)
noncomputable abbrev E4:Stmt->Scope
 | .Return (some (.Call _ (.ListComp _ _ sc _::_) _ _)) _=>sc
 | _=>af (.Pass ⟨0,0,0,0⟩)
noncomputable abbrev Xl:Scope:=E4 ((aC dQ).getD 1 (.Pass ⟨0,0,0,0⟩))
noncomputable abbrev Xm:Scope:=E4 ((aC dR).getD 1 (.Pass ⟨0,0,0,0⟩))
theorem Ql:gw Xl (af dQ) o6 ["letter","self","age"] ["letter"] [0,1]=true:=by decide +kernel
theorem Qm:gw Xm (af dR) o7 ["letter","self","age"] ["letter"] [0,1]=true:=by decide +kernel
theorem j8.asc {rows:List Row}{w:List Nat}(ok:j8 rows w):lb (tx w)=true:=mT ok.ok ok.wm
theorem Qn (T:Txt K mg t):GF P w K mg base CX 1 "check_round" 3 aaZ:=by
 refine⟨_,_,_,gS T.gi.F xq rfl fun aZ A outer s H E G ds r hr hl hR=>?_,(T.g T.gi.a),T.gi.F.kp,T.gi.b⟩;obtain⟨z,f,l,rfl,h1,h2,rfl⟩:=hR;exact⟨_,.nx _,ao (aM (u:=false) (su (oY (u:=false) (v:=false) (aP (qZ (aa 0 rfl) (aa 1 rfl)) (decide_eq_false (by omega))) fun _=>(mW (aP (oZ (aa 0 rfl) (aa 2 rfl)) (decide_eq_false (by omega)))))) (fun h=>nomatch h) (fun h=>bu))⟩
theorem nY (T:Txt K mg t):MF P w K mg base CX 5 t.aq "enter" 2 (OW t):=by
 refine⟨T.aB.cl,_,_,_,gS T.jU.F vk rfl fun aZ A outer s H E G ds r hr hl hR=>?_,T.fP,T.jU.b⟩;obtain⟨six,rows,wd,l,ls,n,age,rfl,ok,ju,eZ,rfl⟩:=hR;have TL:=Qn (P:=P) (w:=w) (base:=base) T;have E5:=IG (P:=P) (w:=w) (base:=base) T;have e2:ls.length=2:=by have:=congrArg abB ju;simpa [nr] using this
 exact⟨_,qx (nm:=["tallies","lengths"]) (by rw[e2];exact aaa 2),ag (kB (bW TL av hr (ae (aa 1 rfl) (ae aj (ae (kC (w:=.int 200) T.sV ⟨_,rfl⟩ fun _=>.int 200) ah))) ⟨_,_,_,rfl,by omega,by omega,rfl⟩))
   (ao (jF (m:=age+1) (tl:=[.val (.int ((age:Nat):Int))]) (aT (fs:=t.cz six rows wd l ls n) (aa 0 rfl) E5 av hr (ae (aa 1 rfl) ah) ⟨six,rows,wd,l,ls,n,age,rfl,ok,ju,by omega,rfl⟩)))⟩
theorem Bs (T:Txt K mg t):MF P w K mg base CX 6 t.aq "length" 2 (TH t):=by
 refine⟨T.aB.cl,_,_,_,gS T.jc.F ur rfl fun aZ A outer s H E G ds r hr hl hR=>?_,T.fk,T.jc.b⟩;obtain⟨six,rows,wd,l,ls,n,age,rfl,ok,ju,eZ,rfl⟩:=hR;have p9:=nY (P:=P) (w:=w) (base:=base) T;have hu:(A.deeper (envOfC "Growth.length" (af dQ) s.heap.objs.size t.cU aZ)).units+1 < cLine:=by have:=hr.units;omega
 have w8:=ok.w8;have e3:((wd.filter fun _=>true).map fun x=>Dt.int (lT rows age x))=(wd.map (lT rows age)).map Dt.int:=by
   rw[aan.mpr (fun _ _=>rfl),aai];rfl
 exact⟨_,.rt _,ag (jF (m:=age+1) (tl:=[.val (.int ((age:Nat):Int))]) (aT (fs:=t.cz six rows wd l ls n) (aa 0 rfl) p9 av hr (ae (aa 1 rfl) ah) ⟨six,rows,wd,l,ls,n,age,rfl,ok,ju,by omega,rfl⟩))
   (ao (aG (Ei T.zL rfl (df e3 (dr wd (fun x=>Dt.str (sg x)) (fun x=>Dt.int (lT rows age x)) (fun x=>[.val (.str (sg x))]) (fun _=>true) rfl (aW Ql) (fG (aE (fs:=t.cz six rows wd l ls (age+1)) (aa 0 rfl) T.aB.cl T.dv rfl)) (bA (aW Ql) rfl) (cM (b7 ok.asc) (dg wd)) (fun a _=>bG) (.nil fun _ _=>rfl)
     (fun a ha _ C fp s' H' G'=>d5 hu (pO (n:=age+1) (j:=1) (f:=yb rows) (aE (fs:=t.cz six rows wd l ls (age+1)) (aa 1 rfl) T.aB.cl T.bH rfl) (aa 2 rfl) (by rw[ju];rfl) (by omega) (by omega)) (aa 0 rfl) (by rw[M4];exact eC (ok.wm a ha)) (fun _ _=>rfl)) (qK (by omega)))))))⟩
theorem GP (T:Txt K mg t):MF P w K mg base CX 6 t.aq "counts" 2 (TJ t):=by
 refine⟨T.aB.cl,_,_,_,gS T.jd.F uu rfl fun aZ A outer s H E G ds r hr hl hR=>?_,T.fm,T.jd.b⟩;obtain⟨six,rows,wd,l,ls,n,age,rfl,ok,ju,eZ,rfl⟩:=hR;have p9:=nY (P:=P) (w:=w) (base:=base) T;have cR:=gR (P:=P) (w:=w) (base:=base) T;have p8:=zU (P:=P) (w:=w) (base:=base) T;have hu:(A.deeper (envOfC "Growth.counts" (af dR) s.heap.objs.size t.cV aZ)).units+1 < cLine:=by have:=hr.units;omega
 have w8:=ok.w8;have h6:=ok.ok.le;let L:=rows.map (·.c);have hL:L.length<=6:=by show(rows.map (·.c)).length<=6;rw[k5];exact h6
 have h7:∀ x∈L,x < 128:=fun x hx=>by
   obtain⟨r,hr,rfl⟩:=aaQ.mp hx;have:=ok.ok.sm r hr;unfold small at this;omega
 have e3:((wd.filter fun _=>true).map fun x=>zT L (cT rows age x))=(wd.map fun c=>cT rows age c).map (zT L):=by
   rw[aan.mpr (fun _ _=>rfl),aai];rfl
 have e4:(YH rows wd age)=fun x=>((wd.map fun c=>cT rows age c).map fun T=>T x).sum:=by
   funext x
   rw[aai];rfl
 exact⟨_,.ro _,ag (jF (m:=age+1) (tl:=[.val (.int ((age:Nat):Int))]) (aT (fs:=t.cz six rows wd l ls n) (aa 0 rfl) p9 av hr (ae (aa 1 rfl) ah) ⟨six,rows,wd,l,ls,n,age,rfl,ok,ju,by omega,rfl⟩))
   (ao (jD (pL p8 av hr (ae (df e3 (dr wd (fun x=>Dt.str (sg x)) (fun x=>zT L (cT rows age x)) (fun x=>[.val (.str (sg x))]) (fun _=>true) rfl (aW Qm) (fG (aE (fs:=t.cz six rows wd l ls (age+1)) (aa 0 rfl) T.aB.cl T.dv rfl)) (bA (aW Qm) rfl) (cM (b7 ok.asc) (dg wd)) (fun a _=>bG) (.nil fun _ _=>rfl)
     (fun a ha _ C fp s' H' G'=>d5 hu (pO (n:=age+1) (j:=0) (f:=sZ rows) (aE (fs:=t.cz six rows wd l ls (age+1)) (aa 1 rfl) T.aB.cl T.aY rfl) (aa 2 rfl) (by rw[ju];rfl) (by omega) (by omega)) (aa 0 rfl) (by rw[Ez];exact eC (ok.wm a ha)) (fun _ _=>rfl)) (qK (by omega)))) (ae (cu (fs:=t.vB six rows) (aE (fs:=t.cz six rows wd l ls (age+1)) (aa 0 rfl) T.aB.cl T.aU rfl) cR av hr ⟨six,rows,rfl,ok.ok,rfl⟩) ah)) ⟨L,_,rfl,ok.ok.nd,hL,h7,by rw[k5];omega,by rw[e4]⟩)))⟩
theorem Bt (T:Txt K mg t):MF P w K mg base CX 1 t.aq "rules_told" 1 (TK t):=by
 refine⟨T.aB.cl,_,_,_,gS T.eP.F pT rfl fun aZ A outer s H E G ds r hr hl hR=>?_,T.c9,T.eP.b⟩;obtain⟨six,rows,wd,l,ls,n,rfl,rfl⟩:=hR;exact⟨_,.rt _,ao (aG (aE (fs:=t.cz six rows wd l ls n) (aa 0 rfl) T.aB.cl T.aU rfl))⟩
noncomputable def MM:Int:=2305843009213693951
noncomputable def oW (ns:List Int)(k:Nat):Int:=ns.getD (k % ns.length) 0
noncomputable def bZ (ns:List Int)(k:Nat):Int:=oW ns k % 10 ^ 60 / MM * MM+(oW ns k+7919 * ((k:Int)+1)) * 6364136223846793005 % MM
theorem Dp (ns:List Int)(k:Nat):0<=bZ ns k:=by
 have h1:=aaF (oW ns k) (show(10:Int) ^ 60≠0 by decide);have h2:=aaF ((oW ns k+7919 * ((k:Int)+1)) * 6364136223846793005) (show MM≠0 by decide);have h3:0<=oW ns k % 10 ^ 60 / MM:=Int.ediv_nonneg h1 (by decide);unfold bZ;have h4:0<=oW ns k % 10 ^ 60 / MM * MM:=Int.mul_nonneg h3 (by decide);omega
def Xn:Rl:=fun ds r=>∃ ns:List Int,ns.length<=63/\ds=[.r8 ns]/\r=.ret (.bl true)
def LQ (K:W.Frag):Sp:=FQ K 1 Xn
theorem TM {K:W.Frag}{H:Hp}{a:Addr}{ns:List Int}(hl:ns.length<=63)(hS:nA K H a (ns.map V.int)):LQ K [.ref a] H (fun v _=>v=.bl true) fun _ _ _=>False:=
 ⟨H,[.r8 ns],.ret (.bl true),aI.refl H,.cons (.r8 hS) .nil,rfl,⟨ns,hl,rfl,rfl⟩,fun v aJ H' g r=>by cases r;rfl⟩
def GQ:Rl:=fun ds r=>∃ (ns:List Int) (k:Nat),ds=[.r8 ns,.int k]/\k<=100/\r=.ret (.int (bZ ns k))
theorem LR (ns:List Int)(k:Nat)(h:k < ns.length):qi ns (k:Int)=some (ns.getD k 0):=by
 refine mJ ?_;rw[Bn,k3 h];rfl
theorem Dq (T:Txt K mg t):GF P w K mg base CX 1 "_law_cell" 2 GQ:=by
 refine⟨_,_,_,gS T.uC.F vQ rfl fun aZ A outer s H E G ds r hr hl hR=>?_,(T.g T.uC.a),T.uC.F.kp,T.uC.b⟩;obtain⟨ns,k,rfl,hk,rfl⟩:=hR;refine⟨_,.rt _,ag (au 2 vQ.nd aj) (ag (dl1:=[.val (.r8 ns),.val (.int k),.val (.int (oW ns k)),.aS]) (aM (oZ (Am T.fD (aa 0 rfl)) aj) (fun h=>?_) (fun h=>?_))
   (ag (au 3 vQ.nd (eY (ik (aO (aa 2 rfl) (ik aj (aO (aa 1 rfl) aj) (qQ.ok (aaR ⟨by decide,by decide⟩)))) aj (qQ.ok (aaB ⟨by decide,by decide⟩))) aj (by decide)))
 (ao (aG (aO (ik (jB (eY (aa 2 rfl) (Rv aj aj ⟨by decide,by decide,by decide⟩) (by decide)) aj ⟨by decide,by decide +kernel⟩) aj (qQ.ok (aaB ⟨by decide,by decide⟩))) (aa 3 rfl))))))⟩
 . have h:=of_decide_eq_true h
   have hl:0 < ns.length:=by omega
   have e:((k:Nat):Int) % ((ns.length:Nat):Int)=((k % ns.length:Nat):Int):=by omega
   exact ao (au 2 vQ.nd (tX (aa 0 rfl) (aK (eY (aa 1 rfl) (Am T.fD (aa 0 rfl)) (by omega)) (congrArg Dt.int e)) (LR ns _ (Nat.mod_lt _ hl))))
 . have h:=of_decide_eq_false h
   have e:oW ns k=0:=by unfold oW;rw[Bn,aaG (by omega)];rfl
   rw[e];exact bu
noncomputable def abc:List Nat:=(aah 26).map (97 + ·)
structure LS where
 left:List Nat
 rest:Int
 out:List Nat
noncomputable def ls (c:Int):Nat->LS
 | 0=>⟨abc,c,[]⟩
 | k+1=>let s:=ls c k;let at_:=(s.rest % (s.left.length:Nat)).toNat;⟨s.left.take at_ ++ s.left.drop (at_+1),s.rest / (s.left.length:Nat),s.out ++ [s.left.getD at_ 0]⟩
noncomputable def qN (s:LS):Nat:=(s.rest % (s.left.length:Nat)).toNat
structure LOk (k:Nat)(s:LS):Prop where
 len:s.left.length+k=26
 ol:s.out.length=k
 sm:∀ x∈s.left,small x
 so:∀ x∈s.out,small x
 nl:s.left.Nodup
 no:s.out.Nodup
 ap:∀ x∈s.out,x ∉ s.left
theorem LU {s:LS}(h:0 < s.left.length):qN s < s.left.length:=by
 have h0:=aaF s.rest (show((s.left.length:Nat):Int)≠0 by omega);have h1:=aaK s.rest (show(0:Int) < (s.left.length:Nat) by omega);unfold qN;omega
theorem LV (c:Int):∀ k,k<=6->LOk k (ls c k)
 | 0,_=>⟨show abc.length+0=26 by decide,rfl,fun x hx=>by
     obtain⟨i,hi,rfl⟩:=aaQ.mp (show x∈(aah 26).map (97 + ·) from hx);have:=abX.mp hi;unfold small;omega,fun x h=>absurd h (List.not_mem_nil),show abc.Nodup by decide,List.nodup_nil,fun x h=>absurd h (List.not_mem_nil)⟩
 | k+1,hk=>by
   have ih:=LV c k (by omega);have hl:=ih.len;have di:qN (ls c k) < (ls c k).left.length:=LU (by omega);generalize hs:ls c k=s at ih hl di;have e:ls c (k+1)=⟨s.left.take (qN s) ++ s.left.drop (qN s+1),s.rest / (s.left.length:Nat),s.out ++ [s.left.getD (qN s) 0]⟩:=by rw[<- hs];rfl
   rw[e];have eg:s.left.getD (qN s) 0=s.left[qN s]:=by rw[Bn,k3 di];rfl
   have sub:s.left.take (qN s) ++ s.left.drop (qN s+1)=s.left.eraseIdx (qN s):=(List.eraseIdx_eq_take_drop_succ _ _).symm;have mem:∀ x∈s.left.take (qN s) ++ s.left.drop (qN s+1),x∈s.left:=fun x hx=>by
     rcases abI.mp hx with h | h
     . exact acp h
     . exact List.mem_of_mem_drop h
   have MW:s.left[qN s]∈s.left:=aaY di;have nin:s.left[qN s] ∉ s.left.take (qN s) ++ s.left.drop (qN s+1):=by
     have pw:=abt.mp ih.nl;intro h;rcases abI.mp h with h | h
     . obtain⟨i,hi,e⟩:=aa8.mp h
       rw[aas] at hi;rw[ab2] at e;exact pw i (qN s) (by omega) di (by omega) e
     . obtain⟨i,hi,e⟩:=aa8.mp h
       rw[abu] at hi;rw[List.getElem_drop] at e;exact pw (qN s) (qN s+1+i) di (by omega) (by omega) e.symm
   refine⟨?_,?_,fun x hx=>ih.sm x (mem x hx),fun x hx=>?_,?_,?_,fun x hx=>?_⟩
   . show(s.left.take (qN s) ++ s.left.drop (qN s+1)).length+(k+1)=26
     rw[aaq,aas,abu];omega
   . show(s.out ++ [s.left.getD (qN s) 0]).length=k+1
     rw[aaq,ih.ol];rfl
   . rcases abI.mp hx with h | h
     . exact ih.so x h
     . have:x=s.left[qN s]:=by rw[<- eg];simpa using h
       rw[this];exact ih.sm _ MW
   . show(s.left.take (qN s) ++ s.left.drop (qN s+1)).Nodup
     rw[sub];exact List.Nodup.sublist (List.eraseIdx_sublist _ _) ih.nl
   . show(s.out ++ [s.left.getD (qN s) 0]).Nodup
     rw[eg];refine List.nodup_append.mpr ⟨ih.no,by simp,fun a ha b hb z=>?_⟩;have:b=s.left[qN s]:=by simpa using hb
     subst z this;exact ih.ap _ ha MW
   . rcases abI.mp hx with h | h
     . exact fun z=>ih.ap x h (mem x z)
     . have:x=s.left[qN s]:=by rw[<- eg];simpa using h
       rw[this];exact nin
noncomputable def ws (L:List Nat)(c m:Int):Nat->Int×List Nat
 | 0=>(c / m,[])
 | k+1=>let s:=ws L c m k;(s.1 / (L.length:Nat),s.2 ++ [L.getD (s.1 % (L.length:Nat)).toNat 0])
noncomputable def yc (L:List Nat)(c m:Int):List Nat:=(ws L c m (1+c % m).toNat).2
theorem E6 (L:List Nat)(c m:Int):∀ k,(ws L c m k).2.length=k
 | 0=>rfl
 | k+1=>by show((ws L c m k).2 ++ [_]).length=_;rw[aaq,E6 L c m k];rfl
theorem LW (L:List Nat)(hL:0 < L.length)(c m:Int):∀ k,∀ x∈(ws L c m k).2,x∈L
 | 0,x,h=>by cases h
 | k+1,x,h=>by
   rcases abI.mp h with h | h
   . exact LW L hL c m k x h
   . have h0:=aaF (ws L c m k).1 (show((L.length:Nat):Int)≠0 by omega)
     have h1:=aaK (ws L c m k).1 (show(0:Int) < (L.length:Nat) by omega);have di:((ws L c m k).1 % (L.length:Nat)).toNat < L.length:=by omega
     have:x=L.getD ((ws L c m k).1 % (L.length:Nat)).toNat 0:=by simpa using h
     rw[this,Bn,k3 di];exact aaY di
theorem at_getD {L:List Str}{i:Int}{n:Nat}(hn:L.length=n)(h0:0<=i)(h1:i < n):qi (L.map Dt.str) i=some (.str (L.getD i.toNat "")):=by
 have e:i=((i.toNat:Nat):Int):=by omega
 rw[e];have hk:i.toNat < L.length:=by omega
 refine(mJ (j:=i.toNat) ?_).trans rfl;rw[aab,k3 hk,Bn];show some (Dt.str L[i.toNat])=some (Dt.str ((L[(i.toNat:Int).toNat]?).getD ""));rw[aaS,k3 hk];rfl
theorem Bu {L:List Nat}(hL:0 < L.length)(c m:Int)(hm:0 < m):0 < (yc L c m).length/\(yc L c m).length<=m.toNat/\∀ x∈yc L c m,x∈L:=by
 have h0:=aaF c (show m≠0 by omega);have h1:=aaK c hm;have hl:=E6 L c m (1+c % m).toNat;refine⟨?_,?_,LW L hL c m _⟩
 . show 0 < (ws L c m (1+c % m).toNat).2.length;omega
 . show(ws L c m (1+c % m).toNat).2.length<=_;omega
noncomputable def yd (c:Int)(n:Nat):List Nat:=(ls c n).out
theorem Dr (c:Int){n:Nat}(h:n<=6):(yd c n).length=n/\(yd c n).Nodup/\∀ x∈yd c n,small x:=let ok:=LV c n h;⟨ok.ol,ok.no,ok.so⟩
def OX:Rl:=fun ds r=>∃ (c:Int) (n:Nat),ds=[.int c,.int n]/\n<=6/\r=.ret (.str (tx (yd c n)))
def TN:Rl:=fun ds r=>∃ (L:List Nat) (c m:Int),ds=[.int c,.str (tx L),.int m]/\(0 < L.length/\L.length<=100)/\(0<=c/\0 < m/\m<=500)/\r=.ret (.str (tx (yc L c m)))
theorem LX (T:Txt K mg t):GF P w K mg base CX 1 "_law_alphabet" 2 OX:=by
 refine⟨_,_,_,gS T.kr.F u5 rfl fun aZ A outer s H E G ds r hr hl hR=>?_,(T.g T.kr.a),T.kr.F.kp,T.kr.b⟩;obtain⟨c,n,rfl,hn,rfl⟩:=hR;have nd:=u5.nd;let S:Nat->List Slot:=fun k=>[.val (.int (ls c k).rest),.val (.int n),.val (.str (tx (ls c k).left)),.val (.str (tx (ls c k).out)),.aS,.aS]
 refine⟨_,.rt _,ag (au 2 nd bC) (ag (au 3 nd bC)
   (ag (gb (o:=.nx (S n)) (m:=n) 4 S nd rfl PassesOwn.leaving T.eW (ae (aa 1 rfl) ah) ⟨by omega,by omega⟩ (Le.of ⟨rfl,rfl,rfl,rfl,trivial⟩) (by omega) (fun k hk=>?_) (by rw[aaS];exact .all rfl)) (ao (aG (aa 3 rfl)))))⟩
 have ok:=LV c k (by omega);have hl:=ok.len;have hol:=ok.ol;have di:qN (ls c k) < (ls c k).left.length:=LU (by omega);have ea:(ls c k).rest % (((ls c k).left.length:Nat):Int)=((qN (ls c k):Nat):Int):=by
   have h0:=aaF (ls c k).rest (show(((ls c k).left.length:Nat):Int)≠0 by omega);unfold qN;omega
 have ea1:((qN (ls c k):Nat):Int)+1=((qN (ls c k)+1:Nat):Int):=by omega
 have hb:0 < (((ls c k).left.length:Nat):Int)/\(((ls c k).left.length:Nat):Int).natAbs.log2 < 9000:=⟨by omega,by
   have:(((ls c k).left.length:Nat):Int).natAbs<=26:=by omega
   exact aaT (Nat.log2_le_self _) (by omega)⟩
 exact .nx (ag (au 5 nd (aK (eY (aa 0 rfl) (gQ T.fD (aa 2 rfl) (by omega)) (by omega)) (congrArg Dt.int ea)))
   (ag (au 0 nd (jB (aa 0 rfl) (gQ T.fD (aa 2 rfl) (by omega)) hb))
   (ag (au 3 nd (Bb (aa 3 rfl) (wb (aa 2 rfl) (aa 5 rfl) di (by omega)) (by rw[hol];show k+1<=2000;omega)))
   (ao (au 2 nd (Bb (Bc (aa 2 rfl) (aa 5 rfl) (abw di) (by omega)) (Iz (aa 2 rfl) (aK (aO (aa 5 rfl) aj) (congrArg Dt.int ea1)) di (by omega)) (by rw[aas,abu];omega))))))) (Le.of ⟨rfl,rfl,rfl,rfl,trivial⟩)
theorem OY (T:Txt K mg t):GF P w K mg base CX 1 "_law_text" 3 TN:=by
 refine⟨_,_,_,gS T.uD.F Gm rfl fun aZ A outer s H E G ds r hr hl hR=>?_,(T.g T.uD.a),T.uD.F.kp,T.uD.b⟩;obtain⟨L,c,m,rfl,⟨hL0,hL⟩,⟨hc,MR,hm⟩,rfl⟩:=hR;have nd:=Gm.nd;have h0:=aaF c (show m≠0 by omega);have h1:=aaK c MR;have YI:0 < m/\m.natAbs.log2 < 9000:=⟨MR,aaT (Nat.log2_le_self _) (by omega)⟩
 have hLb:0 < ((L.length:Nat):Int)/\((L.length:Nat):Int).natAbs.log2 < 9000:=⟨by omega,aaT (Nat.log2_le_self _) (by omega)⟩
 let S:Nat->List Slot:=fun k=>[.val (.int (ws L c m k).1),.val (.str (tx L)),.val (.int m),.val (.str (tx (ws L c m k).2)),.val (.int (1+c % m)),.aS]
 refine⟨_,.rt _,ag (au 3 nd bC) (ag (au 4 nd (aO aj (eY (aa 0 rfl) (aa 2 rfl) MR))) (ag (au 0 nd (jB (aa 0 rfl) (aa 2 rfl) YI))
   (ag (gb (m:=(1+c % m).toNat) 5 S nd rfl PassesOwn.leaving T.eW (ae (aa 4 rfl) ah) ⟨by omega,by omega⟩ (Le.of ⟨rfl,rfl,rfl,rfl,rfl,trivial⟩) (aaa _) (fun k hk=>?_) (.all rfl)) (ao (aG (aa 3 rfl))))))⟩
 have Rr:=E6 L c m k;have h2:=aaF (ws L c m k).1 (show((L.length:Nat):Int)≠0 by omega);have h3:=aaK (ws L c m k).1 (show(0:Int) < (L.length:Nat) by omega);have ea:(ws L c m k).1 % ((L.length:Nat):Int)=((((ws L c m k).1 % (L.length:Nat)).toNat:Nat):Int):=by omega
 exact .nx (ag (au 3 nd (Bb (aa 3 rfl) (wb (aa 1 rfl) (aK (eY (aa 0 rfl) (gQ T.fD (aa 1 rfl) (by omega)) (by omega)) (congrArg Dt.int ea)) (by omega) (by omega)) (by rw[Rr];show k+1<=2000;omega)))
   (ao (au 0 nd (jB (aa 0 rfl) (gQ T.fD (aa 1 rfl) (by omega)) hLb)))) (Le.of ⟨rfl,rfl,rfl,rfl,rfl,trivial⟩)
noncomputable def GR:List Str:=["stroke","left","right","step","rest"]
noncomputable def dG (c:Int):Str:=GR.getD (c % 5).toNat ""
theorem IH:∀ x∈GR,x∈pv:=by decide
theorem TQ (c:Int):dG c∈pv:=by
 have h0:=aaF c (show(5:Int)≠0 by decide);have h1:=aaK c (show(0:Int) < 5 by decide);have hk:(c % 5).toNat < GR.length:=by show _ < 5;omega
 refine IH _ ?_;unfold dG;rw[Bn,k3 hk];exact aaY hk
noncomputable def yZ (L:List Nat)(ns:List Int)(m:Int)(k:Nat):Row:=⟨L.getD k 0,dG (bZ ns (3+k)),yc L (bZ ns (3+k) / 5) m⟩
noncomputable def ye (L:List Nat)(ns:List Int)(m:Int):List Row:=(aah L.length).map (yZ L ns m)
theorem E7 (L:List Nat)(ns:List Int)(m:Int):(ye L ns m).map (·.c)=L:=by
 unfold ye;rw[aai];refine List.ext_getElem (by simp) fun i h1 h2=>?_
 simp only[aaL,List.getElem_range,Function.comp];show L.getD i 0=L[i];rw[Bn,k3 h2];rfl
theorem LY {L:List Nat}(ns:List Int){m:Int}(hm:0 < m/\m<=8)(h0:0 < L.length)(h6:L.length<=6)(nd:L.Nodup)(sm:∀ x∈L,small x):a0 (ye L ns m):=by
 have hl:(ye L ns m).length=L.length:=by unfold ye;rw[k5,aaV]
 have get:∀ r∈ye L ns m,∃ k,k < L.length/\r=yZ L ns m k:=fun r hr=>by
   obtain⟨k,hk,e⟩:=aaQ.mp hr;exact⟨k,abX.mp hk,e.symm⟩
 refine⟨by omega,by omega,by rw[E7];exact nd,fun r hr=>?_,fun r hr=>?_,fun r hr=>?_,fun r hr x hx=>?_⟩
 . obtain⟨k,hk,rfl⟩:=get r hr
   refine sm _ ?_;show L.getD k 0∈L;rw[Bn,k3 hk];exact aaY hk
 . obtain⟨k,hk,rfl⟩:=get r hr
   exact TQ _
 . obtain⟨k,hk,rfl⟩:=get r hr
   have:=Bu h0 (bZ ns (3+k) / 5) m hm.1;exact⟨this.1,by have:=this.2.1;show(yc _ _ _).length<=8;omega⟩
 . obtain⟨k,hk,rfl⟩:=get r hr
   rw[E7];exact(Bu h0 (bZ ns (3+k) / 5) m hm.1).2.2 x hx
noncomputable def uI (ns:List Int)(far:Int):Int:=if bZ ns 1 % 8=6 then bZ ns 1 / 8 % (far+1) else bZ ns 1 / 8 % 13
noncomputable def rE (ns:List Int)(far:Int):Int:=if bZ ns 1 % 8=7 then 200 - bZ ns 1 / 8 % 100 else uI ns far
noncomputable def j4 (ns:List Int):Int:=if bZ ns 1 % 8=7 then 1+bZ ns 0 / 2 % 2 else 1+bZ ns 0 / 2 % 6
noncomputable def uJ (ns:List Int):Int:=if bZ ns 1 % 8=7 then 2 else 8
noncomputable def GS (ns:List Int):List Nat:=yd (bZ ns 0 / 12) (j4 ns).toNat
noncomputable def yf (ns:List Int):List Row:=ye (GS ns) ns (uJ ns)
noncomputable def wj (ns:List Int):List Nat:=yc (GS ns) (bZ ns 2) 8
noncomputable def GU (ns:List Int):Bool:=decide (bZ ns 0 % 2=1)
theorem Xo (ns:List Int):4+2 * (bZ ns 0 % 2)=wy (GU ns):=by
 have:bZ ns 0 % 2=0\/bZ ns 0 % 2=1:=by omega
 unfold GU;rcases this with h | h <;> rw[h] <;> rfl
theorem yg (ns:List Int):1<=j4 ns/\j4 ns<=6:=by
 unfold j4
 split <;> omega
theorem Ds (ns:List Int):0 < uJ ns/\uJ ns<=8:=by
 unfold uJ
 split <;> omega
theorem OZ (ns:List Int){far:Int}(h0:0<=far)(h:far<=200):0<=rE ns far/\rE ns far<=200:=by
 have h1:=aaF (bZ ns 1 / 8) (show far+1≠0 by omega);have h2:=aaK (bZ ns 1 / 8) (show(0:Int) < far+1 by omega);unfold rE uI
 split
 . omega
 . split <;> omega
theorem E8 (ns:List Int):0 < (GS ns).length/\(GS ns).length<=6/\(GS ns).Nodup/\∀ x∈GS ns,small x:=by
 have hb:=yg ns;have ok:=Dr (bZ ns 0 / 12) (n:=(j4 ns).toNat) (by omega);unfold GS;exact⟨by omega,by omega,ok.2.1,ok.2.2⟩
theorem TR (ns:List Int):(GS ns).length=(j4 ns).toNat:=by
 have hb:=yg ns;exact(Dr (bZ ns 0 / 12) (n:=(j4 ns).toNat) (by omega)).1
theorem Xp (ns:List Int):a0 (yf ns):=let h:=E8 ns;LY ns (Ds ns) h.1 h.2.1 h.2.2.1 h.2.2.2
theorem Xq (ns:List Int):j8 (yf ns) (wj ns):=by
 have h:=E8 ns;have w:=Bu h.1 (bZ ns 2) 8 (by decide);exact⟨Xp ns,w.1,w.2.1,fun x hx=>by unfold yf;rw[E7];exact w.2.2 x hx⟩
def O0:Rl:=fun ds r=>∃ (ns:List Int) (far:Int),ds=[.r8 ns,.int far]/\(0<=far/\far<=200)/\r=.ret (.tup [.int (wy (GU ns)),.lst ((yf ns).map nh),.str (tx (wj ns)),.int (rE ns far)])
theorem LZ (T:Txt K mg t):GF P w K mg base CX 2 "_law_shape" 2 O0:=by
 refine⟨_,_,_,gS T.qH.F C0 rfl fun aZ A outer s H E G ds r hr hl hR=>?_,(T.g T.qH.a),T.qH.F.kp,T.qH.b⟩;obtain⟨ns,far,rfl,⟨hf0,hf⟩,rfl⟩:=hR;have nd:=C0.nd;have nv:=Dq (P:=P) (w:=w) (base:=base) T;have O1:=LX (P:=P) (w:=w) (base:=base) T;have L0:=OY (P:=P) (w:=w) (base:=base) T;have hM:=yg ns;have hm:=Ds ns;have hL:=E8 ns;have hlen:=TR ns;have eM:j4 ns=(((j4 ns).toNat:Nat):Int):=by omega
 let c0:=bZ ns 0;let c1:=bZ ns 1;let L:=GS ns;let m:=uJ ns;let D:Int->Int->Int->List Slot:=fun a b c=>[.val (.r8 ns),.val (.int far),.val (.int c0),.val (.int (c1 % 8)),.val (.int a),.val (.int b),.val (.int c),.aS,.aS,.aS,.aS,.aS,.aS]
 let S:Nat->List Slot:=fun k=>[.val (.r8 ns),.val (.int far),.val (.int c0),.val (.int (c1 % 8)),.val (.int (rE ns far)),.val (.int (j4 ns)),.val (.int m),.val (.str (tx L)),.own (.lst (((aah k).map (yZ L ns m)).map nh)),.aS,.aS,.aS,.aS]
 have cl:∀ (j:Nat),j<=100->GQ [.r8 ns,.int j] (.ret (.int (bZ ns j))):=fun j hj=>⟨ns,j,rfl,hj,rfl⟩
 refine⟨_,.rt _,ag (au 2 nd (bW nv av hr (ae (aa 0 rfl) (ae aj ah)) (cl 0 (by decide))))
   (ag (au 3 nd (eY (bW nv av hr (ae (aa 0 rfl) (ae aj ah)) (cl 1 (by decide))) aj (by decide)))
   (ag (au 4 nd (eY (jB (bW nv av hr (ae (aa 0 rfl) (ae aj ah)) (cl 1 (by decide))) aj ⟨by decide,by decide +kernel⟩) aj (by decide)))
   (ag (au 5 nd (aO aj (eY (jB (aa 2 rfl) aj ⟨by decide,by decide +kernel⟩) aj (by decide))))
   (ag (au 6 nd aj)
   (ag (dl1:=D (uI ns far) (1+c0 / 2 % 6) 8) (aM (mX (aa 3 rfl) aj) (fun h=>?_) (fun h=>?_))
   (ag (dl1:=D (rE ns far) (j4 ns) m) (aM (mX (aa 3 rfl) aj) (fun h=>?_) (fun h=>?_))
   (ag (au 7 nd (d:=.str (tx L)) (bW O1 av hr (ae (jB (aa 2 rfl) aj ⟨by decide,by decide +kernel⟩) (ae (aK (aa 5 rfl) (congrArg Dt.int eM)) ah)) ⟨c0 / 12,(j4 ns).toNat,rfl,by omega,rfl⟩))
   (ag (iU 8 nd (rH ah AA3))
   (ag (dl1:=S L.length) (gb (o:=.nx (S L.length)) (m:=L.length) 9 S nd rfl PassesOwn.leaving T.eW (ae (aK (aa 5 rfl) (congrArg Dt.int eM)) ah) ⟨by omega,by omega⟩ (Le.of ⟨rfl,rfl,rfl,rfl,rfl,rfl,rfl,rfl,rfl,trivial⟩) (by show(GS ns).length<=_;omega) (fun k hk=>?_) (by rw[aaS,<- hlen];exact .all rfl))
   (ag (au 12 nd (d:=.str (tx (wj ns))) (bW L0 av hr (ae (bW nv av hr (ae (aa 0 rfl) (ae aj ah)) (cl 2 (by decide))) (ae (aa 7 rfl) (ae aj ah))) ⟨L,bZ ns 2,8,rfl,⟨hL.1,by show(GS ns).length<=100;omega⟩,⟨Dp _ _,by decide,by decide⟩,rfl⟩))
   (rG (w:=.lst (((aah L.length).map (yZ L ns m)).map nh)) 8 (ao (aG (bL (ae (aK (aO aj (ik aj (eY (aa 2 rfl) aj (by decide)) (qQ.ok (aaR ⟨by decide,by decide⟩)))) (congrArg Dt.int (Xo ns))) (ae (aa 8 rfl) (ae (aa 12 rfl) (ae (aa 4 rfl) ah)))) AA3))))))))))))))⟩
 . have h:=of_decide_eq_true h
   have e:uI ns far=c1 / 8 % (far+1):=if_pos h;rw[e];exact ao (au 4 nd (eY (jB (bW nv av hr (ae (aa 0 rfl) (ae aj ah)) (cl 1 (by decide))) aj ⟨by decide,by decide +kernel⟩) (aO (aa 1 rfl) aj) (by omega)))
 . have h:=of_decide_eq_false h
   have e:uI ns far=c1 / 8 % 13:=if_neg h;rw[e];exact bu
 . have h:=of_decide_eq_true h
   have e1:rE ns far=200 - c1 / 8 % 100:=if_pos h;have e2:j4 ns=1+c0 / 2 % 2:=if_pos h;have e3:m=2:=if_pos h;rw[e1,e2,e3];exact ag (au 4 nd (gH aj (eY (jB (bW nv av hr (ae (aa 0 rfl) (ae aj ah)) (cl 1 (by decide))) aj ⟨by decide,by decide +kernel⟩) aj (by decide))))
     (ag (au 5 nd (aO aj (eY (jB (aa 2 rfl) aj ⟨by decide,by decide +kernel⟩) aj (by decide)))) (ao (au 6 nd aj)))
 . have h:=of_decide_eq_false h
   have e1:rE ns far=uI ns far:=if_neg h;have e2:j4 ns=1+c0 / 2 % 6:=if_neg h;have e3:m=8:=if_neg h;rw[e1,e2,e3];exact bu
 . have hk:k < (GS ns).length:=hk
   have h0:=aaF (bZ ns (3+k)) (show(5:Int)≠0 by decide);have h1:=aaK (bZ ns (3+k)) (show(0:Int) < 5 by decide);have hnn:=Dp ns (3+k);have e:((aah (k+1)).map (yZ L ns m)).map nh=((aah k).map (yZ L ns m)).map nh ++ [nh (yZ L ns m k)]:=by
     rw[List.range_succ,abv,abv];rfl
   refine .nx (ag (au 10 nd (bW nv av hr (ae (aa 0 rfl) (ae (aK (aO aj (aa 9 rfl)) (congrArg Dt.int (show(3:Int)+(k:Int)=((3+k:Nat):Int) by omega))) ah)) (cl (3+k) (by omega))))
     (ag (au 11 nd (d:=.str (dG (bZ ns (3+k)))) (aF (bL (ae bC (ae bC (ae bC (ae bC (ae bC ah))))) AA3) (eY (aa 10 rfl) aj (by decide)) (at_getD (L:=GR) (n:=5) rfl h0 h1)))
     (ao (t9 (ds:=((aah k).map (yZ L ns m)).map nh) 8 (d:=nh (yZ L ns m k)) (bL (ae (wb (aa 7 rfl) (aa 9 rfl) hk (by show(GS ns).length<=2000;omega)) (ae (aa 11 rfl) (ae (bW L0 av hr (ae (jB (aa 10 rfl) aj ⟨by decide,by decide +kernel⟩) (ae (aa 7 rfl) (ae (aa 6 rfl) ah))) ⟨L,bZ ns (3+k) / 5,m,rfl,⟨hL.1,by show(GS ns).length<=100;omega⟩,⟨Int.ediv_nonneg hnn (by decide),hm.1,by have:=hm.2;show uJ ns<=500;omega⟩,rfl⟩) ah))) AA3) (by rw[k5,k5,aaV];exact aal (show k < 2000 by omega) (by decide)))))) (Le.of ⟨rfl,rfl,rfl,rfl,rfl,rfl,rfl,rfl,?_,trivial⟩)
   show Slot.own (.lst (((aah (k+1)).map (yZ L ns m)).map nh))=_;rw[e]
theorem L1 (B:List Nat)(f g:Nat->Int):(B.map fun b=>f b+g b).sum=(B.map f).sum+(B.map g).sum:=by
 induction B with
 | nil=>rfl
 | cons b B ih=>rw[aao,abP,ih,aao,abP,aao,abP];omega
theorem L3 (B:List Nat):(B.map fun _=>(0:Int)).sum=0:=by
 induction B with
 | nil=>rfl
 | cons b B ih=>rw[aao,abP,ih];rfl
theorem II (A B:List Nat)(f:Nat->Nat->Int):(A.map fun a=>(B.map fun b=>f a b).sum).sum=(B.map fun b=>(A.map fun a=>f a b).sum).sum:=by
 induction A with
 | nil=>exact(L3 B).symm
 | cons a A ih=>
   rw[aao,abP,ih,<- L1];rfl
noncomputable def gP (rows:List Row):Nat->Nat->List Nat
 | 0,c=>[c]
 | r+1,c=>(wordOf rows c).flatMap (gP rows r)
theorem aa2 (rows:List Row)(r c:Nat):lT rows (r+1) c=((wordOf rows c).map (lT rows r)).sum:=by
 unfold lT;exact(II (wordOf rows c) (rows.map (·.c)) fun y x=>cT rows r y x).symm
theorem ij {rows:List Row}(ok:a0 rows){c:Nat}(hc:c∈rows.map (·.c)):(∀ y∈wordOf rows c,y∈rows.map (·.c))/\0 < (wordOf rows c).length/\(wordOf rows c).length<=8:=by
 obtain⟨q,hq,_,_,ew⟩:=f9 hc;rw[ew];exact⟨ok.wo q hq,ok.wp q hq⟩
theorem yh {f:Nat->List Nat}{g:Nat->Int}:∀ {w:List Nat},(∀ y∈w,(((f y).length:Nat):Int)=g y)->(((w.flatMap f).length:Nat):Int)=(w.map g).sum
 | [],_=>rfl
 | y::w,h=>by
   rw[abH,aaq,aao,abP,<- h y (by simp),<- yh (f:=f) (g:=g) fun z hz=>h z (by simp[hz])];omega
theorem Bv {rows:List Row}(ok:a0 rows):∀ (r:Nat) {c:Nat},c∈rows.map (·.c)->(((gP rows r c).length:Nat):Int)=lT rows r c
 | 0,c,hc=>by rw[Xg ok hc];rfl
 | r+1,c,hc=>by
   rw[aa2];exact yh fun y hy=>Bv ok r ((ij ok hc).1 y hy)
theorem L4 {rows:List Row}(ok:a0 rows):∀ (r:Nat) {c:Nat},c∈rows.map (·.c)->0 < (gP rows r c).length
 | 0,c,hc=>by show 0 < [c].length;simp
 | r+1,c,hc=>by
   obtain⟨h1,h2,_⟩:=ij ok hc;show 0 < ((wordOf rows c).flatMap (gP rows r)).length;cases hw:wordOf rows c with
   | nil=>rw[hw] at h2;simp at h2
   | cons y w=>
     have:=L4 ok r (h1 y (by rw[hw];simp));rw[abH,aaq];omega
noncomputable abbrev Pc:=Nat×Nat
noncomputable def j5 (p:Pc):Dt:=.tup [.int ((p.1:Nat):Int),.str (sg p.2)]
noncomputable def flat (rows:List Row)(st:List Pc):List Nat:=st.flatMap fun p=>gP rows p.1 p.2
noncomputable def wp (r:Nat)(w:List Nat):List Pc:=w.map fun c=>(r,c)
theorem yi (rows:List Row)(a b:List Pc):flat rows (a ++ b)=flat rows a ++ flat rows b:=List.flatMap_append
theorem tq (rows:List Row)(r:Nat)(w:List Nat):flat rows (wp r w)=w.flatMap (gP rows r):=by unfold flat wp;rw[List.flatMap_map]
theorem Xr (rows:List Row)(p:Pc):flat rows [p]=gP rows p.1 p.2:=by unfold flat;simp
theorem jw (rows:List Row)(p:Pc)(st:List Pc):flat rows (p::st)=gP rows p.1 p.2 ++ flat rows st:=by unfold flat;rw[abH]
structure PS where
 place:Nat
 st:List Pc
 bt:List Pc
noncomputable def qb (rows:List Row)(b e:Nat)(s:PS):PS:=match s.st with
 | []=>s
 | p::st=>
   if s.place+(gP rows p.1 p.2).length<=b then ⟨s.place+(gP rows p.1 p.2).length,st,s.bt⟩
   else if b<=s.place/\s.place+(gP rows p.1 p.2).length<=e then ⟨s.place+(gP rows p.1 p.2).length,st,s.bt ++ [p]⟩
   else ⟨s.place,wp (p.1 - 1) (wordOf rows p.2) ++ st,s.bt⟩
noncomputable def run (rows:List Row)(b e:Nat)(s:PS):Nat->PS
 | 0=>s
 | k+1=>qb rows b e (run rows b e s k)
theorem L5 (rows:List Row)(b e:Nat)(s:PS):∀ k,run rows b e s (k+1)=run rows b e (qb rows b e s) k
 | 0=>rfl
 | k+1=>by
   show qb rows b e (run rows b e s (k+1))=qb rows b e (run rows b e (qb rows b e s) k);rw[L5 rows b e s k]
structure UO (rows:List Row)(age b e:Nat)(W:List Nat)(s:PS):Prop where
 be:b<=e
 ew:e<=W.length
 pe:s.place<=e
 fl:flat rows s.st=W.drop s.place
 fb:flat rows s.bt=(W.take s.place).drop b
 mb:∀ p∈s.st,p.2∈rows.map (·.c)/\p.1<=age
 mt:∀ p∈s.bt,p.2∈rows.map (·.c)/\p.1<=age
noncomputable def ins (b p q:Nat):Nat:=if p < b/\b < q then 1 else 0
theorem L6 (b p q:Nat):ins b p q<=1:=by unfold ins;split <;> omega
theorem GV (b:Nat){p q r:Nat}(h1:p<=q)(h2:q<=r):ins b p q+ins b q r<=ins b p r:=by
 unfold ins
 split <;> split <;> split <;> omega
noncomputable def mu (rows:List Row)(b e:Nat):Nat->List Pc->Nat
 | _,[]=>0
 | p,x::st=>1+8 * x.1 * (ins b p (p+(gP rows x.1 x.2).length)+ins e p (p+(gP rows x.1 x.2).length))+mu rows b e (p+(gP rows x.1 x.2).length) st
theorem L7 (rows:List Row)(b e:Nat):∀ (p:Nat) (st:List Pc),st.length<=mu rows b e p st
 | _,[]=>aaa 0
 | p,x::st=>by
   have:=L7 rows b e (p+(gP rows x.1 x.2).length) st;rw[mu,aaI];omega
theorem L8 (rows:List Row)(b e r:Nat)(st:List Pc):∀ (p:Nat) (w:List Nat),mu rows b e p (wp r w ++ st)<=w.length+8 * r * (ins b p (p+(flat rows (wp r w)).length)+ins e p (p+(flat rows (wp r w)).length))+mu rows b e (p+(flat rows (wp r w)).length) st
 | p,[]=>by
   show mu rows b e p st<=_;have:p+(flat rows (wp r [])).length=p:=rfl;rw[this];omega
 | p,c::w=>by
   have ih:=L8 rows b e r st (p+(gP rows r c).length) w;have el:p+(flat rows (wp r (c::w))).length=p+(gP rows r c).length+(flat rows (wp r w)).length:=by
     show p+(flat rows ((r,c)::wp r w)).length=_;rw[jw,aaq];exact(Nat.add_assoc _ _ _).symm
   rw[el];have c1:=GV b (ab6 p (gP rows r c).length) (ab6 (p+(gP rows r c).length) (flat rows (wp r w)).length);have c2:=GV e (ab6 p (gP rows r c).length) (ab6 (p+(gP rows r c).length) (flat rows (wp r w)).length);have m:=Nat.mul_le_mul_left (8 * r) (Nat.add_le_add c1 c2);have m2:8 * r * (ins b p (p+(gP rows r c).length)+ins e p (p+(gP rows r c).length))+8 * r * (ins b (p+(gP rows r c).length) (p+(gP rows r c).length+(flat rows (wp r w)).length)+ins e (p+(gP rows r c).length) (p+(gP rows r c).length+(flat rows (wp r w)).length))<=8 * r * (ins b p (p+(gP rows r c).length+(flat rows (wp r w)).length)+ins e p (p+(gP rows r c).length+(flat rows (wp r w)).length)):=by
     rw[<- Nat.mul_add];refine aau (Nat.mul_le_mul_left _ ?_) m;omega
   show mu rows b e p ((r,c)::(wp r w ++ st))<=_;rw[mu,aaI];show 1+8 * r * (ins b p (p+(gP rows r c).length)+ins e p (p+(gP rows r c).length))+mu rows b e (p+(gP rows r c).length) (wp r w ++ st)<=_;omega
theorem E9 {rows:List Row}(ok:a0 rows){age b e:Nat}{W:List Nat}{s:PS}(I:UO rows age b e W s)(hp:s.place < e):UO rows age b e W (qb rows b e s)/\mu rows b e (qb rows b e s).place (qb rows b e s).st < mu rows b e s.place s.st/\(qb rows b e s).bt.length+mu rows b e (qb rows b e s).place (qb rows b e s).st<=s.bt.length+mu rows b e s.place s.st/\∃ p st,s.st=p::st/\(¬ s.place+(gP rows p.1 p.2).length<=b->¬ (b<=s.place/\s.place+(gP rows p.1 p.2).length<=e)->0 < p.1):=by
 obtain⟨be,ew,pe,fl,fb,mb,mt⟩:=I;obtain⟨place,st,bt⟩:=s;simp only at pe fl fb mb mt hp ⊢;cases st with
 | nil=>
   have:=congrArg abB fl;rw[abu] at this;have z:(flat rows []).length=0:=rfl;omega
 | cons p st=>
   rw[jw] at fl;have L9:=L4 ok p.1 (mb p (by simp)).1;have ny:∀ x∈st,x.2∈rows.map (·.c)/\x.1<=age:=fun x hx=>mb x (by simp[hx])
   have hlen:=congrArg abB fl;rw[abu,aaq] at hlen;have Xs:flat rows st=W.drop (place+(gP rows p.1 p.2).length):=by
     rw[<- List.drop_drop,<- fl,List.drop_left]
   have ft:W.take (place+(gP rows p.1 p.2).length)=W.take place ++ gP rows p.1 p.2:=by
     rw[List.take_add,<- fl,List.take_left]
   have CD:(¬ place+(gP rows p.1 p.2).length<=b->¬ (b<=place/\place+(gP rows p.1 p.2).length<=e)->0 < p.1):=fun h1 h2=>by
     rcases Nat.eq_zero_or_pos p.1 with z | z
     . rw[z] at h1 h2
       have e1:(gP rows 0 p.2).length=1:=rfl;rw[e1] at h1 h2;omega
     . exact z
   refine⟨?_,?_,?_,p,st,rfl,CD⟩
   . unfold qb
     simp only
     split
     . rename_i h
       refine⟨be,ew,by show place+_<=e;omega,Xs,?_,ny,mt⟩;have n1:(W.take place).drop b=[]:=acg (by rw[aas];omega);have n2:(W.take (place+(gP rows p.1 p.2).length)).drop b=[]:=acg (by rw[aas];omega);show flat rows bt=(W.take (place+(gP rows p.1 p.2).length)).drop b;rw[fb,n1,n2]
     . split
       . rename_i h1 h2
         refine⟨be,ew,h2.2,Xs,?_,ny,fun x hx=>?_⟩
         . show flat rows (bt ++ [p])=(W.take (place+(gP rows p.1 p.2).length)).drop b
           rw[yi,Xr,fb,ft,List.drop_append_of_le_length (by rw[aas];omega)]
         . rcases abI.mp hx with hx | hx
           . exact mt x hx
           . have:x=p:=by simpa using hx
             rw[this];exact mb p (by simp)
       . rename_i h1 h2
         have hz:=CD h1 h2;refine⟨be,ew,pe,?_,fb,fun x hx=>?_,mt⟩
         . show flat rows (wp (p.1 - 1) (wordOf rows p.2) ++ st)=_
           rw[yi,tq,<- fl]
           congr 1
           obtain⟨r,hr⟩:∃ r,p.1=r+1:=⟨p.1 - 1,by omega⟩
           rw[hr];rfl
         . rcases abI.mp hx with hx | hx
           . obtain⟨y,hy,rfl⟩:=aaQ.mp hx
             exact⟨(ij ok (mb p (by simp)).1).1 y hy,by have:=(mb p (by simp)).2;show p.1 - 1<=age;omega⟩
           . exact ny x hx
   all_goals
     unfold qb;simp only;rw[mu]
     split
     . show _;simp only;omega
     . split
       . simp only[aaq,List.length_singleton];omega
       . rename_i h1 h2
         have hz:=CD h1 h2;have hw8:=(ij ok (mb p (by simp)).1).2.2;have key:=L8 rows b e (p.1 - 1) st place (wordOf rows p.2);have ef:(flat rows (wp (p.1 - 1) (wordOf rows p.2))).length=(gP rows p.1 p.2).length:=by
           rw[tq];obtain⟨r,hr⟩:∃ r,p.1=r+1:=⟨p.1 - 1,by omega⟩
           rw[hr];rfl
         rw[ef] at key;have hI:1<=ins b place (place+(gP rows p.1 p.2).length)+ins e place (place+(gP rows p.1 p.2).length):=by
           unfold ins
           split <;> split <;> omega
         generalize ins b place (place+(gP rows p.1 p.2).length)+ins e place (place+(gP rows p.1 p.2).length)=J at key hI ⊢;have m:8+8 * (p.1 - 1) * J<=8 * p.1 * J:=by
           obtain⟨r,hr⟩:∃ r,p.1=r+1:=⟨p.1 - 1,by omega⟩
           rw[hr,Nat.add_sub_cancel,Nat.mul_add,Nat.add_mul];omega
         simp only;omega
theorem Bw {rows:List Row}(ok:a0 rows){age b e:Nat}{W:List Nat}{s:PS}(I:UO rows age b e W s){n:Nat}(h:∀ k,k < n->(run rows b e s k).place < e):∀ k,k<=n->UO rows age b e W (run rows b e s k)/\(run rows b e s k).bt.length+mu rows b e (run rows b e s k).place (run rows b e s k).st<=s.bt.length+mu rows b e s.place s.st
 | 0,_=>⟨I,aaa _⟩
 | k+1,hk=>by
   obtain⟨i1,i2⟩:=Bw ok I h k (by omega);obtain⟨j1,_,j3,_⟩:=E9 ok i1 (h k (by omega));exact⟨j1,aau j3 i2⟩
theorem yj {rows:List Row}(ok:a0 rows){age b e:Nat}{W:List Nat}:∀ (m:Nat) {s:PS},UO rows age b e W s->mu rows b e s.place s.st<=m->∃ n,e<=(run rows b e s n).place/\∀ k,k < n->(run rows b e s k).place < e
 | m,s,I,hm=>by
   by_cases hp:s.place < e
   . obtain⟨j1,j2,_⟩:=E9 ok I hp
     cases m with
     | zero=>omega
     | succ m=>
       obtain⟨n,h1,h2⟩:=yj ok m j1 (by omega);refine⟨n+1,by rw[L5];exact h1,fun k hk=>?_⟩;cases k with
       | zero=>exact hp
       | succ k=>rw[L5];exact h2 k (by omega)
   . exact⟨0,by show e<=s.place;omega,fun k hk=>by omega⟩
noncomputable def eX (rows:List Row)(w:List Nat)(age:Nat):List Nat:=w.flatMap (gP rows age)
noncomputable def wk (w:List Nat)(age:Nat):PS:=⟨0,wp age w,[]⟩
theorem yk {rows:List Row}{w:List Nat}(ok:j8 rows w){age b e:Nat}(be:b<=e)(ew:e<=(eX rows w age).length):UO rows age b e (eX rows w age) (wk w age):=
 ⟨be,ew,aa1 _,tq rows age w,by show []=(List.take 0 _).drop b;simp,fun p hp=>by
   obtain⟨y,hy,rfl⟩:=aaQ.mp hp;exact⟨ok.wm y hy,aaa _⟩,fun p hp=>by cases hp⟩
theorem Fb {rows:List Row}{w:List Nat}(ok:j8 rows w){age b e:Nat}(ha:age<=200):mu rows b e (wk w age).place (wk w age).st<=4000:=by
 have key:=L8 rows b e age [] 0 w;rw[abx] at key;have w8:=ok.w8;have i1:=L6 b 0 (0+(flat rows (wp age w)).length);have i2:=L6 e 0 (0+(flat rows (wp age w)).length);have m:8 * age * (ins b 0 (0+(flat rows (wp age w)).length)+ins e 0 (0+(flat rows (wp age w)).length))<=8 * 200 * 2:=Nat.mul_le_mul (by omega) (by omega);have z:mu rows b e (0+(flat rows (wp age w)).length) []=0:=rfl;show mu rows b e 0 (wp age w)<=4000;omega
theorem Bx {rows:List Row}{w:List Nat}(ok:j8 rows w)(age:Nat):(((eX rows w age).length:Nat):Int)=lnT rows w age:=yh fun y hy=>Bv ok.ok age (ok.wm y hy)
def TU:Rl:=fun ds r=>∃ (w:List Nat) (n:Nat),ds=[.str (tx w),.int ((n:Nat):Int)]/\w.length<=1000/\r=.own (.lst ((wp n w).reverse.map j5))
noncomputable abbrev TV:Stmt->Scope
 | .Return (some (.ListComp _ _ sc _)) _=>sc
 | _=>af (.Pass ⟨0,0,0,0⟩)
noncomputable abbrev Xt:Scope:=TV ((aC e6).getD 0 (.Pass ⟨0,0,0,0⟩))
theorem Qo:gw Xt (af e6) nM ["letter","rounds"] ["letter"] [1]=true:=by decide +kernel
def Ma (t:dM):Rl:=fun ds r=>∃ six rows w l ls N age b e n,ds=[.obj t.aq (t.cz six rows w l ls N),.int ((age:Nat):Int),.int ((b:Nat):Int),.int ((e:Nat):Int)]/\(j8 rows w/\ls.map (·.2)=nr rows/\age < N/\N<=1000/\age<=200)/\(b<=e/\e<=(eX rows w age).length)/\(e<=(run rows b e (wk w age) n).place/\∀ k,k < n->(run rows b e (wk w age) k).place < e) /\
 r=.own (.lst ((run rows b e (wk w age) n).bt.map j5))
theorem GW (T:Txt K mg t):GF P w K mg base CX 1 "waiting_pieces" 2 TU:=by
 refine⟨_,_,_,gS T.dq.F sM rfl fun aZ A outer s H E G ds r hr hl hR=>?_,(T.g T.dq.a),T.dq.F.kp,T.dq.b⟩;obtain⟨wd,n,rfl,hw,rfl⟩:=hR;have e1:(wd.reverse.map fun x=>Dt.str (sg x))=(Sg.signs (tx wd)).reverse:=by rw[<- dg,List.map_reverse]
 have e2:((wd.reverse.filter fun _=>true).map fun x=>Dt.tup [.int ((n:Nat):Int),.str (sg x)])=(wp n wd).reverse.map j5:=by
   rw[aan.mpr (fun _ _=>rfl)];unfold wp;rw[<- List.map_reverse,aai];rfl
 exact⟨_,.ro _,ao (jD (wR (dr wd.reverse (fun x=>Dt.str (sg x)) (fun x=>Dt.tup [.int ((n:Nat):Int),.str (sg x)]) (fun x=>[.val (.str (sg x))]) (fun _=>true) rfl (aW Qo) (Oc T.rX (ae (aa 0 rfl) ah)) (bA (aW Qo) rfl) (cM (Ij (by rw[fX];omega)) e1) (fun a _=>bG) (.nil fun _ _=>rfl)
   (fun a ha _ C fp s' H' G'=>bL (ae (aa 1 rfl) (ae (aa 0 rfl) ah)) AA3) (qK (by rw[abS];omega))) (congrArg Own.lst e2)))⟩
theorem uK (T:Txt K mg t):MF P w K mg base CX 4 t.aq "pieces" 4 (Ma t):=by
 refine⟨T.aB.cl,_,_,_,gS T.je.F nP rfl fun aZ A outer s H E G ds r hr hl hR=>?_,T.fo,T.je.b⟩;obtain⟨six,rows,wd,l,ls,N,age,b,e,n,rfl,⟨ok,ju,hN,hN1,eZ⟩,⟨tG,DL⟩,⟨YJ,di⟩,rfl⟩:=hR;have yl:=GW (P:=P) (w:=w) (base:=base) T;have oV:=p7 (P:=P) (w:=w) (base:=base) T;have nd:=nP.nd;have hu:(A.deeper (envOfC "Growth.pieces" (af iV) s.heap.objs.size t.cW aZ)).units+1 < cLine:=by have:=hr.units;omega
 have w8:=ok.w8;let R:Nat->PS:=run rows b e (wk wd age);have MW:=Bw ok.ok (yk ok tG DL) di;have h0:(wk wd age).bt.length+mu rows b e (wk wd age).place (wk wd age).st<=4000:=by
   have:=Fb ok (b:=b) (e:=e) eZ;show 0+_<=_;omega
 have hsz:∀ k,k<=n->(R k).bt.length<=4000/\(R k).st.length<=4000:=fun k hk=>by
   have h1:=(MW k hk).2;have h2:=L7 rows b e (run rows b e (wk wd age) k).place (run rows b e (wk wd age) k).st;exact⟨by show(run rows b e (wk wd age) k).bt.length<=4000;omega,by show(run rows b e (wk wd age) k).st.length<=4000;omega⟩
 have YK:∀ {m:Nat},m<=8000->m < sizeLine:=fun h=>aaT h (by decide)
 let sf:Dt:=.obj t.aq (t.cz six rows wd l ls N);let S:Nat->List Slot:=fun k=>[.val sf,.val (.int ((age:Nat):Int)),.val (.int ((b:Nat):Int)),.val (.int ((e:Nat):Int)),.own (.lst ((R k).bt.map j5)),.own (.lst ((R k).st.reverse.map j5)),.val (.int (((R k).place:Nat):Int)),.aS,.aS,.aS]
 refine⟨_,.ro _,ag (iU 4 nd (rH ah AA3)) (ag (iU 5 nd (pL yl av hr (ae (aE (fs:=t.cz six rows wd l ls N) (aa 0 rfl) T.aB.cl T.dv rfl) (ae (aa 1 rfl) ah)) ⟨wd,age,rfl,by omega,rfl⟩))
   (ag (au 6 nd aj) (ag (dl1:=S n) (Cs S n PassesOwn.leaving (Le.of ⟨rfl,rfl,rfl,rfl,rfl,rfl,rfl,trivial⟩) (fun k hk=>aP (qZ (aa 6 rfl) (aa 3 rfl)) (decide_eq_true ?c1)) (aP (qZ (aa 6 rfl) (aa 3 rfl)) (decide_eq_false ?c2)) (fun k hk=>?body)) (ao (FY 4)))))⟩
 case c1=>have:=di k hk;show(((run rows b e (wk wd age) k).place:Nat):Int) < _;omega
 case c2=>show ¬ (((run rows b e (wk wd age) n).place:Nat):Int) < _;omega
 case body=>
   have Ye:=di k hk;obtain⟨Ik,_⟩:=MW k (abw hk);obtain⟨_,_,_,p,st,es,CD⟩:=E9 ok.ok Ik Ye;have eR:R (k+1)=qb rows b e (R k):=rfl;obtain⟨IZ,BX⟩:=hsz k (abw hk);have M8:(R k).st=p::st:=es;have zB:=Ik.mb p (by rw[es];simp);have L9:p.1 < N:=by omega
   have hg:=Bv ok.ok p.1 zB.1;have aa3:(R k).st.reverse.map j5=st.reverse.map j5 ++ [j5 p]:=by rw[M8,ach,abv];rfl
   have afw:st.length<=4000:=by have:=congrArg abB M8;rw[aaI] at this;omega
   let q:Nat:=(R k).place+(gP rows p.1 p.2).length;have eq:(((R k).place:Nat):Int)+lT rows p.1 p.2=((q:Nat):Int):=by rw[<- hg];show _=(((R k).place+(gP rows p.1 p.2).length:Nat):Int);omega
   let U:List Slot:=[.val sf,.val (.int ((age:Nat):Int)),.val (.int ((b:Nat):Int)),.val (.int ((e:Nat):Int)),.own (.lst ((R k).bt.map j5)),.own (.lst (st.reverse.map j5)),.val (.int (((R k).place:Nat):Int)),.val (j5 p),.val (.int ((p.1:Nat):Int)),.val (.int ((q:Nat):Int))]
   have hS:S k=[.val sf,.val (.int ((age:Nat):Int)),.val (.int ((b:Nat):Int)),.val (.int ((e:Nat):Int)),.own (.lst ((R k).bt.map j5)),.own (.lst (st.reverse.map j5 ++ [j5 p])),.val (.int (((R k).place:Nat):Int)),.aS,.aS,.aS]:=by
     show [_,_,_,_,_,Slot.own (.lst ((R k).st.reverse.map j5)),_,_,_,_]=_;rw[aa3]
   rw[hS];refine .nx (dl':=[.val sf,.val (.int ((age:Nat):Int)),.val (.int ((b:Nat):Int)),.val (.int ((e:Nat):Int)),.own (.lst ((R (k+1)).bt.map j5)),.own (.lst ((R (k+1)).st.reverse.map j5)),.val (.int (((R (k+1)).place:Nat):Int)),.val (j5 p),.val (.int ((p.1:Nat):Int)),.val (.int ((q:Nat):Int))]) (ag (Ey (ds:=st.reverse.map j5) (d:=j5 p) 7 5 nd rfl) (ag (au 8 nd (aF (aa 7 rfl) aj rfl)) (ag (dl1:=U) (au 9 nd (aK (aO (aa 6 rfl) (d5 hu (pO (n:=N) (j:=1) (f:=yb rows) (aE (fs:=t.cz six rows wd l ls N) (aa 0 rfl) T.aB.cl T.bH rfl) (aa 8 rfl) (by rw[ju];rfl) L9 hN1) (aF (aa 7 rfl) aj rfl) (by rw[M4];exact eC zB.1) (fun _ _=>rfl))) (congrArg Dt.int eq)))
     (ao (aM (u:=decide (q<=b)) (aP (uU (aa 9 rfl) (aa 2 rfl)) (decide_eq_decide.mpr (Int.ofNat_le (m:=q) (n:=b)))) (fun h=>?b1) (fun h=>ao (aM (u:=decide (b<=(R k).place/\q<=e)) ?cc (fun h'=>?b2) (fun h'=>?b3)))))))) (Le.of ⟨rfl,rfl,rfl,rfl,rfl,rfl,rfl,trivial⟩)
   case b1=>
     have h:q<=b:=of_decide_eq_true h;have e1:R (k+1)=⟨q,st,(R k).bt⟩:=by rw[eR];unfold qb;rw[M8];exact if_pos h
     rw[e1];exact ao (au 6 nd (aa 9 rfl))
   case cc=>
     by_cases h1:b<=(R k).place
     . by_cases h2:q<=e
       . rw[decide_eq_true (⟨h1,h2⟩:b<=(R k).place/\q<=e)]
         exact su (wN (u:=true) (v:=true) (aP (uU (aa 2 rfl) (aa 6 rfl)) (decide_eq_true (by omega))) fun _=>Ak (aP (uU (aa 9 rfl) (aa 3 rfl)) (decide_eq_true (by omega))))
       . rw[decide_eq_false (fun z:b<=(R k).place/\q<=e=>h2 z.2)]
         exact su (wN (u:=true) (v:=false) (aP (uU (aa 2 rfl) (aa 6 rfl)) (decide_eq_true (by omega))) fun _=>Ak (aP (uU (aa 9 rfl) (aa 3 rfl)) (decide_eq_false (by omega))))
     . rw[decide_eq_false (fun z:b<=(R k).place/\q<=e=>h1 z.1)]
       exact su (wN (u:=false) (v:=false) (aP (uU (aa 2 rfl) (aa 6 rfl)) (decide_eq_false (by omega))) fun z=>nomatch z)
   case b2=>
     have h:¬ q<=b:=of_decide_eq_false h;have h':=of_decide_eq_true h';have e1:R (k+1)=⟨q,st,(R k).bt ++ [p]⟩:=by rw[eR];unfold qb;rw[M8];exact(if_neg h).trans (if_pos h')
     rw[e1];show nH _ _ _ _ _ (.nx [_,_,_,_,.own (.lst (((R k).bt ++ [p]).map j5)),_,_,_,_,_]);rw[abv];exact ag (t9 (ds:=(R k).bt.map j5) 4 (aa 7 rfl) (by rw[k5];exact YK (by omega))) (ao (au 6 nd (aa 9 rfl)))
   case b3=>
     have h:¬ q<=b:=of_decide_eq_false h;have h':=of_decide_eq_false h';have hz:=CD h h';have e1:R (k+1)=⟨(R k).place,wp (p.1 - 1) (wordOf rows p.2) ++ st,(R k).bt⟩:=by rw[eR];unfold qb;rw[M8];exact(if_neg h).trans (if_neg h')
     rw[e1];have hw:=ij ok.ok zB.1;show nH _ _ _ _ _ (.nx [_,_,_,_,_,.own (.lst ((wp (p.1 - 1) (wordOf rows p.2) ++ st).reverse.map j5)),_,_,_,_]);rw[List.reverse_append,abv];exact ao (zx (ds:=st.reverse.map j5) 5 (mL (pL yl av hr (ae (aT (fs:=t.vB six rows) (aE (fs:=t.cz six rows wd l ls N) (aa 0 rfl) T.aB.cl T.aU rfl) oV av hr (ae (aF (aa 7 rfl) aj rfl) ah) ⟨six,rows,p.2,rfl,ok.ok,zB.1,rfl⟩) (ae (aK (gH (aa 8 rfl) aj) (congrArg Dt.int (show((p.1:Nat):Int) - 1=((p.1 - 1:Nat):Int) by omega))) ah)) ⟨wordOf rows p.2,p.1 - 1,rfl,by omega,rfl⟩)) (by
       rw[k5,k5,abS,abS];show st.length+((wordOf rows p.2).map fun c=>(p.1 - 1,c)).length<=_;rw[k5];exact abw (YK (by omega))))
noncomputable def grow (rows:List Row)(w:List Nat):List Nat:=(w.map (wordOf rows)).flatten
theorem Mb (rows:List Row)(a b:List Nat):grow rows (a ++ b)=grow rows a ++ grow rows b:=by
 unfold grow;rw[abv,ab7]
theorem By (rows:List Row)(f:Nat->List Nat):∀ w:List Nat,grow rows (w.flatMap f)=w.flatMap fun y=>grow rows (f y)
 | []=>rfl
 | y::w=>by rw[abH,abH,Mb,By rows f w]
theorem GX (rows:List Row):∀ (r c:Nat),grow rows (gP rows r c)=gP rows (r+1) c
 | 0,c=>by
   show [wordOf rows c].flatten=(wordOf rows c).flatMap fun y=>[y]
   simp
 | r+1,c=>by
   show grow rows ((wordOf rows c).flatMap (gP rows r))=_;rw[By];show _=(wordOf rows c).flatMap (gP rows (r+1))
   congr 1
   funext y
   exact GX rows r y
theorem tu (rows:List Row)(w:List Nat)(n:Nat):grow rows (eX rows w n)=eX rows w (n+1):=by
 unfold eX;rw[By]
 congr 1
 funext y
 exact GX rows n y
theorem Du (rows:List Row)(w:List Nat):eX rows w 0=w:=by
 show w.flatMap (fun y=>[y])=w;simp
theorem oX {rows:List Row}(ok:a0 rows){w:List Nat}(h:∀ x∈w,x∈rows.map (·.c)):∀ n,∀ x∈eX rows w n,x∈rows.map (·.c)
 | 0=>by rw[Du];exact h
 | n+1=>fun x hx=>by
   rw[<- tu] at hx;obtain⟨l,hl,hx⟩:=List.mem_flatten.mp hx;obtain⟨y,hy,rfl⟩:=aaQ.mp hl;exact(ij ok (oX ok h n y hy)).1 x hx
theorem Bz {rows:List Row}(ok:a0 rows):∀ {w:List Nat},(∀ x∈w,x∈rows.map (·.c))->w.length<=(grow rows w).length/\(grow rows w).length<=8 * w.length
 | [],_=>⟨aa1 _,aa1 _⟩
 | x::w,h=>by
   have ih:=Bz ok (w:=w) fun y hy=>h y (aaC _ hy)
   have hw:=ij ok (h x (abk ..));have e:(grow rows (x::w)).length=(wordOf rows x).length+(grow rows w).length:=by
     show((wordOf rows x::w.map (wordOf rows)).flatten).length=_;rw[abC,aaq];rfl
   rw[e,aaI];omega
theorem Mc {rows:List Row}(ok:a0 rows){w:List Nat}(h:∀ x∈w,x∈rows.map (·.c))(n:Nat):∀ k,(eX rows w n).length<=(eX rows w (n+k)).length
 | 0=>aaa _
 | k+1=>aau (Mc ok h n k) (by rw[<- Nat.add_assoc,<- tu];exact(Bz ok (oX ok h (n+k))).1)
theorem uL {rows:List Row}(ok:a0 rows){w:List Nat}(h:∀ x∈w,x∈rows.map (·.c)){n m:Nat}(hm:n<=m):(eX rows w n).length<=(eX rows w m).length:=by
 have:=Mc ok h n (m - n)
 rwa [Nat.add_sub_cancel' hm] at this
theorem O2 {n:Nat}(h:n<=100000):n<=sizeLine:=aau h (by decide)
theorem wq {X:Cx}{G:Gr}{dl:List Slot}{a:Expr}{L:List Nat}{pos p:Pos}(hm:X.mg "len"=none)(ha:EE X G dl a (.str (tx L)))(hl:L.length<=100000)(hg:autoParam (Gl X "len") jp)(he:autoParam (starEach [a] X.env=[(false,eval a X.env)]) jp):EE X G dl (.Call (.Name "len" p) [a] [] pos) (.int (L.length:Nat)):=
 aK (vG hm ha (by rw[fX];exact O2 hl) hg he) (by rw[fX])
def Xu:Rl:=fun ds r=>∃ z:Int,ds=[.int z]/\z<=400/\r=.ret .dk
def O3 (t:dM):Rl:=fun ds r=>∃ six rows w,ds=[t.yX six rows,.str (tx w)]/\a0 rows/\(∀ x∈w,x∈rows.map (·.c))/\w.length<=1000/\(grow rows w).length<=400/\r=.ret (.str (tx (grow rows w)))
def Xv (t:dM):Rl:=fun ds r=>∃ six rows w n,ds=[t.yX six rows,.str (tx w),.int ((n:Nat):Int)]/\j8 rows w/\n<=200/\(eX rows w n).length<=400/\r=.ret (.str (tx (eX rows w n)))
noncomputable abbrev TX:Stmt->Scope
 | .Assign _ (.Call _ (.ListComp _ _ sc _::_) _ _) _=>sc
 | _=>af (.Pass ⟨0,0,0,0⟩)
noncomputable abbrev O4:Scope:=TX ((aC xm).getD 0 (.Pass ⟨0,0,0,0⟩))
theorem GY:gw O4 (af xm) K1 ["letter","rules"] ["letter"] [0]=true:=by decide +kernel
noncomputable abbrev tw (t:dM)(six:Bool)(rows:List Row)(w:List Nat)(l:Addr)(ls:k7)(n:Nat):Dt:=.obj t.aq (t.cz six rows w l ls n)
def aa4 (t:dM):Rl:=fun ds r=>∃ six rows w l ls n age z,ds=[tw t six rows w l ls n,.int ((age:Nat):Int),.int z]/\j8 rows w/\ls.map (·.2)=nr rows/\age<=200/\(0<=z/\z<=((eX rows w age).length:Nat))/\r=.ret .dk
def Xw (t:dM):Rl:=fun ds r=>∃ six rows w l ls n age z,ds=[tw t six rows w l ls n,.int ((age:Nat):Int),.int z]/\j8 rows w/\ls.map (·.2)=nr rows/\age<=200/\(0<=z/\z < ((eX rows w age).length:Nat))/\r=.ret .dk
def aa5 (t:dM):Rl:=fun ds r=>∃ six rows w l ls n age,∃ b e:Nat,ds=[tw t six rows w l ls n,.int ((age:Nat):Int),.int (b:Int),.int (e:Int)]/\j8 rows w/\ls.map (·.2)=nr rows/\age<=200/\(b<=e/\e<=(eX rows w age).length)/\r=.ret (.yw l ls (age+1))
noncomputable def cut (W:List Nat)(b e:Nat):List Nat:=(W.take e).drop b
def Md (t:dM):Rl:=fun ds r=>∃ six rows w l ls n age,∃ b e:Nat,ds=[tw t six rows w l ls n,.int ((age:Nat):Int),.int (b:Int),.int (e:Int)]/\j8 rows w/\ls.map (·.2)=nr rows/\age<=200/\(b<=e/\e<=(eX rows w age).length/\e - b<=400)/\r=.ret (.str (tx (cut (eX rows w age) b e)))
def Qp (t:dM):Rl:=fun ds r=>∃ six rows w l ls n age,∃ b:Nat,ds=[tw t six rows w l ls n,.int ((age:Nat):Int),.int (b:Int)]/\j8 rows w/\ls.map (·.2)=nr rows/\age<=200/\b < (eX rows w age).length/\r=.ret (.str (tx (cut (eX rows w age) b (b+1))))
noncomputable abbrev TY:Stmt->Scope
 | .Return (some (.Call _ (.ListComp _ _ sc _::_) _ _)) _=>sc
 | _=>af (.Pass ⟨0,0,0,0⟩)
noncomputable abbrev O5:Scope:=TY ((aC iO).getD 2 (.Pass ⟨0,0,0,0⟩))
theorem GZ:gw O5 (af iO) rh ["rounds","letter","self"] ["rounds","letter"] [0]=true:=by decide +kernel
theorem G1 (rows:List Row):∀ {st:List Pc} {p:Pc},p∈st->(gP rows p.1 p.2).length<=(flat rows st).length
 | [],_,h=>by cases h
 | q::st,p,h=>by
   rw[jw,aaq];rcases aaJ.mp h with rfl | h
   . omega
   . have:=G1 rows h;omega
theorem G3 (rows:List Row)(c n:Nat):eX rows [c] n=gP rows n c:=by unfold eX;simp
theorem Me (T:Txt K mg t):GF P w K mg base CX 1 "check_written" 1 Xu:=by
 refine⟨_,_,_,gS T.dZ.F uq rfl fun aZ A outer s H E G ds r hr hl hR=>?_,(T.g T.dZ.a),T.dZ.F.kp,T.dZ.b⟩;obtain⟨z,rfl,h,rfl⟩:=hR;exact⟨_,.nx _,ao (aM (u:=false) (aP (oZ (aa 0 rfl) (kC (w:=.int 400) T.xO ⟨_,rfl⟩ fun _=>.int 400)) (decide_eq_false (by omega))) (fun h=>nomatch h) (fun h=>bu))⟩
theorem Mf (T:Txt K mg t):GF P w K mg base CX 3 "once" 2 (O3 t):=by
 refine⟨_,_,_,gS T.uA.F Gk rfl fun aZ A outer s H E G ds r hr hl hR=>?_,(T.g T.uA.a),T.uA.F.kp,T.uA.b⟩;obtain⟨six,rows,wd,rfl,ok,hw,hn,hle,rfl⟩:=hR;have oV:=p7 (P:=P) (w:=w) (base:=base) T;have TZ:=Me (P:=P) (w:=w) (base:=base) T;have nd:=Gk.nd;have e2:((wd.filter fun _=>true).map fun x=>Dt.str (tx (wordOf rows x)))=((wd.map (wordOf rows)).map tx).map Dt.str:=by
   rw[aan.mpr (fun _ _=>rfl),aai,aai];rfl
 exact⟨_,.rt _,ag (au 2 nd (d:=.str (tx (grow rows wd))) (mh (Ls:=wd.map (wordOf rows)) bC (df e2 (dr wd (fun x=>Dt.str (sg x)) (fun x=>.str (tx (wordOf rows x))) (fun x=>[.val (.str (sg x))]) (fun _=>true) rfl (aW GY) (fG (aa 1 rfl)) (bA (aW GY) rfl) (cM (b7 (mT ok hw)) (dg wd)) (fun a _=>bG) (.nil fun _ _=>rfl)
     (fun a ha _ C fp s' H' G'=>aT (fs:=t.vB six rows) (aa 1 rfl) oV av hr (ae (aa 0 rfl) ah) ⟨six,rows,a,rfl,ok,hw a ha,rfl⟩) (qK (by omega)))) (by rw[k5];show(grow rows wd).length+_<=_;omega)))
     (ag (kB (bW TZ av hr (ae (wq T.fD (aa 2 rfl) (by omega)) ah) ⟨_,rfl,by omega,rfl⟩)) (ao (aG (aa 2 rfl))))⟩
theorem T1 (T:Txt K mg t):GF P w K mg base CX 4 "written" 3 (Xv t):=by
 refine⟨_,_,_,gS T.me.F xu rfl fun aZ A outer s H E G ds r hr hl hR=>?_,(T.g T.me.a),T.me.F.kp,T.me.b⟩;obtain⟨six,rows,wd,n,rfl,ok,hn,hle,rfl⟩:=hR;have aa6:=u6 (P:=P) (w:=w) (base:=base) T;have TL:=Qn (P:=P) (w:=w) (base:=base) T;have T2:=Mf (P:=P) (w:=w) (base:=base) T;have nd:=xu.nd;let S:Nat->List Slot:=fun k=>[.val (t.yX six rows),.val (.str (tx wd)),.val (.int (n:Nat)),.val (.str (tx (eX rows wd k))),.aS]
 refine⟨_,.rt _,ag (au 3 nd (Eb (fs:=t.vB six rows) (aa 0 rfl) aa6 av hr (ae (aa 1 rfl) ah) ⟨six,rows,wd,8,rfl,ok.ok,ok.wm,⟨ok.w0,ok.w8,by decide⟩,rfl⟩))
     (ag (kB (bW TL av hr (ae (aa 2 rfl) (ae aj (ae (kC (w:=.int 200) T.sV ⟨_,rfl⟩ fun _=>.int 200) ah))) ⟨_,_,_,rfl,by omega,by omega,rfl⟩))
     (ag (dl1:=S n) (gb (o:=.nx (S n)) (m:=n) 4 S nd rfl PassesOwn.leaving T.eW (ae (aa 2 rfl) ah) ⟨by omega,by omega⟩ (Le.of ⟨rfl,rfl,rfl,by rw[Du],trivial⟩) (by omega) (fun k hk=>?_) (by rw[aaS];exact .all rfl))
     (ao (aG (aa 3 rfl)))))⟩
 have a:=uL ok.ok ok.wm (n:=k) (m:=n) (by omega);have b:=uL ok.ok ok.wm (n:=k+1) (m:=n) (by omega);rw[<- tu] at b;refine .nx (ao (au 3 nd (bW T2 av hr (ae (aa 0 rfl) (ae (aa 3 rfl) ah)) ⟨six,rows,eX rows wd k,rfl,ok.ok,oX ok.ok ok.wm k,by omega,by omega,rfl⟩))) (Le.of ⟨rfl,rfl,rfl,?_,trivial⟩);show Slot.val (.str (tx (eX rows wd (k+1))))=Slot.val (.str (tx (grow rows (eX rows wd k))));rw[tu]
theorem Qq (T:Txt K mg t):MF P w K mg base CX 7 t.aq "check_place" 3 (aa4 t):=by
 refine⟨T.aB.cl,_,_,_,gS T.d9.F pA rfl fun aZ A outer s H E G ds r hr hl hR=>?_,T.cX,T.d9.b⟩;obtain⟨six,rows,wd,l,ls,n,age,z,rfl,ok,ju,eZ,hz,rfl⟩:=hR;have Dv:=Bs (P:=P) (w:=w) (base:=base) T;have e:=Bx ok age;exact⟨_,.nx _,ao (aM (u:=false) (su (oY (u:=false) (v:=false) (aP (qZ (aa 2 rfl) aj) (decide_eq_false (by omega))) fun _=>(mW (aP (oZ (aa 2 rfl) (aT (fs:=t.cz six rows wd l ls n) (aa 0 rfl) Dv av hr (ae (aa 1 rfl) ah) ⟨six,rows,wd,l,ls,n,age,rfl,ok,ju,eZ,rfl⟩)) (decide_eq_false (by omega)))))) (fun h=>nomatch h) (fun h=>bu))⟩
theorem T3 (T:Txt K mg t):MF P w K mg base CX 7 t.aq "check_letter_place" 3 (Xw t):=by
 refine⟨T.aB.cl,_,_,_,gS T.b5.F lq rfl fun aZ A outer s H E G ds r hr hl hR=>?_,T.bM,T.b5.b⟩;obtain⟨six,rows,wd,l,ls,n,age,z,rfl,ok,ju,eZ,hz,rfl⟩:=hR;have Dv:=Bs (P:=P) (w:=w) (base:=base) T;have e:=Bx ok age;exact⟨_,.nx _,ao (aM (u:=false) (su (oY (u:=false) (v:=false) (aP (qZ (aa 2 rfl) aj) (decide_eq_false (by omega))) fun _=>(mW (aP (Ci (aa 2 rfl) (aT (fs:=t.cz six rows wd l ls n) (aa 0 rfl) Dv av hr (ae (aa 1 rfl) ah) ⟨six,rows,wd,l,ls,n,age,rfl,ok,ju,eZ,rfl⟩)) (decide_eq_false (by omega)))))) (fun h=>nomatch h) (fun h=>bu))⟩
theorem Qr (T:Txt K mg t):MF P w K mg base CX 8 t.aq "check_stretch" 4 (aa5 t):=by
 refine⟨T.aB.cl,_,_,_,gS T.dc.F nO rfl fun aZ A outer s H E G ds r hr hl hR=>?_,T.cE,T.dc.b⟩;obtain⟨six,rows,wd,l,ls,n,age,b,e,rfl,ok,ju,eZ,⟨tG,DL⟩,rfl⟩:=hR;have p9:=nY (P:=P) (w:=w) (base:=base) T;have O6:=Qq (P:=P) (w:=w) (base:=base) T;have e2:ls.length=2:=by have:=congrArg abB ju;simpa [nr] using this
 exact⟨_,qx (nm:=["tallies","lengths"]) (tl:=[.val (.int ((age:Nat):Int)),.val (.int (b:Int)),.val (.int (e:Int))]) (by rw[e2];exact aaa 2),ag (jF (m:=age+1) (tl:=[.val (.int ((age:Nat):Int)),.val (.int (b:Int)),.val (.int (e:Int))]) (aT (fs:=t.cz six rows wd l ls n) (aa 0 rfl) p9 av hr (ae (aa 1 rfl) ah) ⟨six,rows,wd,l,ls,n,age,rfl,ok,ju,by omega,rfl⟩))
   (ag (kB (aT (fs:=t.cz six rows wd l ls (age+1)) (aa 0 rfl) O6 av hr (ae (aa 1 rfl) (ae (aa 2 rfl) ah)) ⟨six,rows,wd,l,ls,_,age,b,rfl,ok,ju,eZ,⟨by omega,by omega⟩,rfl⟩))
   (ag (aM (u:=false) (aP (qZ (aa 3 rfl) (aa 2 rfl)) (decide_eq_false (by omega))) (fun h=>nomatch h) (fun h=>bu))
   (ao (kB (aT (fs:=t.cz six rows wd l ls (age+1)) (aa 0 rfl) O6 av hr (ae (aa 1 rfl) (ae (aa 3 rfl) ah)) ⟨six,rows,wd,l,ls,_,age,e,rfl,ok,ju,eZ,⟨by omega,by omega⟩,rfl⟩)))))⟩
theorem G4 (T:Txt K mg t):MF P w K mg base CX 9 t.aq "part" 4 (Md t):=by
 refine⟨T.aB.cl,_,_,_,gS T.kR.F xw rfl fun aZ A outer s H E G ds r hr hl hR=>?_,T.gk,T.kR.b⟩;obtain⟨six,rows,wd,l,ls,n,age,b,e,rfl,ok,ju,eZ,⟨tG,DL,h4⟩,rfl⟩:=hR;have T4:=Qr (P:=P) (w:=w) (base:=base) T;have qc:=uK (P:=P) (w:=w) (base:=base) T;have TZ:=Me (P:=P) (w:=w) (base:=base) T;have aa7:=T1 (P:=P) (w:=w) (base:=base) T;obtain⟨k,Xx,Qs⟩:=yj ok.ok _ (yk ok tG DL) (aaa _);obtain⟨Ik,Jk⟩:=Bw ok.ok (yk ok tG DL) Qs k (aaa _);have hmu:=Fb ok (b:=b) (e:=e) eZ;generalize T5:(run rows b e (wk wd age) k).bt=bt at Ik Jk;have hp:(run rows b e (wk wd age) k).place=e:=by have:=Ik.pe;omega
 have hfb:flat rows bt=cut (eX rows wd age) b e:=by rw[<- T5,Ik.fb,hp];rfl
 have V3:(flat rows bt).length<=400:=by rw[hfb];unfold cut;rw[abu,aas];omega
 have hb4:bt.length<=4000:=by
   have:(wk wd age).bt.length=0:=rfl;omega
 have UP:∀ p∈bt,p.2∈rows.map (·.c)/\p.1<=age:=by rw[<- T5];exact Ik.mt
 have e2:((bt.filter fun _=>true).map fun p=>Dt.str (tx (gP rows p.1 p.2)))=((bt.map fun p=>gP rows p.1 p.2).map tx).map Dt.str:=by
   rw[aan.mpr (fun _ _=>rfl),aai,aai];rfl
 have e3:(bt.map fun p=>gP rows p.1 p.2).flatten=cut (eX rows wd age) b e:=by rw[<- hfb];unfold flat;rw[List.flatMap_def]
 refine⟨_,.rt _,ag (jF (m:=age+1) (tl:=[.val (.int ((age:Nat):Int)),.val (.int (b:Int)),.val (.int (e:Int))]) (aT (fs:=t.cz six rows wd l ls n) (aa 0 rfl) T4 av hr (ae (aa 1 rfl) (ae (aa 2 rfl) (ae (aa 3 rfl) ah))) ⟨six,rows,wd,l,ls,n,age,b,e,rfl,ok,ju,eZ,⟨tG,DL⟩,rfl⟩))
   (ag (kB (bW TZ av hr (ae (gH (aa 3 rfl) (aa 2 rfl)) ah) ⟨_,rfl,by omega,rfl⟩))
   (ao (aG (aK (mh (Ls:=bt.map fun p=>gP rows p.1 p.2) bC (df e2 (dr bt j5 (fun p=>.str (tx (gP rows p.1 p.2))) (fun p=>[.val (.int ((p.1:Nat):Int)),.val (.str (sg p.2))]) (fun _=>true) rfl (aW GZ) (fE (mL (wR (q8 (fs:=t.cz six rows wd l ls (age+1)) (aa 0 rfl) (Cr qc) av hr (ae (aa 1 rfl) (ae (aa 2 rfl) (ae (aa 3 rfl) ah))) ⟨six,rows,wd,l,ls,age+1,age,b,e,k,rfl,⟨ok,ju,by omega,by omega,eZ⟩,⟨tG,DL⟩,⟨Xx,Qs⟩,rfl⟩) (by rw[T5])))) (wY rfl (aW GZ) rfl) dP (fun a _=>Av) (.nil fun _ _=>rfl)
     (fun p hp _ C fp s' H' G'=>?_) (O2 (by omega)))) (by rw[e3,k5,<- hfb];omega)) (by rw[e3])))))⟩
 obtain⟨m1,m2⟩:=UP p hp;have hl4:=G1 rows hp;exact aK (bW aa7 av hr (ae (aE (fs:=t.cz six rows wd l ls (age+1)) (aa 2 rfl) T.aB.cl T.aU rfl) (ae (aa 1 rfl) (ae (aa 0 rfl) ah))) ⟨six,rows,[p.2],p.1,rfl,⟨ok.ok,by simp,by simp,fun x hx=>by
   have:x=p.2:=by simpa using hx
   rw[this];exact m1⟩,by omega,by rw[G3];omega,rfl⟩) (by rw[G3])
theorem T6 (T:Txt K mg t):MF P w K mg base CX 10 t.aq "letter_at" 3 (Qp t):=by
 refine⟨T.aB.cl,_,_,_,gS T.fR.F qU rfl fun aZ A outer s H E G ds r hr hl hR=>?_,T.dy,T.fR.b⟩;obtain⟨six,rows,wd,l,ls,n,age,b,rfl,ok,ju,eZ,hb,rfl⟩:=hR;have p9:=nY (P:=P) (w:=w) (base:=base) T;have Xy:=T3 (P:=P) (w:=w) (base:=base) T;have Fc:=G4 (P:=P) (w:=w) (base:=base) T;exact⟨_,.rt _,ag (jF (m:=age+1) (tl:=[.val (.int ((age:Nat):Int)),.val (.int (b:Int))]) (aT (fs:=t.cz six rows wd l ls n) (aa 0 rfl) p9 av hr (ae (aa 1 rfl) ah) ⟨six,rows,wd,l,ls,n,age,rfl,ok,ju,by omega,rfl⟩))
   (ag (kB (aT (fs:=t.cz six rows wd l ls (age+1)) (aa 0 rfl) Xy av hr (ae (aa 1 rfl) (ae (aa 2 rfl) ah)) ⟨six,rows,wd,l,ls,_,age,b,rfl,ok,ju,eZ,⟨by omega,by omega⟩,rfl⟩))
   (ao (aG (aT (fs:=t.cz six rows wd l ls (age+1)) (aa 0 rfl) Fc av hr (ae (aa 1 rfl) (ae (aa 2 rfl) (ae (aK (aO (aa 2 rfl) aj) (congrArg Dt.int (show(b:Int)+1=((b+1:Nat):Int) by omega))) ah))) ⟨six,rows,wd,l,ls,_,age,b,b+1,rfl,ok,ju,eZ,⟨by omega,by omega,by omega⟩,rfl⟩))))⟩
theorem BA {f:Nat->List Nat}{g:Nat->Int}(x:Nat):∀ {w:List Nat},(∀ y∈w,(((f y).count x:Nat):Int)=g y)->(((w.flatMap f).count x:Nat):Int)=(w.map g).sum
 | [],_=>rfl
 | y::w,h=>by
   rw[abH,abL,aao,abP,<- h y (by simp),<- BA (f:=f) (g:=g) x fun z hz=>h z (by simp[hz])];omega
theorem ym (rows:List Row)(x:Nat):∀ (r c:Nat),(((gP rows r c).count x:Nat):Int)=cT rows r c x
 | 0,c=>rfl
 | r+1,c=>BA x fun y _=>ym rows x r y
theorem Dw (rows:List Row)(x:Nat):∀ st:List Pc,(((flat rows st).count x:Nat):Int)=(st.map fun p=>cT rows p.1 p.2 x).sum
 | []=>rfl
 | p::st=>by
   rw[jw,abL,aao,abP,<- Dw rows x st,<- ym];omega
noncomputable def Qt (W:List Nat)(x:Nat):Int:=((W.count x:Nat):Int)
theorem Mg {rows:List Row}{w:List Nat}(ok:j8 rows w){age b e:Nat}(eZ:age<=200)(tG:b<=e)(DL:e<=(eX rows w age).length):∃ k bt,(e<=(run rows b e (wk w age) k).place/\∀ j,j < k->(run rows b e (wk w age) j).place < e)/\(run rows b e (wk w age) k).bt=bt/\flat rows bt=cut (eX rows w age) b e/\bt.length<=4000/\∀ p∈bt,p.2∈rows.map (·.c)/\p.1<=age:=by
 obtain⟨k,Xx,Qs⟩:=yj ok.ok _ (yk ok tG DL) (aaa _);obtain⟨Ik,Jk⟩:=Bw ok.ok (yk ok tG DL) Qs k (aaa _);have hmu:=Fb ok (b:=b) (e:=e) eZ;have hp:(run rows b e (wk w age) k).place=e:=by have:=Ik.pe;omega
 refine⟨k,_,⟨Xx,Qs⟩,rfl,by rw[Ik.fb,hp];rfl,?_,Ik.mt⟩;have:(wk w age).bt.length=0:=rfl;omega
def G5 (t:dM):Rl:=fun ds r=>∃ six rows w l ls n age,∃ b:Nat,ds=[tw t six rows w l ls n,.int ((age:Nat):Int),.int (b:Int)]/\j8 rows w/\ls.map (·.2)=nr rows/\age<=200/\b<=(eX rows w age).length/\r=.own (.cZ (dI (kc (rows.map (·.c)) (Qt ((eX rows w age).take b)))))
noncomputable abbrev T7:Stmt->Scope
 | .Return (some (.Call _ (.ListComp _ _ sc _::_) _ _)) _=>sc
 | _=>af (.Pass ⟨0,0,0,0⟩)
noncomputable abbrev Xz:Scope:=T7 ((aC e9).getD 3 (.Pass ⟨0,0,0,0⟩))
theorem Qu:gw Xz (af e9) pV ["rounds","letter","self"] ["rounds","letter"] [0]=true:=by decide +kernel
def IJ:Rl:=fun ds r=>∃ (L:List Nat) (ts:List (Nat->Int)),ds=[.lst (ts.map (zT L)),.str (tx L)]/\L.Nodup/\L.length<=6/\(∀ x∈L,x < 128)/\ts.length<=4000/\r=.own (.cZ (dI (kc L fun x=>(ts.map fun T=>T x).sum)))
theorem Fd (T:Txt K mg t):GF P w K mg base CX 2 "summed" 2 IJ:=by
 refine⟨_,_,_,gS T.iP.F qz rfl fun aZ A outer s H E G ds r hr hl hR=>?_,(T.g T.iP.a),T.iP.F.kp,T.iP.b⟩;obtain⟨L,ts,rfl,hnd,hL,h7,hts,rfl⟩:=hR;have nd:=qz.nd;have hu:(A.deeper (envOfC "summed" (af jH) s.heap.objs.size t.nT aZ)).units+1 < cLine:=by have:=hr.units;omega
 let D:Nat->Dt:=fun x=>.int (ts.map fun T=>T x).sum
 have e2:((L.filter fun _=>true).map fun x=>Dt.tup [.str (sg x),D x])=(dI (kc L fun x=>(ts.map fun T=>T x).sum)).map Kt:=by
   rw[aan.mpr (fun _ _=>rfl),u9];exact zS L D
 refine⟨_,.ro _,ao (jD (mv T.oT rfl (df e2 (Ep L (fun x=>Dt.str (sg x)) (fun x=>.tup [.str (sg x),D x]) (fun x=>[.val (.str (sg x))]) (fun _=>true) rfl (uY GN) (fG (aa 1 rfl)) (sG (uY GN)) (cM (b7 (iQ h7)) (dg L)) (fun a _=>bG) (.nil fun _ _=>rfl)
     (fun a ha _ c C fp s' H' G'=>?_) (qK (by omega)))) (by rw[GL];exact ky hnd) (by rw[LK];exact qK (by omega))))⟩
 have e3:((ts.filter fun _=>true).map fun T=>Dt.int (T a))=(ts.map fun T=>T a).map Dt.int:=by
   rw[aan.mpr (fun _ _=>rfl),aai];rfl
 refine bL (ae (aa 0 rfl) (ae (Ei T.zL rfl (df e3 (dr ts (zT L) (fun T=>Dt.int (T a)) (fun T=>[.val (zT L T)]) (fun _=>true) rfl (aW Bq) (fE (aa 1 rfl)) (bA (aW Bq) rfl) dP (fun a _=>bG) (.nil fun _ _=>rfl)
   (fun T' hT' _ C2 UJ s2 H2 G2=>?_) (O2 (by omega))))) ah)) AA3
 exact d5 hu (aa 0 rfl) (aa 1 rfl) (by rw[u9];exact eC ha) (fun _ _=>rfl)
theorem Mh (T:Txt K mg t):MF P w K mg base CX 8 t.aq "ahead" 3 (G5 t):=by
 refine⟨T.aB.cl,_,_,_,gS T.jV.F o8 rfl fun aZ A outer s H E G ds r hr hl hR=>?_,T.fQ,T.jV.b⟩;obtain⟨six,rows,wd,l,ls,n,age,b,rfl,ok,ju,eZ,hb,rfl⟩:=hR;have p9:=nY (P:=P) (w:=w) (base:=base) T;have O6:=Qq (P:=P) (w:=w) (base:=base) T;have qc:=uK (P:=P) (w:=w) (base:=base) T;have cR:=gR (P:=P) (w:=w) (base:=base) T;have p8:=Fd (P:=P) (w:=w) (base:=base) T;have nd:=o8.nd;have hu:(A.deeper (envOfC "Growth.ahead" (af e9) s.heap.objs.size t.dt aZ)).units+1 < cLine:=by have:=hr.units;omega
 obtain⟨k,bt,hk,T5,V3,hb4,UP⟩:=Mg ok (b:=0) eZ (aa1 _) hb;have h6:=ok.ok.le;let L:=rows.map (·.c);have hL:L.length<=6:=by show(rows.map (·.c)).length<=6;rw[k5];exact h6
 have h7:∀ x∈L,x < 128:=fun x hx=>by
   obtain⟨r,hr,rfl⟩:=aaQ.mp hx;have:=ok.ok.sm r hr;unfold small at this;omega
 have e3:((bt.filter fun _=>true).map fun p=>zT L (cT rows p.1 p.2))=(bt.map fun p=>cT rows p.1 p.2).map (zT L):=by
   rw[aan.mpr (fun _ _=>rfl),aai];rfl
 have e4:(Qt ((eX rows wd age).take b))=fun x=>((bt.map fun p=>cT rows p.1 p.2).map fun T=>T x).sum:=by
   funext x
   show((((eX rows wd age).take b).count x:Nat):Int)=_;have e:(eX rows wd age).take b=flat rows bt:=by rw[V3];rfl
   rw[e,Dw,aai];rfl
 exact⟨_,.ro _,ag (jF (m:=age+1) (tl:=[.val (.int ((age:Nat):Int)),.val (.int (b:Int)),.aS]) (aT (fs:=t.cz six rows wd l ls n) (aa 0 rfl) p9 av hr (ae (aa 1 rfl) ah) ⟨six,rows,wd,l,ls,n,age,rfl,ok,ju,by omega,rfl⟩))
   (ag (kB (aT (fs:=t.cz six rows wd l ls (age+1)) (aa 0 rfl) O6 av hr (ae (aa 1 rfl) (ae (aa 2 rfl) ah)) ⟨six,rows,wd,l,ls,_,age,b,rfl,ok,ju,eZ,⟨by omega,by omega⟩,rfl⟩))
   (ag (au 3 nd (d:=.lst (bt.map j5)) (mL (wR (q8 (fs:=t.cz six rows wd l ls (age+1)) (aa 0 rfl) (Cr qc) av hr (ae (aa 1 rfl) (ae aj (ae (aa 2 rfl) ah))) ⟨six,rows,wd,l,ls,age+1,age,0,b,k,rfl,⟨ok,ju,by omega,by omega,eZ⟩,⟨aa1 _,hb⟩,hk,rfl⟩) (by rw[T5]))))
   (ao (jD (pL p8 av hr (ae (df e3 (dr bt j5 (fun p=>zT L (cT rows p.1 p.2)) (fun p=>[.val (.int ((p.1:Nat):Int)),.val (.str (sg p.2))]) (fun _=>true) rfl (aW Qu) (fE (aa 3 rfl)) (wY rfl (aW Qu) rfl) dP (fun a _=>Av) (.nil fun _ _=>rfl)
     (fun p hp _ C fp s' H' G'=>d5 hu (pO (n:=age+1) (j:=0) (f:=sZ rows) (aE (fs:=t.cz six rows wd l ls (age+1)) (aa 2 rfl) T.aB.cl T.aY rfl) (aa 0 rfl) (by rw[ju];rfl) (by have:=(UP p hp).2;omega) (by omega)) (aa 1 rfl) (by rw[Ez];exact eC (UP p hp).1) (fun _ _=>rfl)) (O2 (by omega)))) (ae (cu (fs:=t.vB six rows) (aE (fs:=t.cz six rows wd l ls (age+1)) (aa 0 rfl) T.aB.cl T.aU rfl) cR av hr ⟨six,rows,rfl,ok.ok,rfl⟩) ah)) ⟨L,_,rfl,ok.ok.nd,hL,h7,by rw[k5];omega,by rw[e4]⟩)))))⟩
section
variable {X:Cx}{G:Gr}{dl:List Slot}{i o:Expr}{kds:List (Key×Dt)}{k:Str}{pos:Pos}
theorem O7 (hu:X.A.units+1 < cLine)(hi:EE X G dl i (.str k))(ho:EE X G dl o (.eF kds))(hm:autoParam (behindInMarks .NotIn o=false) jp):EB X G dl (.Compare i [.NotIn] [o] pos) (!(mn kds (.inr k)).isSome):=
 VE (Jn (zk hu hi ho) hm) fun st H Q zq=>ZL zq fun Hf zq=>have S:=zq.1;have kk:=zq.2;⟨Hf,S,fun v Hf1 H1 g1 r1=>⟨Hf1,S.grow g1,fun w b6 H2 g2 r2=>by
     cases r1;cases r2 with
     | @eF q tg ob kvs _ hq rp=>exact⟨q,_,rfl,.inl ⟨kvs,.inr k,.inr (.inr (.inl ⟨tg,ob,kvs,g2.sub _ _ hq,rfl⟩)),rfl,rfl⟩,by rw[rp.zw];exact⟨_,rfl,kk b6 H2 (g1.trans g2)⟩⟩⟩⟩
end
structure QS where
 place:Nat
 miss:Nat
 p:Pc
 st:List Pc
noncomputable def tE (rows:List Row)(x:Nat)(p:Pc):Nat:=(gP rows p.1 p.2).count x
noncomputable def DM (rows:List Row)(x:Nat)(s:QS):QS:=
 if s.miss < tE rows x s.p then match wp (s.p.1 - 1) (wordOf rows s.p.2) ++ s.st with
   | []=>s
   | q::st=>⟨s.place,s.miss,q,st⟩
 else match s.st with
   | []=>s
   | q::st=>⟨s.place+(gP rows s.p.1 s.p.2).length,s.miss - tE rows x s.p,q,st⟩
noncomputable def Fe (rows:List Row)(x:Nat)(s:QS):Nat->QS
 | 0=>s
 | k+1=>DM rows x (Fe rows x s k)
theorem Mi (rows:List Row)(x:Nat)(s:QS):∀ k,Fe rows x s (k+1)=Fe rows x (DM rows x s) k
 | 0=>rfl
 | k+1=>by
   show DM rows x (Fe rows x s (k+1))=DM rows x (Fe rows x (DM rows x s) k);rw[Mi rows x s k]
noncomputable def G6 (x:Nat)(s:QS):Bool:=decide (0 < s.p.1) || (decide (0 < s.miss) || decide (s.p.2≠x))
noncomputable def nu (rows:List Row)(x:Nat):Nat->List Pc->Nat
 | _,[]=>0
 | m,p::st=>1+if m < tE rows x p then 8 * p.1+st.length else nu rows x (m - tE rows x p) st
theorem Mj (rows:List Row)(x:Nat):∀ (m:Nat) (st:List Pc),st.length<=nu rows x m st
 | _,[]=>aaa 0
 | m,p::st=>by
   have:=Mj rows x (m - tE rows x p) st;rw[nu,aaI]
   split <;> omega
theorem Ml (rows:List Row)(x r:Nat)(st:List Pc):∀ (m:Nat) (w:List Nat),m < (w.flatMap (gP rows r)).count x->nu rows x m (wp r w ++ st)<=w.length+8 * r+st.length
 | m,[],h=>by simp at h
 | m,c::w,h=>by
   have e:nu rows x m (wp r (c::w) ++ st)=1+if m < tE rows x (r,c) then 8 * r+(wp r w ++ st).length else nu rows x (m - tE rows x (r,c)) (wp r w ++ st):=rfl
   have el:(wp r w ++ st).length=w.length+st.length:=by unfold wp;rw[aaq,k5]
   rw[e,el,aaI]
   split
   . omega
   . rename_i hn
     rw[abH,abL] at h;have eh:tE rows x (r,c)=(gP rows r c).count x:=rfl;have:=Ml rows x r st (m - tE rows x (r,c)) w (by omega);omega
structure IK (rows:List Row)(age x num:Nat)(W:List Nat)(s:QS):Prop where
 fl:flat rows (s.p::s.st)=W.drop s.place
 pl:s.place<=W.length
 ct:s.miss+(W.take s.place).count x=num
 lt:s.miss < (flat rows (s.p::s.st)).count x
 mb:∀ p∈s.p::s.st,p.2∈rows.map (·.c)/\p.1<=age
theorem Mm {rows:List Row}{x:Nat}{s:QS}(h:G6 x s=true)(hm:s.miss < tE rows x s.p):0 < s.p.1:=by
 rcases Nat.eq_zero_or_pos s.p.1 with z | z
 . exfalso
   have e:tE rows x s.p=([s.p.2]:List Nat).count x:=by unfold tE;rw[z];rfl
   rw[e] at hm;have MR:s.miss=0/\s.p.2=x:=by
     by_cases hx:s.p.2=x
     . rw[hx,List.count_singleton_self] at hm;exact⟨by omega,hx⟩
     . rw[List.count_eq_zero_of_not_mem (by simpa using Ne.symm hx)] at hm;omega
   unfold G6 at h;rw[z,MR.1,MR.2] at h;simp at h
 . exact z
theorem Mn {rows:List Row}(ok:a0 rows){age x num:Nat}{W:List Nat}{s:QS}(I:IK rows age x num W s)(h:G6 x s=true)(hm:s.miss < tE rows x s.p):∃ q st,wp (s.p.1 - 1) (wordOf rows s.p.2) ++ s.st=q::st/\DM rows x s=⟨s.place,s.miss,q,st⟩/\IK rows age x num W ⟨s.place,s.miss,q,st⟩/\nu rows x s.miss (q::st) < nu rows x s.miss (s.p::s.st):=by
 have hp:=Mm h hm;obtain⟨fl,pl,ct,lt,mb⟩:=I;obtain⟨r,hr⟩:∃ r,s.p.1=r+1:=⟨s.p.1 - 1,by omega⟩
 have zB:=mb s.p (abk ..);have hw:=ij ok zB.1;have eg:gP rows s.p.1 s.p.2=(wordOf rows s.p.2).flatMap (gP rows (s.p.1 - 1)):=by rw[hr];rfl
 have ef:flat rows (wp (s.p.1 - 1) (wordOf rows s.p.2) ++ s.st)=flat rows (s.p::s.st):=by rw[yi,tq,jw,eg]
 have hn:nu rows x s.miss (wp (s.p.1 - 1) (wordOf rows s.p.2) ++ s.st)<=(wordOf rows s.p.2).length+8 * (s.p.1 - 1)+s.st.length:=Ml rows x (s.p.1 - 1) s.st s.miss _ (by rw[<- eg];exact hm);have MO:nu rows x s.miss (s.p::s.st)=1+(8 * s.p.1+s.st.length):=by rw[nu,if_pos hm]
 have YI:∀ p∈wp (s.p.1 - 1) (wordOf rows s.p.2) ++ s.st,p.2∈rows.map (·.c)/\p.1<=age:=fun p hpp=>by
   rcases abI.mp hpp with hx | hx
   . obtain⟨y,hy,rfl⟩:=aaQ.mp hx
     exact⟨hw.1 y hy,by show s.p.1 - 1<=age;omega⟩
   . exact mb p (aaC _ hx)
 have es:DM rows x s=match wp (s.p.1 - 1) (wordOf rows s.p.2) ++ s.st with
   | []=>s
   | q::st=>⟨s.place,s.miss,q,st⟩:=by unfold DM;rw[if_pos hm]
 cases hl:wp (s.p.1 - 1) (wordOf rows s.p.2) ++ s.st with
 | nil=>
   have:=congrArg abB hl;rw[aaq,List.length_nil] at this;unfold wp at this;rw[k5] at this;omega
 | cons q st=>
   rw[hl] at es ef hn YI;refine⟨q,st,rfl,es,⟨by rw[<- fl];exact ef,pl,ct,by rw[show flat rows ((⟨s.place,s.miss,q,st⟩:QS).p::(⟨s.place,s.miss,q,st⟩:QS).st)=_ from ef];exact lt,YI⟩,by omega⟩
theorem Mo {rows:List Row}{age x num:Nat}{W:List Nat}{s:QS}(I:IK rows age x num W s)(hm:¬ s.miss < tE rows x s.p):∃ q st,s.st=q::st/\DM rows x s=⟨s.place+(gP rows s.p.1 s.p.2).length,s.miss - tE rows x s.p,q,st⟩/\IK rows age x num W ⟨s.place+(gP rows s.p.1 s.p.2).length,s.miss - tE rows x s.p,q,st⟩/\nu rows x (s.miss - tE rows x s.p) (q::st) < nu rows x s.miss (s.p::s.st):=by
 obtain⟨fl,pl,ct,lt,mb⟩:=I;have eh:tE rows x s.p=(gP rows s.p.1 s.p.2).count x:=rfl;rw[jw] at fl;rw[jw,abL] at lt;have es:DM rows x s=match s.st with
   | []=>s
   | q::st=>⟨s.place+(gP rows s.p.1 s.p.2).length,s.miss - tE rows x s.p,q,st⟩:=by unfold DM;rw[if_neg hm]
 have MO:nu rows x s.miss (s.p::s.st)=1+nu rows x (s.miss - tE rows x s.p) s.st:=by rw[nu,if_neg hm]
 have hlen:=congrArg abB fl;rw[aaq,abu] at hlen;have Xs:flat rows s.st=W.drop (s.place+(gP rows s.p.1 s.p.2).length):=by rw[<- List.drop_drop,<- fl,List.drop_left]
 have ft:W.take (s.place+(gP rows s.p.1 s.p.2).length)=W.take s.place ++ gP rows s.p.1 s.p.2:=by rw[List.take_add,<- fl,List.take_left]
 cases hl:s.st with
 | nil=>rw[hl] at lt;have:(flat rows []).count x=0:=rfl;omega
 | cons q st=>
   rw[hl] at es MO Xs lt;refine⟨q,st,rfl,es,⟨Xs,by show s.place+_<=_;omega,?_,by show s.miss - _ < (flat rows (q::st)).count x;omega,fun p hp=>mb p (by rw[hl];exact aaC _ hp)⟩,by rw[<- hl] at MO ⊢;omega⟩;show s.miss - tE rows x s.p+(W.take (s.place+(gP rows s.p.1 s.p.2).length)).count x=num;rw[ft,abL];omega
theorem Mp {rows:List Row}(ok:a0 rows){age x num:Nat}{W:List Nat}{s:QS}(I:IK rows age x num W s)(h:G6 x s=true):IK rows age x num W (DM rows x s)/\nu rows x (DM rows x s).miss ((DM rows x s).p::(DM rows x s).st) < nu rows x s.miss (s.p::s.st):=by
 by_cases hm:s.miss < tE rows x s.p
 . obtain⟨q,st,_,e,i,n⟩:=Mn ok I h hm
   rw[e];exact⟨i,n⟩
 . obtain⟨q,st,_,e,i,n⟩:=Mo I hm
   rw[e];exact⟨i,n⟩
theorem Mq {rows:List Row}(ok:a0 rows){age x num:Nat}{W:List Nat}{s:QS}(I:IK rows age x num W s){n:Nat}(h:∀ k,k < n->G6 x (Fe rows x s k)=true):∀ k,k<=n->IK rows age x num W (Fe rows x s k)/\nu rows x (Fe rows x s k).miss ((Fe rows x s k).p::(Fe rows x s k).st)<=nu rows x s.miss (s.p::s.st)
 | 0,_=>⟨I,aaa _⟩
 | k+1,hk=>by
   obtain⟨i1,i2⟩:=Mq ok I h k (by omega);obtain⟨j1,j2⟩:=Mp ok i1 (h k (by omega));exact⟨j1,aau (abw j2) i2⟩
theorem Dx {rows:List Row}(ok:a0 rows){age x num:Nat}{W:List Nat}:∀ (m:Nat) {s:QS},IK rows age x num W s->nu rows x s.miss (s.p::s.st)<=m->∃ n,G6 x (Fe rows x s n)=false/\∀ k,k < n->G6 x (Fe rows x s k)=true
 | m,s,I,hm=>by
   cases hp:G6 x s with
   | true=>
     obtain⟨j1,j2⟩:=Mp ok I hp;cases m with
     | zero=>omega
     | succ m=>
       obtain⟨n,h1,h2⟩:=Dx ok m j1 (by omega);refine⟨n+1,by rw[Mi];exact h1,fun k hk=>?_⟩;cases k with
       | zero=>exact hp
       | succ k=>rw[Mi];exact h2 k (by omega)
   | false=>exact⟨0,hp,fun k hk=>by omega⟩
structure T8 (W:List Nat)(x num b:Nat):Prop where
 lt:b < W.length
 at_:W.getD b 0=x
 ct:(W.take b).count x=num
theorem O8 {rows:List Row}{age x num:Nat}{W:List Nat}{s:QS}(I:IK rows age x num W s)(h:G6 x s=false):T8 W x num s.place:=by
 unfold G6 at h;rw[Bool.or_eq_false_iff,Bool.or_eq_false_iff] at h;have h1:s.p.1=0:=by have:=of_decide_eq_false h.1;omega
 have h2:s.miss=0:=by have:=of_decide_eq_false h.2.1;omega
 have h3:s.p.2=x:=by have:=of_decide_eq_false h.2.2;exact Classical.not_not.mp this
 have fl:=I.fl;rw[jw,h1,h3] at fl;have fl:x::flat rows s.st=W.drop s.place:=fl;have hl:=congrArg abB fl;rw[aaI,abu] at hl;refine⟨by omega,?_,by have:=I.ct;omega⟩;have:(W.drop s.place)[0]?=some x:=by rw[<- fl];rfl
 rw[List.getElem?_drop] at this;rw[Bn];rw[Nat.add_zero] at this;rw[this];rfl
theorem pq0 {rows:List Row}{w:List Nat}(ok:j8 rows w){age x num:Nat}(ha:age<=200)(hn:num < (eX rows w age).count x):∃ p st,wp age w=p::st/\IK rows age x num (eX rows w age) ⟨0,num,p,st⟩/\nu rows x num (p::st)<=2000/\∃ n,G6 x (Fe rows x ⟨0,num,p,st⟩ n)=false/\∀ k,k < n->G6 x (Fe rows x ⟨0,num,p,st⟩ k)=true:=by
 have w8:=ok.w8;have w0:=ok.w0;cases hw:wp age w with
 | nil=>
   have:=congrArg abB hw;unfold wp at this;rw[k5] at this;simp at this;rw[this] at w0;simp at w0
 | cons p st=>
   have ef:flat rows (p::st)=eX rows w age:=by rw[<- hw];exact tq rows age w
   have I:IK rows age x num (eX rows w age) ⟨0,num,p,st⟩:=⟨ef,aa1 _,by simp,by show num < (flat rows (p::st)).count x;rw[ef];exact hn,fun q hq=>by
     have hq:q∈wp age w:=by rw[hw];exact hq
     obtain⟨y,hy,rfl⟩:=aaQ.mp hq;exact⟨ok.wm y hy,aaa _⟩⟩
   have hu:nu rows x num (p::st)<=2000:=by
     have:=Ml rows x age [] num w hn;rw[abx,hw] at this;have:([]:List Pc).length=0:=rfl;omega
   obtain⟨n,h1,h2⟩:=Dx ok.ok _ I (aaa _);exact⟨p,st,rfl,I,hu,n,h1,h2⟩
theorem T9 {W:List Nat}{x n a:Nat}(h:T8 W x n a):(W.take (a+1)).count x=n+1:=by
 have e:W[a]?=some x:=by
   have:=h.at_;rw[Bn,k3 h.lt] at this;rw[k3 h.lt];exact congrArg some this
 rw[aby,e,abL,h.ct];show n + [x].count x=n+1;rw[List.count_singleton_self]
theorem Qv {W:List Nat}{x n m a b:Nat}(h:T8 W x n a)(g:T8 W x m b)(W4:a < b):n < m:=by
 have c:=T9 h;have e:W.take (a+1)=(W.take b).take (a+1):=by rw[List.take_take,Nat.min_eq_left (by omega)]
 rw[e] at c;have:=(List.take_sublist (a+1) (W.take b)).count_le x;have:=g.ct;omega
theorem XA {W:List Nat}{x n a b:Nat}(h:T8 W x n a)(g:T8 W x n b):a=b:=by
 rcases Nat.lt_trichotomy a b with z | z | z
 . exact absurd (Qv h g z) (abA _)
 . exact z
 . exact absurd (Qv g h z) (abA _)
def aba (t:dM):Rl:=fun ds r=>∃ six rows w l ls n x,ds=[tw t six rows w l ls n,.str (sg x)]/\ls.map (·.2)=nr rows/\0 < n/\n<=1000/\x∈rows.map (·.c)/\r=.ret .dk
def G7 (t:dM):Rl:=fun ds r=>∃ six rows w l ls n age x num b,ds=[tw t six rows w l ls n,.int ((age:Nat):Int),.str (sg x),.int ((num:Nat):Int)]/\j8 rows w/\ls.map (·.2)=nr rows/\age<=200/\x∈rows.map (·.c)/\num < (eX rows w age).count x/\T8 (eX rows w age) x num b/\r=.ret (.int ((b:Nat):Int))
theorem Mr (x:Nat)(s:QS):(decide ((0:Int) < ((s.p.1:Nat):Int)) || (decide ((0:Int) < ((s.miss:Nat):Int)) || !decide (sg s.p.2=sg x)))=G6 x s:=by
 unfold G6;have e1:decide ((0:Int) < ((s.p.1:Nat):Int))=decide (0 < s.p.1):=decide_eq_decide.mpr (by omega);have e2:decide ((0:Int) < ((s.miss:Nat):Int))=decide (0 < s.miss):=decide_eq_decide.mpr (by omega);have e3:(!decide (sg s.p.2=sg x))=decide (s.p.2≠x):=by
   by_cases h:s.p.2=x
   . rw[h,decide_eq_true rfl,decide_eq_false (fun z=>z rfl)];rfl
   . rw[decide_eq_false (fun z=>h (pZ z)),decide_eq_true h];rfl
 rw[e1,e2,e3]
theorem XB {rows:List Row}{w:List Nat}(age x:Nat):(((eX rows w age).count x:Nat):Int)=YH rows w age x:=BA x fun y _=>ym rows x age y
theorem XC (T:Txt K mg t):MF P w K mg base CX 1 t.aq "check_letter" 2 (aba t):=by
 refine⟨T.aB.cl,_,_,_,gS T.dH.F oG rfl fun aZ A outer s H E G ds r hr hl hR=>?_,T.cO,T.dH.b⟩;obtain⟨six,rows,wd,l,ls,n,x,rfl,ju,hn,hn1,hx,rfl⟩:=hR;have hu:(A.deeper (envOfC "Growth.check_letter" (af dC) s.heap.objs.size t.aX aZ)).units+1 < cLine:=by have:=hr.units;omega
 exact⟨_,.nx _,ao (aM (u:=false) (aP (O7 hu (aa 1 rfl) (pO (n:=n) (j:=1) (f:=yb rows) (k:=0) (aE (fs:=t.cz six rows wd l ls n) (aa 0 rfl) T.aB.cl T.bH rfl) aj (by rw[ju];rfl) hn hn1)) (by rw[M4,eC hx];rfl)) (fun h=>nomatch h) (fun h=>bu))⟩
theorem Ms (T:Txt K mg t):MF P w K mg base CX 8 t.aq "place_of" 4 (G7 t):=by
 refine⟨T.aB.cl,_,_,_,gS T.gC.F mC rfl fun aZ A outer s H E G ds r hr hl hR=>?_,T.dN,T.gC.b⟩;obtain⟨six,rows,wd,l,ls,n0,age,x,num,b,rfl,ok,ju,eZ,hx,abb,hb,rfl⟩:=hR;have p9:=nY (P:=P) (w:=w) (base:=base) T;have abd:=XC (P:=P) (w:=w) (base:=base) T;have XD:=GP (P:=P) (w:=w) (base:=base) T;have yl:=GW (P:=P) (w:=w) (base:=base) T;have oV:=p7 (P:=P) (w:=w) (base:=base) T;have nd:=mC.nd;have hu:(A.deeper (envOfC "Growth.place_of" (af gx) s.heap.objs.size t.b8 aZ)).units+1 < cLine:=by have:=hr.units;omega
 have w8:=ok.w8;obtain⟨p0,FV,hw0,I0,hnu,n,YJ,XE⟩:=pq0 ok eZ abb;obtain⟨R,hR⟩:∃ R:Nat->QS,R=Fe rows x ⟨0,num,p0,FV⟩:=⟨_,rfl⟩
 have R0:R 0=⟨0,num,p0,FV⟩:=by rw[hR];rfl
 have RS:∀ k,R (k+1)=DM rows x (R k):=fun k=>by rw[hR];rfl
 have MW:∀ k,k<=n->IK rows age x num (eX rows wd age) (R k)/\nu rows x (R k).miss ((R k).p::(R k).st)<=2000:=fun k hk=>by
   have:=Mq ok.ok I0 XE k hk;rw[hR];exact⟨this.1,aau this.2 hnu⟩
 rw[<- hR] at YJ XE;have ebn:(R n).place=b:=XA (O8 (MW n (aaa _)).1 YJ) hb;have hcn:=XB (rows:=rows) (w:=wd) age x;have YK:∀ {m:Nat},m<=8000->m < sizeLine:=fun h=>aaT h (by decide)
 have e0:Own.lst ((wp age wd).reverse.map j5)=.lst (FV.reverse.map j5 ++ [j5 p0]):=by rw[hw0,ach,abv];rfl
 have hnN:age+1<=1000:=by omega
 let sf:Dt:=tw t six rows wd l ls (age+1);let S:Nat->List Slot:=fun k=>[.val sf,.val (.int ((age:Nat):Int)),.val (.str (sg x)),.val (.int ((num:Nat):Int)),.val (.int (((R k).place:Nat):Int)),.val (.int (((R k).miss:Nat):Int)),.own (.lst ((R k).st.reverse.map j5)),.val (j5 (R k).p),.aS,.aS]
 have hS0:S 0=[.val sf,.val (.int ((age:Nat):Int)),.val (.str (sg x)),.val (.int ((num:Nat):Int)),.val (.int 0),.val (.int ((num:Nat):Int)),.own (.lst (FV.reverse.map j5)),.val (j5 p0),.aS,.aS]:=by
   show [_,_,_,_,Slot.val (.int (((R 0).place:Nat):Int)),.val (.int (((R 0).miss:Nat):Int)),.own (.lst ((R 0).st.reverse.map j5)),.val (j5 (R 0).p),_,_]=_;rw[R0];rfl
 refine⟨_,.rt _,ag (jF (m:=age+1) (tl:=[.val (.int ((age:Nat):Int)),.val (.str (sg x)),.val (.int ((num:Nat):Int)),.aS,.aS,.aS,.aS,.aS,.aS]) (aT (fs:=t.cz six rows wd l ls n0) (aa 0 rfl) p9 av hr (ae (aa 1 rfl) ah) ⟨six,rows,wd,l,ls,n0,age,rfl,ok,ju,by omega,rfl⟩)) ?_⟩;refine ag (kB (aT (fs:=t.cz six rows wd l ls (age+1)) (aa 0 rfl) abd av hr (ae (aa 2 rfl) ah) ⟨six,rows,wd,l,ls,age+1,x,rfl,ju,by omega,hnN,hx,rfl⟩)) ?_;refine ag (aM (u:=false) (su (oY (u:=false) (v:=false) (aP (qZ (aa 3 rfl) aj) (decide_eq_false (by omega))) fun _=>mW (aP (Ci (aa 3 rfl) (d5 hu (KD (q8 (fs:=t.cz six rows wd l ls (age+1)) (aa 0 rfl) (Cr XD) av hr (ae (aa 1 rfl) ah) ⟨six,rows,wd,l,ls,age+1,age,rfl,ok,ju,eZ,rfl⟩)) (aa 2 rfl) (by rw[u9];exact eC hx) (fun _ _=>rfl))) (decide_eq_false (by omega))))) (fun h=>nomatch h) (fun h=>bu)) ?_;refine ag (au 4 nd aj) (ag (au 5 nd (aa 3 rfl)) (ag (iU 6 nd (wR (pL yl av hr (ae (aE (fs:=t.cz six rows wd l ls (age+1)) (aa 0 rfl) T.aB.cl T.dv rfl) (ae (aa 1 rfl) ah)) ⟨wd,age,rfl,by omega,rfl⟩) e0)) (ag (Ey (ds:=FV.reverse.map j5) (d:=j5 p0) 7 6 nd rfl) ?_)));refine ag (dl1:=S n) (Cs S n PassesOwn.leaving (by rw[hS0];exact Le.of ⟨rfl,rfl,rfl,rfl,rfl,rfl,rfl,rfl,trivial⟩) (fun k hk=>aP (su (oY (oZ (aF (aa 7 rfl) aj rfl) aj) fun _=>oY (oZ (aa 5 rfl) aj) fun _=>mW (t7 (aF (aa 7 rfl) aj rfl) (aa 2 rfl)))) ((Mr x (R k)).trans (XE k hk))) (aP (su (oY (oZ (aF (aa 7 rfl) aj rfl) aj) fun _=>oY (oZ (aa 5 rfl) aj) fun _=>mW (t7 (aF (aa 7 rfl) aj rfl) (aa 2 rfl)))) ((Mr x (R n)).trans YJ)) (fun k hk=>?body)) (ao (aG (aK (aa 4 rfl) (by rw[ebn]))))
 case body=>
   obtain⟨Ik,Qs⟩:=MW k (abw hk);have hl:=Mj rows x (R k).miss ((R k).p::(R k).st);rw[aaI] at hl;have di:(R k).st.length<=2000:=by omega
   have zB:=Ik.mb (R k).p (abk ..);have L9:(R k).p.1 < age+1:=by omega
   have hg:=Bv ok.ok (R k).p.1 zB.1;have ht:(((tE rows x (R k).p:Nat):Int))=cT rows (R k).p.1 (R k).p.2 x:=ym rows x _ _;let D:List Slot:=[.val sf,.val (.int ((age:Nat):Int)),.val (.str (sg x)),.val (.int ((num:Nat):Int)),.val (.int (((R (k+1)).place:Nat):Int)),.val (.int (((R (k+1)).miss:Nat):Int)),.own (.lst ((R (k+1)).st.reverse.map j5 ++ [j5 (R (k+1)).p])),.val (j5 (R k).p),.val (.int (((R k).p.1:Nat):Int)),.val (.int ((tE rows x (R k).p:Nat):Int))]
   refine .nx (dl':=[.val sf,.val (.int ((age:Nat):Int)),.val (.str (sg x)),.val (.int ((num:Nat):Int)),.val (.int (((R (k+1)).place:Nat):Int)),.val (.int (((R (k+1)).miss:Nat):Int)),.own (.lst ((R (k+1)).st.reverse.map j5)),.val (j5 (R (k+1)).p),.val (.int (((R k).p.1:Nat):Int)),.val (.int ((tE rows x (R k).p:Nat):Int))]) ?_ (Le.of ⟨rfl,rfl,rfl,rfl,rfl,rfl,rfl,rfl,trivial⟩);refine ag (au 8 nd (aF (aa 7 rfl) aj rfl)) (ag (au 9 nd (aK (d5 hu (d5 hu (pO (n:=age+1) (j:=0) (f:=sZ rows) (aE (fs:=t.cz six rows wd l ls (age+1)) (aa 0 rfl) T.aB.cl T.aY rfl) (aa 8 rfl) (by rw[ju];rfl) L9 hnN) (aF (aa 7 rfl) aj rfl) (by rw[Ez];exact eC zB.1) (fun _ _=>rfl)) (aa 2 rfl) (by rw[u9];exact eC hx) (fun _ _=>rfl)) (congrArg Dt.int ht.symm))) (ag (dl1:=D) (aM (u:=decide ((R k).miss < tE rows x (R k).p)) (aP (qZ (aa 5 rfl) (aa 9 rfl)) (decide_eq_decide.mpr (Int.ofNat_lt (n:=(R k).miss) (m:=tE rows x (R k).p)))) (fun h=>?b1) (fun h=>?b2)) (ao (Ey (ds:=(R (k+1)).st.reverse.map j5) (d:=j5 (R (k+1)).p) 7 6 nd rfl))))
   case b1=>
     have h:=of_decide_eq_true h;obtain⟨q,st,e1,e2,_,_⟩:=Mn ok.ok Ik (XE k hk) h;have hz:=Mm (XE k hk) h;rw[<- RS] at e2;have hw:=ij ok.ok zB.1;have e3:(R (k+1)).st.reverse.map j5 ++ [j5 (R (k+1)).p]=(R k).st.reverse.map j5 ++ (wp ((R k).p.1 - 1) (wordOf rows (R k).p.2)).reverse.map j5:=by
       rw[<- abv,<- List.reverse_append,e1,e2,ach,abv];rfl
     have e4:(R (k+1)).place=(R k).place:=by rw[e2]
     have e5:(R (k+1)).miss=(R k).miss:=by rw[e2]
     show nH _ _ _ _ _ (.nx [_,_,_,_,.val (.int (((R (k+1)).place:Nat):Int)),.val (.int (((R (k+1)).miss:Nat):Int)),.own (.lst ((R (k+1)).st.reverse.map j5 ++ [j5 (R (k+1)).p])),_,_,_]);rw[e3,e4,e5];exact ao (zx (ds:=(R k).st.reverse.map j5) 6 (mL (pL yl av hr (ae (aT (fs:=t.vB six rows) (aE (fs:=t.cz six rows wd l ls (age+1)) (aa 0 rfl) T.aB.cl T.aU rfl) oV av hr (ae (aF (aa 7 rfl) aj rfl) ah) ⟨six,rows,(R k).p.2,rfl,ok.ok,zB.1,rfl⟩) (ae (aK (gH (aa 8 rfl) aj) (congrArg Dt.int (show(((R k).p.1:Nat):Int) - 1=(((R k).p.1 - 1:Nat):Int) by omega))) ah)) ⟨wordOf rows (R k).p.2,(R k).p.1 - 1,rfl,by omega,rfl⟩)) (by
       rw[k5,k5,abS,abS];show(R k).st.length+((wordOf rows (R k).p.2).map fun c=>((R k).p.1 - 1,c)).length<=_;rw[k5];exact abw (YK (by omega))))
   case b2=>
     have h:=of_decide_eq_false h;obtain⟨q,st,e1,e2,_,_⟩:=Mo Ik h;rw[<- RS] at e2;have e3:(R (k+1)).st.reverse.map j5 ++ [j5 (R (k+1)).p]=(R k).st.reverse.map j5:=by
       rw[e1,e2,ach,abv];rfl
     have e4:(((R k).place:Nat):Int)+lT rows (R k).p.1 (R k).p.2=(((R (k+1)).place:Nat):Int):=by rw[e2,<- hg];show _=(((R k).place+(gP rows (R k).p.1 (R k).p.2).length:Nat):Int);omega
     have e5:(((R k).miss:Nat):Int) - ((tE rows x (R k).p:Nat):Int)=(((R (k+1)).miss:Nat):Int):=by rw[e2];show _=(((R k).miss - tE rows x (R k).p:Nat):Int);omega
     show nH _ _ _ _ _ (.nx [_,_,_,_,.val (.int (((R (k+1)).place:Nat):Int)),.val (.int (((R (k+1)).miss:Nat):Int)),.own (.lst ((R (k+1)).st.reverse.map j5 ++ [j5 (R (k+1)).p])),_,_,_]);rw[e3];exact ag (au 5 nd (aK (gH (aa 5 rfl) (aa 9 rfl)) (congrArg Dt.int e5))) (ao (au 4 nd (aK (aO (aa 4 rfl) (d5 hu (pO (n:=age+1) (j:=1) (f:=yb rows) (aE (fs:=t.cz six rows wd l ls (age+1)) (aa 0 rfl) T.aB.cl T.bH rfl) (aa 8 rfl) (by rw[ju];rfl) L9 hnN) (aF (aa 7 rfl) aj rfl) (by rw[M4];exact eC zB.1) (fun _ _=>rfl))) (congrArg Dt.int e4))))
theorem kd_len (L:List Nat)(D:Nat->Dt):(kd L D).length=L.length:=by unfold kd;rw[k5]
def zV:Rl:=fun ds r=>∃ rows w,ds=[.lst (rows.map nh),.str (tx w)]/\a0 rows/\r=.own (.cZ (dI (kc (rows.map (·.c)) fun x=>((w.count x:Nat):Int))))
theorem Ff (T:Txt K mg t):GF P w K mg base CX 1 "_law_counted" 2 zV:=by
 refine⟨_,_,_,gS T.mf.F xF rfl fun aZ A outer s H E G ds r hr hl hR=>?_,(T.g T.mf.a),T.mf.F.kp,T.mf.b⟩;obtain⟨rows,wd,rfl,ok,rfl⟩:=hR;have nd:=xF.nd;have h6:=ok.le;have hu:(A.deeper (envOfC "_law_counted" (af qy) s.heap.objs.size t.nU aZ)).units+1 < cLine:=by have:=hr.units;omega
 let L:=rows.map (·.c);have hLl:L.length=rows.length:=k5 ..;let D:Nat->Dt:=fun x=>.int ((wd.count x:Nat):Int)
 let S:Nat->List Slot:=fun k=>[.val (.lst (rows.map nh)),.val (.str (tx wd)),.own (.cZ (kd (L.take k) D)),.aS,.aS,.aS]
 have eS:S rows.length=[.val (.lst (rows.map nh)),.val (.str (tx wd)),.own (.cZ (dI (kc L fun x=>((wd.count x:Nat):Int)))),.aS,.aS,.aS]:=by
   show [_,_,Slot.own (.cZ (kd (L.take rows.length) D)),_,_,_]=_;rw[<- hLl,abF,u9]
 refine⟨_,.ro _,ag (iU 2 nd Aw) (ag (dl1:=S rows.length) (oh (o:=.nx (S rows.length)) (m:=rows.length) rows nh (fun r dl=>((dl.set 3 (.val (.str (sg r.c)))).set 4 (.val (.str r.d))).set 5 (.val (.str (tx r.w)))) S rfl PassesOwn.leaving (fE (aa 0 rfl)) dP (tN rfl (cN (bo nd rfl (.inl rfl)) (cN (bo nd rfl (.inl rfl)) (cN (bo nd rfl (.inl rfl)) n8)))) (fun a _=>R1) (Le.of ⟨rfl,rfl,rfl,trivial⟩) (aaa _) (fun k a hk ha=>?_) (.all rfl)) ?rest)⟩
 . have hkL:k < L.length:=by omega
   rw[k3 hk] at ha;cases ha;have ec:rows[k].c=L[k]:=by show _=(rows.map (·.c))[k];rw[aaL]
   refine .nx (ao (Ax (kds:=kd (L.take k) D) (d:=D L[k]) 2 hu (aK (zy (aa 1 rfl) (aa 3 rfl)) (by rw[Di,ec])) (aa 3 rfl) (by rw[kd_len,aas];exact aal (show min k L.length < 2000 by omega) (by decide)))) (Le.of ⟨rfl,rfl,?_,trivial⟩);show Slot.own (.cZ (kd (L.take (k+1)) D))=Slot.own (.cZ (uX (kd (L.take k) D) (.inr (sg rows[k].c)) (D L[k])));rw[ec,E1 ok.nd hkL]
 case rest=>
   rw[eS];exact ao (FY 2)
theorem Fg (six:Bool)(w:Int)(p q:Int×Int):jt six w (ad p q)=jt six w p+jt six w q:=by
 unfold jt ad;cases six
 . simp only[abE,if_false]
   split
   . rfl
   . split
     . rfl
     . split <;> omega
 . simp only[if_true]
   split
   . omega
   . split
     . omega
     . split
       . omega
       . split
         . omega
         . split <;> omega
theorem Dy (six:Bool){w:Nat}(h:w < wn six)(b:Int)(p:Int×Int):jt six (((w:Int) - b) % wy six) p=jt six w (tn six (b % wy six).toNat p):=by
 have hw:=u7 six;have h0:=aaF ((w:Int) - b) (abO (fz six));have h1:=aaK ((w:Int) - b) (fz six);have k:=Lx six h0 h1 b p;rw[<- k]
 congr 1
 cases six with
 | false=>show(((w:Int) - b) % 4+b) % 4=w;have:w < 4:=h;omega
 | true=>show(((w:Int) - b) % 6+b) % 6=w;have:w < 6:=h;omega
theorem BB (six:Bool)(ns:List Int)(f:Int){w:Nat}(h:w < wn six):(rC six ns f).getD w 0=ns.getD (((w:Int) - f) % wy six).toNat 0:=by
 unfold rC;rw[Bn,aab,aa0 h];rfl
theorem BC (six:Bool)(w:Nat)(b:Int):(((w:Int) - b) % wy six).toNat < wn six/\((((w:Int) - b) % wy six).toNat:Int)=((w:Int) - b) % wy six:=by
 have hw:=u7 six;have h0:=aaF ((w:Int) - b) (abO (fz six));have h1:=aaK ((w:Int) - b) (fz six);omega
theorem kz {f:Nat->Int}{n k:Nat}(h:k < n):((aah n).map f).getD k 0=f k:=by
 rw[Bn,aab,aa0 h];rfl
noncomputable def Ua (p q:Int):Int:=if q<=p then p else q
theorem k6 (six:Bool)(x y:Tr){w:Nat}(h:w < wn six):(jn six x y).reach.getD w 0=Ua (x.reach.getD w 0) (y.reach.getD (((w:Int) - x.turn) % wy six).toNat 0+jt six w x.shift):=by
 show((aah (wn six)).map (yY six x y)).getD w 0=_;rw[kz h];unfold yY Ua;rw[BB six _ _ h]
theorem nZ (six:Bool)(x y:Tr){w:Nat}(h:w < wn six):(jn six x y).bf.getD w 0=if y.reach.getD (((w:Int) - x.turn) % wy six).toNat 0+jt six w x.shift<=x.reach.getD w 0 then x.bf.getD w 0 else y.bf.getD (((w:Int) - x.turn) % wy six).toNat 0+x.many:=by
 show((aah (wn six)).map (Bd six x y)).getD w 0=_;rw[kz h];unfold Bd;rw[BB six _ _ h,BB six _ _ h]
theorem Mt (six:Bool):∀ (n:Nat) (p q:Int×Int),tn six n (ad p q)=ad (tn six n p) (tn six n q)
 | 0,p,q=>rfl
 | n+1,p,q=>by
   rw[tn,tn,tn,Mt six n];generalize tn six n p=a;generalize tn six n q=b;cases six
   . simp only[Pf.tl,ad,abE,if_false];refine Prod.ext ?_ ?_ <;> simp only <;> omega
   . simp only[Pf.tl,ad,if_true];refine Prod.ext ?_ ?_ <;> simp only <;> omega
theorem Fh (six:Bool)(p:Int×Int)(b:Nat):∀ a:Nat,tn six (a+b) p=tn six a (tn six b p)
 | 0=>by rw[Nat.zero_add];rfl
 | a+1=>by
   rw[Nat.succ_add];show Pf.tl six (tn six (a+b) p)=Pf.tl six (tn six a (tn six b p));rw[Fh six p b a]
theorem Ub (six:Bool)(p:Int×Int):tn six (wn six) p=p:=by
 obtain⟨x,y⟩:=p;cases six with
 | false=>show Pf.tl false (Pf.tl false (Pf.tl false (Pf.tl false (x,y))))=_;simp[Pf.tl]
 | true=>show Pf.tl true (Pf.tl true (Pf.tl true (Pf.tl true (Pf.tl true (Pf.tl true (x,y))))))=_;simp[Pf.tl];omega
theorem Mu (six:Bool)(p:Int×Int)(r:Nat):∀ q:Nat,tn six (r+wn six * q) p=tn six r p
 | 0=>rfl
 | q+1=>by rw[Nat.mul_succ,<- Nat.add_assoc,Fh,Ub,Mu six p r q]
theorem Mv (six:Bool)(a b:Int)(p:Int×Int):tn six (a % wy six).toNat (tn six (b % wy six).toNat p)=tn six (((a+b) % wy six) % wy six).toNat p:=by
 rw[<- Fh,<- Nat.mod_add_div ((a % wy six).toNat+(b % wy six).toNat) (wn six),Mu]
 congr 1
 have hw:=u7 six;have hp:=fz six;have h1:=aaF a (abO hp);have h2:=aaF b (abO hp);have e:((((a % wy six).toNat+(b % wy six).toNat) % wn six:Nat):Int)=((a+b) % wy six) % wy six:=by
   rw[Int.natCast_emod,hw,Int.natCast_add,Int.toNat_of_nonneg h1,Int.toNat_of_nonneg h2,Int.emod_emod,<- Int.add_emod]
 omega
theorem XG (six:Bool)(p q:Int×Int):cr (Pf.tl six p) (Pf.tl six q)=cr p q:=by
 unfold cr Pf.tl;cases six
 . simp only[abE,if_false]
   have h1:-p.2 * q.1=-(p.2 * q.1):=Int.neg_mul _ _;have h2:p.1 * -q.2=-(p.1 * q.2):=Int.mul_neg _ _;omega
 . simp only[if_true]
   have h1:-p.2 * (q.1+q.2)=-(p.2 * q.1) - p.2 * q.2:=by rw[Int.neg_mul,Int.mul_add];omega
   have h2:(p.1+p.2) * -q.2=-(p.1 * q.2) - p.2 * q.2:=by rw[Int.mul_neg,Int.add_mul];omega
   omega
theorem Qw (six:Bool):∀ (n:Nat) (p q:Int×Int),cr (tn six n p) (tn six n q)=cr p q
 | 0,_,_=>rfl
 | n+1,p,q=>by rw[tn,tn,XG,Qw six n]
theorem O9 (p q r:Int×Int):cr p (ad q r)=cr p q+cr p r:=by
 unfold cr ad;simp only[Int.mul_add];omega
theorem Pa (p q r:Int×Int):cr (ad p q) r=cr p r+cr q r:=by
 unfold cr ad;simp only[Int.add_mul];omega
theorem Mw (p q r:Int×Int):ad p (ad q r)=ad (ad p q) r:=by
 unfold ad;refine Prod.ext ?_ ?_ <;> simp only <;> omega
theorem list_eq {six:Bool}{a b:List Int}(ha:a.length=wn six)(hb:b.length=wn six)(h:∀ w,w < wn six->a.getD w 0=b.getD w 0):a=b:=by
 refine List.ext_getElem (by omega) fun i h1 h2=>?_
 have:=h i (by omega);rw[Bn,Bn,k3 h1,k3 h2] at this;exact this
theorem uM (six:Bool)(x y:Tr):(jn six x y).reach.length=wn six/\(jn six x y).bf.length=wn six:=by unfold jn;simp
theorem Mx (six:Bool)(x y z:Tr):jn six x (jn six y z)=jn six (jn six x y) z:=by
 have key:∀ w,w < wn six->∃ v u:Nat,v < wn six/\u < wn six/\(((w:Int) - x.turn) % wy six).toNat=v/\(((v:Int) - y.turn) % wy six).toNat=u/\(((w:Int) - (x.turn+y.turn) % wy six) % wy six).toNat=u/\jt six w (tn six (x.turn % wy six).toNat y.shift)=jt six v y.shift:=by
   intro w hw;obtain⟨h1,h2⟩:=BC six w x.turn;obtain⟨h3,h4⟩:=BC six (((w:Int) - x.turn) % wy six).toNat y.turn;refine⟨_,_,h1,h3,rfl,rfl,?_,?_⟩
   . rw[h2]
     cases six with
     | false=>show(((w:Int) - (x.turn+y.turn) % 4) % 4).toNat=(((w - x.turn) % 4 - y.turn) % 4).toNat;congr 1;omega
     | true=>show(((w:Int) - (x.turn+y.turn) % 6) % 6).toNat=(((w - x.turn) % 6 - y.turn) % 6).toNat;congr 1;omega
   . rw[h2,Dy six hw]
 have hr:(jn six x (jn six y z)).reach=(jn six (jn six x y) z).reach:=by
   refine list_eq (uM _ _ _).1 (uM _ _ _).1 fun w hw=>?_
   obtain⟨v,u,hv,hu,e1,e2,e3,e4⟩:=key w hw;rw[k6 six _ _ hw,k6 six _ _ hw,k6 six _ _ hw,e1,k6 six _ _ hv,e2];show _=Ua _ (z.reach.getD (((w:Int) - (x.turn+y.turn) % wy six) % wy six).toNat 0+jt six w (ad x.shift (tn six (x.turn % wy six).toNat y.shift)));rw[e3,Fg,e4];unfold Ua
   split <;> split <;> split <;> (try split) <;> omega
 have ht:(jn six x (jn six y z)).bf=(jn six (jn six x y) z).bf:=by
   refine list_eq (uM _ _ _).2 (uM _ _ _).2 fun w hw=>?_
   obtain⟨v,u,hv,hu,e1,e2,e3,e4⟩:=key w hw;rw[nZ six _ _ hw,nZ six (jn six x y) _ hw,nZ six x y hw,k6 six x y hw,e1,k6 six _ _ hv,nZ six _ _ hv,e2];show _=if z.reach.getD (((w:Int) - (x.turn+y.turn) % wy six) % wy six).toNat 0+jt six w (ad x.shift (tn six (x.turn % wy six).toNat y.shift))<=_ then _ else z.bf.getD (((w:Int) - (x.turn+y.turn) % wy six) % wy six).toNat 0+(x.many+y.many)
   rw[e3,Fg,e4];unfold Ua
   split <;> split <;> split <;> (try split) <;> (try split) <;> omega
 have e1:(jn six x (jn six y z)).turn=(jn six (jn six x y) z).turn:=by
   show(x.turn+(y.turn+z.turn) % wy six) % wy six=((x.turn+y.turn) % wy six+z.turn) % wy six;rw[Int.add_emod_emod,Int.emod_add_emod,Int.add_assoc]
 have e2:(jn six x (jn six y z)).shift=(jn six (jn six x y) z).shift:=by
   show ad x.shift (tn six (x.turn % wy six).toNat (ad y.shift (tn six (y.turn % wy six).toNat z.shift)))=ad (ad x.shift (tn six (x.turn % wy six).toNat y.shift)) (tn six (((x.turn+y.turn) % wy six) % wy six).toNat z.shift);rw[Mt,Mv,Mw]
 have e3:(jn six x (jn six y z)).iS=(jn six (jn six x y) z).iS:=by
   show x.iS+(y.iS+z.iS+cr y.shift (tn six (y.turn % wy six).toNat z.shift))+cr x.shift (tn six (x.turn % wy six).toNat (ad y.shift (tn six (y.turn % wy six).toNat z.shift)))
     = x.iS+y.iS+cr x.shift (tn six (x.turn % wy six).toNat y.shift)+z.iS+cr (ad x.shift (tn six (x.turn % wy six).toNat y.shift)) (tn six (((x.turn+y.turn) % wy six) % wy six).toNat z.shift)
   have q:=Qw six (x.turn % wy six).toNat y.shift (tn six (y.turn % wy six).toNat z.shift);rw[Mv] at q;rw[Mt,Mv,O9,Pa,<- q];omega
 have e4:(jn six x (jn six y z)).many=(jn six (jn six x y) z).many:=(Int.add_assoc _ _ _).symm;have e5:(jn six x (jn six y z)).a5=(jn six (jn six x y) z).a5:=(Int.add_assoc _ _ _).symm;generalize jn six x (jn six y z)=a at hr ht e1 e2 e3 e4 e5;generalize jn six (jn six x y) z=b at hr ht e1 e2 e3 e4 e5;cases a;cases b;simp only at hr ht e1 e2 e3 e4 e5;subst hr ht e1 e2 e3 e4 e5;rfl
noncomputable def iI (six:Bool)(xs:List Str)(k:Nat):Int×Int:=(cm six (xs.take k)).shift
theorem Dz (six:Bool)(xs:List Str):0<=(cm six xs).turn/\(cm six xs).turn < wy six:=by
 by_cases h:xs=[]
 . subst h;exact⟨Int.le_refl _,fz six⟩
 . rw[<- abJ h,k4]
   exact⟨aaF _ (abO (fz six)),aaK _ (fz six)⟩
noncomputable def rec (six:Bool)(xs:List Str)(w:Int):Nat->Int×Int
 | 0=>(0,0)
 | j+1=>if (rec six xs w j).1 < jt six w (iI six xs j) then (jt six w (iI six xs j),j) else rec six xs w j
theorem DA (six:Bool)(xs:List Str)(d:Str)(w:Int):∀ j,j<=xs.length+1->rec six (xs ++ [d]) w j=rec six xs w j
 | 0,_=>rfl
 | j+1,h=>by
   rw[rec,rec,DA six xs d w j (by omega)];have e:iI six (xs ++ [d]) j=iI six xs j:=by
     unfold iI;rw[List.take_append_of_le_length (by omega)]
   rw[e]
theorem yn (six:Bool)(w:Int):jt six w (0,0)=0:=by
 unfold jt;cases six <;> simp
theorem BD (six:Bool){w:Nat}(hw:w < wn six):∀ (n:Nat) (xs:List Str),xs.length=n->rec six xs w (n+1)=((cm six xs).reach.getD w 0,(cm six xs).bf.getD w 0)/\jt six w (cm six xs).shift<=(cm six xs).reach.getD w 0:=by
 intro n
 induction n with
 | zero=>
   intro xs h;have e:xs=[]:=abz h;subst e;have e1:(cm six []).reach.getD w 0=0:=by
     show(aaj (wn six) (0:Int)).getD w 0=0;rw[Bn,abq];split <;> rfl
   have e2:(cm six []).bf.getD w 0=0:=e1;have e3:jt six w (iI six [] 0)=0:=yn six w;have e4:jt six w (cm six []).shift=0:=yn six w;rw[e1,e2,e4,rec,rec,e3];simp
 | succ n ih=>
   intro xs h;have BJ:xs≠[]:=fun e=>by rw[e] at h;cases h
   have e:=abJ BJ;have hl:xs.dropLast.length=n:=by rw[abV];omega
   generalize xs.getLast BJ=d at e;generalize xs.dropLast=ys at e hl;subst e;obtain⟨h1,h2⟩:=ih ys hl;rw[rec,DA six ys d w (n+1) (by omega),h1];have es:iI six (ys ++ [d]) (n+1)=(cm six (ys ++ [d])).shift:=by
     unfold iI;rw[abT (by rw[aaq];simp;omega)]
   rw[es,k4,k6 six _ _ hw,nZ six _ _ hw];obtain⟨b1,b2⟩:=BC six w (cm six ys).turn;have r1:(one six d).reach.getD (((w:Int) - (cm six ys).turn) % wy six).toNat 0=oU six d (((w:Int) - (cm six ys).turn) % wy six).toNat:=kz b1;have t1:(one six d).bf.getD (((w:Int) - (cm six ys).turn) % wy six).toNat 0=if oU six d (((w:Int) - (cm six ys).turn) % wy six).toNat < 1 then oU six d (((w:Int) - (cm six ys).turn) % wy six).toNat else 1:=kz (f:=fun k=>if oU six d k < 1 then oU six d k else 1) b1
   rw[r1,t1];unfold oU;rw[b2,Dy six hw];have ec:jt six w (jn six (cm six ys) (one six d)).shift=jt six w (cm six ys).shift+jt six w (tn six ((cm six ys).turn % wy six).toNat (we six d (0,0) 0).1):=Fg six w _ _;rw[ec];have hm:=(Dh six n ys hl).1;rw[hm];generalize jt six w (tn six ((cm six ys).turn % wy six).toNat (we six d (0,0) 0).1)=D;generalize jt six w (cm six ys).shift=B at h2 ⊢;generalize (cm six ys).reach.getD w 0=A at h2 ⊢;generalize (cm six ys).bf.getD w 0=U;unfold Ua;refine⟨?_,?_⟩
   . by_cases c1:D > 0
     . simp only[if_pos c1]
       by_cases c2:D+B<=A
       . simp only[if_pos c2]
         rw[if_neg (by omega)]
       . simp only[if_neg c2]
         rw[if_pos (by omega),if_neg (by omega)];refine Prod.ext ?_ ?_
         . show B+D=D+B;omega
         . show((n+1:Nat):Int)=1+n;omega
     . simp only[if_neg c1]
       rw[if_neg (by omega)];have c2:0+B<=A:=by omega
       simp only[if_pos c2]
   . by_cases c1:D > 0
     . simp only[if_pos c1];split <;> omega
     . simp only[if_neg c1];split <;> omega
theorem Uc (six:Bool)(xs:List Str):jn six (cm six xs) (DK six)=cm six xs:=by
 have w:=Bl six _ xs rfl;have tt:=Dz six xs;have z:∀ k,(DK six).reach.getD k 0=0:=fun k=>by
   show(aaj (wn six) (0:Int)).getD k 0=0;rw[Bn,abq];split <;> rfl
 have hr:(jn six (cm six xs) (DK six)).reach=(cm six xs).reach:=list_eq (uM _ _ _).1 w.2.2.1 fun v hv=>by
   have:=(BD six hv _ xs rfl).2;rw[k6 six _ _ hv,z];unfold Ua;rw[if_pos (by omega)]
 have ht:(jn six (cm six xs) (DK six)).bf=(cm six xs).bf:=list_eq (uM _ _ _).2 w.2.2.2 fun v hv=>by
   have:=(BD six hv _ xs rfl).2;rw[nZ six _ _ hv,z,if_pos (by omega)]
 have e1:(jn six (cm six xs) (DK six)).turn=(cm six xs).turn:=by
   show((cm six xs).turn+0) % wy six=_;rw[abZ,ab3 tt.1 tt.2]
 have e2:(jn six (cm six xs) (DK six)).shift=(cm six xs).shift:=by
   show ad (cm six xs).shift (tn six _ (0,0))=_;rw[qM];unfold ad;simp
 have e3:(jn six (cm six xs) (DK six)).iS=(cm six xs).iS:=by
   show(cm six xs).iS+0+cr (cm six xs).shift (tn six _ (0,0))=_;rw[qM];unfold cr;simp
 have e4:(jn six (cm six xs) (DK six)).many=(cm six xs).many:=abZ _;have e5:(jn six (cm six xs) (DK six)).a5=(cm six xs).a5:=abZ _;generalize jn six (cm six xs) (DK six)=a at hr ht e1 e2 e3 e4 e5 ⊢;generalize cm six xs=b at hr ht e1 e2 e3 e4 e5 ⊢;cases a;cases b;simp only at hr ht e1 e2 e3 e4 e5;subst hr ht e1 e2 e3 e4 e5;rfl
theorem Pb (six:Bool)(xs:List Str):∀ (n:Nat) (ys:List Str),ys.length=n->jn six (cm six xs) (cm six ys)=cm six (xs ++ ys):=by
 intro n
 induction n with
 | zero=>
   intro ys h;have e:ys=[]:=abz h;subst e;rw[abx];exact Uc six xs
 | succ n ih=>
   intro ys h;have BJ:ys≠[]:=fun e=>by rw[e] at h;cases h
   have e:=abJ BJ;have hl:ys.dropLast.length=n:=by rw[abV];omega
   rw[<- e,k4,Mx,ih _ hl,<- List.append_assoc,k4]
noncomputable def yo (rows:List Row)(w:List Nat):List Str:=w.map (ni rows)
theorem My {rows:List Row}(ok:a0 rows):∀ (r:Nat) {c:Nat},c∈rows.map (·.c)->(gP rows r c).length<=8 ^ r
 | 0,_,_=>aaa _
 | r+1,c,h=>by
   obtain⟨q,hq,_,_,ew⟩:=f9 h;have hw:∀ y∈wordOf rows c,y∈rows.map (·.c):=fun y hy=>ok.wo q hq y (by rw[ew] at hy;exact hy)
   have hl:(wordOf rows c).length<=8:=by rw[ew];exact(ok.wp q hq).2
   have:∀ (w:List Nat),(∀ y∈w,y∈rows.map (·.c))->(w.flatMap (gP rows r)).length<=w.length * 8 ^ r:=by
     intro w
     induction w with
     | nil=>intro _;simp
     | cons a w ih=>
       intro h;rw[abH,aaq,aaI,Nat.add_mul,Nat.one_mul];have h1:=My ok r (h a (by simp));have h2:=ih fun y hy=>h y (by simp[hy])
       omega
   have h3:=this _ hw;have h4:(wordOf rows c).length * 8 ^ r<=8 * 8 ^ r:=Nat.mul_le_mul_right _ hl;show((wordOf rows c).flatMap (gP rows r)).length<=8 ^ (r+1);rw[Nat.pow_succ];omega
theorem XH {rows:List Row}{w:List Nat}(ok:j8 rows w){age:Nat}(h:age<=200):(eX rows w age).length < 2 ^ 990:=by
 have:∀ (v:List Nat),(∀ y∈v,y∈rows.map (·.c))->(v.flatMap (gP rows age)).length<=v.length * 8 ^ age:=by
   intro v
   induction v with
   | nil=>intro _;simp
   | cons a v ih=>
     intro h;rw[abH,aaq,aaI,Nat.add_mul,Nat.one_mul];have h1:=My ok.ok age (h a (by simp));have h2:=ih fun y hy=>h y (by simp[hy])
     omega
 have h1:=this w ok.wm;have h2:w.length * 8 ^ age<=8 * 8 ^ 200:=Nat.mul_le_mul ok.w8 (aco (by decide) h);have h3:8 * 8 ^ 200 < 2 ^ 990:=by decide +kernel
 exact aaT (aau h1 h2) h3
theorem abf {rows:List Row}(ok:a0 rows){r c:Nat}(h:c∈rows.map (·.c))(hr:r<=200):(gP rows r c).length < 2 ^ 990:=by
 have h1:=My ok r h;have h2:8 ^ r<=8 ^ 200:=aco (by decide) hr;exact aaT (aau h1 h2) (by decide +kernel)
noncomputable def Pd (six:Bool)(rows:List Row)(i c:Nat):Tr:=cm six (yo rows (gP rows i c))
noncomputable def dM.r0 (t:dM)(six:Bool)(rows:List Row)(i:Nat):List (Key×FD):=(rows.map (·.c)).map fun c=>(.inr (sg c),.obj t.aw (t.trK six (Pd six rows i c)))
theorem UQ (t:dM)(six:Bool)(rows:List Row)(i:Nat):pz (t.r0 six rows i)=kd (rows.map (·.c)) fun c=>t.rY six (Pd six rows i c):=by unfold pz dM.r0 kd;rw[aai];rfl
noncomputable abbrev dM.BE (t:dM)(six:Bool)(rows:List Row)(w:List Nat)(l':Addr)(ls':k7)(n':Nat):List (Str×Dt):=UN "growth" t.aq (t.Br six rows w) ["tallies","lengths"] l' ls' n'
noncomputable abbrev dM.IL (t:dM)(six:Bool)(rows:List Row)(w:List Nat)(l':Addr)(ls':k7)(n':Nat)(l:Addr)(ls:k7)(n:Nat):List (Str×Dt):=uR (t.BE six rows w l' ls' n') ["tracks"] l ls n
noncomputable abbrev dM.XI (t:dM)(six:Bool)(rows:List Row)(w:List Nat)(l':Addr)(ls':k7)(n':Nat)(l:Addr)(ls:k7)(n:Nat):List (Str×Dt):=qR (t.BE six rows w l' ls' n') ["tracks"] l ls n
theorem Ud {l l':Addr}{ls':k7}{n':Nat}(h:l'≠l)(t:dM)(six:Bool)(rows:List Row)(w:List Nat):lE l (t.BE six rows w l' ls' n')=true:=by
 have e:ug l (.memo l' ls' 0 n')=true/\ug l (.memo l' ls' 1 n')=true:=by
   unfold ug;simp[h]
 show((ug l (t.yX six rows) && (ug l (.str (tx w)) && (ug l (.memo l' ls' 0 n') && (ug l (.memo l' ls' 1 n') && true)))) && true)=true;rw[E2,e.1,e.2];rfl
theorem Mz (six:Bool)(xs:List (List Str)){k:Nat}(h:k < xs.length):jn six (cm six (xs.take k).flatten) (cm six xs[k])=cm six (xs.take (k+1)).flatten:=by
 rw[Pb six _ _ _ rfl,aby,k3 h,ab7];simp
def IM (t:dM):Rl:=fun ds r=>∃ six rows w l ls n rest,∃ xs:List (List Str),ds=[.obj t.aA (("growth",tw t six rows w l ls n)::rest),.lst (xs.map fun x=>t.rY six (cm six x))]/\xs.flatten.length < 2 ^ 990/\r=.ret (t.rY six (cm six xs.flatten))
def Pe (t:dM):Rl:=fun ds r=>∃ six rows w l ls n,ds=[tw t six rows w l ls n]/\j8 rows w/\r=.own (.tW t.aA (t.BE six rows w l ls n) [t.r0 six rows] ["tracks"] 1)
structure Pg (t:dM)(six:Bool)(rows:List Row)(w:List Nat)(ls' ls:k7):Prop where
 ok:j8 rows w
 gs:ls'.map (·.2)=nr rows
 ts:ls.map (·.2)=[t.r0 six rows]
def Ph (t:dM):Rl:=fun ds r=>∃ six rows w l' ls' n' l ls n age,ds=[.obj t.aA (t.IL six rows w l' ls' n' l ls n),.int ((age:Nat):Int)]/\Pg t six rows w ls' ls/\age<=200/\r=.ret (.yw l ls (age+1))
def zW (t:dM):Rl:=fun ds r=>∃ six rows w l' ls' n' l ls n age,∃ b e:Nat,ds=[.obj t.aA (t.IL six rows w l' ls' n' l ls n),.int ((age:Nat):Int),.int (b:Int),.int (e:Int)]/\Pg t six rows w ls' ls/\age<=200/\(b<=e/\e<=(eX rows w age).length)/\r=.ret (t.rY six (cm six (yo rows (cut (eX rows w age) b e))))
noncomputable abbrev XJ:Scope:=E3 ((aC gL).getD 2 (.Pass ⟨0,0,0,0⟩))
theorem Qx:gw XJ (af gL) pY ["letter","rules"] ["letter"] [2]=true:=by decide +kernel
noncomputable abbrev wBd:List Stmt:=Xh ((aC cg).getD 1 (.Pass ⟨0,0,0,0⟩))
noncomputable abbrev XM:Scope:=Dn (wBd.getD 2 (.Pass ⟨0,0,0,0⟩))
theorem Qy:gw XM (af cg) lC ["younger","last"] ["younger"] [3]=true:=by decide +kernel
noncomputable abbrev XO:Scope:=E4 ((aC cP).getD 2 (.Pass ⟨0,0,0,0⟩))
theorem Qz:gw XO (af cP) mM ["rounds","letter","self"] ["rounds","letter"] [0]=true:=by decide +kernel
theorem MA {rows:List Row}(ok:a0 rows){x:Nat}(h:x∈rows.map (·.c)):ni rows x∈pv:=by
 obtain⟨q,hq,_,e,_⟩:=f9 h;rw[e];exact ok.dd q hq
theorem yp (T:Txt K mg t):MF P w K mg base CX 6 t.aA "join_all" 2 (IM t):=by
 refine⟨T.bY.cl,_,_,_,gS T.fW.F lz rfl fun aZ A outer s H E G ds r hr hl hR=>?_,T.de,T.fW.b⟩;obtain⟨six,rows,wd,l,ls,n,rest,xs,rfl,hx,rfl⟩:=hR;have Bo:=Df (P:=P) (w:=w) (base:=base) T;have DB:=Bt (P:=P) (w:=w) (base:=base) T;have MB:=GA (P:=P) (w:=w) (base:=base) T;have x9:=zR (P:=P) (w:=w) (base:=base) T;have nd:=lz.nd;let D:Dt:=.obj t.aA (("growth",tw t six rows wd l ls n)::rest);let tr:List Str->Dt:=fun x=>t.rY six (cm six x)
 let S:Nat->List Slot:=fun k=>[.val D,.val (.lst (xs.map tr)),.val (t.rY six (cm six (xs.take k).flatten)),.aS]
 have en:S (xs.map tr).length=[.val D,.val (.lst (xs.map tr)),.val (t.rY six (cm six xs.flatten)),.aS]:=by
   show [_,_,Slot.val (t.rY six (cm six (xs.take (xs.map tr).length).flatten)),_]=_;rw[k5,abF]
 have hle:∀ k,(xs.take k).flatten.length < 2 ^ 990:=fun k=>by
   have e:=List.take_append_drop k xs;rw[<- e,ab7,aaq] at hx;omega
 refine⟨_,.rt _,ag (au 2 nd (bW Bo av hr (ae (cu (fs:=t.vB six rows) (cu (fs:=t.cz six rows wd l ls n) (aE (fs:=("growth",tw t six rows wd l ls n)::rest) (aa 0 rfl) T.bY.cl T.cb rfl) DB av hr ⟨six,rows,wd,l,ls,n,rfl,rfl⟩) MB av hr ⟨six,rows,rfl,rfl⟩) ah) ⟨six,rfl,rfl⟩))
   (ag (FP (m:=(xs.map tr).length) 3 S nd rfl PassesOwn.leaving (aa 1 rfl) (Le.of ⟨rfl,rfl,rfl,trivial⟩) (aaa _) (fun k z hk hz=>?_) (.all rfl)) ?_)⟩
 . rw[k5] at hk
   rw[aab,k3 hk] at hz;cases hz;have h1:xs[k].length < 2 ^ 990:=by
     have:=hle (k+1);rw[aby,k3 hk,ab7,aaq] at this;simp at this;omega
   refine .nx (ao (au 2 nd (aT (fs:=t.lx six (cm six (xs.take k).flatten)) (rZ (aa 2 rfl)) x9 av hr (ae (rZ (x:=cm six xs[k]) (aa 3 rfl)) ah) ⟨six,_,cm six xs[k],rfl,⟨Bm six (hle k),Bm six h1⟩,rfl⟩))) (Le.of ⟨rfl,rfl,?_,trivial⟩);show Slot.val (t.rY six (cm six (xs.take (k+1)).flatten))=_;rw[Mz six xs hk]
 . rw[en]
   exact ao (aG (aa 2 rfl))
theorem MC (T:Txt K mg t):UD P w K mg base CX 8 "Drawing" t.aA 2 (Pe t):=by
 refine⟨_,_,_,Yi T.j0.F pq rfl fun aZ A outer s H E G z ds r hr hl hR=>?_,T.rW,(T.g T.bY.a),T.j0.b⟩;obtain⟨six,rows,wd,l,ls,n,rfl,ok,rfl⟩:=hR;have cR:=gR (P:=P) (w:=w) (base:=base) T;have DB:=Bt (P:=P) (w:=w) (base:=base) T;have MB:=GA (P:=P) (w:=w) (base:=base) T;have Ue:=Lu (P:=P) (w:=w) (base:=base) T;have abg:=Dg (P:=P) (w:=w) (base:=base) T;have h6:=ok.ok.le;let L:=rows.map (·.c);have hL:L.length<=6:=by show(rows.map (·.c)).length<=6;rw[k5];exact h6
 have nd:=pq.nd;have e1:((L.filter fun _=>true).map fun x=>Dt.tup [.str (sg x),t.rY six (Pd six rows 0 x)])=(pz (t.r0 six rows 0)).map Kt:=by
   rw[aan.mpr (fun _ _=>rfl),UQ];exact zS L _
 have h7:∀ x∈L,x < 128:=fun x hx=>by
   obtain⟨r,hr,rfl⟩:=aaQ.mp hx;have:=ok.ok.sm r hr;unfold small at this;omega
 refine⟨_,.Zv (fs:=t.BE six rows wd l ls n) (gs:=[t.r0 six rows]) (nm:=["tracks"]) (n:=1) rfl,ag (k9 (aa 1 rfl) T.bY.cl T.cb) (ag (au 2 nd (cu (fs:=t.cz six rows wd l ls n) (aa 1 rfl) DB av hr ⟨six,rows,wd,l,ls,n,rfl,rfl⟩))
   (yB (f:=t.r0 six rows) rfl T.bY.cl T.cf ?_))⟩
 refine mv T.oT rfl (df e1 (dr L (fun x=>Dt.str (sg x)) (fun x=>.tup [.str (sg x),t.rY six (Pd six rows 0 x)]) (fun x=>[.val (.str (sg x))]) (fun _=>true) rfl (aW Qx) (fG (cu (fs:=t.vB six rows) (aa 2 rfl) cR av hr ⟨six,rows,rfl,ok.ok,rfl⟩)) (bA (aW Qx) rfl) (cM (b7 (iQ h7)) (dg L)) (fun a _=>bG) (.nil fun _ _=>rfl)
     (fun a ha _ C fp s' H' G'=>bL (ae (aa 0 rfl) (ae (bW abg av hr (ae (cu (fs:=t.vB six rows) (aa 1 rfl) MB av hr ⟨six,rows,rfl,rfl⟩) (ae (mL (rH (ae (aT (fs:=t.vB six rows) (aa 1 rfl) Ue av hr (ae (aa 0 rfl) ah) ⟨six,rows,a,rfl,ok.ok,ha,rfl⟩) ah) AA3)) ah)) ⟨six,[ni rows a],rfl,fun d hd=>by
       have:d=ni rows a:=by simpa using hd
       rw[this];exact MA ok.ok ha,by simp,rfl⟩) ah)) AA3) (qK (by omega)))) (by rw[UQ,tf];exact ky ok.ok.nd) (by rw[UQ];show(List.map _ _).length<=_;rw[k5,k5];exact qK (by omega))
theorem MD (T:Txt K mg t):MF P w K mg base CX 7 t.aA "deepen_to" 2 (Ph t):=by
 refine⟨T.bY.cl,_,_,_,gS T.eU.F kZ rfl fun aZ A outer s H E G ds r hr hl hR=>?_,T.cY,T.eU.b⟩;obtain⟨six,rows,wd,l',ls',n',l,ls,n,age,rfl,ok,eZ,rfl⟩:=hR;have ju:=ok.ts;have Pj:=ok.ok.ok;have DB:=Bt (P:=P) (w:=w) (base:=base) T;have cR:=gR (P:=P) (w:=w) (base:=base) T;have oV:=p7 (P:=P) (w:=w) (base:=base) T;have Fi:=yp (P:=P) (w:=w) (base:=base) T;have nd:=kZ.nd;have h6:=Pj.le;let L:=rows.map (·.c);have hL:L.length<=6:=by show(rows.map (·.c)).length<=6;rw[k5];exact h6
 have h7:∀ x∈L,x < 128:=fun x hx=>by
   obtain⟨r,hr,rfl⟩:=aaQ.mp hx;have:=Pj.sm r hr;unfold small at this;omega
 have hu:(A.deeper (envOfC "Drawing.deepen_to" (af cg) s.heap.objs.size t.bD aZ)).units+1 < cLine:=by have:=hr.units;omega
 have e1:ls.length=1:=by have:=congrArg abB ju;simpa using this
 have e2:ls'.length=2:=by have:=congrArg abB ok.gs;simpa [nr] using this
 let tl:List Slot:=[.val (.int ((age:Nat):Int)),.val (t.yX six rows),.aS,.aS,.aS]
 refine⟨_,qx (C:=t.aA) (fs:=t.BE six rows wd l' ls' n') (nm:=["tracks"]) (tl:=tl) (by rw[e1];exact aaa 1),Im (nm:=["tracks"]) (nm':=["tallies","lengths"]) (C:=t.aA) (C':=t.aq) (l:=l) (l':=l') (ls:=ls) (ls':=ls') (n:=n) (n':=n') (fs':=t.Br six rows wd) (g:="growth") 0 (by decide) (by decide) (by omega) (fun BJ=>?_) rfl⟩;have hs:=Ud (ls':=ls') (n':=n') BJ t six rows wd;have ht:sI l tl=true:=by
   have:sI l [.val (t.yX six rows),.aS,.aS,.aS]=true:=by
     unfold sI;rw[E2];rfl
   exact this
 refine ag (dl1:=BH t.aA (t.BE six rows wd l' ls' n') ["tracks"] l ls n tl) (au 2 nd (cu (fs:=t.cz six rows wd l' ls' n') (aE (fs:=t.IL six rows wd l' ls' n' l ls n) (aa 0 rfl) T.bY.cl T.cb rfl) DB av hr ⟨six,rows,wd,l',ls',n',rfl,rfl⟩))
   (ao (zC (age:=age) PassesOwn.leaving hs ht (by decide) (by omega) (fun N G hx=>?_) (fun N hN hNa G0 hA hB=>?_)))
 . exact aP (uU (Ge (N:=N) T.fD hx (aE (fs:=t.XI six rows wd l' ls' n' l ls n) (aa 0 rfl) T.bY.cl T.cf rfl) (by rw[e1];rfl)) (aa 1 rfl)) (decide_eq_decide.mpr (by omega))
 . let Dk:Nat->Dt:=fun c=>t.rY six (Pd six rows N c)
   let O:Dt:=.obj t.aA (t.XI six rows wd l' ls' n' l ls n);let S:Nat->List Slot:=fun k=>[.val O,.val (.int ((age:Nat):Int)),.val (t.yX six rows),.val (.eF (pz (t.r0 six rows (N - 1)))),.own (.cZ (kd (L.take k) Dk)),.aS]
   have eS:S L.length=[.val O,.val (.int ((age:Nat):Int)),.val (t.yX six rows),.val (.eF (pz (t.r0 six rows (N - 1)))),.own (.cZ (pz (t.r0 six rows N))),.aS]:=by
     show [_,_,_,_,Slot.own (.cZ (kd (L.take L.length) Dk)),_]=_;rw[abF,UQ t six rows N]
   refine ag (au 3 nd (CK (f:=t.r0 six rows) (N:=N) ak (aE (fs:=t.XI six rows wd l' ls' n' l ls n) (aa 0 rfl) T.bY.cl T.cf rfl) (jk aj) (by rw[ju];rfl) (by rw[e1];rfl) hN)) (ag (iU 4 nd Aw)
     (ag (dl1:=S L.length) (oh (o:=.nx (S L.length)) (m:=L.length) L (fun x=>Dt.str (sg x)) (fun x dl=>dl.set 5 (.val (.str (sg x)))) S rfl PassesOwn.leaving (fG (cu (fs:=t.vB six rows) (aa 2 rfl) cR av hr ⟨six,rows,rfl,Pj,rfl⟩)) (cM (b7 (iQ h7)) (dg L)) (bo nd rfl (.inl rfl)) (fun a _=>vJ) (Le.of ⟨rfl,rfl,rfl,rfl,rfl,trivial⟩) (aaa _) (fun k a hk ha=>?_) (.all rfl)) ?_))
   . rw[k3 hk] at ha
     cases ha;have hm:L[k]∈L:=aaY hk;obtain⟨q,hq,hc,_,ew⟩:=f9 hm;have hwp:=Pj.wp q hq;have Xk:∀ y∈wordOf rows L[k],y∈L:=fun y hy=>Pj.wo q hq y (by rw[ew] at hy;exact hy)
     have Rr:(wordOf rows L[k]).length<=8:=by rw[ew];exact hwp.2
     have Wg:(kd (L.take k) Dk).length < sizeLine:=by
       unfold kd;rw[k5,aas];exact aal (show min k L.length < 2000 by omega) (by decide)
     let xs:List (List Str):=(wordOf rows L[k]).map fun y=>yo rows (gP rows (N - 1) y)
     have e3:(((wordOf rows L[k]).filter fun _=>true).map fun y=>t.rY six (Pd six rows (N - 1) y))=xs.map fun x=>t.rY six (cm six x):=by
       rw[aan.mpr (fun _ _=>rfl),aai];rfl
     have XQ:xs.flatten=yo rows (gP rows N L[k]):=by
       obtain⟨M,rfl⟩:∃ M,N=M+1:=⟨N - 1,by omega⟩
       show((wordOf rows L[k]).map fun y=>yo rows (gP rows M y)).flatten=((wordOf rows L[k]).flatMap (gP rows M)).map (ni rows);rw[List.map_flatMap,List.flatMap_def];rfl
     have ed:Dk L[k]=t.rY six (cm six xs.flatten):=by rw[XQ];rfl
     have hb:xs.flatten.length < 2 ^ 990:=by
       rw[XQ];unfold yo;rw[k5];exact abf Pj hm (by omega)
     refine .nx (ao (Ax (kds:=kd (L.take k) Dk) (d:=Dk L[k]) 4 hu (by rw[ed];exact aT (fs:=t.XI six rows wd l' ls' n' l ls n) (aa 0 rfl) Fi av hr (ae (df e3 (dr (wordOf rows L[k]) (fun x=>Dt.str (sg x)) (fun y=>t.rY six (Pd six rows (N - 1) y)) (fun x=>[.val (.str (sg x))]) (fun _=>true) rfl (aW Qy) (fG (aT (fs:=t.vB six rows) (aa 2 rfl) oV av hr (ae (aa 5 rfl) ah) ⟨six,rows,L[k],rfl,Pj,hm,rfl⟩)) (bA (aW Qy) rfl) (cM (b7 (mT Pj Xk)) (dg _)) (fun a _=>bG) (.nil fun _ _=>rfl)
       (fun y hy _ C fp s' H' G'=>d5 hu (aa 1 rfl) (aa 0 rfl) (by rw[UQ];exact eC (Xk y hy)) (fun _ _=>rfl)) (qK (by omega)))) ah) ⟨six,rows,wd,l',ls',n',_,xs,rfl,hb,rfl⟩) (aa 5 rfl) Wg)) (Le.of ⟨rfl,rfl,rfl,rfl,?_,trivial⟩)
     show Slot.own (.cZ (kd (L.take (k+1)) Dk))=Slot.own (.cZ (uX (kd (L.take k) Dk) (.inr (sg L[k])) (Dk L[k])));rw[E1 Pj.nd hk]
   . rw[eS]
     exact FO (dl1:=.val (.obj t.aA (t.XI six rows wd l' ls' n' l ls n))::tl.set 3 (.own (.cZ (pz (t.r0 six rows N))))) (CQ (f:=t.r0 six rows) (tl:=tl) 3 hs ht rfl ju (by omega) T.bY.cl T.cf hA hB) (Le.of ⟨rfl,rfl,rfl,rfl,trivial⟩)
theorem yq (T:Txt K mg t):MF P w K mg base CX 9 t.aA "stretch" 4 (zW t):=by
 refine⟨T.bY.cl,_,_,_,gS T.gD.F rT rfl fun aZ A outer s H E G ds r hr hl hR=>?_,T.dB,T.gD.b⟩;obtain⟨six,rows,wd,l',ls',n',l,ls,n,age,b,e,rfl,ok,eZ,⟨tG,DL⟩,rfl⟩:=hR;have T4:=Qr (P:=P) (w:=w) (base:=base) T;have E5:=MD (P:=P) (w:=w) (base:=base) T;have Fi:=yp (P:=P) (w:=w) (base:=base) T;have qc:=uK (P:=P) (w:=w) (base:=base) T;have hu:(A.deeper (envOfC "Drawing.stretch" (af cP) s.heap.objs.size t.b9 aZ)).units+1 < cLine:=by have:=hr.units;omega
 obtain⟨k,bt,⟨Xx,Qs⟩,T5,V3,hb4,UP⟩:=Mg ok.ok eZ tG DL;let xs:List (List Str):=bt.map fun p=>yo rows (gP rows p.1 p.2)
 have e3:((bt.filter fun _=>true).map fun p=>t.rY six (Pd six rows p.1 p.2))=xs.map fun x=>t.rY six (cm six x):=by
   rw[aan.mpr (fun _ _=>rfl),aai];rfl
 have XQ:xs.flatten=yo rows (cut (eX rows wd age) b e):=by
   rw[<- V3];show(bt.map fun p=>yo rows (gP rows p.1 p.2)).flatten=(bt.flatMap fun p=>gP rows p.1 p.2).map (ni rows);rw[List.map_flatMap,List.flatMap_def];rfl
 have hb:xs.flatten.length < 2 ^ 990:=by
   rw[XQ];unfold yo cut;rw[k5,abu,aas];have:=XH ok.ok eZ;omega
 rw[<- XQ];refine⟨_,.rt _,ag (Io (m:=age+1) (tl:=[.val (.int ((age:Nat):Int)),.val (.int (b:Int)),.val (.int (e:Int))]) (aT (fs:=t.cz six rows wd l' ls' n') (aE (fs:=t.IL six rows wd l' ls' n' l ls n) (aa 0 rfl) T.bY.cl T.cb rfl) T4 av hr (ae (aa 1 rfl) (ae (aa 2 rfl) (ae (aa 3 rfl) ah))) ⟨six,rows,wd,l',ls',n',age,b,e,rfl,ok.ok,ok.gs,eZ,⟨tG,DL⟩,rfl⟩))
   (ag (jF (m:=age+1) (fs:=t.BE six rows wd l' ls' (age+1)) (nm:=["tracks"]) (tl:=[.val (.int ((age:Nat):Int)),.val (.int (b:Int)),.val (.int (e:Int))]) (aT (fs:=t.IL six rows wd l' ls' (age+1) l ls n) (aa 0 rfl) E5 av hr (ae (aa 1 rfl) ah) ⟨six,rows,wd,l',ls',_,l,ls,n,age,rfl,ok,eZ,rfl⟩))
   (ao (aG (aT (fs:=t.IL six rows wd l' ls' (age+1) l ls (age+1)) (aa 0 rfl) Fi av hr (ae (df e3 (dr bt j5 (fun p=>t.rY six (Pd six rows p.1 p.2)) (fun p=>[.val (.int ((p.1:Nat):Int)),.val (.str (sg p.2))]) (fun _=>true) rfl (aW Qz) (fE (mL (wR (q8 (fs:=t.cz six rows wd l' ls' (age+1)) (aE (fs:=t.IL six rows wd l' ls' (age+1) l ls (age+1)) (aa 0 rfl) T.bY.cl T.cb rfl) (Cr qc) av hr (ae (aa 1 rfl) (ae (aa 2 rfl) (ae (aa 3 rfl) ah))) ⟨six,rows,wd,l',ls',age+1,age,b,e,k,rfl,⟨ok.ok,ok.gs,by omega,by omega,eZ⟩,⟨tG,DL⟩,⟨Xx,Qs⟩,rfl⟩) (by rw[T5])))) (wY rfl (aW Qz) rfl) dP (fun a _=>Av) (.nil fun _ _=>rfl)
     (fun p hp _ C fp s' H' G'=>?_) (aau hb4 (by decide)))) ah) ⟨six,rows,wd,l',ls',age+1,_,xs,rfl,hb,rfl⟩))))⟩
 obtain⟨m1,m2⟩:=UP p hp;exact d5 hu (pO (n:=age+1) (j:=0) (f:=t.r0 six rows) (aE (fs:=t.IL six rows wd l' ls' (age+1) l ls (age+1)) (aa 2 rfl) T.bY.cl T.cf rfl) (aa 0 rfl) (by rw[ok.ts];rfl) (by omega) (by omega)) (aa 1 rfl) (by rw[UQ];exact eC m1) (fun _ _=>rfl)
noncomputable def Pk (six:Bool)(p:Int×Int):List Dt:=if six then [.int (2 * p.1+p.2),.int (p.1+2 * p.2),.int (p.2 - p.1),.int (-2 * p.1 - p.2),.int (-p.1 - 2 * p.2),.int (p.1 - p.2)] else [.int p.1,.int p.2,.int (-p.1),.int (-p.2)]
theorem ME (six:Bool)(p:Int×Int){z:Int}(h0:0<=z)(h1:z < wy six):qi (Pk six p) z=some (.int (jt six z p)):=by
 cases six with
 | false=>exact W7 p h0 h1
 | true=>exact W8 p h0 h1
def MG:Rl:=fun ds r=>∃ six p,ds=[.int (wy six),sp p]/\r=.own (.lst (Pk six p))
theorem IP (T:Txt K mg t):GF P w K mg base CX 1 "_law_along" 2 MG:=by
 refine⟨_,_,_,gS T.qI.F C1 rfl fun aZ A outer s H E G ds r hr hl hR=>?_,(T.g T.qI.a),T.qI.F.kp,T.qI.b⟩;obtain⟨six,p,rfl,rfl⟩:=hR;have nd:=C1.nd;cases six with
 | false=>
   exact⟨_,.ro _,ag (vK 2 3 nd rfl (aa 1 rfl)) (mK (aM (u:=true) (aP (mX (aa 0 rfl) aj) (decide_eq_true rfl)) (fun h=>ao (jD (rH (ae (aa 2 rfl) (ae (aa 3 rfl) (ae (jk (aa 2 rfl)) (ae (jk (aa 3 rfl)) ah)))) AA3))) (fun h=>nomatch h)))⟩
 | true=>
   exact⟨_,.ro _,ag (vK 2 3 nd rfl (aa 1 rfl)) (ag (aM (u:=false) (aP (mX (aa 0 rfl) aj) (decide_eq_false (by decide))) (fun h=>nomatch h) (fun h=>bu))
     (ao (jD (rH (ae (aO (ik aj (aa 2 rfl) (qQ.ok (aaR ⟨by decide,by decide⟩))) (aa 3 rfl)) (ae (aO (aa 2 rfl) (ik aj (aa 3 rfl) (qQ.ok (aaR ⟨by decide,by decide⟩)))) (ae (gH (aa 3 rfl) (aa 2 rfl)) (ae (gH (ik (jk aj) (aa 2 rfl) (qQ.ok (aaR ⟨by decide,by decide⟩))) (aa 3 rfl)) (ae (gH (jk (aa 2 rfl)) (ik aj (aa 3 rfl) (qQ.ok (aaR ⟨by decide,by decide⟩)))) (ae (gH (aa 2 rfl) (aa 3 rfl)) ah)))))) AA3))))⟩
theorem G8 (six:Bool)(xs:List Str)(w:Int):∀ n,∃ r,∃ tn:Nat,rec six xs w (n+1)=(r,(tn:Int))/\tn<=n/\jt six w (iI six xs tn)=r/\(∀ k,k<=n->jt six w (iI six xs k)<=r)/\∀ k,k < tn->jt six w (iI six xs k) < r
 | 0=>by
   have e:jt six w (iI six xs 0)=0:=yn six w;refine⟨0,0,?_,aaa _,e,fun k hk=>?_,fun k hk=>absurd hk (Nat.not_lt_zero _)⟩
   . rw[rec,e,rec];rfl
   . have:k=0:=by omega
     subst this;omega
 | n+1=>by
   obtain⟨r,tn,e,h1,h2,h3,h4⟩:=G8 six xs w n;rw[rec,e];by_cases c:r < jt six w (iI six xs (n+1))
   . refine⟨_,n+1,if_pos c,aaa _,rfl,fun k hk=>?_,fun k hk=>?_⟩
     . by_cases z:k=n+1
       . subst z;exact Int.le_refl _
       . have:=h3 k (by omega);omega
     . have:=h3 k (by omega);omega
   . refine⟨r,tn,if_neg c,by omega,h2,fun k hk=>?_,h4⟩
     by_cases z:k=n+1
     . subst z;omega
     . exact h3 k (by omega)
theorem Pl {W:List Nat}{b e:Nat}(h:b<=e)(he:e<=W.length):(cut W b e).length=e - b:=by
 unfold cut;rw[abu,aas];omega
theorem qd:∀ xs:List Int,D7 (xs.map Dt.int)=xs.map PyData.int
 | []=>by simp[D7]
 | x::xs=>by rw[aao,D7,qd xs];simp[pd]
theorem tF (xs:List Int):JQ (.lst (xs.map .int)):=by
 have h1:mj (xs.map Dt.int)=true:=by
   induction xs with
   | nil=>simp[mj]
   | cons x xs ih=>rw[aao,mj,ih];simp[Sg.plain]
 have h2:∀ ys:List Int,PyData.canLayAll0 (ys.map PyData.int)=true/\PyData.depthAll (ys.map PyData.int)=0:=by
   intro ys
   induction ys with
   | nil=>simp[PyData.canLayAll0,PyData.depthAll]
   | cons y ys ih=>rw[aao];simp[PyData.canLayAll0,PyData.depthAll,PyData.canLay0,PyData.depth,ih]
 refine⟨by rw[Sg.plain];exact h1,?_⟩;unfold SeqAt.shaped;rw[pd,qd];simp[PyData.canLay0,PyData.depth,h2 xs]
theorem va (ys:List Int):PyData.depthAll (ys.map PyData.int)=0:=by
 induction ys with
 | nil=>simp[PyData.depthAll]
 | cons y ys ih=>rw[aao];simp[PyData.depthAll,PyData.depth,ih]
noncomputable def vb (x:Tr):Dt:=.tup [.int x.many,.int x.turn,sp x.shift,.int x.a5,.lst (x.reach.map .int),.lst (x.bf.map .int),.int x.iS]
theorem yr (x:Tr):JQ (vb x):=by
 have h1:=tF x.reach;have h2:=tF x.bf;have c1:=SeqAt.canLay_of_shaped h1.2;have c2:=SeqAt.canLay_of_shaped h2.2;have d1:(pd (.lst (x.reach.map Dt.int))).depth<=1:=by rw[pd,qd];simp[PyData.depth,va]
 have d2:(pd (.lst (x.bf.map Dt.int))).depth<=1:=by rw[pd,qd];simp[PyData.depth,va]
 have p1:=h1.1;have p2:=h2.1;unfold vb sp;refine⟨by simp[Sg.plain,mj] at p1 p2 ⊢;exact⟨p1,p2⟩,?_⟩;unfold SeqAt.shaped;rw[pd];simp[D7,pd] at c1 c2 d1 d2 ⊢;simp[D7,pd,PyData.canLay0,PyData.canLayAll0,PyData.depth,PyData.depthAll] at c1 c2 d1 d2 ⊢;refine⟨⟨c1,c2⟩,?_⟩;omega
def Ug (t:dM):Rl:=fun ds r=>∃ six x,ds=[t.EM six x]/\WF six x/\(x.reach.length=wn six)/\r=.ret (vb x)
theorem DC (six:Bool){ns:List Int}(h:ns.length=wn six):rC six ns 0=ns:=by
 refine list_eq (six:=six) (by unfold rC;simp) h fun v hv=>?_
 rw[BB six _ _ hv]
 congr 1
 have hw:=u7 six;rw[Int.sub_zero,ab3 (by omega) (by omega),aaS]
def IQ:Rl:=fun ds r=>∃ six p b,ds=[.int (wy six),sp p,.int b]/\r=.ret (sp (tn six (b % wy six).toNat p))
theorem Pm (T:Txt K mg t):MF P w K mg base CX 5 t.aw "told" 1 (Ug t):=by
 refine⟨T.ay.cl,_,_,_,gS T.md.F yP rfl fun aZ A outer s H E G ds r hr hl hR=>?_,T.iH,T.md.b⟩;obtain⟨six,x,rfl,hw,_,rfl⟩:=hR;have sY:=zQ (P:=P) (w:=w) (base:=base) T;have Bj:=IB (P:=P) (w:=w) (base:=base) T;have Bk:=IC (P:=P) (w:=w) (base:=base) T;have EY:=GG (P:=P) (w:=w) (base:=base) T;have x6:=Bi (P:=P) (w:=w) (base:=base) T;have uH:=x3 (P:=P) (w:=w) (base:=base) T;have EZ:=GH (P:=P) (w:=w) (base:=base) T;have e0:tn six ((0:Int) % wy six).toNat x.shift=x.shift:=by cases six <;> rfl
 refine⟨_,.rt _,ao (aG (aK (bL (ae (cu (fs:=t.lx six x) (aa 0 rfl) EY av hr ⟨six,x,rfl,rfl⟩) (ae (cu (fs:=t.lx six x) (aa 0 rfl) x6 av hr ⟨six,x,rfl,rfl⟩) (ae (FZ (fs:=t.lx six x) (aa 0 rfl) sY av hr ⟨six,x,0,rfl,rfl⟩)
   (ae (cu (fs:=t.lx six x) (aa 0 rfl) uH av hr ⟨six,x,rfl,rfl⟩) (ae (mL (J7 (fs:=t.lx six x) (aa 0 rfl) Bj av hr ⟨six,x,0,rfl,hw,rfl⟩)) (ae (mL (J7 (fs:=t.lx six x) (aa 0 rfl) Bk av hr ⟨six,x,0,rfl,hw,rfl⟩))
   (ae (cu (fs:=t.lx six x) (aa 0 rfl) EZ av hr ⟨six,x,rfl,rfl⟩) ah))))))) AA3) ?_))⟩
 rw[e0,DC six hw.rl,DC six hw.tl];rfl
theorem Fj (T:Txt K mg t):GF P w K mg base CX 1 "_law_turned" 3 IQ:=by
 refine⟨_,_,_,gS T.nW.F zI rfl fun aZ A outer s H E G ds r hr hl hR=>?_,(T.g T.nW.a),T.nW.F.kp,T.nW.b⟩;obtain⟨six,p,b,rfl,rfl⟩:=hR;have nd:=zI.nd;have WE:=aaF b (abO (fz six));have Z5:=aaK b (fz six);have hb3:wy six<=6:=by cases six <;> decide
 refine⟨_,.rt _,ag (vK 3 4 nd rfl (aa 1 rfl)) (ag (gb 5 (fun k=>[.val (.int (wy six)),.aS,.val (.int b),.val (.int (tn six k p).1),.val (.int (tn six k p).2),.aS]) nd rfl PassesOwn.leaving T.eW
   (ae (eY (aa 2 rfl) (aa 0 rfl) (fz six)) ah) ⟨by omega,by omega⟩ (Le.of ⟨rfl,rfl,rfl,rfl,trivial⟩) (aaa _) (fun k hk=>?_) (.all rfl)) (ao (aG (bL (ae (aa 3 rfl) (ae (aa 4 rfl) ah)) AA3))))⟩
 cases six with
 | false=>exact .nx (ao (aM (mX (aa 0 rfl) aj) (fun h=>ao (Kd 3 4 nd rfl (ae (jk (aa 4 rfl)) (ae (aa 3 rfl) ah)))) (fun h=>absurd h (by decide)))) (Le.of ⟨rfl,rfl,rfl,rfl,trivial⟩)
 | true=>exact .nx (ao (aM (mX (aa 0 rfl) aj) (fun h=>absurd h (by decide)) (fun h=>ao (Kd 3 4 nd rfl (ae (jk (aa 4 rfl)) (ae (aO (aa 3 rfl) (aa 4 rfl)) ah)))))) (Le.of ⟨rfl,rfl,rfl,rfl,trivial⟩)
theorem G9:∀ ns:List Int,(∀ z∈ns,z.natAbs < 2 ^ 100)->PyData.weightAll (ns.map PyData.int)<=101 * ns.length
 | [],_=>by simp[PyData.weightAll]
 | z::ns,h=>by
   have h1:=G9 ns fun y hy=>h y (aaC _ hy)
   have h2:=h z abk;rw[aao,PyData.weightAll,aaI];have h3:PyData.weight (.int z)<=100:=by
     rw[PyData.weight]
     split
     . omega
     . rename_i c
       have:z.natAbs≠0:=fun e=>c (by rw[Int.natAbs_eq_zero.mp e];rfl)
       have:=(Nat.log2_lt this).mpr h2;omega
   omega
theorem lay_ints {ns:List Int}(h:∀ z∈ns,z.natAbs < 2 ^ 100)(hl:ns.length<=1000):PyData.layable0 (.list (ns.map .int))=true:=by
 have c:=SeqAt.canLay_of_shaped (tF ns).2;have d:=SeqAt.depth_of_shaped (tF ns).2;rw[pd,qd] at c d;have w:=G9 ns h;unfold PyData.layable0;rw[c,decide_eq_true d,decide_eq_true (show PyData.weight (.list (ns.map .int))<=2 ^ 20 by rw[PyData.weight];omega)];rfl
theorem IS {ns:List Int}{r:Int}{k:Nat}(hk:k < ns.length)(h1:ns[k]=r)(h2:∀ j (hj:j < k),ns[j]≠r):ns.idxOf r=k:=by
 induction ns generalizing k with
 | nil=>simp at hk
 | cons a ns ih=>
   cases k with
   | zero=>simp at h1;rw[h1];simp
   | succ k=>
     have h3:a≠r:=h2 0 (Nat.succ_pos k);rw[List.idxOf_cons,show(a == r)=false from beq_eq_false_iff_ne.mpr h3];have:=ih (k:=k) (by simpa using hk) (by simpa using h1) fun j hj=>by
       have:=h2 (j+1) (by omega);simpa using this
     simp[this]
noncomputable def Hc (six:Bool)(xs:List Str)(v:Int):List Int:=(aah (xs.length+1)).map fun j=>jt six v (iI six xs j)
theorem XR (six:Bool)(v:Int)(p:Int×Int)(n:Nat)(h:p.1.natAbs<=n/\p.2.natAbs<=n):(jt six v p).natAbs<=3 * n:=by
 unfold jt;cases six
 . simp only[abE,if_false]
   split
   . omega
   . split
     . omega
     . split <;> omega
 . simp only[if_true]
   split
   . omega
   . split
     . omega
     . split
       . omega
       . split
         . omega
         . split <;> omega
theorem XS {six:Bool}{xs:List Str}(h:xs.length<=999)(v:Int):∀ z∈Hc six xs v,z.natAbs < 2 ^ 100:=fun z hz=>by
 obtain⟨j,hj,rfl⟩:=aaQ.mp hz;have h1:=Bl six _ (xs.take j) rfl;have h2:(xs.take j).length<=999:=by rw[aas];omega
 have h3:=XR six v (iI six xs j) 999 ⟨aau h1.1 h2,aau h1.2.1 h2⟩;exact aaT h3 (by decide)
theorem Hd (six:Bool)(xs:List Str){v:Nat}(hv:v < wn six):zH (Hc six xs v)=(cm six xs).reach.getD v 0/\(cm six xs).reach.getD v 0∈Hc six xs v/\(((Hc six xs v).idxOf ((cm six xs).reach.getD v 0):Nat):Int)=(cm six xs).bf.getD v 0:=by
 have e:=(BD six hv _ xs rfl).1;obtain⟨r,tn,e1,h1,h2,h3,h4⟩:=G8 six xs v xs.length;rw[e] at e1;have er:(cm six xs).reach.getD v 0=r:=(Prod.mk.inj e1).1;have et:(cm six xs).bf.getD v 0=(tn:Int):=(Prod.mk.inj e1).2;have hl:(Hc six xs v).length=xs.length+1:=by unfold Hc;simp
 have at_:∀ j (hj:j < (Hc six xs v).length),(Hc six xs v)[j]=jt six v (iI six xs j):=fun j hj=>by simp only[Hc,aaL,List.getElem_range]
 have hm:r∈Hc six xs v:=aa8.mpr ⟨tn,by omega,by rw[at_,h2]⟩;rw[er,et];refine⟨K0 (by omega) hm fun x hx=>?_,hm,congrArg _ (IS (by omega) (by rw[at_,h2]) fun j hj=>?_)⟩
 . obtain⟨j,hj,rfl⟩:=aa8.mp hx
   rw[at_];exact h3 j (by omega)
 . rw[at_];exact Int.ne_of_lt (h4 j hj)
def Uh:Rl:=fun ds r=>∃ rows q,ds=[.lst (rows.map nh),.str (sg q.c)]/\a0 rows/\q∈rows/\r=.ret (nh q)
def Pn:Rl:=fun ds r=>∃ six rows w,ds=[.int (wy six),.lst (rows.map nh),.str (tx w)]/\a0 rows/\(∀ x∈w,x∈rows.map (·.c))/\w.length<=900/\r=.ret (vb (cm six (yo rows w)))
noncomputable abbrev XT:Stmt->Scope
 | .Assign _ (.ListComp (.Call _ (.ListComp _ _ sc _::_) _ _) _ _ _) _=>sc
 | _=>af (.Pass ⟨0,0,0,0⟩)
noncomputable abbrev XU:Stmt->Scope
 | .Assign _ (.ListComp (.Call (.Attribute (.ListComp _ _ sc _) _ _) _ _ _) _ _ _) _=>sc
 | _=>af (.Pass ⟨0,0,0,0⟩)
noncomputable abbrev XW (i:Nat):Stmt:=(aC lG).getD i (.Pass ⟨0,0,0,0⟩)
noncomputable abbrev XY:Scope:=PU (XW 6)
noncomputable abbrev QA:Scope:=PU (XW 7)
noncomputable abbrev Ui:Scope:=XT (XW 7)
noncomputable abbrev QB:Scope:=PU (XW 8)
noncomputable abbrev Uj:Scope:=XU (XW 8)
theorem QC:gw XY (af lG) vR ["_law_one","_law_ways"] ["_law_one"] [0]=true:=by decide +kernel
theorem QD:CJ QA (af lG) vR ["_law_w","_law_alongs"] "_law_w" [11]=true:=by decide +kernel
theorem MH:gw Ui (relabel QA (TB (af lG))) ["_law_w","_law_alongs"] ["_law_along_here","_law_w"] ["_law_along_here"] [0]=true:=by decide +kernel
theorem QE:CJ QB (af lG) vR ["_law_w","_law_alongs","_law_reach"] "_law_w" [11,12]=true:=by decide +kernel
theorem MI:gw Uj (relabel QB (TB (af lG))) ["_law_w","_law_alongs","_law_reach"] ["_law_along_here","_law_w"] ["_law_along_here"] [0]=true:=by decide +kernel
theorem He (T:Txt K mg t):GF P w K mg base CX 1 "_law_row" 2 Uh:=by
 refine⟨_,_,_,gS T.zJ.F K6 rfl fun aZ A outer s H E G ds r hr hl hR=>?_,(T.g T.zJ.a),T.zJ.F.kp,T.zJ.b⟩;obtain⟨rows,q,rfl,ok,hq,rfl⟩:=hR;have nd:=K6.nd;obtain⟨m,hm,rfl⟩:=aa8.mp hq;have BJ:∀ k (hk:k < m),rows[k].c≠rows[m].c:=fun k hk z=>by
   have:=abt.mp ok.nd k m (by rw[k5];omega) (by rw[k5];exact hm) hk;rw[aaL,aaL] at this;exact this z
 let S:Nat->List Slot:=fun _=>[.val (.lst (rows.map nh)),.val (.str (sg rows[m].c)),.aS]
 refine⟨_,.rt _,mK (oh (m:=m) rows nh (fun r dl=>dl.set 2 (.val (nh r))) S rfl PassesOwn.leaving (fE (aa 0 rfl)) dP (bo nd rfl (.inl rfl)) (fun a _=>vJ) (Le.of ⟨rfl,rfl,trivial⟩) (abw hm) (fun k a hk ha=>?_) (.rt (d:=nh rows[m]) hm ?_))⟩
 . rw[k3 (by omega)] at ha
   cases ha;exact .nx (ao (aM (u:=false) (aP (il (aF (aa 2 rfl) aj rfl) (aa 1 rfl)) (decide_eq_false fun z=>BJ k hk (pZ z))) (fun h=>nomatch h) (fun h=>bu))) (Le.of ⟨rfl,rfl,trivial⟩)
 . rw[k3 hm]
   exact ao (aM (u:=true) (aP (il (aF (aa 2 rfl) aj rfl) (aa 1 rfl)) (decide_eq_true rfl)) (fun h=>ao (aG (aa 2 rfl))) (fun h=>nomatch h))
theorem MJ (T:Txt K mg t):GF P w K mg base CX 2 "_law_drawn" 3 Pn:=by
 refine⟨_,_,_,gS T.qJ.F C3 rfl fun aZ A outer s H E G ds r hr hl hR=>?_,(T.g T.qJ.a),T.qJ.F.kp,T.qJ.b⟩;obtain⟨six,rows,wd,rfl,ok,hw,hl9,rfl⟩:=hR;have DD:=He (P:=P) (w:=w) (base:=base) T;have abh:=Fj (P:=P) (w:=w) (base:=base) T;have abi:=IP (P:=P) (w:=w) (base:=base) T;have nd:=C3.nd;have ewn:=u7 six;have w6:wn six<=6:=by cases six <;> decide
 obtain⟨xs,Ox⟩:∃ xs,xs=yo rows wd:=⟨_,rfl⟩
 have FW:xs.length=wd.length:=by rw[Ox];unfold yo;rw[k5]
 rw[<- Ox];let X:Nat->Tr:=fun k=>cm six (xs.take k)
 have hX:∀ k (h:k < xs.length),X (k+1)=jn six (X k) (one six xs[k]):=fun k h=>by
   show cm six (xs.take (k+1))=_;rw[aby,k3 h];exact k4 six _ _
 have hpj:∀ k (h:k < xs.length),pj (X (k+1))=stp six (pj (X k)) xs[k]:=fun k h=>by rw[hX k h];exact Xd six _ _
 have ny:∀ k (h:k < xs.length),(X (k+1)).a5=(X k).a5+(if xs[k]="stroke" then 1 else 0):=fun k h=>by rw[hX k h];rfl
 let rD:Dt:=.lst (rows.map nh);let QF:Nat->List Dt:=fun k=>(aah (k+1)).map fun j=>sp (iI six xs j)
 have abj:∀ k,QF k ++ [sp (X (k+1)).shift]=QF (k+1):=fun k=>by
   show(aah (k+1)).map _ ++ _=(aah (k+1+1)).map _;rw[List.range_succ (n:=k+1),abv];rfl
 let S:Nat->List Slot:=fun k=>[.val (.int (wy six)),.val rD,.val (.str (tx wd)),.val (.int (X k).turn),.val (sp (X k).shift),.val (.int (X k).a5),.val (.int (X k).iS),.own (.lst (QF k)),.aS,.aS,.aS,.aS,.aS,.aS]
 have sz:∀ n:Nat,n<=2000->n<=sizeLine:=fun n h=>aau h (by decide)
 have h7:∀ x∈wd,x < 128:=fun x hx=>by
   obtain⟨q,hq,hc⟩:=aaQ.mp (hw x hx);have:=ok.sm q hq;rw[hc] at this;unfold small at this;omega
 refine⟨_,.rt _,ag (au 3 nd aj) (ag (au 4 nd (d:=sp (0,0)) (bL (ae aj (ae aj ah)) AA3)) (ag (au 5 nd aj) (ag (au 6 nd aj) (ag (iU 7 nd (rH (ae (aa 4 rfl) ah) AA3))
   (ag (dl1:=S wd.length) (oh (o:=.nx (S wd.length)) (m:=wd.length) wd (fun x=>Dt.str (sg x)) (fun x dl=>dl.set 8 (.val (.str (sg x)))) S rfl PassesOwn.leaving (fG (aa 2 rfl)) (cM (b7 (iQ h7)) (dg wd)) (bo nd rfl (.inl rfl)) (fun a _=>vJ) (Le.of ⟨rfl,rfl,rfl,rfl,rfl,rfl,rfl,rfl,trivial⟩) (aaa _) (fun k a hk ha=>?_) (.all rfl)) ?_)))))⟩
 . rw[k3 hk] at ha
   cases ha;have hkx:k < xs.length:=by omega
   obtain⟨q,hq,hc,ed,_⟩:=f9 (hw _ (aaY hk));have exk:xs[k]=q.d:=by
     have:xs[k]?=some (ni rows wd[k]):=by
       rw[Ox];unfold yo;rw[aab,k3 hk];rfl
     rw[k3 hkx,ed] at this;exact Option.some.inj this
   have hd5:q.d∈pv:=ok.dd q hq;have hP:=hpj k hkx;have hS:=ny k hkx;rw[exk] at hP hS;obtain⟨d,hdq⟩:∃ d,d=q.d:=⟨_,rfl⟩
   rw[<- hdq] at hP hS hd5;obtain⟨st,IT⟩:∃ st,st=tn six ((X k).turn % wy six).toNat (if d∈DJ then (1,0) else (0,0)):=⟨_,rfl⟩
   have hun:st.1.natAbs<=1/\st.2.natAbs<=1:=by
     rw[IT];by_cases c:d∈DJ
     . rw[if_pos c];exact GK six _
     . rw[if_neg c,qM];decide
   have e1:(X (k+1)).turn=((X k).turn+ka d) % wy six:=congrArg (·.1) hP;have e2:(X (k+1)).shift=ad (X k).shift st:=by rw[IT];exact congrArg (·.2.1) hP
   have e3:(X (k+1)).iS=(X k).iS+((X k).shift.1 * st.2 - (X k).shift.2 * st.1):=by rw[IT];exact congrArg (·.2.2) hP
   let B:List Slot:=[.val (.int (wy six)),.val rD,.val (.str (tx wd)),.val (.int (X k).turn),.val (sp (X k).shift),.val (.int (X k).a5),.val (.int (X k).iS),.own (.lst (QF k)),.val (.str (sg wd[k])),.val (.str d),.val (sp (0,0)),.aS,.aS,.aS]
   let B1:Int->Int->Int×Int->List Slot:=fun a b s=>[.val (.int (wy six)),.val rD,.val (.str (tx wd)),.val (.int a),.val (sp (X k).shift),.val (.int b),.val (.int (X k).iS),.own (.lst (QF k)),.val (.str (sg wd[k])),.val (.str d),.val (sp s),.aS,.aS,.aS]
   have MU:(QF k).length < sizeLine:=by
     show((aah (k+1)).map _).length < _;rw[k5,aaV];exact aal (show k+1 < 2000 by omega) (by decide)
   refine .nx (ag (au 9 nd (d:=.str d) (aF (ds:=[.str (sg q.c),.str q.d,.str (tx q.w)]) (bW DD av hr (ae (aa 1 rfl) (ae (aa 8 rfl) ah)) ⟨rows,q,by rw[hc],ok,hq,rfl⟩) aj (by rw[hdq];rfl))) (ag (au 10 nd (d:=sp (0,0)) (bL (ae aj (ae aj ah)) AA3))
     (ag (dl1:=B1 (X (k+1)).turn (X (k+1)).a5 st) ?iF (ag (au 6 nd (d:=.int (X (k+1)).iS) (aK (gH (aO (aa 6 rfl) (ik (aF (ds:=[.int (X k).shift.1,.int (X k).shift.2]) (aa 4 rfl) aj rfl) (aF (ds:=[.int st.1,.int st.2]) (aa 10 rfl) aj rfl) (qQ.ok (aaB ⟨by omega,by omega⟩)))) (ik (aF (ds:=[.int (X k).shift.1,.int (X k).shift.2]) (aa 4 rfl) aj rfl) (aF (ds:=[.int st.1,.int st.2]) (aa 10 rfl) aj rfl) (qQ.ok (aaB ⟨by omega,by omega⟩)))) (congrArg Dt.int (by rw[e3];omega))))
     (ag (au 4 nd (d:=sp (X (k+1)).shift) (aK (bL (ae (aO (aF (ds:=[.int (X k).shift.1,.int (X k).shift.2]) (aa 4 rfl) aj rfl) (aF (ds:=[.int st.1,.int st.2]) (aa 10 rfl) aj rfl)) (ae (aO (aF (ds:=[.int (X k).shift.1,.int (X k).shift.2]) (aa 4 rfl) aj rfl) (aF (ds:=[.int st.1,.int st.2]) (aa 10 rfl) aj rfl)) ah)) AA3) (by rw[e2];rfl)))
     (ao (t9 7 (aa 4 rfl) MU))))))) (Le.of ⟨rfl,rfl,rfl,rfl,rfl,rfl,rfl,by rw[abj k],trivial⟩)
   case iF=>
     show ES _ _ _ B _ (.nx (B1 (X (k+1)).turn (X (k+1)).a5 st));have c5:d="stroke"\/d="step"\/d="left"\/d="right"\/d="rest":=by simpa [pv] using hd5
     have ht:=Dz six (xs.take k);have em:(X k).turn % wy six=(X k).turn:=ab3 ht.1 ht.2;by_cases c:d∈DJ
     . have c2:d="stroke"\/d="step":=by simpa [DJ] using c
       have n1:d≠"left":=by rcases c2 with h | h <;> rw[h] <;> decide
       have n2:d≠"right":=by rcases c2 with h | h <;> rw[h] <;> decide
       have n3:d≠"rest":=by rcases c2 with h | h <;> rw[h] <;> decide
       have t0:ka d=0:=by unfold ka;rw[if_neg n1,if_neg n2]
       rw[if_pos c] at IT;rw[e1,t0,abZ,em];refine aM (u:=false) (aP (il (aa 9 rfl) bC) (decide_eq_false n1)) (fun h=>nomatch h) (fun _=>ao (aM (u:=false) (aP (il (aa 9 rfl) bC) (decide_eq_false n2)) (fun h=>nomatch h) (fun _=>ao (aM (u:=true) (aP (t7 (aa 9 rfl) bC) (by rw[decide_eq_false n3];rfl)) (fun _=>ag (au 10 nd (d:=sp st) (aK (bW abh av hr (ae (aa 0 rfl) (ae (bL (ae aj (ae aj ah)) AA3) (ae (aa 3 rfl) ah))) ⟨six,(1,0),(X k).turn,rfl,rfl⟩) (by rw[IT])))
         (ao (au 5 nd (d:=.int (X (k+1)).a5) (aK (aO (aa 5 rfl) (NY T.Lb (RG (aa 9 rfl) bC))) (congrArg Dt.int (by rw[hS];simp)))))) (fun h=>nomatch h)))))
     . have n0:d≠"stroke":=fun h=>c (by rw[h];decide)
       have s0:(X (k+1)).a5=(X k).a5:=by rw[hS,if_neg n0,abZ]
       have z0:st=(0,0):=by rw[IT,if_neg c,qM]
       rw[e1,s0,z0];rcases c5 with h | h | h | h | h
       . exact absurd h n0
       . exact absurd (show d∈DJ by rw[h];decide) c
       . have t0:ka d=1:=by rw[h];decide
         rw[t0];exact aM (u:=true) (aP (il (aa 9 rfl) bC) (decide_eq_true h)) (fun _=>ao (au 3 nd (eY (aO (aa 3 rfl) aj) (aa 0 rfl) (fz six)))) (fun h=>nomatch h)
       . have t0:ka d=-1:=by rw[h];decide
         rw[t0];exact aM (u:=false) (aP (il (aa 9 rfl) bC) (decide_eq_false (by rw[h];decide))) (fun h=>nomatch h) (fun _=>ao (aM (u:=true) (aP (il (aa 9 rfl) bC) (decide_eq_true h)) (fun _=>ao (au 3 nd (eY (gH (aa 3 rfl) aj) (aa 0 rfl) (fz six)))) (fun h=>nomatch h)))
       . have t0:ka d=0:=by rw[h];decide
         rw[t0,abZ,em];exact aM (u:=false) (aP (il (aa 9 rfl) bC) (decide_eq_false (by rw[h];decide))) (fun h=>nomatch h) (fun _=>ao (aM (u:=false) (aP (il (aa 9 rfl) bC) (decide_eq_false (by rw[h];decide))) (fun h=>nomatch h) (fun _=>ao (aM (u:=false) (aP (t7 (aa 9 rfl) bC) (by rw[decide_eq_true h];rfl)) (fun h=>nomatch h) (fun _=>bu)))))
 . have hX0:X wd.length=cm six xs:=by show cm six (xs.take wd.length)=_;rw[<- FW,abF]
   have MP:QF wd.length=(aah (xs.length+1)).map fun j=>sp (iI six xs j):=by show(aah (wd.length+1)).map _=_;rw[FW]
   obtain⟨x,hx⟩:∃ x,x=cm six xs:=⟨_,rfl⟩
   let J:=aah (xs.length+1);have hJ:J.length<=2000:=by show(aah (xs.length+1)).length<=2000;rw[aaV];omega
   let S0:List Slot:=[.val (.int (wy six)),.val rD,.val (.str (tx wd)),.val (.int x.turn),.val (sp x.shift),.val (.int x.a5),.val (.int x.iS),.own (.lst (J.map fun j=>sp (iI six xs j))),.aS,.aS,.aS,.aS,.aS,.aS]
   have eS:S wd.length=S0:=by
     show [_,_,_,Slot.val (.int (X wd.length).turn),Slot.val (sp (X wd.length).shift),Slot.val (.int (X wd.length).a5),Slot.val (.int (X wd.length).iS),Slot.own (.lst (QF wd.length)),_,_,_,_,_,_]=_;rw[hX0,MP,<- hx]
   rw[eS];have wfx:x.reach.length=wn six/\x.bf.length=wn six:=by rw[hx];have:=Bl six _ xs rfl;exact this.2.2
   let aD:List Dt:=J.map fun j=>Dt.lst (Pk six (iI six xs j))
   have eA:((J.filter fun _=>true).map fun j=>Dt.lst (Pk six (iI six xs j)))=aD:=by rw[aan.mpr (fun _ _=>rfl)]
   have eV:∀ v:Nat,((J.filter fun _=>true).map fun j=>Dt.int (jt six v (iI six xs j)))=(Hc six xs v).map .int:=fun v=>by
     rw[aan.mpr (fun _ _=>rfl)];unfold Hc;rw[aai];rfl
   have lV:∀ v:Nat,(Hc six xs v).length=xs.length+1:=fun v=>by unfold Hc;simp
   have eR:(((aah (wn six)).filter fun _=>true).map fun v=>Dt.int (x.reach.getD v 0))=x.reach.map .int:=by
     rw[aan.mpr (fun _ _=>rfl),show(fun v=>Dt.int (x.reach.getD v 0))=Dt.int ∘ fun v=>x.reach.getD v 0 from rfl,<- aai];exact congrArg (List.map Dt.int) (list_eq (six:=six) (by simp) wfx.1 fun v hv=>by rw[kz hv])
   have eT:(((aah (wn six)).filter fun _=>true).map fun v=>Dt.int (x.bf.getD v 0))=x.bf.map .int:=by
     rw[aan.mpr (fun _ _=>rfl),show(fun v=>Dt.int (x.bf.getD v 0))=Dt.int ∘ fun v=>x.bf.getD v 0 from rfl,<- aai];exact congrArg (List.map Dt.int) (list_eq (six:=six) (by simp) wfx.2 fun v hv=>by rw[kz hv])
   have em:x.many=(wd.length:Int):=by rw[hx,(Dh six _ xs rfl).1,FW]
   refine rG 7 (w:=.lst (J.map fun j=>sp (iI six xs j))) (ag (iU 11 nd (dr J (fun j=>sp (iI six xs j)) (fun j=>Dt.lst (Pk six (iI six xs j))) (fun j=>[.val (sp (iI six xs j))]) (fun _=>true) rfl (aW QC) (fE (aa 7 rfl)) (bA (aW QC) rfl) dP (fun a _=>bG) (.nil fun _ _=>rfl)
     (fun j hj _ C fp s' H' G'=>mL (pL abi av hr (ae (aa 1 rfl) (ae (aa 0 rfl) ah)) ⟨six,iI six xs j,rfl,rfl⟩)) (sz _ hJ))) ?_)
   rw[eA];refine rG 11 (w:=.lst aD) (ag (iU 12 nd (Ep (aah (wn six)) (fun(v:Nat)=>Dt.int (v:Nat)) (fun v=>Dt.int (x.reach.getD v 0)) (fun(v:Nat)=>[.val (.int (v:Nat))]) (fun _=>true) rfl (uY QD) (nC rfl T.eW (ae (aK (aa 0 rfl) (congrArg Dt.int ewn.symm)) ah)) (sG (uY QD)) (uV (j:=wn six) ⟨by omega,by omega⟩) (fun a _=>bG) (.nil fun _ _=>rfl)
     (fun v hv _ cc C fp s' H' G'=>?iR) (sz _ (by rw[aaV];omega)))) ?_)
   case iR=>
     have PF:v < wn six:=abX.mp hv;have h3:=Hd six xs PF;rw[<- hx] at h3;exact aK (Of T.Gu rfl (df (eV v) (dr J (fun j=>Dt.lst (Pk six (iI six xs j))) (fun j=>Dt.int (jt six v (iI six xs j))) (fun j=>[.val (.lst (Pk six (iI six xs j)))]) (fun _=>true) rfl (aW MH) (fE (aa 1 rfl)) (bA (aW MH) rfl) dP (fun a _=>bG) (.nil fun _ _=>rfl)
       (fun j hj _ C2 UJ s2 H2 G2=>D5 (aa 0 rfl) (aa 1 rfl) (ME six _ (by omega) (by omega))) (sz _ hJ))) (by rw[lV];omega)) (congrArg Dt.int h3.1)
   rw[eR];refine rG 12 (w:=.lst (x.reach.map .int)) (ag (Sd 13 (aah (wn six)) (fun(v:Nat)=>Dt.int (v:Nat)) (fun v=>Dt.int (x.bf.getD v 0)) (fun(v:Nat)=>[.val (.int (v:Nat))]) (fun _=>true) rfl nd (uY QE) (nC rfl T.eW (ae (aK (aa 0 rfl) (congrArg Dt.int ewn.symm)) ah)) (sG (uY QE)) (uV (j:=wn six) ⟨by omega,by omega⟩) (fun a _=>bG) (.nil fun _ _=>rfl)
     (fun v hv _ cc C fp s' H' G'=>?iT) (sz _ (by rw[aaV];omega))) ?_)
   case iT=>
     have PF:v < wn six:=abX.mp hv;have h3:=Hd six xs PF;rw[<- hx] at h3;exact aK (KZ (k:=x.reach.getD v 0) (df (eV v) (dr J (fun j=>Dt.lst (Pk six (iI six xs j))) (fun j=>Dt.int (jt six v (iI six xs j))) (fun j=>[.val (.lst (Pk six (iI six xs j)))]) (fun _=>true) rfl (aW MI) (fE (aa 1 rfl)) (bA (aW MI) rfl) dP (fun a _=>bG) (.nil fun _ _=>rfl)
       (fun j hj _ C2 UJ s2 H2 G2=>D5 (aa 0 rfl) (aa 1 rfl) (ME six _ (by omega) (by omega))) (sz _ hJ))) (D5 (aa 2 rfl) (aa 0 rfl) (OM (by omega) (by omega))) (lay_ints (XS (by omega) v) (by rw[lV];omega)) h3.2.1) (congrArg Dt.int h3.2.2)
   rw[eT];refine rG 13 (w:=.lst (x.bf.map .int)) (ao (aG (aK (bL (ae (gQ T.fD (aa 2 rfl) (by omega)) (ae (aa 3 rfl) (ae (aa 4 rfl) (ae (aa 5 rfl) (ae (aa 12 rfl) (ae (aa 13 rfl) (ae (aa 6 rfl) ah))))))) AA3) ?_)));rw[<- hx];unfold vb;rw[em];rfl
theorem Po {W:List Nat}{b:Nat}(h:b < W.length):cut W b (b+1)=[W.getD b 0]:=by
 unfold cut;rw[aby,k3 h,List.drop_append_of_le_length (by rw[aas];omega),acg (by rw[aas];omega),Bn,k3 h];rfl
def Uk:Rl:=fun ds r=>∃ rows w age m,ds=[.lst (rows.map nh),.str (tx w),.int ((age:Nat):Int),.int 40]/\j8 rows w/\(m<=age/\age<=200)/\(eX rows w m).length<=40/\(m=age\/(m < age/\40 < (eX rows w (m+1)).length))/\r=.ret (.tup [.str (tx (eX rows w m)),.int ((m:Nat):Int)])
noncomputable abbrev Pp:Scope:=match (aC CT).getD 0 (.Pass ⟨0,0,0,0⟩) with
 | .For _ _ (.Assign _ (.Call _ (.ListComp _ _ sc _::_) _ _) _::_) _ _=>sc
 | _=>af (.Pass ⟨0,0,0,0⟩)
theorem qO:gw Pp (af CT) Qc ["_law_letter","_law_rows"] ["_law_letter"] [0]=true:=by decide +kernel
theorem Ul {rows:List Row}{w:List Nat}(ok:j8 rows w)(age:Nat):∃ m,m<=age/\(eX rows w m).length<=40/\(m=age\/(m < age/\40 < (eX rows w (m+1)).length)):=by
 have h0:(eX rows w 0).length<=40:=by rw[Du];have:=ok.w8;omega
 induction age with
 | zero=>exact⟨0,aaa _,h0,.inl rfl⟩
 | succ a ih=>
   obtain⟨m,h1,h2,h3⟩:=ih;rcases h3 with rfl | h3
   . by_cases h:(eX rows w (m+1)).length<=40
     . exact⟨m+1,aaa _,h,.inl rfl⟩
     . exact⟨m,by omega,h2,.inr ⟨by omega,by omega⟩⟩
   . exact⟨m,by omega,h2,.inr ⟨by omega,h3.2⟩⟩
theorem Pq (T:Txt K mg t):GF P w K mg base CX 2 "_law_out" 4 Uk:=by
 refine⟨_,_,_,gS T.zK.F K7 rfl fun aZ A outer s H E G ds r hr hl hR=>?_,(T.g T.zK.a),T.zK.F.kp,T.zK.b⟩;obtain⟨rows,wd,age,m,rfl,ok,⟨hma,eZ⟩,hle,abl,rfl⟩:=hR;have DD:=He (P:=P) (w:=w) (base:=base) T;have nd:=K7.nd;let S:Nat->List Slot:=fun k=>[.val (.lst (rows.map nh)),.val (.str (tx (eX rows wd k))),.val (.int ((age:Nat):Int)),.val (.int 40),.aS,.aS]
 rcases abl with rfl | ⟨di,hgt⟩
 . refine⟨_,.rt _,ag (dl1:=S m) (gb (o:=.nx (S m)) (m:=m) 4 S nd rfl PassesOwn.leaving T.eW (ae (aa 2 rfl) ah) ⟨by omega,by omega⟩ (Le.of ⟨rfl,by rw[Du],rfl,rfl,trivial⟩) (by omega) (fun k hk=>?_) (by rw[aaS];exact .all rfl)) (ao (aG (bL (ae (aa 1 rfl) (ae (aa 2 rfl) ah)) AA3)))⟩
   have a:=uL ok.ok ok.wm (n:=k) (m:=m) (by omega);have b:=uL ok.ok ok.wm (n:=k+1) (m:=m) (by omega);rw[<- tu] at b;have uc:=oX ok.ok ok.wm k;have e2:(((eX rows wd k).filter fun _=>true).map fun x=>Dt.str (tx (wordOf rows x)))=(((eX rows wd k).map (wordOf rows)).map tx).map Dt.str:=by
     rw[aan.mpr (fun _ _=>rfl),aai,aai];rfl
   refine .nx (ag (au 5 nd (d:=.str (tx (grow rows (eX rows wd k)))) (mh (Ls:=(eX rows wd k).map (wordOf rows)) bC (df e2 (dr (eX rows wd k) (fun x=>Dt.str (sg x)) (fun x=>.str (tx (wordOf rows x))) (fun x=>[.val (.str (sg x))]) (fun _=>true) rfl (aW qO) (fG (aa 1 rfl)) (bA (aW qO) rfl) (cM (b7 (mT ok.ok uc)) (dg _)) (fun a _=>bG) (.nil fun _ _=>rfl)
     (fun a ha _ C fp s' H' G'=>?l1) (qK (by omega)))) (by rw[k5];show(grow rows (eX rows wd k)).length+_<=_;omega)))
     (ag (aM (u:=false) (aP (oZ (wq T.fD (aa 5 rfl) (by omega)) (aa 3 rfl)) (decide_eq_false (by omega))) (fun h=>nomatch h) (fun h=>bu)) (ao (au 1 nd (aa 5 rfl))))) (Le.of ⟨rfl,?_,rfl,rfl,trivial⟩)
   case l1=>
     obtain⟨q,hq,hc,_,ew⟩:=f9 (uc a ha);exact aK (aF (bW DD av hr (ae (aa 1 rfl) (ae (aK (aa 0 rfl) (by rw[hc])) ah)) ⟨rows,q,rfl,ok.ok,hq,rfl⟩) aj rfl) (show Dt.str (tx q.w)=Dt.str (tx (wordOf rows a)) by rw[ew])
   show Slot.val (.str (tx (eX rows wd (k+1))))=Slot.val (.str (tx (grow rows (eX rows wd k))));rw[tu]
 . . refine⟨_,.rt _,mK (gb (o:=.rt (.tup [.str (tx (eX rows wd m)),.int ((m:Nat):Int)])) (m:=m) 4 S nd rfl PassesOwn.leaving T.eW (ae (aa 2 rfl) ah) ⟨by omega,by omega⟩ (Le.of ⟨rfl,by rw[Du],rfl,rfl,trivial⟩) (by omega) (fun k hk=>?l2) ?en)⟩
     case l2=>
       have a:=uL ok.ok ok.wm (n:=k) (m:=m) (by omega);have b:=uL ok.ok ok.wm (n:=k+1) (m:=m) (by omega);rw[<- tu] at b;have uc:=oX ok.ok ok.wm k;have e2:(((eX rows wd k).filter fun _=>true).map fun x=>Dt.str (tx (wordOf rows x)))=(((eX rows wd k).map (wordOf rows)).map tx).map Dt.str:=by
         rw[aan.mpr (fun _ _=>rfl),aai,aai];rfl
       refine .nx (ag (au 5 nd (d:=.str (tx (grow rows (eX rows wd k)))) (mh (Ls:=(eX rows wd k).map (wordOf rows)) bC (df e2 (dr (eX rows wd k) (fun x=>Dt.str (sg x)) (fun x=>.str (tx (wordOf rows x))) (fun x=>[.val (.str (sg x))]) (fun _=>true) rfl (aW qO) (fG (aa 1 rfl)) (bA (aW qO) rfl) (cM (b7 (mT ok.ok uc)) (dg _)) (fun a _=>bG) (.nil fun _ _=>rfl)
         (fun a ha _ C fp s' H' G'=>?l1) (qK (by omega)))) (by rw[k5];show(grow rows (eX rows wd k)).length+_<=_;omega)))
         (ag (aM (u:=false) (aP (oZ (wq T.fD (aa 5 rfl) (by omega)) (aa 3 rfl)) (decide_eq_false (by omega))) (fun h=>nomatch h) (fun h=>bu)) (ao (au 1 nd (aa 5 rfl))))) (Le.of ⟨rfl,?_,rfl,rfl,trivial⟩)
       case l1=>
         obtain⟨q,hq,hc,_,ew⟩:=f9 (uc a ha);exact aK (aF (bW DD av hr (ae (aa 1 rfl) (ae (aK (aa 0 rfl) (by rw[hc])) ah)) ⟨rows,q,rfl,ok.ok,hq,rfl⟩) aj rfl) (show Dt.str (tx q.w)=Dt.str (tx (wordOf rows a)) by rw[ew])
       show Slot.val (.str (tx (eX rows wd (k+1))))=Slot.val (.str (tx (grow rows (eX rows wd k))));rw[tu]
     case en=>
       rw[aaS];have uc:=oX ok.ok ok.wm m;have h8:=(Bz ok.ok uc).2;rw[<- tu] at hgt;have e2:(((eX rows wd m).filter fun _=>true).map fun x=>Dt.str (tx (wordOf rows x)))=(((eX rows wd m).map (wordOf rows)).map tx).map Dt.str:=by
         rw[aan.mpr (fun _ _=>rfl),aai,aai];rfl
       refine .rt di (ag (au 5 nd (d:=.str (tx (grow rows (eX rows wd m)))) (mh (Ls:=(eX rows wd m).map (wordOf rows)) bC (df e2 (dr (eX rows wd m) (fun x=>Dt.str (sg x)) (fun x=>.str (tx (wordOf rows x))) (fun x=>[.val (.str (sg x))]) (fun _=>true) rfl (aW qO) (fG (aa 1 rfl)) (bA (aW qO) rfl) (cM (b7 (mT ok.ok uc)) (dg _)) (fun a _=>bG) (.nil fun _ _=>rfl)
         (fun a ha _ C fp s' H' G'=>?l1) (qK (by omega)))) (by rw[k5];show(grow rows (eX rows wd m)).length+_<=_;omega)))
         (mK (aM (u:=true) (aP (oZ (wq T.fD (aa 5 rfl) (by omega)) (aa 3 rfl)) (decide_eq_true (by omega))) (fun h=>ao (aG (bL (ae (aa 1 rfl) (ae (aa 4 rfl) ah)) AA3))) (fun h=>nomatch h))))
       case l1=>
         obtain⟨q,hq,hc,_,ew⟩:=f9 (uc a ha);exact aK (aF (bW DD av hr (ae (aa 1 rfl) (ae (aK (aa 0 rfl) (by rw[hc])) ah)) ⟨rows,q,rfl,ok.ok,hq,rfl⟩) aj rfl) (show Dt.str (tx q.w)=Dt.str (tx (wordOf rows a)) by rw[ew])
noncomputable def Fl (x:Tr):Dt:=.tup [sp x.shift,.int x.turn]
def Hg (t:dM):Rl:=fun ds r=>∃ six rows w l' ls' n' l ls n age,∃ e:Nat,ds=[.obj t.aA (t.IL six rows w l' ls' n' l ls n),.int ((age:Nat):Int),.int (e:Int)]/\Pg t six rows w ls' ls/\age<=200/\e<=(eX rows w age).length/\r=.ret (Fl (cm six (yo rows (cut (eX rows w age) 0 e))))
theorem MK (T:Txt K mg t):MF P w K mg base CX 10 t.aA "pen_at" 3 (Hg t):=by
 refine⟨T.bY.cl,_,_,_,gS T.ig.F mN rfl fun aZ A outer s H E G ds r hr hl hR=>?_,T.dO,T.ig.b⟩;obtain⟨six,rows,wd,l',ls',n',l,ls,n,age,e,rfl,ok,eZ,DL,rfl⟩:=hR;have Um:=yq (P:=P) (w:=w) (base:=base) T;have sY:=zQ (P:=P) (w:=w) (base:=base) T;have x6:=Bi (P:=P) (w:=w) (base:=base) T;have nd:=mN.nd;obtain⟨x,hx⟩:∃ x,x=cm six (yo rows (cut (eX rows wd age) 0 e)):=⟨_,rfl⟩
 rw[<- hx];have e0:tn six ((0:Int) % wy six).toNat x.shift=x.shift:=by cases six <;> rfl
 refine⟨_,.rt _,ag (au 3 nd (d:=t.rY six x) (aT (fs:=t.IL six rows wd l' ls' n' l ls n) (aa 0 rfl) Um av hr (ae (aa 1 rfl) (ae aj (ae (aa 2 rfl) ah))) ⟨six,rows,wd,l',ls',n',l,ls,n,age,0,e,rfl,ok,eZ,⟨aa1 _,DL⟩,by rw[hx]⟩))
   (ao (aG (aK (bL (ae (FZ (fs:=t.lx six x) (rZ (aa 3 rfl)) sY av hr ⟨six,x,0,rfl,rfl⟩) (ae (cu (fs:=t.lx six x) (rZ (aa 3 rfl)) x6 av hr ⟨six,x,rfl,rfl⟩) ah)) AA3) (by rw[e0];rfl))))⟩
theorem IU (L:List Nat){a b:Nat}(W4:a<=b)(hb:b<=L.length):Txt.slice (tx L) (some (a:Int)) (some (b:Int))=tx (cut L a b):=by
 rw[uG (tx L) W4 (by rw[fX];exact hb) rfl];show(⟨(((L.toArray.toList).drop a).take (b - a)).toArray⟩:Str)=⟨((L.take b).drop a).toArray⟩;rw[acu,List.drop_take]
theorem DE {X:Cx}{G:Gr}{dl:List Slot}{a b e:Expr}{L:List Nat}{k m:Nat}{pos p2:Pos}(ha:EE X G dl a (.str (tx L)))(hb:EE X G dl b (.int (k:Int)))(he:EE X G dl e (.int (m:Int)))(h:k<=m)(hm:m<=L.length)(hl:L.length<=2000):EE X G dl (.Subscript a (.Slice (some b) (some e) none p2) pos) (.str (tx (cut L k m))):=
 aK (Eh ha (vL hb) (vL he) (by rw[fX];exact qK hl)) (by rw[IU L h hm])
theorem BF (x:Tr):JQ (Fl x):=⟨rfl,rfl⟩
theorem Uo (T:Txt K mg t):kW P w K mg base CX 12 t.rq t.xG ["_law_script"] (LQ K):=by
 refine gS T.C6.F K9 rfl fun aZ A outer s H E G ds r hr hl hR=>?_
 obtain⟨ns,hlen,rfl,rfl⟩:=hR;have nv:=Dq (P:=P) (w:=w) (base:=base) T;have Pr:=LZ (P:=P) (w:=w) (base:=base) T;have XZ:=Pq (P:=P) (w:=w) (base:=base) T;have Hh:=MJ (P:=P) (w:=w) (base:=base) T;have QG:=Ff (P:=P) (w:=w) (base:=base) T;have Pt:=Lp (P:=P) (w:=w) (base:=base) T;have Up:=LO (P:=P) (w:=w) (base:=base) T;have abm:=MC (P:=P) (w:=w) (base:=base) T;have Dv:=Bs (P:=P) (w:=w) (base:=base) T;have m_gc:=GP (P:=P) (w:=w) (base:=base) T;have abn:=Mh (P:=P) (w:=w) (base:=base) T;have X0:=T6 (P:=P) (w:=w) (base:=base) T;have abo:=Ms (P:=P) (w:=w) (base:=base) T;have Fc:=G4 (P:=P) (w:=w) (base:=base) T;have Um:=yq (P:=P) (w:=w) (base:=base) T;have abp:=MK (P:=P) (w:=w) (base:=base) T;have Uq:=Pm (P:=P) (w:=w) (base:=base) T;have nd:=K9.nd;have hu:(A.deeper (envOfC "law" (af Gi) s.heap.objs.size t.rq aZ)).units+1 < cLine:=by have:=hr.units;omega
 let six:=GU ns;let rows:=yf ns;let wd:=wj ns;have Hi:j8 rows wd:=Xq ns;have ok:a0 rows:=Hi.ok;have hb:=OZ ns (far:=16) (by decide) (by decide);obtain⟨Ur,eZ⟩:∃ age:Nat,rE ns 16=((age:Nat):Int):=⟨(rE ns 16).toNat,by omega⟩
 have ha0:Ur<=200:=by omega
 obtain⟨age,Ys,WD,hm3⟩:=Ul Hi Ur;have HW:age<=200:=by omega
 obtain⟨W,hW⟩:∃ W:List Nat,W=eX rows wd age:=⟨_,rfl⟩
 have hsz:W.length<=40:=by rw[hW];exact WD
 have esz:((W.length:Nat):Int)=lnT rows wd age:=by rw[hW];exact Bx Hi age
 have hWm:∀ x∈W,x∈rows.map (·.c):=fun x hx=>by rw[hW] at hx;exact oX ok Hi.wm age x hx
 have ecn:YH rows wd age=Qt W:=by
   funext x;rw[hW];exact(BA x fun y _=>ym rows x age y).symm
 let nD:Nat->Dt:=fun a=>.int ((a:Nat):Int)
 let cD:Nat->List (Key×Int):=fun p=>kc (rows.map (·.c)) (Qt (W.take p))
 let X:Nat->Tr:=fun p=>cm six (yo rows (cut W 0 p))
 have ctk:∀ p,cut W 0 p=W.take p:=fun p=>by unfold cut;rw[List.drop_zero]
 have eqP:∀ x:Tr,PyData.eqv (pd (Fl x)) (pd (Fl x))=true:=fun x=>eqv_refl _ (BF x).1
 have eqR:∀ x:Tr,PyData.eqv (pd (vb x)) (pd (vb x))=true:=fun x=>eqv_refl _ (yr x).1
 obtain⟨b,e,X1,abr,tG,X2⟩:∃ b e:Nat,[((b:Nat):Int),((e:Nat):Int)].Perm [bZ ns 9 % (((W.length:Nat):Int)+1),bZ ns 10 % (((W.length:Nat):Int)+1)]/\[((b:Nat):Int),((e:Nat):Int)].Pairwise (·<=·)/\b<=e/\e<=W.length:=by
   have z:∀ y:Int,∃ q:Nat,y % (((W.length:Nat):Int)+1)=(q:Int)/\q<=W.length:=fun y=>by
     have a:=aaF y (show((W.length:Nat):Int)+1≠0 by omega);have c:=aaK y (show(0:Int) < ((W.length:Nat):Int)+1 by omega);exact⟨(y % (((W.length:Nat):Int)+1)).toNat,by omega,by omega⟩
   obtain⟨p,ep,hp⟩:=z (bZ ns 9);obtain⟨q,eq,hq⟩:=z (bZ ns 10);rw[ep,eq];rcases Nat.le_total p q with h | h
   . exact⟨p,q,List.Perm.refl _,by simp;omega,h,hq⟩
   . exact⟨q,p,List.Perm.swap _ _ _,by simp;omega,h,hp⟩
 refine⟨_,.rt _,?_⟩;refine ag (Ob 1 2 3 4 nd rfl (aK (bW Pr av hr (ae (aa 0 rfl) (ae aj ah)) ⟨ns,16,rfl,⟨by decide,by decide⟩,rfl⟩) (by rw[eZ]))) ?_;let D0:Slot->Slot->Slot->Slot->Slot->Slot->Slot->Slot->List Slot:=fun a6 a7 a8 a9 a10 a11 a12 a13=>[.val (.r8 ns),.val (.int (wy six)),.val (.lst (rows.map nh)),.val (.str (tx wd)),.val (nD age),.val (.str (tx W)),a6,a7,a8,a9,a10,a11,a12,a13]
 refine ag (dl1:=D0 .aS .aS .aS .aS .aS .aS .aS .aS) (vK 5 4 nd rfl (aK (bW XZ av hr (ae (aa 2 rfl) (ae (aa 3 rfl) (ae (aa 4 rfl) (ae aj ah)))) ⟨rows,wd,Ur,age,rfl,Hi,⟨Ys,ha0⟩,WD,hm3,rfl⟩) (by rw[hW]))) ?_;refine ag (dl1:=D0 (.val (t.aaX six rows wd 1)) .aS .aS .aS .aS .aS .aS .aS) (au 6 nd (Ck (Cq Up av hr (ae (VR (vH Pt av hr (ae (aa 1 rfl) (ae (mL (NL T.A8 (aa 2 rfl))) ah)) ⟨six,rows,rfl,ok,rfl⟩)) (ae (aa 3 rfl) ah)) ⟨six,rows,wd,rfl,Hi,rfl⟩))) ?_;refine CM 6 fun l' ls' ju=>?_
 let gE:Dt:=tw t six rows wd l' ls' 1;refine ag (dl1:=D0 (.val gE) (.val (.zl t.aA (t.BE six rows wd l' ls' 1) [t.r0 six rows] ["tracks"] 1)) .aS .aS .aS .aS .aS .aS) (au 7 nd (Ck (Cq abm av hr (ae (aa 6 rfl) ah) ⟨six,rows,wd,l',ls',1,rfl,Hi,rfl⟩))) ?_;refine CM 7 fun l ls hts=>?_
 have dok:Pg t six rows wd ls' ls:=⟨Hi,ju,hts⟩
 let dE:Dt:=.obj t.aA (t.IL six rows wd l' ls' 1 l ls 1);let D:Slot->Slot->Slot->Slot->Slot->Slot->List Slot:=D0 (.val gE) (.val dE);have X3:∀ v:List Nat,zV [.lst (rows.map nh),.str (tx v)] (.own (.cZ (dI (kc (rows.map (·.c)) (Qt v))))):=fun v=>⟨rows,v,rfl,ok,rfl⟩
 show nH _ _ _ (D .aS .aS .aS .aS .aS .aS) _ _;refine ag (aM (u:=false) (su (oY (u:=false) (v:=false) (aP (JS (aT (fs:=t.cz six rows wd l' ls' 1) (aa 6 rfl) Dv av hr (ae (aa 4 rfl) ah) ⟨six,rows,wd,l',ls',1,age,rfl,Hi,ju,HW,by rw[<- esz]⟩) (gQ T.fD (aa 5 rfl) (by omega))) (by rw[decide_eq_true rfl];rfl)) fun _=>(mW (Kw hr.units (Ck (w:=.cZ (dI (kc (rows.map (·.c)) (Qt W)))) (wR (q8 (fs:=t.cz six rows wd l' ls' 1) (aa 6 rfl) (Cr m_gc) av hr (ae (aa 4 rfl) ah) ⟨six,rows,wd,l',ls',1,age,rfl,Hi,ju,HW,rfl⟩) (by rw[ecn]))) (Ck (w:=.cZ (dI (kc (rows.map (·.c)) (Qt W)))) (pL QG av hr (ae (aa 2 rfl) (ae (aa 5 rfl) ah)) (X3 W))))))) (fun h=>nomatch h) (fun _=>bu)) ?_;let S:Nat->List Slot:=fun _=>D .aS .aS .aS .aS .aS .aS
 refine ag (dl1:=S 0) (NF (dl2:=S (W.length+1)) (gb (o:=.nx (S (W.length+1))) (m:=W.length+1) 8 S nd rfl PassesOwn.leaving T.eW (ae (aK (aO (gQ T.fD (aa 5 rfl) (by omega)) aj) (congrArg Dt.int (show((W.length:Nat):Int)+1=((W.length+1:Nat):Int) by omega))) ah) ⟨by omega,by omega⟩ (Le.of ⟨rfl,rfl,rfl,rfl,rfl,rfl,rfl,rfl,trivial⟩) (by rw[aaS];exact aaa _) (fun k hk=>?lp) (by rw[aaS];exact .all rfl)) (Le.refl _)) ?_
 case lp=>
   have YL:k<=W.length:=by omega
   have hxk:cm six (yo rows (W.take k))=X k:=by show _=cm six (yo rows (cut W 0 k));rw[ctk]
   have tm:∀ x∈W.take k,x∈rows.map (·.c):=fun x hx=>hWm x (acp hx)
   have ahR:G5 t [gE,nD age,nD k] (.own (.cZ (dI (cD k)))):=⟨six,rows,wd,l',ls',1,age,k,rfl,Hi,ju,HW,by rw[<- hW];exact YL,by rw[<- hW]⟩
   have paR:Hg t [dE,nD age,nD k] (.ret (Fl (X k))):=⟨six,rows,wd,l',ls',1,l,ls,1,age,k,rfl,dok,HW,by rw[<- hW];exact YL,by rw[<- hW]⟩
   let tds:List Dt:=[.int (X k).many,.int (X k).turn,sp (X k).shift,.int (X k).a5,.lst ((X k).reach.map .int),.lst ((X k).bf.map .int),.int (X k).iS]
   let S2:Slot->List Slot:=fun a11=>D (.val (nD k)) (.val (.cZ (dI (cD k)))) (.val (vb (X k))) a11 .aS .aS
   refine .nx (dl':=S2 .aS) (ag (dl1:=D (.val (nD k)) (.val (.cZ (dI (cD k)))) .aS .aS .aS .aS) (au 9 nd (Ck (w:=.cZ (dI (cD k))) (pL QG av hr (ae (aa 2 rfl) (ae (Bc (aa 5 rfl) (aa 8 rfl) YL (by omega)) ah)) (X3 (W.take k)))))
     (ag (dl1:=S2 .aS) (au 10 nd (aK (bW Hh av hr (ae (aa 1 rfl) (ae (aa 2 rfl) (ae (Bc (aa 5 rfl) (aa 8 rfl) YL (by omega)) ah))) ⟨six,rows,W.take k,rfl,ok,tm,by rw[aas];omega,rfl⟩) (by rw[hxk])))
     (ag (aM (u:=false) (su (oY (u:=false) (v:=false) (Kw hr.units (Ck (w:=.cZ (dI (cD k))) (q8 (fs:=t.cz six rows wd l' ls' 1) (aa 6 rfl) (Cr abn) av hr (ae (aa 4 rfl) (ae (aa 8 rfl) ah)) ahR)) (aa 9 rfl)) fun _=>(mW (VH (d1:=Fl (X k)) (d2:=Fl (X k)) hr.units (aT (fs:=t.IL six rows wd l' ls' 1 l ls 1) (aa 7 rfl) abp av hr (ae (aa 4 rfl) (ae (aa 8 rfl) ah)) paR) (bL (ae (aF (ds:=tds) (aa 10 rfl) aj rfl) (ae (aF (ds:=tds) (aa 10 rfl) aj rfl) ah)) AA3) (BF _) (BF _) (by rw[eqP];rfl))))) (fun h=>nomatch h) (fun _=>bu))
     (ao ?i2)))) (Le.of ⟨rfl,rfl,rfl,rfl,rfl,rfl,rfl,rfl,trivial⟩)
   case i2=>
     by_cases c:k < W.length
     . obtain⟨x,hx⟩:∃ x,x=W.getD k 0:=⟨_,rfl⟩
       have hxm:x∈rows.map (·.c):=hWm x (by rw[hx,Bn,k3 c];exact aaY _);have hxW:x∈W.drop k:=by
         rw[hx,Bn,k3 c];exact aa8.mpr ⟨0,by rw[abu];omega,by rw[List.getElem_drop];rfl⟩
       have hct:(W.take k).count x < W.count x:=by
         have e1:W.count x=(W.take k).count x+(W.drop k).count x:=by rw[<- abL,List.take_append_drop]
         have:=List.count_pos_iff.mpr hxW;omega
       have laR:Qp t [gE,nD age,nD k] (.ret (.str (sg x))):=by
         refine⟨six,rows,wd,l',ls',1,age,k,rfl,Hi,ju,HW,by rw[<- hW];exact c,?_⟩;rw[<- hW,Po c,hx];rfl
       have plR:G7 t [gE,nD age,.str (sg x),nD ((W.take k).count x)] (.ret (nD k)):=⟨six,rows,wd,l',ls',1,age,x,(W.take k).count x,k,rfl,Hi,ju,HW,hxm,by rw[<- hW];exact hct,by rw[<- hW];exact⟨c,hx.symm,rfl⟩,rfl⟩
       have R6:mn (dI (cD k)) (.inr (sg x))=some (nD ((W.take k).count x)):=by
         show mn (dI (kc (rows.map (·.c)) (Qt (W.take k)))) _=_;rw[u9];exact eC hxm
       exact aM (u:=true) (aP (qZ (aa 8 rfl) (gQ T.fD (aa 5 rfl) (by omega))) (decide_eq_true (by omega))) (fun _=>JN (dl2:=S2 (.val (.str (sg x)))) (ag (dl1:=S2 (.val (.str (sg x)))) (au 11 nd (aK (wb (aa 5 rfl) (aa 8 rfl) c (by omega)) (by rw[hx];rfl)))
         (ao (aM (u:=false) (su (oY (u:=false) (v:=false) (aP (t7 (aT (fs:=t.cz six rows wd l' ls' 1) (aa 6 rfl) X0 av hr (ae (aa 4 rfl) (ae (aa 8 rfl) ah)) laR) (aa 11 rfl)) (by rw[decide_eq_true rfl];rfl)) fun _=>(mW (aP (JS (aT (fs:=t.cz six rows wd l' ls' 1) (aa 6 rfl) abo av hr (ae (aa 4 rfl) (ae (aa 11 rfl) (ae (F6 hu (aa 9 rfl) (aa 11 rfl) R6 (fun _ _=>rfl)) ah))) plR) (aa 8 rfl)) (by rw[decide_eq_true rfl];rfl))))) (fun h=>nomatch h) (fun _=>bu)))) (Le.of ⟨rfl,rfl,rfl,rfl,rfl,rfl,rfl,rfl,rfl,rfl,rfl,trivial⟩)) (fun h=>nomatch h)
     . exact aM (u:=false) (aP (qZ (aa 8 rfl) (gQ T.fD (aa 5 rfl) (by omega))) (decide_eq_false (by omega))) (fun h=>nomatch h) (fun _=>bu)
 obtain⟨V,hV⟩:∃ V,V=cut W b e:=⟨_,rfl⟩
 have hVl:V.length=e - b:=by rw[hV];exact Pl tG X2
 have hVm:∀ x∈V,x∈rows.map (·.c):=fun x hx=>by
   rw[hV] at hx;exact hWm x (acp (List.mem_of_mem_drop hx))
 have paR:Md t [gE,nD age,nD b,nD e] (.ret (.str (tx V))):=by
   refine⟨six,rows,wd,l',ls',1,age,b,e,rfl,Hi,ju,HW,⟨tG,by rw[<- hW];exact X2,by omega⟩,?_⟩;rw[hV,hW]
 have stR:zW t [dE,nD age,nD b,nD e] (.ret (t.rY six (cm six (yo rows V)))):=by
   rw[hV,hW];exact⟨six,rows,wd,l',ls',1,l,ls,1,age,b,e,rfl,dok,HW,⟨tG,by rw[<- hW];exact X2⟩,rfl⟩
 have wfV:WF six (cm six (yo rows V)):=LG six (by unfold yo;rw[k5];omega);refine ag (dl1:=D .aS .aS .aS .aS (.val (nD b)) (.val (nD e))) (KW 12 13 nd rfl (mL (Il (ns:=[bZ ns 9 % (((W.length:Nat):Int)+1),bZ ns 10 % (((W.length:Nat):Int)+1)]) (ns':=[((b:Nat):Int),((e:Nat):Int)]) T.xS (mL (rH (ae (eY (bW nv av hr (ae (aa 0 rfl) (ae aj ah)) ⟨ns,9,rfl,by decide,rfl⟩) (aO (gQ T.fD (aa 5 rfl) (by omega)) aj) (by omega)) (ae (eY (bW nv av hr (ae (aa 0 rfl) (ae aj ah)) ⟨ns,10,rfl,by decide,rfl⟩) (aO (gQ T.fD (aa 5 rfl) (by omega)) aj) (by omega)) ah)) AA3)) (show 2 < 64 by decide) X1 abr))) ?_;refine ag (aM (u:=false) (aP (t7 (x:=tx V) (y:=tx V) (aT (fs:=t.cz six rows wd l' ls' 1) (aa 6 rfl) Fc av hr (ae (aa 4 rfl) (ae (aa 12 rfl) (ae (aa 13 rfl) ah))) paR) (aK (DE (aa 5 rfl) (aa 12 rfl) (aa 13 rfl) tG X2 (by omega)) (by rw[hV]))) (by rw[decide_eq_true rfl];rfl)) (fun h=>nomatch h) (fun _=>bu)) ?_;exact ao (aG (VG hr.units (cu (fs:=t.lx six (cm six (yo rows V))) (rZ (aT (fs:=t.IL six rows wd l' ls' 1 l ls 1) (aa 7 rfl) Um av hr (ae (aa 4 rfl) (ae (aa 12 rfl) (ae (aa 13 rfl) ah))) stR)) Uq av hr ⟨six,_,rfl,wfV,wfV.rl,rfl⟩) (bW Hh av hr (ae (aa 1 rfl) (ae (aa 2 rfl) (ae (aK (DE (aa 5 rfl) (aa 12 rfl) (aa 13 rfl) tG X2 (by omega)) (by rw[hV])) ah))) ⟨six,rows,V,rfl,ok,hVm,by omega,rfl⟩) (yr _) (yr _) (eqR _)))
end Pf
end
theorem ww {p:List PySem.Value->Prop}(h:p []):∀ us:List PySem.Value,us.length=0->p us
 | [],_=>h
theorem Wp {p:List PySem.Value->Prop}{n:Nat}(h:∀ a us,us.length=n->p (a::us)):∀ us:List PySem.Value,us.length=n+1->p us
 | a::us,e=>h a us (Nat.succ.inj e)
namespace PySem.W.Fast
theorem tw3517640746097306395:True:=⟨⟩
theorem tw1714431690562013900:True:=⟨⟩
theorem tw701952449907956942:True:=⟨⟩
theorem tw5322157125924219819:True:=⟨⟩
theorem tw9705366248616992247:True:=⟨⟩
theorem tw8485810296599701723:True:=⟨⟩
theorem tw3159246176366136310:True:=⟨⟩
theorem tw13683864539334299918:True:=⟨⟩
theorem tw14701848610919852838:True:=⟨⟩
theorem tw15509644074821790545:True:=⟨⟩
theorem tw7522179073684600076:True:=⟨⟩
theorem tw9025484909311682083:True:=⟨⟩
theorem tw2571161071997821399:True:=⟨⟩
theorem tw16582759663576080624:True:=⟨⟩
theorem tw9709986822543527204:True:=⟨⟩
theorem tw11422434099911990155:True:=⟨⟩
theorem tw4505959409814488221:True:=⟨⟩
theorem tw12506903537367570203:True:=⟨⟩
theorem tw5883300809667522641:True:=⟨⟩
theorem tw16958921036638838961:True:=⟨⟩
theorem tw11759842489378044442:True:=⟨⟩
theorem tw9081904421827425444:True:=⟨⟩
theorem tw8119312629078628647:True:=⟨⟩
theorem tw4250985244222532010:True:=⟨⟩
theorem tw3657991990914171250:True:=⟨⟩
theorem tw17085050297734958141:True:=⟨⟩
theorem tw4762251231644790060:True:=⟨⟩
theorem tw11325619587585742020:True:=⟨⟩
theorem tw14114275064470024895:True:=⟨⟩
theorem tw6528889458319330437:True:=⟨⟩
theorem tw15063803974085108997:True:=⟨⟩
theorem tw286843013942471950:True:=⟨⟩
theorem tw4096483037105671505:True:=⟨⟩
theorem tw1061817422557925434:True:=⟨⟩
theorem tw9049417491127321135:True:=⟨⟩
theorem tw18432812793307735873:True:=⟨⟩
theorem tw12023226151604275512:True:=⟨⟩
theorem tw3993160350347001697:True:=⟨⟩
theorem tw1381954460860837134:True:=⟨⟩
theorem tw3116331123154955024:True:=⟨⟩
theorem tw16686209205240327471:True:=⟨⟩
theorem tw5349757069644053918:True:=⟨⟩
theorem tw13705199188980120606:True:=⟨⟩
theorem tw13774831017202711522:True:=⟨⟩
theorem tw6759539853738585789:True:=⟨⟩
theorem tw16355106518385780031:True:=⟨⟩
theorem tw5111795033780009166:True:=⟨⟩
theorem tw16118410567903664868:True:=⟨⟩
theorem tw4716248354458167842:True:=⟨⟩
theorem tw5384556980312287384:True:=⟨⟩
theorem tw11639572312663969465:True:=⟨⟩
theorem tw17452556366598122233:True:=⟨⟩
theorem tw8103372512281641233:True:=⟨⟩
theorem tw17442105753887596904:True:=⟨⟩
theorem tw18221690975004762744:True:=⟨⟩
theorem tw14110758461751057570:True:=⟨⟩
theorem tw4574070183177242308:True:=⟨⟩
theorem tw8381337049242608335:True:=⟨⟩
theorem tw13658140991447302826:True:=⟨⟩
theorem tw13024436812871374786:True:=⟨⟩
theorem tw3777377078655422567:True:=⟨⟩
theorem tw12764121520961768831:True:=⟨⟩
theorem tw14260281109433928439:True:=⟨⟩
theorem tw3245225247238832099:True:=⟨⟩
theorem tw10338253119148358118:True:=⟨⟩
theorem tw11046551180610561603:True:=⟨⟩
theorem tw7036220488477720414:True:=⟨⟩
theorem tw17193358329580832841:True:=⟨⟩
theorem tw9785748749812221447:True:=⟨⟩
theorem tw3640978507438275540:True:=⟨⟩
theorem tw14845099880839004800:True:=⟨⟩
theorem tw5098649975109157946:True:=⟨⟩
theorem tw1584386692290131995:True:=⟨⟩
theorem tw10102961533987719116:True:=⟨⟩
theorem tw2636939685249351642:True:=⟨⟩
theorem tw16074947107760514796:True:=⟨⟩
theorem tw17636428290656430363:True:=⟨⟩
theorem tw1393217798329568731:True:=⟨⟩
theorem tw2961539687120942040:True:=⟨⟩
theorem tw10983287724883838373:True:=⟨⟩
theorem tw1845579979428250965:True:=⟨⟩
theorem tw14834246155578840585:True:=⟨⟩
theorem tw6106007270315839873:True:=⟨⟩
theorem tw16407197794602541522:True:=⟨⟩
theorem tw16184212715477193583:True:=⟨⟩
theorem tw4708656708007929604:True:=⟨⟩
theorem tw6263789610808482576:True:=⟨⟩
theorem tw14607553737669747349:True:=⟨⟩
theorem tw9408679303899968837:True:=⟨⟩
theorem tw5693657210032033706:True:=⟨⟩
theorem tw8506143131898065932:True:=⟨⟩
theorem tw2462925287509167756:True:=⟨⟩
theorem tw17924229017745106517:True:=⟨⟩
theorem tw2762152304365381352:True:=⟨⟩
theorem tw16829754686735754887:True:=⟨⟩
theorem tw7509268790735404836:True:=⟨⟩
theorem tw4266598947949859646:True:=⟨⟩
theorem tw6920045861561599247:True:=⟨⟩
theorem tw17864138774619222115:True:=⟨⟩
theorem tw1757556103739931211:True:=⟨⟩
theorem tw303850230479440370:True:=⟨⟩
theorem tw4271832990300905381:True:=⟨⟩
theorem tw18437850624994966174:True:=⟨⟩
theorem tw2852799362449092982:True:=⟨⟩
theorem tw1292051007270291724:True:=⟨⟩
theorem tw8505516304211877421:True:=⟨⟩
theorem tw14835612873077667567:True:=⟨⟩
theorem tw4621167828747940843:True:=⟨⟩
theorem tw13275204876889390589:True:=⟨⟩
theorem tw5579079754375198269:True:=⟨⟩
theorem tw4045943648924472435:True:=⟨⟩
theorem tw10291262553246460258:True:=⟨⟩
theorem tw4709097278510567197:True:=⟨⟩
theorem tw10654119884242292748:True:=⟨⟩
theorem tw9727577064647643179:True:=⟨⟩
theorem tw17364837071979635949:True:=⟨⟩
theorem tw2105871597037109788:True:=⟨⟩
theorem tw1941930834170788437:True:=⟨⟩
theorem tw4040809292775474476:True:=⟨⟩
theorem tw6152096783594988304:True:=⟨⟩
theorem tw9311689094675402446:True:=⟨⟩
theorem tw7645297162182948796:True:=⟨⟩
theorem tw5518812657270136124:True:=⟨⟩
theorem tw16363982793062190454:True:=⟨⟩
theorem tw15861739902072499928:True:=⟨⟩
theorem tw15844059577892060218:True:=⟨⟩
theorem tw14238972735694089883:True:=⟨⟩
theorem tw7263617228513409012:True:=⟨⟩
theorem tw517581729337472569:True:=⟨⟩
theorem tw5997276881988869410:True:=⟨⟩
theorem tw18321927843137017485:True:=⟨⟩
theorem tw9077129156370992699:True:=⟨⟩
theorem tw11767783736411097382:True:=⟨⟩
theorem tw15103738086508636243:True:=⟨⟩
theorem tw18188886524004325939:True:=⟨⟩
theorem tw13346415222600270240:True:=⟨⟩
theorem tw7350951079100675618:True:=⟨⟩
theorem tw17108289516896865969:True:=⟨⟩
theorem tw2603696598040819349:True:=⟨⟩
theorem tw13565423406770879589:True:=⟨⟩
theorem tw15660277004923507052:True:=⟨⟩
theorem tw14758441563298574271:True:=⟨⟩
theorem tw10525421942522094233:True:=⟨⟩
theorem tw11144272388029712063:True:=⟨⟩
theorem tw12156492504718313565:True:=⟨⟩
theorem tw1653208122289492871:True:=⟨⟩
theorem tw9935820306042310067:True:=⟨⟩
theorem tw7565364389922265818:True:=⟨⟩
theorem tw4637109363886181824:True:=⟨⟩
theorem tw9187157312038787780:True:=⟨⟩
theorem tw14811618292718643132:True:=⟨⟩
theorem tw7616241323859682934:True:=⟨⟩
theorem tw2563934418247681934:True:=⟨⟩
theorem tw12759577463327491611:True:=⟨⟩
theorem tw4878218274602709325:True:=⟨⟩
theorem tw4666798798938747631:True:=⟨⟩
theorem tw3213950880223795773:True:=⟨⟩
theorem tw15206892887176813063:True:=⟨⟩
theorem tw7157990592433079797:True:=⟨⟩
theorem tw2075082764826639604:True:=⟨⟩
theorem tw7642343353659976839:True:=⟨⟩
theorem tw6235035355657344656:True:=⟨⟩
theorem tw12915804343824628627:True:=⟨⟩
theorem tw3509217472225817743:True:=⟨⟩
theorem tw18280546133299627450:True:=⟨⟩
theorem tw16762776224013807260:True:=⟨⟩
theorem tw4423559336154370088:True:=⟨⟩
theorem tw3711108845481322533:True:=⟨⟩
theorem tw4443608444757362081:True:=⟨⟩
theorem tw1320155760122234322:True:=⟨⟩
theorem tw10326706673527433577:True:=⟨⟩
theorem tw3346889630117829057:True:=⟨⟩
theorem tw3929698431847794389:True:=⟨⟩
theorem tw3839409688952281985:True:=⟨⟩
theorem tw14831674537565858767:True:=⟨⟩
theorem tw1420061560496127672:True:=⟨⟩
theorem tw7717523610416659100:True:=⟨⟩
theorem tw15583776201268510762:True:=⟨⟩
theorem tw8748127139491185083:True:=⟨⟩
theorem tw5616601990153773549:True:=⟨⟩
theorem tw13130163148248765930:True:=⟨⟩
theorem tw3167675147364217186:True:=⟨⟩
theorem tw9836377784774508099:True:=⟨⟩
theorem tw6114926817837751427:True:=⟨⟩
theorem tw3755201462095108102:True:=⟨⟩
theorem tw7602863302138015362:True:=⟨⟩
theorem tw5962020529121852818:True:=⟨⟩
theorem tw9396524201592155514:True:=⟨⟩
theorem tw9400712921461451825:True:=⟨⟩
theorem tw16799979433199993477:True:=⟨⟩
theorem tw12973228767657984019:True:=⟨⟩
theorem tw10992496877169692630:True:=⟨⟩
theorem tw6169678538451641750:True:=⟨⟩
theorem tw8424982408351948157:True:=⟨⟩
theorem tw2433057935153319562:True:=⟨⟩
theorem tw1840562611232905813:True:=⟨⟩
theorem tw18281702038723960773:True:=⟨⟩
theorem tw4434419730756314344:True:=⟨⟩
theorem tw14429492464425464359:True:=⟨⟩
theorem tw9608507099349305612:True:=⟨⟩
theorem tw8480330648313599559:True:=⟨⟩
theorem tw4831328025205124625:True:=⟨⟩
theorem tw9777339445088928808:True:=⟨⟩
theorem tw404982122898193973:True:=⟨⟩
theorem tw16549573309596614439:True:=⟨⟩
theorem tw12414958832409760099:True:=⟨⟩
theorem tw1262461930778825012:True:=⟨⟩
theorem tw12632700838369263794:True:=⟨⟩
theorem tw9390796493915843774:True:=⟨⟩
theorem tw9602327005900546524:True:=⟨⟩
theorem tw13271705775036169064:True:=⟨⟩
theorem tw8117648674670908916:True:=⟨⟩
theorem tw5128159896863704606:True:=⟨⟩
theorem tw1841218416701374019:True:=⟨⟩
theorem tw15282428324951727281:True:=⟨⟩
theorem tw5761207129107308630:True:=⟨⟩
theorem tw5693030265597783149:True:=⟨⟩
theorem tw5473486304373290577:True:=⟨⟩
theorem tw7322794901409525013:True:=⟨⟩
theorem tw8756002336960407449:True:=⟨⟩
theorem tw12493492608750780948:True:=⟨⟩
theorem tw13197575621071794795:True:=⟨⟩
theorem tw17305171502243002550:True:=⟨⟩
theorem tw13758271105180141216:True:=⟨⟩
theorem tw10420922324581727992:True:=⟨⟩
theorem tw6751560886835682359:True:=⟨⟩
theorem tw5172190269908011510:True:=⟨⟩
theorem tw16850926407749476645:True:=⟨⟩
theorem tw12072515412310143490:True:=⟨⟩
theorem tw10256156847578697742:True:=⟨⟩
theorem tw6911229174410843445:True:=⟨⟩
theorem tw2547289132977767476:True:=⟨⟩
theorem tw16955500760445922856:True:=⟨⟩
theorem tw10193212756266593560:True:=⟨⟩
theorem tw3421856608320482082:True:=⟨⟩
theorem tw3037312702287598550:True:=⟨⟩
theorem tw12256364677924165126:True:=⟨⟩
theorem tw2560886151427881161:True:=⟨⟩
theorem tw16773010522659024611:True:=⟨⟩
theorem tw18362761716713077154:True:=⟨⟩
theorem tw10537391291653393029:True:=⟨⟩
theorem tw8692738054291287504:True:=⟨⟩
theorem tw3798641963048207035:True:=⟨⟩
theorem tw3523984742115423097:True:=⟨⟩
theorem tw16467088722585705369:True:=⟨⟩
theorem tw2520612331419804692:True:=⟨⟩
theorem tw18283156207624685863:True:=⟨⟩
theorem tw13102005843453139888:True:=⟨⟩
theorem tw6908739574256770855:True:=⟨⟩
theorem tw2412766602083725180:True:=⟨⟩
theorem tw2164921244383112667:True:=⟨⟩
theorem tw14605821948123717519:True:=⟨⟩
theorem tw3685257248347451279:True:=⟨⟩
theorem tw4096157608140304541:True:=⟨⟩
theorem tw15292796430724716268:True:=⟨⟩
theorem tw7807916641219592344:True:=⟨⟩
theorem tw9383048956336108138:True:=⟨⟩
theorem tw15522556602786536390:True:=⟨⟩
theorem tw3080079385840344838:True:=⟨⟩
theorem tw6272322119426436521:True:=⟨⟩
theorem tw4068333846258166102:True:=⟨⟩
theorem tw14193177307681892992:True:=⟨⟩
theorem tw12234980843816229318:True:=⟨⟩
theorem tw2531854932445526914:True:=⟨⟩
theorem tw8044700356794771121:True:=⟨⟩
theorem tw13309495346238282331:True:=⟨⟩
theorem tw16023828232244218410:True:=⟨⟩
theorem tw5943515237589091792:True:=⟨⟩
theorem tw1786128261224473901:True:=⟨⟩
theorem tw13863317840205989138:True:=⟨⟩
theorem tw2929765865901256278:True:=⟨⟩
theorem tw3355467606781364248:True:=⟨⟩
theorem tw6540063343349962829:True:=⟨⟩
theorem tw1365723016620140819:True:=⟨⟩
theorem tw654939443505402387:True:=⟨⟩
theorem tw12284409791028013639:True:=⟨⟩
theorem tw1935885335975395975:True:=⟨⟩
theorem tw438709395273192759:True:=⟨⟩
theorem tw4696139358611906699:True:=⟨⟩
theorem tw7778927164444139562:True:=⟨⟩
theorem tw17254487508830836697:True:=⟨⟩
theorem tw756347558237637298:True:=⟨⟩
theorem tw7400350242669830596:True:=⟨⟩
theorem tw12828861820183368388:True:=⟨⟩
theorem tw8437172709085683458:True:=⟨⟩
theorem tw5337944183336164953:True:=⟨⟩
theorem tw9109344113742125713:True:=⟨⟩
theorem tw16831639949279555647:True:=⟨⟩
theorem tw7173483165833051046:True:=⟨⟩
theorem tw8053773507255569295:True:=⟨⟩
theorem tw5876515048208888712:True:=⟨⟩
theorem tw15996135606978780861:True:=⟨⟩
theorem tw9161108015616345299:True:=⟨⟩
theorem tw8145538756866718105:True:=⟨⟩
theorem tw12506942419250855281:True:=⟨⟩
theorem tw15462816607162331842:True:=⟨⟩
theorem tw3001291228753199766:True:=⟨⟩
theorem tw4816852981423464007:True:=⟨⟩
theorem tw17789928099457136393:True:=⟨⟩
theorem tw7843819504328451299:True:=⟨⟩
theorem tw10054257765539782066:True:=⟨⟩
theorem tw14802170691923791547:True:=⟨⟩
theorem tw14763971891659596706:True:=⟨⟩
theorem tw3180540119673928174:True:=⟨⟩
theorem tw9465851261462407098:True:=⟨⟩
theorem tw6954460870545623631:True:=⟨⟩
theorem tw9239026575576732212:True:=⟨⟩
theorem tw7025624167400524416:True:=⟨⟩
theorem tw5723414396021377856:True:=⟨⟩
theorem tw13933465802981521628:True:=⟨⟩
theorem tw8903027239959756701:True:=⟨⟩
theorem tw11267025026881642240:True:=⟨⟩
theorem tw9809267133125181073:True:=⟨⟩
theorem tw14431446629625357305:True:=⟨⟩
theorem tw2398438150498732562:True:=⟨⟩
theorem tw7472248771690337924:True:=⟨⟩
theorem tw15030615784246612063:True:=⟨⟩
theorem tw6325848521916581993:True:=⟨⟩
theorem tw8551891937592632044:True:=⟨⟩
theorem tw3909287738833561565:True:=⟨⟩
theorem tw4530337731869342494:True:=⟨⟩
theorem tw9555777338256006858:True:=⟨⟩
theorem tw17880446866250694302:True:=⟨⟩
theorem tw2136790735058854868:True:=⟨⟩
theorem tw898834587433102808:True:=⟨⟩
theorem tw3453563662403234484:True:=⟨⟩
theorem tw10608113111766851658:True:=⟨⟩
theorem tw5118708759442240781:True:=⟨⟩
theorem tw12827221573738337797:True:=⟨⟩
theorem tw6807934637928305255:True:=⟨⟩
theorem tw17569181430401222960:True:=⟨⟩
theorem tw440024007940615402:True:=⟨⟩
theorem tw17046698840722219698:True:=⟨⟩
theorem tw15458201383859013531:True:=⟨⟩
theorem tw3284888080163637228:True:=⟨⟩
theorem tw2257495674110553353:True:=⟨⟩
theorem tw6582032629838405146:True:=⟨⟩
theorem tw7813522444217839322:True:=⟨⟩
theorem tw11071785785976772646:True:=⟨⟩
theorem tw3735382693777220023:True:=⟨⟩
theorem tw5870670604802115642:True:=⟨⟩
theorem tw809531665007729285:True:=⟨⟩
theorem tw11278625960161789513:True:=⟨⟩
theorem tw14387033080750409051:True:=⟨⟩
theorem tw13958795436508637648:True:=⟨⟩
theorem tw1412958200261338021:True:=⟨⟩
theorem tw11356151678649296578:True:=⟨⟩
theorem tw6068233619818477862:True:=⟨⟩
theorem tw11087574648811027124:True:=⟨⟩
theorem tw8537611659265401:True:=⟨⟩
theorem tw1477592408445119376:True:=⟨⟩
theorem tw5059295433672342395:True:=⟨⟩
theorem tw14589904244201785766:True:=⟨⟩
theorem tw8551417869951002268:True:=⟨⟩
theorem tw13475560675588881468:True:=⟨⟩
theorem tw7194725822161603240:True:=⟨⟩
theorem tw14360114340510052688:True:=⟨⟩
theorem tw12133993516964374051:True:=⟨⟩
theorem tw215124049532805074:True:=⟨⟩
theorem tw13307700597484949262:True:=⟨⟩
theorem tw15991276256826123325:True:=⟨⟩
theorem tw15702791105200395417:True:=⟨⟩
theorem tw15339396762086189937:True:=⟨⟩
theorem tw8961299638031172274:True:=⟨⟩
theorem tw12118234206359475528:True:=⟨⟩
theorem tw15127893987368018640:True:=⟨⟩
theorem tw3283673791134358382:True:=⟨⟩
theorem tw7346648118006883646:True:=⟨⟩
theorem tw8151788200604755792:True:=⟨⟩
theorem tw17678021545549873941:True:=⟨⟩
theorem tw3724061531967387212:True:=⟨⟩
theorem tw9154793410636237611:True:=⟨⟩
theorem tw16128873730155260985:True:=⟨⟩
theorem tw2111370956144804301:True:=⟨⟩
theorem tw3186922959421363583:True:=⟨⟩
theorem tw17706691127958527171:True:=⟨⟩
theorem tw17206517324327662850:True:=⟨⟩
theorem tw7323511534788502873:True:=⟨⟩
theorem tw1245367072342430318:True:=⟨⟩
theorem tw12983957690127730867:True:=⟨⟩
theorem tw6242849392808173133:True:=⟨⟩
theorem tw16507293257845073992:True:=⟨⟩
theorem tw719435305634739124:True:=⟨⟩
theorem tw15858443646270755724:True:=⟨⟩
theorem tw5700668577304772626:True:=⟨⟩
theorem tw1847148680524250047:True:=⟨⟩
theorem tw16499600743732837435:True:=⟨⟩
theorem tw9269736537719326853:True:=⟨⟩
theorem tw12422163932311700936:True:=⟨⟩
theorem tw15030179335213745280:True:=⟨⟩
theorem tw3186405914607133967:True:=⟨⟩
theorem tw8863773671914466955:True:=⟨⟩
theorem tw9186606206265736454:True:=⟨⟩
theorem tw11399597556648331065:True:=⟨⟩
theorem tw3673476443384244812:True:=⟨⟩
theorem tw4049298310015666802:True:=⟨⟩
theorem tw1855777643892739589:True:=⟨⟩
theorem tw3686171885799987194:True:=⟨⟩
theorem tw1848082701917121125:True:=⟨⟩
theorem tw16334887681550312933:True:=⟨⟩
theorem tw7681398850727152498:True:=⟨⟩
theorem tw12922911769669032217:True:=⟨⟩
theorem tw13650464680108724505:True:=⟨⟩
theorem tw14821859332354867048:True:=⟨⟩
theorem tw4279472648128835922:True:=⟨⟩
theorem tw15460296851173195365:True:=⟨⟩
theorem tw1046546892414259985:True:=⟨⟩
theorem tw14154217026858613645:True:=⟨⟩
theorem tw3372062991811842074:True:=⟨⟩
theorem tw5764252365208828152:True:=⟨⟩
theorem tw1693012045681263466:True:=⟨⟩
theorem tw11112201191435910699:True:=⟨⟩
theorem tw1166897067338663348:True:=⟨⟩
theorem tw13367196534739044008:True:=⟨⟩
theorem tw15453699739994253027:True:=⟨⟩
theorem tw16087401719545756614:True:=⟨⟩
theorem tw10167986988423579926:True:=⟨⟩
theorem tw16328746781662565719:True:=⟨⟩
theorem tw18418824819293446267:True:=⟨⟩
theorem tw2394058444592744736:True:=⟨⟩
theorem tw15517846012741399598:True:=⟨⟩
theorem tw2578681872192186695:True:=⟨⟩
theorem tw9696846590523982389:True:=⟨⟩
theorem tw8076595428166858951:True:=⟨⟩
theorem tw17739343786673810627:True:=⟨⟩
theorem tw10781180676405368774:True:=⟨⟩
theorem tw4181534688872670114:True:=⟨⟩
theorem tw3259436897448298732:True:=⟨⟩
theorem tw17778105496915512782:True:=⟨⟩
theorem tw2980079664240336551:True:=⟨⟩
theorem tw17081588451929021894:True:=⟨⟩
theorem tw3986013401915114200:True:=⟨⟩
theorem tw3259836191573015901:True:=⟨⟩
theorem tw6256700155063978861:True:=⟨⟩
theorem tw6992472957694591908:True:=⟨⟩
theorem tw13475486779501855275:True:=⟨⟩
theorem tw6389902876699427768:True:=⟨⟩
theorem tw17355920238277045058:True:=⟨⟩
theorem tw1289060270749463347:True:=⟨⟩
theorem tw14904478437310431866:True:=⟨⟩
theorem tw511986665590744170:True:=⟨⟩
theorem tw15282525995800530996:True:=⟨⟩
theorem tw7888996724411588701:True:=⟨⟩
theorem tw12107733069322236538:True:=⟨⟩
theorem tw12182706811924289354:True:=⟨⟩
theorem tw12991598703183404480:True:=⟨⟩
theorem tw8585358630420550987:True:=⟨⟩
theorem tw13106148967706456631:True:=⟨⟩
theorem tw10399625442769778875:True:=⟨⟩
theorem tw11733231017488699099:True:=⟨⟩
theorem tw13412132187881082680:True:=⟨⟩
theorem tw14933111945377344988:True:=⟨⟩
theorem tw2412876230604782867:True:=⟨⟩
theorem tw3965179669993889409:True:=⟨⟩
theorem tw5249410479844687732:True:=⟨⟩
theorem tw8010018080779373762:True:=⟨⟩
theorem tw7956764140133935914:True:=⟨⟩
theorem tw8620107699531485371:True:=⟨⟩
theorem tw9684846383839404983:True:=⟨⟩
theorem tw6224660533341264921:True:=⟨⟩
theorem tw239167675672940541:True:=⟨⟩
theorem tw14448056094349678938:True:=⟨⟩
theorem tw15590009363235277272:True:=⟨⟩
theorem tw12068116404569872687:True:=⟨⟩
theorem tw10691244938022715930:True:=⟨⟩
theorem tw3376089121259180825:True:=⟨⟩
theorem tw14092637838219078995:True:=⟨⟩
theorem tw1031770576173748450:True:=⟨⟩
theorem tw8487561682763072531:True:=⟨⟩
theorem tw6178839821131978667:True:=⟨⟩
theorem tw16087439073079168052:True:=⟨⟩
theorem tw5724977325963980734:True:=⟨⟩
theorem tw14746468311157894110:True:=⟨⟩
theorem tw2403420521227565466:True:=⟨⟩
theorem tw8482368918693302043:True:=⟨⟩
theorem tw616665989582083737:True:=⟨⟩
theorem tw3774667370621848781:True:=⟨⟩
theorem tw5261959392720418622:True:=⟨⟩
theorem tw5640662353219874941:True:=⟨⟩
theorem tw3836494720748860947:True:=⟨⟩
theorem tw368168743324991953:True:=⟨⟩
theorem tw4996523478363487527:True:=⟨⟩
theorem tw13522506394840185552:True:=⟨⟩
theorem tw14927146743734747249:True:=⟨⟩
theorem tw17321988815286366340:True:=⟨⟩
theorem tw17122100029193495650:True:=⟨⟩
theorem tw9294952485785447548:True:=⟨⟩
theorem tw11163514753714668854:True:=⟨⟩
theorem tw5303242984293843499:True:=⟨⟩
theorem tw2242678468939080724:True:=⟨⟩
theorem tw3750277839411194535:True:=⟨⟩
theorem tw918626196014556284:True:=⟨⟩
theorem tw18215476323900022080:True:=⟨⟩
theorem tw7118855771744810452:True:=⟨⟩
theorem tw13653241742791190441:True:=⟨⟩
theorem tw12434615548467430168:True:=⟨⟩
theorem tw10003765791955003544:True:=⟨⟩
theorem tw5911369202733122665:True:=⟨⟩
theorem tw5772015396453812157:True:=⟨⟩
theorem tw1019710769064503550:True:=⟨⟩
theorem tw8482712081982801933:True:=⟨⟩
theorem tw15567131328522000768:True:=⟨⟩
theorem tw15673210704122098710:True:=⟨⟩
theorem tw8028857706349664798:True:=⟨⟩
theorem tw1550345286460098594:True:=⟨⟩
theorem tw15993310088578184580:True:=⟨⟩
theorem tw7157602401909999081:True:=⟨⟩
theorem tw515556264230619162:True:=⟨⟩
theorem tw12024936202650301681:True:=⟨⟩
theorem tw10780585615015922271:True:=⟨⟩
theorem tw12406366750668074950:True:=⟨⟩
theorem tw14652062950497410049:True:=⟨⟩
theorem tw942227627209199340:True:=⟨⟩
theorem tw14231031657635000059:True:=⟨⟩
theorem tw590293823418887384:True:=⟨⟩
theorem tw6303845237772331418:True:=⟨⟩
theorem tw13345457342271749658:True:=⟨⟩
theorem tw3019324979337678457:True:=⟨⟩
theorem tw13845880871964087926:True:=⟨⟩
theorem tw9366882877306991628:True:=⟨⟩
theorem tw4451348378050358640:True:=⟨⟩
theorem tw14337847060646287332:True:=⟨⟩
theorem tw17355614489588893086:True:=⟨⟩
theorem tw17016274200200603032:True:=⟨⟩
theorem tw6751357709114108787:True:=⟨⟩
theorem tw5830173081401409597:True:=⟨⟩
theorem tw12503279186588116027:True:=⟨⟩
theorem tw5579463057732460403:True:=⟨⟩
theorem tw13884770403054511660:True:=⟨⟩
theorem tw13128973463855012611:True:=⟨⟩
theorem tw1392079482389402685:True:=⟨⟩
theorem tw6550927537236381607:True:=⟨⟩
theorem tw7853338706400990040:True:=⟨⟩
theorem tw6674877394455069096:True:=⟨⟩
theorem tw11772599960450396316:True:=⟨⟩
theorem tw14045152318962416379:True:=⟨⟩
theorem tw6830754649859167609:True:=⟨⟩
theorem tw17061008331941704405:True:=⟨⟩
theorem tw6197544239271914983:True:=⟨⟩
theorem tw17753902400786071959:True:=⟨⟩
theorem tw17191315005618723275:True:=⟨⟩
theorem tw7864589356543711262:True:=⟨⟩
theorem tw8980879849673972152:True:=⟨⟩
theorem tw15508503665315218488:True:=⟨⟩
theorem tw10256792173480665106:True:=⟨⟩
theorem tw8022324144509897411:True:=⟨⟩
theorem tw17782757108435944777:True:=⟨⟩
theorem tw3564720462577656093:True:=⟨⟩
theorem tw12876264656738254522:True:=⟨⟩
theorem tw13235414208586307638:True:=⟨⟩
theorem tw7230578492965466588:True:=⟨⟩
theorem tw14959117695276365287:True:=⟨⟩
theorem tw17873717032050501677:True:=⟨⟩
theorem tw12644338822166247813:True:=⟨⟩
theorem tw1006921933117547809:True:=⟨⟩
theorem tw18373182700388198253:True:=⟨⟩
theorem tw16618020496584372050:True:=⟨⟩
theorem tw9160975570651671442:True:=⟨⟩
theorem tw13042128292836971889:True:=⟨⟩
theorem tw4486676447876034765:True:=⟨⟩
theorem tw14714080212359409542:True:=⟨⟩
theorem tw128790889043451697:True:=⟨⟩
theorem tw12289046412371692033:True:=⟨⟩
theorem tw2765781081494555268:True:=⟨⟩
theorem tw12427219384071827519:True:=⟨⟩
theorem tw15528603022419131009:True:=⟨⟩
theorem tw10380662371660553014:True:=⟨⟩
theorem tw16811952756006872921:True:=⟨⟩
theorem tw16412173859373838356:True:=⟨⟩
theorem tw16308514545572545264:True:=⟨⟩
theorem tw18199241141112609702:True:=⟨⟩
theorem tw14665838681577821851:True:=⟨⟩
theorem tw10089042316326994850:True:=⟨⟩
theorem tw15219582325233764445:True:=⟨⟩
theorem tw1062689912422307459:True:=⟨⟩
theorem tw4568422436456073778:True:=⟨⟩
theorem tw3975237312266722662:True:=⟨⟩
theorem tw266197113223317862:True:=⟨⟩
theorem tw8705399869644528934:True:=⟨⟩
theorem tw12934592488882290288:True:=⟨⟩
theorem tw2644972689936371844:True:=⟨⟩
theorem tw12991110336965375696:True:=⟨⟩
theorem tw8533324617367837733:True:=⟨⟩
theorem tw4027329783089005877:True:=⟨⟩
theorem tw1191502702408451801:True:=⟨⟩
theorem tw11449725486697735439:True:=⟨⟩
theorem tw4019244584234505379:True:=⟨⟩
theorem tw3113103301421561254:True:=⟨⟩
theorem tw2001158518428743270:True:=⟨⟩
theorem tw15212545772597796866:True:=⟨⟩
theorem tw8690171245858675451:True:=⟨⟩
theorem tw13739618257692459422:True:=⟨⟩
theorem tw12316363078815849876:True:=⟨⟩
theorem tw7538924421245540405:True:=⟨⟩
theorem tw3146277841281875988:True:=⟨⟩
theorem tw5630523070183665860:True:=⟨⟩
theorem tw8827700867738908877:True:=⟨⟩
theorem tw16862071675085031238:True:=⟨⟩
theorem tw10001463321759222422:True:=⟨⟩
theorem tw9793425628173032926:True:=⟨⟩
theorem tw1510800924773987382:True:=⟨⟩
theorem tw14499761774425756004:True:=⟨⟩
theorem tw4707100119495407372:True:=⟨⟩
theorem tw2782685592614828344:True:=⟨⟩
theorem tw6899280907511124979:True:=⟨⟩
theorem tw3032576068779189604:True:=⟨⟩
theorem tw13248546576745553525:True:=⟨⟩
theorem tw3361059088194526674:True:=⟨⟩
theorem tw8338075870416717599:True:=⟨⟩
theorem tw14588263815341833189:True:=⟨⟩
theorem tw12621427396780018564:True:=⟨⟩
theorem tw7494320573315495972:True:=⟨⟩
theorem tw8714519837336550611:True:=⟨⟩
theorem tw18334264390353084260:True:=⟨⟩
theorem tw12161188163878059992:True:=⟨⟩
theorem tw4534453148197330197:True:=⟨⟩
theorem tw18169157939254794028:True:=⟨⟩
theorem tw8520480015527475703:True:=⟨⟩
theorem tw14392106034973961908:True:=⟨⟩
theorem tw14632623199684142335:True:=⟨⟩
theorem tw7861316096016216563:True:=⟨⟩
theorem tw3439239406714271242:True:=⟨⟩
theorem tw5722501746773435414:True:=⟨⟩
theorem tw5876908448686413383:True:=⟨⟩
theorem tw1181743914328403830:True:=⟨⟩
theorem tw15190161759117337414:True:=⟨⟩
theorem tw10217749609097883783:True:=⟨⟩
theorem tw11148749124453412933:True:=⟨⟩
theorem tw6661047206237212980:True:=⟨⟩
theorem tw7209993234300171553:True:=⟨⟩
theorem tw9995769096315368274:True:=⟨⟩
theorem tw3393430113010252964:True:=⟨⟩
theorem tw11458173297286492617:True:=⟨⟩
theorem tw2809793514429902698:True:=⟨⟩
theorem tw11651290639315742335:True:=⟨⟩
theorem tw5186475281024023377:True:=⟨⟩
theorem tw4225457651608151794:True:=⟨⟩
theorem tw4061363786169241869:True:=⟨⟩
theorem tw41775042862657999:True:=⟨⟩
theorem tw2419079243855508940:True:=⟨⟩
theorem tw11782426444255973421:True:=⟨⟩
theorem tw15733386367867436517:True:=⟨⟩
theorem tw2063919264863245407:True:=⟨⟩
theorem tw1563750868784182685:True:=⟨⟩
theorem tw187327801120597256:True:=⟨⟩
theorem tw4021945595303382811:True:=⟨⟩
theorem tw7881898468772670420:True:=⟨⟩
theorem tw11975180769891080019:True:=⟨⟩
theorem tw8411534340130153744:True:=⟨⟩
theorem tw12130963729851363213:True:=⟨⟩
theorem tw11875508901395289864:True:=⟨⟩
theorem tw6685368719896119316:True:=⟨⟩
theorem tw6319234922495059897:True:=⟨⟩
theorem tw7824162004999156898:True:=⟨⟩
theorem tw16394035121619285059:True:=⟨⟩
theorem tw1058633467516246143:True:=⟨⟩
theorem tw4143676469513158252:True:=⟨⟩
theorem tw10919881326242666586:True:=⟨⟩
theorem tw12559524024471893425:True:=⟨⟩
theorem tw10841545326017374479:True:=⟨⟩
theorem tw10004371168808107914:True:=⟨⟩
theorem tw3480021556178101731:True:=⟨⟩
theorem tw15250051558995932752:True:=⟨⟩
theorem tw9232726698770926952:True:=⟨⟩
theorem tw17560719164925884093:True:=⟨⟩
theorem tw17138321206459565231:True:=⟨⟩
theorem tw12211762800179743679:True:=⟨⟩
theorem tw7259288648034387077:True:=⟨⟩
theorem tw6854193689488879715:True:=⟨⟩
theorem tw6711689865891154341:True:=⟨⟩
theorem tw15023168216137154557:True:=⟨⟩
theorem tw11277949303627394827:True:=⟨⟩
theorem tw12151950079180261963:True:=⟨⟩
theorem tw11218697654566393969:True:=⟨⟩
theorem tw1602722078802333618:True:=⟨⟩
theorem tw7157338999538247626:True:=⟨⟩
theorem tw11898285607259252638:True:=⟨⟩
theorem tw1775846456494074822:True:=⟨⟩
theorem tw11318244415406210339:True:=⟨⟩
theorem tw11404141843159834139:True:=⟨⟩
theorem tw15543059243458335082:True:=⟨⟩
theorem tw12678286535447005425:True:=⟨⟩
theorem tw9555350419123522994:True:=⟨⟩
theorem tw11216404251933018017:True:=⟨⟩
theorem tw1949421705264400062:True:=⟨⟩
theorem tw17160322944076511401:True:=⟨⟩
theorem tw10389451796418500591:True:=⟨⟩
theorem tw1716754577699724576:True:=⟨⟩
theorem tw494805759586577048:True:=⟨⟩
theorem tw7344231203148828064:True:=⟨⟩
theorem tw12639644731914121116:True:=⟨⟩
theorem tw8982238708989168363:True:=⟨⟩
theorem tw5440718835393386352:True:=⟨⟩
theorem tw12955672806648894581:True:=⟨⟩
theorem tw1413527401228432714:True:=⟨⟩
theorem tw1247397086477297363:True:=⟨⟩
theorem tw7486538357121391183:True:=⟨⟩
theorem tw7668803736585659504:True:=⟨⟩
theorem tw7104699770674285126:True:=⟨⟩
theorem tw17756760206960455355:True:=⟨⟩
theorem tw2160734556717513798:True:=⟨⟩
theorem tw11205017259842376717:True:=⟨⟩
theorem tw13357606365354931075:True:=⟨⟩
theorem tw3350529256129491137:True:=⟨⟩
theorem tw13920641009198043640:True:=⟨⟩
theorem tw1911167564854154765:True:=⟨⟩
theorem tw15498469176335296589:True:=⟨⟩
theorem tw6712015047925210127:True:=⟨⟩
theorem tw7243531756914463291:True:=⟨⟩
theorem tw296112562708176780:True:=⟨⟩
theorem tw5152250843905047109:True:=⟨⟩
theorem tw5476058724813096151:True:=⟨⟩
theorem tw8370179215723341563:True:=⟨⟩
theorem tw4347049746116332682:True:=⟨⟩
theorem tw14515472147964495107:True:=⟨⟩
theorem tw15797843086280316294:True:=⟨⟩
theorem tw11329502405019662794:True:=⟨⟩
theorem tw13260603849042055673:True:=⟨⟩
theorem tw15450352760013269559:True:=⟨⟩
theorem tw8199144070934473807:True:=⟨⟩
theorem tw15601633014187480432:True:=⟨⟩
theorem tw15002151350878023958:True:=⟨⟩
theorem tw2847319830430601961:True:=⟨⟩
theorem tw10576668634955908059:True:=⟨⟩
theorem tw12629037202944150596:True:=⟨⟩
theorem tw14062683735948740510:True:=⟨⟩
theorem tw4846536909868279878:True:=⟨⟩
theorem tw18094046905178999344:True:=⟨⟩
theorem tw17252980731400740614:True:=⟨⟩
theorem tw594690039349386564:True:=⟨⟩
theorem tw985801130710400418:True:=⟨⟩
theorem tw13437237812029084828:True:=⟨⟩
theorem tw6791438529434883475:True:=⟨⟩
theorem tw6727496413191001816:True:=⟨⟩
theorem tw449799731472018126:True:=⟨⟩
theorem tw300989989579267911:True:=⟨⟩
theorem tw16555559376512506040:True:=⟨⟩
theorem tw9682093729682159816:True:=⟨⟩
theorem tw14003811451949847459:True:=⟨⟩
theorem tw274213279699202053:True:=⟨⟩
theorem tw8740413666421486216:True:=⟨⟩
theorem tw175063771792637717:True:=⟨⟩
theorem tw18384168769103913444:True:=⟨⟩
theorem tw1368714439267404071:True:=⟨⟩
theorem tw16773191847447712455:True:=⟨⟩
theorem tw13938660854698390501:True:=⟨⟩
theorem tw2727441324457654566:True:=⟨⟩
theorem tw7634957495255256456:True:=⟨⟩
theorem tw7519194741173171935:True:=⟨⟩
theorem tw3181514299437941710:True:=⟨⟩
theorem tw15151891174288662720:True:=⟨⟩
theorem tw8952413054975537277:True:=⟨⟩
theorem tw3172711768231163534:True:=⟨⟩
theorem tw2367524421449805672:True:=⟨⟩
theorem tw17608706493051237449:True:=⟨⟩
theorem tw10047898937179450626:True:=⟨⟩
theorem tw17338931716565668969:True:=⟨⟩
theorem tw13285982486009862016:True:=⟨⟩
theorem tw6453348092558789304:True:=⟨⟩
theorem tw1831069926505129277:True:=⟨⟩
theorem tw18138974172250637702:True:=⟨⟩
theorem tw8794499732074715608:True:=⟨⟩
theorem tw4126892078308179756:True:=⟨⟩
theorem tw13002526712003838745:True:=⟨⟩
theorem tw16006436481062084948:True:=⟨⟩
theorem tw17594857003456749481:True:=⟨⟩
theorem tw18304801285772140129:True:=⟨⟩
theorem tw2421954326757747676:True:=⟨⟩
theorem tw15382140176433630600:True:=⟨⟩
theorem tw482960276857189881:True:=⟨⟩
theorem tw6219637950931669580:True:=⟨⟩
theorem tw14536286993468046985:True:=⟨⟩
theorem tw12235639666687058781:True:=⟨⟩
theorem tw128487165328668436:True:=⟨⟩
theorem tw5032373502005407076:True:=⟨⟩
theorem tw1262984671966833593:True:=⟨⟩
theorem tw1642204744490967958:True:=⟨⟩
theorem tw10348843760174932079:True:=⟨⟩
theorem tw9374854673862549167:True:=⟨⟩
theorem tw4102449562709089087:True:=⟨⟩
theorem tw7061870989789766009:True:=⟨⟩
theorem tw10423663769155614690:True:=⟨⟩
theorem tw17124619502516068312:True:=⟨⟩
theorem tw5184069454914602916:True:=⟨⟩
theorem tw1036721882129063705:True:=⟨⟩
theorem tw3585777750602940186:True:=⟨⟩
theorem tw7953475517325682406:True:=⟨⟩
theorem tw14862517599107887639:True:=⟨⟩
theorem tw347651152668780666:True:=⟨⟩
theorem tw5244134889769547787:True:=⟨⟩
theorem tw6654459412088650608:True:=⟨⟩
theorem tw10667882774657428593:True:=⟨⟩
theorem tw374411853547944209:True:=⟨⟩
theorem tw11006373119272551099:True:=⟨⟩
theorem tw18178101156754264786:True:=⟨⟩
theorem tw10155507778795005516:True:=⟨⟩
theorem tw1604160712671322778:True:=⟨⟩
theorem tw11184621989232293623:True:=⟨⟩
theorem tw3596039214368193840:True:=⟨⟩
theorem tw9521498637159537221:True:=⟨⟩
theorem tw7309564237789264776:True:=⟨⟩
theorem tw17337043607613754500:True:=⟨⟩
theorem tw9364961869314740347:True:=⟨⟩
theorem tw8358589731699451635:True:=⟨⟩
theorem tw9132239085585100859:True:=⟨⟩
theorem tw9038607603100740374:True:=⟨⟩
theorem tw7073109974046725411:True:=⟨⟩
theorem tw7295792178033038029:True:=⟨⟩
theorem tw7911780255095190426:True:=⟨⟩
theorem tw16224941877698640401:True:=⟨⟩
theorem tw1346753670468052285:True:=⟨⟩
theorem tw17297886881400624750:True:=⟨⟩
theorem tw6616328869095692053:True:=⟨⟩
theorem tw7357646663642732074:True:=⟨⟩
theorem tw12247011377640872095:True:=⟨⟩
theorem tw3849937332076955485:True:=⟨⟩
theorem tw3250627789522247027:True:=⟨⟩
theorem tw7418362974252936897:True:=⟨⟩
theorem tw16343461106498869542:True:=⟨⟩
theorem tw16969957054573112235:True:=⟨⟩
theorem tw921330665171080140:True:=⟨⟩
theorem tw14653575276342607374:True:=⟨⟩
theorem tw2360280667266422619:True:=⟨⟩
theorem tw6435536915921175650:True:=⟨⟩
theorem tw17646793812057514340:True:=⟨⟩
theorem tw8627821771256271726:True:=⟨⟩
theorem tw4400855179620664789:True:=⟨⟩
theorem tw18047537375932465342:True:=⟨⟩
theorem tw17529367449431351304:True:=⟨⟩
theorem tw15728145751053657915:True:=⟨⟩
theorem tw8644531756943434936:True:=⟨⟩
theorem tw18142198608700980605:True:=⟨⟩
theorem tw848237949890775769:True:=⟨⟩
theorem tw10779126845537671979:True:=⟨⟩
theorem tw12555349533972560492:True:=⟨⟩
theorem tw13928013334082216962:True:=⟨⟩
theorem tw13842417322542526600:True:=⟨⟩
theorem tw2835876365448523463:True:=⟨⟩
theorem tw5844905525375336382:True:=⟨⟩
theorem tw9889015972087320534:True:=⟨⟩
theorem tw12415918865127709105:True:=⟨⟩
theorem tw15863822259208341601:True:=⟨⟩
theorem tw6374489573201334222:True:=⟨⟩
theorem tw11692278547022367399:True:=⟨⟩
theorem tw9078421843970123368:True:=⟨⟩
theorem tw223341691508942102:True:=⟨⟩
theorem tw18422930125780476653:True:=⟨⟩
theorem tw13755522456243587454:True:=⟨⟩
theorem tw13501670510435771002:True:=⟨⟩
theorem tw11141979300145960565:True:=⟨⟩
theorem tw8441852277578015779:True:=⟨⟩
theorem tw9723007350761326833:True:=⟨⟩
theorem tw15190458748206321638:True:=⟨⟩
theorem tw3899607869641488948:True:=⟨⟩
theorem tw87347138397476847:True:=⟨⟩
theorem tw35419014632702326:True:=⟨⟩
theorem tw2763593813566169616:True:=⟨⟩
theorem tw4340304940232812653:True:=⟨⟩
theorem tw11914494112681515637:True:=⟨⟩
theorem tw9371659127111867950:True:=⟨⟩
theorem tw12395748620832862803:True:=⟨⟩
theorem tw12345056330990598422:True:=⟨⟩
theorem tw336938316272244819:True:=⟨⟩
theorem tw15221345296812046567:True:=⟨⟩
end PySem.W.Fast
open PySem PySem.W PyProof.Rows
set_option maxRecDepth 100000 in
set_option maxHeartbeats 0 in
theorem PySem.Challenge.cw_strokegrow_k56_whole_written_out_holds : PySem.Challenge.rw_strokegrow_k56_whole_written_out.Holds := by
 w_on;o_law;k_head;(case hw=>w_witness2)
 k_fill
 refine L2.JJ (l:=PySem.Challenge.rw_strokegrow_k56_whole_written_out) (n:=63) (k:=12) (x:="_law_script") (CX:=Pf.CX) (sp:=fun K=>Pf.LQ K) rfl (by decide) rfl ⟨rfl,by decide,by decide⟩ (fun w h Y=>PySem.W.kIn_of Y) ?F ?S ?C
 case F=>
   intro w mg fa h KX G Vx;have T:∃ t,Pf.Txt (L2.KOf KX) mg t∧t.rq=fa:=by
     dsimp only [L2.KOf];obtain⟨t,T,e⟩:∃ t,Pf.Txt _ mg t∧t.rq=_:=by
       refine' Pf.S6 KX G ?_ ?_ ?_ ?_ ?_ ?_ ?_ ?_ ?_ ?_ ?_ ?_ ?_ ?_ ?_ ?_ ?_ ?_ ?_ ?_ ?_ ?_ ?_ ?_ ?_ ?_ ?_ ?_ ?_ ?_ ?_ ?_ ?_ ?_ ?_ ?_ ?_ ?_ ?_ ?_ ?_ ?_ ?_ ?_ ?_ ?_ ?_ ?_ ?_ ?_ ?_ ?_ ?_ ?_ ?_ ?_ ?_ ?_ ?_ ?_ ?_ ?_ ?_ ?_ ?_ ?_ ?_ ?_ ?_ ?_ ?_ ?_ ?_ ?_ ?_ ?_ ?_ ?_ ?_ ?_ ?_ ?_ ?_ ?_ ?_ ?_ ?_ ?_ ?_ ?_ ?_ ?_ ?_ ?_ ?_ ?_ ?_ ?_ ?_ ?_ ?_ ?_ ?_ ?_ ?_ ?_ ?_ ?_ ?_ ?_ ?_ ?_ ?_ ?_ ?_ ?_ ?_ ?_ ?_ ?_ ?_ ?_ ?_ ?_ ?_ ?_ ?_ ?_ ?_ ?_ ?_ ?_ ?_ ?_ ?_ ?_ ?_ ?_ ?_ ?_ ?_ ?_ ?_ ?_ ?_ ?_ ?_ ?_ ?_ ?_ ?_ ?_ ?_ ?_ ?_ ?_ ?_ ?_ ?_ ?_ ?_ ?_ ?_ ?_ ?_ ?_ ?_ ?_ ?_ ?_ ?_ ?_ ?_ ?_ ?_ ?_ ?_ ?_ ?_ ?_ ?_ ?_ ?_ ?_ ?_
       any_goals first
        | exact Pf.SV (by k_is) (by k_is) (by k_is) (by k_is) (by refine fun _ _ _ _ _ _=>?_;(repeat refine Wp fun _=>?_);exact ww rfl)
        | exact Pf.SS (by k_is) (by k_is) (by k_is) (by refine fun _ _ _ _ _ _=>?_;(repeat refine Wp fun _=>?_);exact ww rfl)
        | exact Pf.SU (by k_is) (by k_is) (by k_is) (by refine fun _ _ _ _ _ _=>?_;(repeat refine Wp fun _=>?_);exact ww rfl)
        | exact Pf.SW (by k_is) (by k_is) (by k_is) (by k_is) (by k_is) (by k_is)
        | exact L2.Meth.mk (by k_is) (by k_is) (by k_is)
        | exact L2.Mk.mk (by k_is) (by k_is) (by k_is) (by k_is)
        | exact Sg.RB.mk (by k_is) (by k_is) (by k_is)
        | k_is
        | kernel_rfl
     refine⟨t,T,?_⟩;have e0:=Vx.symm.trans (T.g T.C6.a);cases e0;rfl
   obtain⟨t,T,e⟩:=T;subst e;refine' ⟨t.xG,?b,fun base kb nb=>Pf.Uo T⟩;exact Pf.S9 T
 case S=>exact fun K H a ns hl hO hS=>Pf.TM hl hS
 case C=>exact fun H s e s' h=>h
