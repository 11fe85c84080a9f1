import PyProof.Rows.All
import Wide.All
import OpenK.AllK
import Wide.FinOn
import Lean
import PyProof.EqAt
import PyProof.EqKinds
import PyProof.TupleCall
import PyProof.WalksEnum
import PyProof.EnumMake
import PyProof.ZipIter
import PyProof.ReprStr
import PyProof.StrBlockG
import PyProof.StrWalks
import PyProof.FString5
import PyProof.ConsumeWalk
import PyProof.SumAny
import PyProof.StrCalls2
import KE.KDictList
import PyProof.Draws
import PyProof.StrBlock2
import PyProof.DictIter
import PyProof.ExcInit
import PyProof.ExcClass3
import PyProof.FString
import PyProof.FitsInt
import PyProof.StrLawsRepr
import PyProof.Rows.Range3
import PyProof.StrCalls
import PyProof.ListRange
import PyProof.AttrMissHeap
import KE.KDictOf
import PyProof.StrCalls3
import PyProof.FactsAll.dict_2
import PyProof.MeetsIn
import PyProof.Cells
import KE.KDictSum
import PyProof.DictWalks
import KE.KRevIter
import PyProof.FactsAll.subtypes_3
import PyProof.Rows.SortWalk
import KE.KSortedM
import PyProof.Rows.SortStr
import PyProof.MinMaxWalk
import PyProof.WalkInts
import PyProof.SeqI3
import PyProof.Rows.CallKwBuiltin
import KE.KUnpack
import PyProof.Rows.SeqMore2
import PyProof.LongRange
import KE.KRevIter
import PyProof.FactsAll.range_2
import PySem.Challenge.RW_strokegrow_k50_asked_in_any_order
theorem jpp (h:True:=by rfl):True:=h
def jp:Lean.Syntax:=jpp._auto_1
theorem jMp (h:True:=by decide):True:=h
def jM:Lean.Syntax:=jMp._auto_1
theorem jNp (h:True:=by first | exact WA rfl | exact Wl (WA rfl) | exact Wl (Wl rfl)):True:=h
def jN:Lean.Syntax:=jNp._auto_1
theorem jRp (h:True:=by first | exact .inl rfl | exact .inr rfl | assumption):True:=h
def jR:Lean.Syntax:=jRp._auto_1
theorem zDp (h:True:=by first | exact WA rfl | exact Wl rfl):True:=h
def zD:Lean.Syntax:=zDp._auto_1
theorem xzp (h:True:=by intro _;rfl):True:=h
def xz:Lean.Syntax:=xzp._auto_1
theorem xLp (h:True:=by intro _ _;rfl):True:=h
def xL:Lean.Syntax:=xLp._auto_1
theorem x5p (h:True:=by with_unfolding_all rfl):True:=h
def x5:Lean.Syntax:=x5p._auto_1
theorem v6p (h:True:=by first | exact .inl rfl | exact .inr rfl):True:=h
def v6:Lean.Syntax:=v6p._auto_1
theorem AA3 {a b:Nat}(h:autoParam (Nat.ble a b=true) jp):a<=b:=Nat.le_of_ble_eq_true h
set_option Elab.async false
set_option linter.all false
set_option maxRecDepth 100000
section
set_option genSizeOf false
set_option genInjectivity false
open List renaming length_map→ou, getElem?_eq_getElem→Bn, getD_eq_getElem?_getD→Sl, getElem?_eq_some_iff→Vx, getElem?_map→VB, getElem?_set_ne→VE, getElem?_set_self→VH, map_map→V3, length_append→V5, size_toArray→V6, map_cons→V7, mem_append_right→Wa, filter_eq_self→Wb, length_take→Wc, getElem?_append_right→Wd, getElem?_append_left→Wf, replicate→Wg, mem_cons→Wh, range→Wi, mem_map→Wj, mem_cons_of_mem→Wk, getElem?_eq_none→Wm, length_range→Wo, append_nil→Wq, length_cons→Ws, lookup_cons→Wt, getElem_mem→Wu, getElem_map→Wv, getElem?_replicate→Ww, getElem?_cons_succ→Wx, length_drop→Wz, pairwise_iff_getElem→WB, getElem?_range→WE, mem_cons_self→WG, mem_append→WI, take_of_length_le→WJ, map_append→WM, filter_append→WN, mem_iff_getElem→WQ, sum_cons→WR, mem_of_getElem?→WW, take_add_one→WX, flatMap_cons→WY, find?_cons→WZ, take_length→W0, nodup_cons→W3, map_congr_left→W5, drop_of_length_le→W7, getElem_take→W8, length→W9, range'→Xa, length_reverse→Xe, any_cons→Xg, lookup→Xh, filter_cons_of_neg→Xi, filter_cons_of_pos→Xj, flatten_cons→Xl, drop_eq_nil_of_le→Xm, all_eq_true→Xp, all_cons→Xq, filterMap_cons→Xt, mem_range→Xu, drop_zero→Xv, map_take→Xw
open Exists renaming elim→Nf
open Nat renaming le_refl→O0, lt_of_lt_of_le→V4, ne_of_lt→V9, le_trans→We, zero_le→Wr, le_of_ble_eq_true→Wy, lt_of_le_of_lt→WC, lt_irrefl→WK, le_of_lt→WL, le_succ→WU, lt_succ_self→WV, ne_of_gt→Xb, succ_ne_self→Xc, le_add_right→Xd, lt_succ_of_lt→Xk, le_of_not_lt→Xo, min_eq_left→Xs
open PySem.Heap renaming get?_push_of_some→Te, lt_size→VI, get?_push_size→VJ, size_push→WS, SameBut→W6
open Bool renaming false_ne_true→V8, and_eq_true→Wn, false_eq_true→WH, eq_iff_iff→Xr
open Or renaming inr→Wl, inl→WA
open Int renaming emod_nonneg→WD, emod_lt_of_pos→WO, toNat_natCast→WT
open Array renaming getElem?_eq_getElem→W2, length_toList→W4, getElem?_toList→Xn
open Option renaming isSome_iff_exists→Xf
theorem xa {α:Sort u}{p q r:α->Prop}(h:∃ x,p x∧q x)(f:∀ x,p x->q x->r x):∃ x,p x∧r x:=Exists.elim h fun x h=>⟨x,h.1,f x h.1 h.2⟩
namespace L2
open PySem PySem.Spec PyProof.Rows
noncomputable abbrev Key:=Sum Int Str
noncomputable def qG:Key->Value->Bool
 | .inl k,v=>Value.isInt k v
 | .inr x,v=>Value.isStrOf x v
noncomputable def NV (w:World):Key->Int
 | .inl k=>hashInt k
 | .inr x=>hashStr w x
theorem bE:∀ {k:Key} {v:Value},qG k v=true->(∃ i t,k=Sum.inl i/\v=Value.int i t)\/(∃ x t,k=Sum.inr x/\v=Value.str x t)
 | .inl i,v,h=>by
   obtain⟨t,e⟩:=Value.isInt_shape (k:=i) (v:=v) h;exact .inl ⟨i,t,rfl,e⟩
 | .inr x,v,h=>by
   obtain⟨t,e⟩:=Value.isStrOf_shape (x:=x) (v:=v) h;exact .inr ⟨x,t,rfl,e⟩
theorem yu (i:Int)(t:Tok):qG (.inl i) (.int i t)=true:=by simp[qG,Value.isInt]
theorem yv (x:Str)(t:Tok):qG (.inr x) (.str x t)=true:=by simp[qG,Value.isStrOf]
theorem Gz (a b:Int):decide ((Sum.inl a:Key)=Sum.inl b)=(a == b):=by
 by_cases e:a=b
 . subst e;simp
 . have h:¬ (Sum.inl a:Key)=Sum.inl b:=fun q=>e (Sum.inl.inj q)
   rw[decide_eq_false h];exact(beq_eq_false_iff_ne.mpr e).symm
theorem GA (a b:Str):decide ((Sum.inr a:Key)=Sum.inr b)=decide (a=b):=by
 by_cases e:a=b
 . subst e;simp
 . have h:¬ (Sum.inr a:Key)=Sum.inr b:=fun q=>e (Sum.inr.inj q)
   rw[decide_eq_false h,decide_eq_false e]
theorem GB (a:Int)(b:Str):decide ((Sum.inl a:Key)=Sum.inr b)=false:=decide_eq_false (fun q=>nomatch q)
theorem GC (a:Str)(b:Int):decide ((Sum.inr a:Key)=Sum.inl b)=false:=decide_eq_false (fun q=>nomatch q)
noncomputable def aG (prog:Program)(w:World):PySem.KeyKind prog w Key where
 is:=qG
 hash:=NV w
 inj:=fun v a b ha hb=>by
   rcases bE ha with⟨i,t,rfl,rfl⟩ | ⟨x,t,rfl,rfl⟩
   . rcases bE hb with⟨j,u,rfl,e⟩ | ⟨y,u,rfl,e⟩
     . injection e with e1 _;rw[e1]
     . exact nomatch e
   . rcases bE hb with⟨j,u,rfl,e⟩ | ⟨y,u,rfl,e⟩
     . exact nomatch e
     . injection e with e1 _;rw[e1]
 byValue:=fun k v h=>by
   rcases bE h with⟨i,t,rfl,rfl⟩ | ⟨x,t,rfl,rfl⟩ <;> rfl
 pyHash:=fun hv h=>by
   rcases bE hv with⟨i,t,rfl,rfl⟩ | ⟨x,t,rfl,rfl⟩
   . exact wpAny_pyHash_int h
   . exact wpAny_pyHash_str h
 eqBool:=fun hu hv h=>by
   rcases bE hu with⟨i,t,rfl,rfl⟩ | ⟨x,t,rfl,rfl⟩
   . rcases bE hv with⟨j,u,rfl,rfl⟩ | ⟨y,u,rfl,rfl⟩
     . rw[Gz] at h;exact wpAny_eqBool_int h
     . rw[GB] at h;exact SeqAt.EqAt.int_str i t y u _ _ _ _ h
   . rcases bE hv with⟨j,u,rfl,rfl⟩ | ⟨y,u,rfl,rfl⟩
     . rw[GC] at h;exact SeqAt.EqAt.str_int x t j u _ _ _ _ h
     . rw[GA] at h;exact wpAny_eqBool_str h
 «strs»:=fun k x t v h=>by
   rcases bE h with⟨i,u,rfl,e⟩ | ⟨y,u,rfl,e⟩
   . exact nomatch e
   . injection e with e1 _
     subst e1;cases v <;> rfl
theorem tX (prog:Program)(w:World)(i:Int)(t:Tok):(aG prog w).is (.inl i) (.int i t)=true:=yu i t
theorem tY (prog:Program)(w:World)(x:Str)(t:Tok):(aG prog w).is (.inr x) (.str x t)=true:=yv x t
set_option genInjectivity true in
inductive V where
 | b0 | bl (b:Bool) | int (i:Int) | str (x:Str) | CZ (b:Array UInt8) | GD (b:UInt64) | ref (a:Addr) | ty (n:String)
 deriving DecidableEq
def RelV:V->Value->Prop
 | .b0,u=>u=Value.none
 | .bl b,u=>u=Value.bool b
 | .int i,u=>∃ t,u=Value.int i t
 | .str x,u=>∃ t,u=Value.str x t
 | .CZ b,u=>∃ t,u=Value.bytes b t
 | .GD b,u=>∃ t,u=Value.float b t
 | .ref a,u=>u=Value.ref a
 | .ty n,u=>u=Value.type n
abbrev Vals:List V->List Value->Prop:=Paired RelV
theorem Vals.length {xs:List V}{us:List Value}(r:Vals xs us):xs.length=us.length:=Paired.length r
theorem Vals.get:∀ {xs:List V} {us:List Value} {i:Nat} {x:V},Vals xs us->xs[i]?=some x->∃ u,us[i]?=some u/\RelV x u
 | _,_,_,_,.nil,e=>by simp at e
 | _,_,0,_,.cons r _,e=>by simp at e;subst e;exact⟨_,rfl,r⟩
 | _,_,i+1,x,.cons _ t,e=>by
   obtain⟨u,h1,h2⟩:=Vals.get (i:=i) (x:=x) t (by simpa using e);exact⟨u,by simpa using h1,h2⟩
theorem Vals.append:∀ {xs ys:List V} {us ws:List Value},Vals xs us->Vals ys ws->Vals (xs ++ ys) (us ++ ws)
 | _,_,_,_,.nil,s=>s
 | _,_,_,_,.cons r t,s=>.cons r (Vals.append t s)
theorem Vals.take:∀ {xs:List V} {us:List Value} (n:Nat),Vals xs us->Vals (xs.take n) (us.take n)
 | _,_,0,_=>.nil
 | _,_,_+1,.nil=>.nil
 | _,_,n+1,.cons r t=>.cons r (Vals.take n t)
theorem Vals.drop:∀ {xs:List V} {us:List Value} (n:Nat),Vals xs us->Vals (xs.drop n) (us.drop n)
 | _,_,0,r=>r
 | _,_,_+1,.nil=>.nil
 | _,_,n+1,.cons _ t=>Vals.drop n t
def kz:Option V->Option Value->Prop
 | some v,some u=>RelV v u
 | none,none=>True
 | _,_=>False
def KV {κ:Type}:List (κ×V)->List (κ×Value)->Prop:=Paired fun(p:κ×V) (q:κ×Value)=>p.1=q.1/\RelV p.2 q.2
noncomputable def kV:Key->V
 | .inl i=>.int i
 | .inr x=>.str x
inductive FD where
 | int (i:Int)
 | b6 (kds:List (Key×Int))
 | lst (ns:List Int)
 | tup (K:W.Frag) (ns:List Int)
 | obj (C:Addr) (fs:List (Str×FD))
noncomputable abbrev iB:=List (Addr×(Nat->List (Key×FD)))
set_option genInjectivity true in
inductive HO where
   | lst (xs:List V)
   | tup (xs:List V)
   | dK (kvs:List (Key×V)) | dT (kvs:List (List Key×V))
   | set (S:Int->Bool) (n:Nat)
   | ins (C dx:Addr) (fs:List (Str×V))
   | own (x:Addr)
   | xd (fs:List (Str×V))
   | met (f x:Addr)
   | NW (lo hi:Int)
   | aY (o:Obj) (u:HO)
   | GG (ps:Array Value)
   | ext (φ:Heap->Prop)
   | memo (ls:iB)
 | bD (ls:iB) (ns:List Nat)
   | part (p:Addr)
   | kd (tg:Option (Addr×Nat)) (o:Obj) (kvs:List (Key×V))
   | kx (o:Obj) (u:HO)
noncomputable abbrev Hp:=Addr->Option HO
noncomputable def upd (H:Hp)(a:Addr)(o:HO):Hp:=fun b=>if b=a then some o else H b
theorem ah {H:Hp}{a:Addr}{o:HO}:upd H a o a=some o:=by unfold upd;rw[if_pos rfl]
theorem ag {H:Hp}{a b:Addr}{o:HO}(h:b≠a):upd H a o b=H b:=by unfold upd;rw[if_neg h]
theorem n8 {H:Hp}{a:Addr}{o u:HO}:upd (upd H a o) a u=upd H a u:=by
 funext b;unfold upd;split <;> rfl
theorem Ka {H:Hp}{a b:Addr}{o u:HO}(h:H a=some o)(h':H b=some u)(d:o≠u):a≠b:=by
 intro e;subst e;rw[h] at h';exact d (Option.some.inj h')
theorem ar {H:Hp}{a b:Addr}{o:HO}(h:H a=some o)(h':H b=none):a≠b:=by
 intro e;subst e;rw[h] at h';cases h'
def ij:Option HO->Prop
 | some (.memo _)=>True
 | some (.bD _ _)=>True
 | some (.part _)=>True
 | _=>False
def Kept:HO->Prop
 | .kd _ _ _=>True
 | .kx _ _=>True
 | .tup _=>True
 | _=>False
def TupAt (K:W.Frag)(H:Hp)(a:Addr)(xs:List V):Prop:=
 H a=some (.tup xs) \/
   ∃ (o:Obj) (aE:Array Value) (n:Nat),K.lookup a=some o/\o.cls=.type "tuple"/\o.data=.seq aE n/\aE.size<=sizeLine/\Vals xs aE.toList
mutual
inductive Fz (H:Hp):V->FD->Prop
 | int (i:Int):Fz H (.int i) (.int i)
 | b6 {a:Addr} {tg:Option (Addr×Nat)} {o:Obj} {kds:List (Key×Int)}:H a=some (.kd tg o (kds.map fun kd=>(kd.1,V.int kd.2)))->Fz H (.ref a) (.b6 kds)
 | lst {a:Addr} {o:Obj} {ns:List Int}:H a=some (.kx o (.lst (ns.map V.int)))->Fz H (.ref a) (.lst ns)
 | tup {a:Addr} {K:W.Frag} {ns:List Int}:TupAt K H a (ns.map V.int)->Fz H (.ref a) (.tup K ns)
 | obj {a C dx:Addr} {o:Obj} {fv:List (Str×V)} {fs:List (Str×FD)}:H a=some (.kx o (.ins C dx fv))->C0 H fv fs->Fz H (.ref a) (.obj C fs)
inductive C0 (H:Hp):List (Str×V)->List (Str×FD)->Prop
 | nil:C0 H [] []
 | cons {k:Str} {v:V} {d:FD} {vs:List (Str×V)} {ds:List (Str×FD)}:Fz H v d->C0 H vs ds->C0 H ((k,v)::vs) ((k,d)::ds)
end
inductive oQ (H:Hp):List (Key×V)->List (Key×FD)->Prop
 | nil:oQ H [] []
 | cons {k:Key} {v:V} {d:FD} {kvs:List (Key×V)} {kds:List (Key×FD)}:Fz H v d->oQ H kvs kds->oQ H ((k,v)::kvs) ((k,d)::kds)
def GH (H:Hp)(p:Addr)(i:Nat)(aE:List Value)(fd:List (Key×FD)):Prop:=∃ q o kvs,aE[i]?=some (.ref q)/\H q=some (.kd (some (p,i)) o kvs)/\oQ H kvs fd
def xb (H:Hp)(h:Heap)(p:Addr)(f:Nat->List (Key×FD))(n:Nat):Prop:=∃ aE c,h.get? p=some { cls:=.type "list",data:=.seq (aE:List Value).toArray c}/\aE.length=n/\∀ i,i < n->GH H p i aE (f i)
def oR (H:Hp)(h:Heap)(a:Addr)(ls:iB)(ns:List Nat):Prop:=(∃ f,ls[0]?=some (a,f))/\ls.length=ns.length/\(∀ (j:Nat) (p:Addr) (f:Nat->List (Key×FD)),ls[j]?=some (p,f)->(p=a\/H p=some (.part a)))/\(ls.map (·.1)).Nodup/\(∀ n∈ns,n<=10000)/\∀ (j:Nat) (p:Addr) (f:Nat->List (Key×FD)) (n:Nat),ls[j]?=some (p,f)->ns[j]?=some n->xb H h p f n
section
variable (P:Program)(w:World)
def aD (H:Hp)(h:Heap)(a:Addr):HO->Prop
 | .lst xs=>xs.length<=sizeLine/\∃ (aE:List Value) (n:Nat),Vals xs aE/\h.get? a=some { cls:=.type "list",data:=.seq aE.toArray n}
 | .tup xs=>xs.length<=sizeLine/\∃ aE:List Value,Vals xs aE/\IsTup h a aE.toArray
 | .dK kvs=>kvs.length<=sizeLine/\(a == sysModules)=false/\∃ vs,KV kvs vs/\h.DictOf (aG P w) a vs
 | .dT kvs=>kvs.length<=sizeLine/\(a == sysModules)=false/\∃ xs:List (List Key×Addr×Value),
     Paired (fun(p:List Key×V) (q:List Key×Addr×Value)=>p.1=q.1/\H q.2.1=some (.tup (p.1.map kV))/\RelV p.2 q.2.2) kvs xs /\
     ∃ o es ep,h.get? a=some o/\o.ExactDict/\o.data=.dict es ep/\es.toList=xs.map (entryOfKey (tupleKind (aG P w)))/\(xs.map (·.1)).Nodup
 | .set S n=>h.SetOf (intKind P w) a S n
 | .ins C dx fs=>H dx=some (.own a)/\fs.length<=1000/\dx≠a/\h.get? a=some (W.instObj C dx) /\
     ∃ mA,h.Ns1 dx mA/\(∀ f,kz (fs.lookup f) (mA f))/\PySem.Within mA (fs.map (·.1))
 | .own _=>∃ o,h.get? a=some o
 | .xd fs=>∃ mA,h.Ns1 a mA/\∀ f,kz (fs.lookup f) (mA f)
 | .NW lo hi=>∃ t u v,h.get? a=some { cls:=.type "range",data:=.fields #[.int lo t,.int hi u,.int 1 v]}
 | .aY o u=>h.get? a=some o/\aD H h a u
 | .GG ps=>h.get? a=some { cls:=.none,data:=.fields ps}
 | .met f x=>h.get? a=some (W.methodObj (.ref f) (.ref x))
 | .ext φ=>φ h/\(∃ o,h.get? a=some o)/\∀ h1 h2:Heap,φ h1->(∀ o,h1.get? a=some o->h2.get? a=some o)->φ h2
 | .memo ls=>(∃ o,h.get? a=some o)/\∃ n,0 < n/\oR H h a ls (Wg ls.length n)
 | .bD ls ns=>(∃ o,h.get? a=some o)/\oR H h a ls ns
 | .part _=>∃ o,h.get? a=some o
 | .kd tg o kvs=>h.get? a=some o/\(kvs.length<=sizeLine/\(a == sysModules)=false/\∃ vs,KV kvs vs/\h.DictOf (aG P w) a vs) /\
     ∀ p i,tg=some (p,i)->ij (H p)/\∃ aE c,h.get? p=some { cls:=.type "list",data:=.seq (aE:List Value).toArray c}/\aE[i]?=some (.ref a)
 | .kx o u=>h.get? a=some o/\aD H h a u
def ll (H:Hp)(h:Heap):Prop:=∀ a o,H a=some o->aD P w H h a o
end
section
variable {P:Program}{w:World}{H H':Hp}{h h':Heap}{a:Addr}{o:HO}
theorem aD.lt (x:aD P w H h a o):a < h.objs.size:=by
 cases o with
 | lst xs=>obtain⟨_,_,_,_,e⟩:=x;exact VI e
 | tup xs=>obtain⟨_,_,_,p⟩:=x;exact p.lt
 | dK kvs=>obtain⟨_,_,_,_,o,_,_,e,_⟩:=x;exact VI e
 | dT kvs=>obtain⟨_,_,_,_,o,_,_,e,_⟩:=x;exact VI e
 | set S n=>obtain⟨o,_,_,_,e,_⟩:=x;exact VI e
 | ins C dx fs=>obtain⟨_,_,_,e,_⟩:=x;exact VI e
 | own y=>obtain⟨_,e⟩:=x;exact VI e
 | xd fs=>obtain⟨_,⟨_,_,_,e,_⟩,_⟩:=x;exact VI e
 | NW lo hi=>obtain⟨_,_,_,e⟩:=x;exact VI e
 | aY ob u=>obtain⟨e,_⟩:=x;exact VI e
 | GG ps=>exact VI (show h.get? a=some _ from x)
 | met f y=>exact VI (show h.get? a=some _ from x)
 | ext φ=>obtain⟨_,⟨_,e⟩,_⟩:=x;exact VI e
 | memo ls=>obtain⟨⟨_,e⟩,_⟩:=x;exact VI e
 | bD ls ns=>obtain⟨⟨_,e⟩,_⟩:=x;exact VI e
 | part y=>obtain⟨_,e⟩:=x;exact VI e
 | kd tg ob kvs=>exact VI x.1
 | kx ob u=>exact VI x.1
theorem Paired.GI {α β:Type}{F G:α->β->Prop}:∀ {l₁:List α} {l₂:List β},Paired F l₁ l₂->(∀ a b,F a b->G a b)->Paired G l₁ l₂
 | _,_,.nil,_=>.nil
 | _,_,.cons r t,f=>.cons (f _ _ r) (Paired.GI t f)
structure Kp (H H':Hp):Prop where
 st:∀ b u,H b=some u->Kept u->H' b=some u
 mem:∀ b,ij (H b)->ij (H' b)
 part:∀ b x,H b=some (.part x)->H' b=some (.part x)
theorem Kp.kd (kp:Kp H H')(b:Addr)(tg:Option (Addr×Nat))(o:Obj)(kvs:List (Key×V))(e:H b=some (.kd tg o kvs)):H' b=some (.kd tg o kvs):=kp.st b _ e trivial
theorem Kp.refl:Kp H H:=⟨fun _ _ e _=>e,fun _ e=>e,fun _ _ e=>e⟩
theorem Kp.of (s:∀ b u,H b=some u->H' b=some u):Kp H H':=⟨fun _ _ e _=>s _ _ e,fun b e=>by
 cases q:H b with
 | none=>rw[q] at e;exact e.elim
 | some u=>rw[s b u q,<- q];exact e,fun _ _ e=>s _ _ e⟩
theorem TupAt.kp {K:W.Frag}{xs:List V}(k:∀ b u,H b=some u->Kept u->H' b=some u)(h:TupAt K H a xs):TupAt K H' a xs:=h.imp (fun e=>k _ _ e trivial) id
mutual
theorem Fz.st (k:∀ b u,H b=some u->Kept u->H' b=some u):∀ {v:V} {d:FD},Fz H v d->Fz H' v d
 | _,_,.int i=>.int i
 | _,_,.b6 e=>.b6 (k _ _ e trivial)
 | _,_,.lst e=>.lst (k _ _ e trivial)
 | _,_,.tup e=>.tup (e.kp k)
 | _,_,.obj e f=>.obj (k _ _ e trivial) (C0.st k f)
theorem C0.st (k:∀ b u,H b=some u->Kept u->H' b=some u):∀ {v:List (Str×V)} {d:List (Str×FD)},C0 H v d->C0 H' v d
 | _,_,.nil=>.nil
 | _,_,.cons h t=>.cons (Fz.st k h) (C0.st k t)
end
theorem Fz.kp (kp:Kp H H'){v:V}{d:FD}(h:Fz H v d):Fz H' v d:=h.st kp.st
theorem oQ.kp (kp:Kp H H'):∀ {kvs:List (Key×V)} {kds:List (Key×FD)},oQ H kvs kds->oQ H' kvs kds
 | _,_,.nil=>.nil
 | _,_,.cons h t=>.cons (h.kp kp) (oQ.kp kp t)
theorem xb.kp {p:Addr}{f:Nat->List (Key×FD)}{n:Nat}(kp:Kp H H')(x:xb H h p f n)(k:∀ u,h.get? p=some u->h'.get? p=some u):xb H' h' p f n:=by
 obtain⟨aE,c,e,hl,hi⟩:=x;exact⟨aE,c,k _ e,hl,fun i hn=>let ⟨q,o,kvs,h1,h2,h3⟩:=hi i hn;⟨q,o,kvs,h1,kp.kd _ _ _ _ h2,h3.kp kp⟩⟩
theorem oR.kp {ls:iB}{ns:List Nat}(kp:Kp H H')(x:oR H h a ls ns)(k:∀ b u,b=a\/H b=some (.part a)->h.get? b=some u->h'.get? b=some u):oR H' h' a ls ns:=by
 obtain⟨h1,h2,h3,h4,h5,h6⟩:=x;exact⟨h1,h2,fun j p f e=>(h3 j p f e).imp id fun z=>kp.part _ _ z,h4,h5,fun j p f n e1 e2=>(h6 j p f n e1 e2).kp kp fun u e=>k p u (h3 j p f e1) e⟩
def Kb (h:Heap)(p:Addr)(i:Nat)(c:Addr):Prop:=∃ aE n,h.get? p=some { cls:=.type "list",data:=.seq (aE:List Value).toArray n}/\aE[i]?=some (.ref c)
theorem aD.Fy (x:aD P w H h a o)(k:∀ b u,(b=a\/H b=some (.own a)\/H b=some (.part a))->h.get? b=some u->h'.get? b=some u)(ho:∀ b,H b=some (.own a)->H' b=some (.own a))(ht:∀ b xs,H b=some (.tup xs)->H' b=some (.tup xs))(kp:Kp H H')(hl:∀ p i c,ij (H p)->Kb h p i c->Kb h' p i c):aD P w H' h' a o:=by
 induction o with
 | lst xs=>obtain⟨z,aE,n,r,e⟩:=x;exact⟨z,aE,n,r,k _ _ (.inl rfl) e⟩
 | tup xs=>obtain⟨z,aE,r,ob,e,c⟩:=x;exact⟨z,aE,r,ob,k _ _ (.inl rfl) e,c⟩
 | dK kvs=>obtain⟨z,y,vs,r,ob,es,ep,e,c⟩:=x;exact⟨z,y,vs,r,ob,es,ep,k _ _ (.inl rfl) e,c⟩
 | dT kvs=>
   obtain⟨z,y,xs,r,ob,es,ep,e,c⟩:=x;exact⟨z,y,xs,Paired.GI r fun p q z=>⟨z.1,ht _ _ z.2.1,z.2.2⟩,ob,es,ep,k _ _ (.inl rfl) e,c⟩
 | set S n=>obtain⟨ob,es,ep,t,e,c⟩:=x;exact⟨ob,es,ep,t,k _ _ (.inl rfl) e,c⟩
 | ins C dx fs=>
   obtain⟨d,z,ne,e,mA,⟨od,es,ep,e2,c⟩,r⟩:=x;exact⟨ho _ d,z,ne,k _ _ (.inl rfl) e,mA,⟨od,es,ep,k _ _ (.inr (.inl d)) e2,c⟩,r⟩
 | own y=>obtain⟨ob,e⟩:=x;exact⟨ob,k _ _ (.inl rfl) e⟩
 | xd fs=>obtain⟨mA,⟨od,es,ep,e,c⟩,r⟩:=x;exact⟨mA,⟨od,es,ep,k _ _ (.inl rfl) e,c⟩,r⟩
 | NW lo hi=>obtain⟨t,u,v,e⟩:=x;exact⟨t,u,v,k _ _ (.inl rfl) e⟩
 | aY ob u ih=>obtain⟨e,q⟩:=x;exact⟨k _ _ (.inl rfl) e,ih q⟩
 | GG ps=>
   have e:h.get? a=some { cls:=.none,data:=.fields ps}:=x;show h'.get? a=some { cls:=.none,data:=.fields ps};exact k a _ (.inl rfl) e
 | met f y=>
   have e:h.get? a=some (W.methodObj (.ref f) (.ref y)):=x;show h'.get? a=some (W.methodObj (.ref f) (.ref y));exact k a _ (.inl rfl) e
 | ext φ=>obtain⟨p,⟨o,e⟩,st⟩:=x;exact⟨st _ _ p fun o q=>k _ _ (.inl rfl) q,⟨o,k _ _ (.inl rfl) e⟩,st⟩
 | memo ls=>
   obtain⟨⟨o,e⟩,n,hn,q⟩:=x;refine⟨⟨o,k _ _ (.inl rfl) e⟩,n,hn,q.kp kp fun b u hb=>k b u ?_⟩;rcases hb with z | z
   . exact .inl z
   . exact .inr (.inr z)
 | bD ls ns=>
   obtain⟨⟨o,e⟩,q⟩:=x;refine⟨⟨o,k _ _ (.inl rfl) e⟩,q.kp kp fun b u hb=>k b u ?_⟩;rcases hb with z | z
   . exact .inl z
   . exact .inr (.inr z)
 | part y=>obtain⟨o,e⟩:=x;exact⟨o,k _ _ (.inl rfl) e⟩
 | kd tg ob kvs=>
   obtain⟨e,⟨z,y,vs,r,Kc,es,ep,e',c⟩,q⟩:=x;refine⟨k _ _ (.inl rfl) e,⟨z,y,vs,r,Kc,es,ep,k _ _ (.inl rfl) e',c⟩,fun p i ht=>?_⟩;obtain⟨q1,q2⟩:=q p i ht;exact⟨kp.mem _ q1,hl p i _ q1 q2⟩
 | kx ob u ih=>obtain⟨e,q⟩:=x;exact⟨k _ _ (.inl rfl) e,ih q⟩
theorem aD.tZ (x:aD P w H h a o)(k:∀ b u,(b=a\/H b=some (.own a)\/ij (H b))->h.get? b=some u->h'.get? b=some u)(ho:∀ b,H b=some (.own a)->H' b=some (.own a))(ht:∀ b xs,H b=some (.tup xs)->H' b=some (.tup xs))(kp:Kp H H'):aD P w H' h' a o:=
 x.Fy (fun b u hb=>k b u (by
   rcases hb with z | z | z
   . exact .inl z
   . exact .inr (.inl z)
   . exact .inr (.inr (by rw[z];trivial)))) ho ht kp fun p i c hm ⟨aE,n,e,q⟩=>⟨aE,n,k p _ (.inr (.inr hm)) e,q⟩
theorem ll.lt (x:ll P w H h)(e:H a=some o):a < h.objs.size:=(x a o e).lt
theorem ll.fresh (x:ll P w H h)(e:h.objs.size<=a):H a=none:=by
 cases q:H a with
 | none=>rfl
 | some u=>exact absurd (V4 (x.lt q) e) (WK _)
theorem ll.kept (x:ll P w H h)(k:∀ b u,h.get? b=some u->h'.get? b=some u):ll P w H h':=fun a o e=>
 (x a o e).tZ (fun b u _ q=>k b u q) (fun _ q=>q) (fun _ _ q=>q) .refl
theorem ll.laid (x:ll P w H h)(k:∀ b u,h.get? b=some u->h'.get? b=some u)(hp:h.objs.size<=a)(new:aD P w (upd H a o) h' a o):ll P w (upd H a o) h':=fun b u e=>by
 have hn:=x.fresh hp;by_cases hb:b=a
 . subst hb;rw[ah] at e;cases e;exact new
 . rw[ag hb] at e
   exact(x b u e).tZ (fun c v _ q=>k c v q) (fun c q=>by rw[ag (ar q hn)];exact q) (fun c xs q=>by rw[ag (ar q hn)];exact q) (.of fun c u q=>by rw[ag (ar q hn)];exact q)
end
def Rd (H:Hp)(a:Addr)(u:HO):Prop:=H a=some u\/(∃ o,H a=some (.aY o u))\/(∃ tg o kvs,H a=some (.kd tg o kvs)/\u=.dK kvs)\/∃ o,H a=some (.kx o u)
theorem Rd.of {H:Hp}{a:Addr}{u:HO}(h:H a=some u):Rd H a u:=.inl h
theorem Rd.ok {P:Program}{w:World}{H:Hp}{h:Heap}{a:Addr}{u:HO}(r:Rd H a u)(x:ll P w H h):aD P w H h a u:=by
 rcases r with r | ⟨o,r⟩ | ⟨tg,o,kvs,r,rfl⟩ | ⟨o,r⟩
 . exact x a u r
 . obtain⟨_,q⟩:=x a _ r
   exact q
 . obtain⟨_,q,_⟩:=x a _ r
   exact q
 . obtain⟨_,q⟩:=x a _ r
   exact q
def JS:Option HO->Prop
 | some (.lst _)=>True
 | some (.dK _)=>True
 | some (.dT _)=>True
 | some (.set _ _)=>True
 | some (.ins _ _ _)=>True
 | some (.ext _)=>True
 | _=>False
section
variable {P:Program}{w:World}{H:Hp}{h h':Heap}{x e:Addr}{o':HO}
theorem ll.write (ok:ll P w H h)(mu:JS (H x))(he:e=x\/H e=some (.own x))(k:∀ b u,b≠e->h.get? b=some u->h'.get? b=some u)(JT:∃ u,h'.get? e=some u)(new:aD P w (upd H x o') h' x o'):ll P w (upd H x o') h':=fun b u q=>by
 have l6:∀ c y,H c=some (.own y)->c≠x:=fun c y r z=>by subst z;rw[r] at mu;exact mu
 have NX:∀ c xs,H c=some (.tup xs)->c≠x:=fun c xs r z=>by subst z;rw[r] at mu;exact mu
 by_cases hb:b=x
 . subst hb;rw[ah] at q;cases q;exact new
 . rw[ag hb] at q
   by_cases qH:b=e
   . have q':H b=some (.own x):=by
       rcases he with z | z
       . exact absurd (qH.trans z) hb
       . rw[qH];exact z
     rw[q] at q';cases q';obtain⟨v,hv⟩:=JT;exact⟨v,by rw[qH];exact hv⟩
   . have Qy:∀ c u,H c=some u->¬ JS (some u)->c≠x:=fun c u r nm z=>by subst z;rw[r] at mu;exact nm mu
     have Qz:∀ c,ij (H c)->c≠x:=fun c r z=>by
       subst z;cases qq:H c with
       | none=>rw[qq] at r;exact r
       | some u=>rw[qq] at r mu;cases u <;> first | exact mu | exact r
     refine(ok b u q).tZ (fun c v hc r=>k c v ?_ r) (fun c r=>by rw[ag (l6 c b r)];exact r) (fun c xs r=>by rw[ag (NX c xs r)];exact r) ⟨fun c u r kq=>by rw[ag (Qy c _ r (by cases u <;> first | exact(show False from kq).elim | exact fun z=>z))];exact r,fun c r=>by rw[ag (Qz c r)];exact r,fun c y r=>by rw[ag (Qy c _ r fun z=>z)];exact r⟩;rcases hc with rfl | hc | hc
     . exact qH
     . rintro rfl
       rcases he with z | z
       . exact l6 c b hc z
       . rw[hc] at z;cases z;exact hb rfl
     . rintro rfl
       rcases he with z | z
       . exact Qz c hc z
       . rw[z] at hc;exact hc
end
structure Un (fs ex:List Addr)(H H':Hp)(h h':Heap):Prop where
 keep:∀ b o,h.get? b=some o->H b=none->b ∉ fs->b ∉ ex->h'.get? b=some o
 slot:∀ b o,h.get? b=some o->H b=none->b∈fs->b ∉ ex->∃ sl,h'.get? b=some { o with slots:=sl}
 free:∀ b o,h.get? b=some o->H b=none->b ∉ ex->H' b=none
 there:∀ b o,h.get? b=some o->b ∉ ex->∃ o',h'.get? b=some o'
 t5:∀ b xs,H b=some (.tup xs)->H' b=some (.tup xs)
 rE:∀ b o u,H b=some (.aY o u)->H' b=some (.aY o u)
 t6:∀ b ps,H b=some (.GG ps)->∃ more,H' b=some (.GG (ps ++ more))
section
variable {fs ex:List Addr}{H H1:Hp}{h h1 h':Heap}{a x e:Addr}{o:HO}
theorem Un.any (u:Un fs ex H H1 h h1){b:Addr}{ob:Obj}(q:h.get? b=some ob)(n:H b=none)(hx:b ∉ ex):∃ sl,h1.get? b=some { ob with slots:=sl}:=by
 by_cases hb:b∈fs
 . exact u.slot b ob q n hb hx
 . exact⟨ob.slots,u.keep b ob q n hb hx⟩
theorem Un.kept (k:∀ b u,h.get? b=some u->h'.get? b=some u):Un fs ex H H h h':=
 ⟨fun b ob q _ _ _=>k b ob q,fun b ob q _ _ _=>⟨ob.slots,k b ob q⟩,fun _ _ _ n _=>n,fun b ob q _=>⟨ob,k b ob q⟩,fun _ _ q=>q,fun _ _ _ q=>q,fun _ ps q=>⟨#[],by rw[q];simp⟩⟩
theorem Un.refl:Un fs ex H H h h:=Un.kept fun _ _ q=>q
theorem Un.laid (k:∀ b u,h.get? b=some u->h'.get? b=some u)(hp:h.objs.size<=a)(hn:H a=none):Un fs ex H (upd H a o) h h' where
 keep:=fun b u q _ _ _=>k b u q
 slot:=fun b u q _ _ _=>⟨u.slots,k b u q⟩
 free:=fun b u q n _=>by rw[ag (V9 (V4 (VI q) hp))];exact n
 there:=fun b u q _=>⟨u,k b u q⟩
 t5:=fun b xs q=>by rw[ag (ar q hn)];exact q
 rE:=fun b u xs q=>by rw[ag (ar q hn)];exact q
 t6:=fun b ps q=>⟨#[],by rw[ag (ar q hn),q];simp⟩
theorem Un.write (mu:JS (H x))(he:e=x\/H e=some (.own x))(k:∀ b u,b≠e->h.get? b=some u->h'.get? b=some u)(JT:∃ u,h'.get? e=some u):Un fs ex H (upd H x o) h h':=by
 have hx:∀ b,H b=none->b≠x:=fun b n z=>by subst z;rw[n] at mu;exact mu
 have hb:∀ b,H b=none->b≠e:=fun b n z=>by
   subst z;rcases he with r | r
   . exact hx b n r
   . rw[n] at r;cases r
 have hm:∀ b u,H b=some u->¬ JS (some u)->b≠x:=fun b u q nm z=>by subst z;rw[q] at mu;exact nm mu
 refine⟨fun b u q n _ _=>k b u (hb b n) q,fun b u q n _ _=>⟨u.slots,k b u (hb b n) q⟩,fun b u q n _=>by rw[ag (hx b n)];exact n,fun b u q _=>?_,
   fun b xs q=>by rw[ag (hm b _ q fun z=>z)];exact q,fun b u xs q=>by rw[ag (hm b _ q fun z=>z)];exact q,fun b ps q=>⟨#[],by rw[ag (hm b _ q fun z=>z),q];simp⟩⟩
 by_cases qH:b=e
 . subst qH;exact JT
 . exact⟨u,k b u qH q⟩
end
noncomputable def MZ (h:Heap)(H:Hp):List Addr:=(Wi h.objs.size).filter fun a=>(H a).isSome
noncomputable def rF (h:Heap)(H:Hp):Heap:=PySem.W.hideAll h (MZ h H)
theorem yw (h:Heap)(H:Hp):(rF h H).objs.size=h.objs.size:=W.hideAll_size _ _
theorem zV {h:Heap}{H:Hp}{b:Addr}{o:Obj}(e:h.get? b=some o)(n:H b=none):(rF h H).get? b=some o:=
 W.hideAll_get _ e fun hm=>by
   have q:(H b).isSome=true:=(List.mem_filter.mp hm).2;rw[n] at q;simp at q
theorem Dh {h:Heap}{H:Hp}{b:Addr}{o:Obj}(e:(rF h H).get? b=some o):h.get? b=some o/\H b=none:=by
 have e':h.get? b=some o:=W.of_hideAll (MZ h H) e;refine⟨e',?_⟩;cases q:H b with
 | none=>rfl
 | some x=>
   have hm:b∈MZ h H:=List.mem_filter.mpr ⟨Xu.mpr (VI e'),by simp[q]⟩;have z:(rF h H).get? b=none:=W.hideAll_none (MZ h H) hm;rw[z] at e;cases e
noncomputable def Di (g h:Heap)(L:Addr):List (Addr×Obj):=(Wi h.objs.size).filterMap fun a=>if a=L\/(g.get? a).isSome=true then none else (h.get? a).map fun o=>(a,o)
noncomputable def rest (g h:Heap)(L d:Addr):List (Addr×Obj):=(Di g h L).filter fun p=>decide (p.1≠d)
structure Mod (K:W.Frag)(mg:Str->Option Value)(base:Heap):Prop where
 Kd:K.In base
 glob:base.Ns mainGlobals mg
 blt:∃ mb,base.Ns builtinsNs mb/\∀ x:Str,x≠"__name__"->mb x=bootBuiltins x
 nolimit:base.NoLimit
structure Cx where
 prog:Program
 w:World
 K:W.Frag
 mg:Str->Option Value
 base:Heap
 A:Around
 N:List Str
 s₀:Shared
 H₀:Hp
 env:Env
 outer:List Env
 stack:List Env
 ex:List Addr
 fn:Str->Bool
 calm:Bool
 pn:List (Addr×Obj)
 xe:Value->Shared->Prop
noncomputable def zW (l:List Env):List Addr:=l.filterMap (·.frame)
noncomputable abbrev Cx.fs (X:Cx):List Addr:=zW X.outer
def qI (sc:Scope)(x:Str):Prop:=sc.names.lookup x=some .local\/sc.names.lookup x=some .cell\/sc.names.lookup x=some .free
def Loc (sc:Scope)(x:Str):Prop:=sc.names.lookup x=some .local\/sc.names.lookup x=some .cell
def Look (env:Env)(h:Heap)(m:Str->Option Value)(x:Str)(u:Value):Prop:=
 (env.kindOf x=some .local/\m x=some u)\/((env.kindOf x=some .cell\/env.kindOf x=some .free)/\∃ c,env.cells.lookup x=some c/\h.IsCell c (some u))
structure Cx.Ok (X:Cx):Prop where
 mod:Mod X.K X.mg X.base
 kind:X.env.scope.kind=.function
 glob:X.env.globals=mainGlobals
 blt:X.env.builtins=builtinsNs
 above:X.s₀.heap.objs.size<=X.env.locals
 inj:∀ x y c,X.env.cells.lookup x=some c->X.env.cells.lookup y=some c->x=y
 has:∀ x,(X.env.kindOf x=some .cell\/X.env.kindOf x=some .free)->∃ c,X.env.cells.lookup x=some c
 JU:∀ x c,X.fn x=true->X.env.cells.lookup x=some c->X.s₀.heap.objs.size<=c
 hd:X.calm=true->X.A.handled=none
 frames:X.A.frames=some X.stack
 Ke:X.stack=X.outer\/(X.stack=X.env::X.outer/\X.env.frame=some X.env.locals)
 Dj:∀ b∈X.ex,b≠X.env.locals/\∀ x c,X.env.cells.lookup x=some c->c≠b
 bs:∀ b o,X.base.get? b=some o->X.s₀.heap.get? b=some o/\X.H₀ b=none
 xc:X.base.objs.size<=X.s₀.heap.objs.size
 t7:∀ b o,X.base.get? b=some o->b ∉ X.ex
 t8:∀ b∈X.ex,b ∉ X.fs
 l7:X.s₀.heap.FunFrames X.base X.outer
 FA:∀ b∈X.fs,X.H₀ b=none
structure Inv (X:Cx)(pins:List (Addr×Obj))(σ:List (Option V))(H:Hp)(s:Shared):Prop where
 ok:X.Ok
 os:s.os=X.s₀.os
 bare:AllBare s.gens
 base:Un X.fs X.ex X.H₀ H X.s₀.heap s.heap
 loc:∃ m,s.heap.Ns X.env.locals m/\∀ (i:Nat) (x:Str) (v:V),X.N[i]?=some x->σ[i]?=some (some v)->qI X.env.scope x->∃ u,RelV v u/\Look X.env s.heap m x u
 cell:∀ x c,X.env.cells.lookup x=some c->∃ v,s.heap.IsCell c v
 free:H X.env.locals=none
 kH:∀ x c,X.env.cells.lookup x=some c->H c=none
 pin:∀ p∈X.pn ++ pins,s.heap.get? p.1=some p.2/\H p.1=none/\p.1≠X.env.locals/\p.1 ∉ X.fs/\∀ v,p.2.data≠.cell v
 aK:ll X.prog X.w H s.heap
 len:σ.length=X.N.length
section
variable {X:Cx}{pins:List (Addr×Obj)}{σ:List (Option V)}{H H':Hp}{s:Shared}{h':Heap}
theorem Cx.Ok.GJ (ok:X.Ok){b:Addr}{o:Obj}(e:X.base.get? b=some o):b ∉ X.fs:=fun hb=>by
 have:=(ok.l7.mem hb).1;rw[e] at this;cases this
theorem Inv.bs (I:Inv X pins σ H s):∀ b o,X.base.get? b=some o->s.heap.get? b=some o/\H b=none:=fun b o e=>
 ⟨I.base.keep b o (I.ok.bs b o e).1 (I.ok.bs b o e).2 (I.ok.GJ e) (I.ok.t7 b o e),I.base.free b o (I.ok.bs b o e).1 (I.ok.bs b o e).2 (I.ok.t7 b o e)⟩
theorem Inv.bk (I:Inv X pins σ H s):∀ b o,X.base.get? b=some o->s.heap.get? b=some o:=fun b o e=>(I.bs b o e).1
theorem Inv.mod (I:Inv X pins σ H s):Mod X.K X.mg X.base:=I.ok.mod
theorem Inv.iT (I:Inv X pins σ H s):X.K.In s.heap:=I.ok.mod.Kd.keeps I.bk
theorem Inv.lt (I:Inv X pins σ H s):X.env.locals < s.heap.objs.size:=let ⟨_,hn,_⟩:=I.loc;hn.lt
theorem Inv.sz (I:Inv X pins σ H s):X.s₀.heap.objs.size<=s.heap.objs.size:=We I.ok.above (WL I.lt)
theorem Inv.NZ (I:Inv X pins σ H s){a:Addr}(h:s.heap.objs.size<=a):a ∉ X.fs:=fun hb=>by
 obtain⟨_,o,ho,_⟩:=I.ok.l7.mem hb;exact absurd (V4 (VI ho) (We I.sz h)) (WK _)
theorem Inv.vA (I:Inv X pins σ H s):∀ x c,X.env.cells.lookup x=some c->c≠X.env.locals:=fun x c e z=>by
 obtain⟨v,o,ho,hd⟩:=I.cell x c e;obtain⟨m,⟨o',es,ep,zX,JV,_⟩,_⟩:=I.loc;rw[z,zX] at ho;cases ho;rw[JV] at hd;cases hd
theorem Inv.l7 (I:Inv X pins σ H s):s.heap.FunFrames X.base X.outer:=by
 have all:∀ (l:List Env),(∀ b∈zW l,b∈X.fs)->X.s₀.heap.FunFrames X.base l->s.heap.FunFrames X.base l:=by
   intro l
   induction l with
   | nil=>intro _ _;trivial
   | cons env r ih=>
     intro hs hl;obtain⟨hk,⟨L,o,hf,hn,ho,hd⟩,hr⟩:=hl;have hL:L∈X.fs:=hs L (by unfold zW;rw[Xt,hf];exact WG);obtain⟨sl,e⟩:=I.base.slot L o ho (I.ok.FA L hL) hL fun z=>I.ok.t8 L z hL
     exact⟨hk,⟨L,_,hf,hn,e,hd⟩,ih (fun b hb=>hs b (by unfold zW;rw[Xt,hf];exact Wk _ hb)) hr⟩
 exact all X.outer (fun _ hb=>hb) I.ok.l7
theorem Inv.stack (I:Inv X pins σ H s):s.heap.FunFrames X.base X.stack:=by
 rcases I.ok.Ke with e | ⟨e,hf⟩
 . rw[e];exact I.l7
 . rw[e]
   obtain⟨m,hn,_⟩:=I.loc;refine .cons (by rw[I.ok.kind];decide) hf hn ?_ I.l7;exact Heap.get?_none_of_le (We I.ok.xc I.ok.above)
theorem Inv.oS (I:Inv X pins σ H s):∀ b∈zW X.stack,b∈X.env.locals::X.fs:=fun b hb=>by
 rcases I.ok.Ke with e | ⟨e,hf⟩
 . rw[e] at hb;exact Wk _ hb
 . rw[e] at hb
   unfold zW at hb;rw[Xt,hf] at hb;exact hb
theorem Inv.n9 (I:Inv X pins σ H s):∀ b∈zW X.stack,H b=none:=fun b hb=>by
 rcases Wh.mp (I.oS b hb) with e | hb
 . rw[e];exact I.free
 . obtain⟨_,o,ho,_⟩:=I.ok.l7.mem hb
   exact I.base.free b o ho (I.ok.FA b hb) fun z=>I.ok.t8 b z hb
theorem Inv.step {g':Array GenState}{t':Nat}{d':Drawn}{ch:List Addr}(I:Inv X pins σ H s)(tU:∀ b∈ch,(b∈X.ex\/X.s₀.heap.objs.size<=b)/\b≠X.env.locals/\(∀ x c,X.env.cells.lookup x=some c->c≠b)/\∀ p∈X.pn ++ pins,p.1≠b)(keep:∀ b o,b≠X.env.locals->b ∉ X.fs->b ∉ ch->s.heap.get? b=some o->H b=none->h'.get? b=some o)(slot:∀ b o,b≠X.env.locals->b∈X.fs->b ∉ ch->s.heap.get? b=some o->H b=none->∃ sl,h'.get? b=some { o with slots:=sl})(free:∀ b o,b ∉ ch->s.heap.get? b=some o->H b=none->H' b=none)(there:∀ b o,b ∉ ch->s.heap.get? b=some o->∃ o',h'.get? b=some o')(t5:∀ b xs,H b=some (.tup xs)->H' b=some (.tup xs))(rE:∀ b o u,H b=some (.aY o u)->H' b=some (.aY o u))(t6:∀ b ps,H b=some (.GG ps)->∃ more,H' b=some (.GG (ps ++ more)))(ns:∀ m,s.heap.Ns X.env.locals m->h'.Ns X.env.locals m)(aK:ll X.prog X.w H' h')(hg:AllBare g'):Inv X pins σ H' { s with heap:=h',gens:=g',drawn:=d',toks:=t'}:=by
 have QA:∀ b o,X.s₀.heap.get? b=some o->b≠X.env.locals:=fun b o e=>V9 (V4 (VI e) I.ok.above)
 have M0:∀ b o,X.s₀.heap.get? b=some o->b ∉ X.ex->b ∉ ch:=fun b o e hx hb=>by
   rcases (tU b hb).1 with z | z
   . exact hx z
   . exact absurd (V4 (VI e) z) (WK _)
 have cellK:∀ x c,X.env.cells.lookup x=some c->∀ v,s.heap.IsCell c v->h'.IsCell c v:=fun x c e v ⟨o,ho,hd⟩=>by
   have Kf:c ∉ ch:=fun z=>(tU c z).2.2.1 x c e rfl
   by_cases hc:c∈X.fs
   . obtain⟨sl,q⟩:=slot c o (I.vA x c e) hc Kf ho (I.kH x c e)
     exact⟨_,q,hd⟩
   . exact⟨o,keep c o (I.vA x c e) hc Kf ho (I.kH x c e),hd⟩
 refine⟨I.ok,I.os,hg,⟨fun b o e n hb hx=>?_,fun b o e n hb hx=>?_,fun b o e n hx=>?_,fun b o e hx=>?_,fun b xs e=>t5 b xs (I.base.t5 b xs e),fun b o xs e=>rE b o xs (I.base.rE b o xs e),fun b ps e=>?_⟩,?_,fun x c e=>?_,?_,fun x c e=>?_,fun p hp=>?_,aK,I.len⟩
 . exact keep b o (QA b o e) hb (M0 b o e hx) (I.base.keep b o e n hb hx) (I.base.free b o e n hx)
 . obtain⟨sl,e1⟩:=I.base.slot b o e n hb hx
   obtain⟨R8,e2⟩:=slot b _ (QA b o e) hb (M0 b o e hx) e1 (I.base.free b o e n hx);exact⟨R8,e2⟩
 . obtain⟨o',e1⟩:=I.base.there b o e hx
   exact free b o' (M0 b o e hx) e1 (I.base.free b o e n hx)
 . obtain⟨o',e1⟩:=I.base.there b o e hx
   exact there b o' (M0 b o e hx) e1
 . obtain⟨m1,e1⟩:=I.base.t6 b ps e
   obtain⟨m2,e2⟩:=t6 b _ e1;exact⟨m1 ++ m2,by rw[e2,Array.append_assoc]⟩
 . obtain⟨m,hn,hl⟩:=I.loc
   refine⟨m,ns m hn,fun i x v e1 e2 e3=>?_⟩;obtain⟨u,r,l⟩:=hl i x v e1 e2 e3;refine⟨u,r,?_⟩;rcases l with l | ⟨k,c,e,z⟩
   . exact .inl l
   . exact .inr ⟨k,c,e,cellK x c e _ z⟩
 . obtain⟨v,z⟩:=I.cell x c e
   exact⟨v,cellK x c e v z⟩
 . obtain⟨m,⟨o,_,_,ho,_⟩,_⟩:=I.loc
   exact free _ o (fun z=>(tU _ z).2.1 rfl) ho I.free
 . obtain⟨v,o,ho,hd⟩:=I.cell x c e
   exact free c o (fun z=>(tU c z).2.2.1 x c e rfl) ho (I.kH x c e)
 . obtain⟨e,n,ne,nf,d⟩:=I.pin p hp
   have Kf:p.1 ∉ ch:=fun z=>(tU p.1 z).2.2.2 p hp rfl
   exact⟨keep p.1 p.2 ne nf Kf e n,free p.1 p.2 Kf e n,ne,nf,d⟩
theorem Inv.un {t':Nat}(I:Inv X pins σ H s)(u:Un X.fs [] H H' s.heap h')(aK:ll X.prog X.w H' h'):Inv X pins σ H' { s with heap:=h',toks:=t'}:=by
 obtain⟨m,⟨o,es,ep,ho,r⟩,_⟩:=id I.loc;obtain⟨sl,hL⟩:=u.any ho I.free (by simp);exact I.step (g':=s.gens) (d':=s.drawn) (ch:=[]) (fun _ z=>nomatch z) (fun b o _ hb _ e n=>u.keep b o e n hb (by simp)) (fun b o _ hb _ e n=>u.slot b o e n hb (by simp)) (fun b o _ e n=>u.free b o e n (by simp)) (fun b o _ e=>u.there b o e (by simp)) u.t5 u.rE u.t6 (fun m' hm=>by
   obtain⟨o',zY,Kg,zX,r'⟩:=hm;rw[ho] at zX;cases zX;exact⟨_,zY,Kg,hL,r'⟩) aK I.bare
theorem Inv.call {g':Array GenState}{t':Nat}{d':Drawn}{ch:List Addr}(I:Inv X pins σ H s)(u:Un (zW X.stack) ch H H' s.heap h')(aK:ll X.prog X.w H' h')(hg:AllBare g')(tU:∀ b∈ch,(b∈X.ex\/X.s₀.heap.objs.size<=b)/\b≠X.env.locals/\(∀ x c,X.env.cells.lookup x=some c->c≠b)/\∀ p∈X.pn ++ pins,p.1≠b):Inv X pins σ H' { s with heap:=h',gens:=g',drawn:=d',toks:=t'}:=by
 obtain⟨m,⟨o,es,ep,ho,r⟩,_⟩:=id I.loc;obtain⟨sl,hL⟩:=u.any ho I.free fun z=>(tU _ z).2.1 rfl
 exact I.step (ch:=ch) tU (fun b o hL hb hc e n=>u.keep b o e n (fun z=>(Wh.mp (I.oS b z)).elim hL hb) hc) (fun b o _ _ hc e n=>u.any e n hc) (fun b o hc e n=>u.free b o e n hc) (fun b o hc e=>u.there b o e hc) u.t5 u.rE u.t6 (fun m' hm=>by
   obtain⟨o',zY,Kg,zX,r'⟩:=hm;rw[ho] at zX;cases zX;exact⟨_,zY,Kg,hL,r'⟩) aK hg
theorem Inv.turned {t':Nat}{it:Addr}(I:Inv X pins σ H s)(k:∀ b o,b≠it->s.heap.get? b=some o->h'.get? b=some o)(hn:H it=none)(hL:it≠X.env.locals)(h1:it∈X.ex\/X.s₀.heap.objs.size<=it)(h2:∀ x c,X.env.cells.lookup x=some c->c≠it)(h3:∀ p∈X.pn ++ pins,p.1≠it):Inv X pins σ H { s with heap:=h',toks:=t'}:=by
 have Kh:∀ b u,H b=some u->b≠it:=fun b u e z=>by rw[z,hn] at e;cases e
 refine I.step (g':=s.gens) (d':=s.drawn) (ch:=[it]) (fun b hb=>?_) (fun b o _ _ hc e _=>k b o (fun z=>hc (by simp[z])) e) (fun b o _ _ hc e _=>⟨o.slots,k b o (fun z=>hc (by simp[z])) e⟩) (fun _ _ _ _ n=>n)
   (fun b o hc e=>⟨o,k b o (fun z=>hc (by simp[z])) e⟩) (fun _ _ e=>e) (fun _ _ _ e=>e) (fun b ps e=>⟨#[],by rw[e];simp⟩) (fun m hm=>?_) (fun b u e=>?_) I.bare
 . have e:b=it:=by simpa using hb
   subst e;exact⟨h1,hL,h2,h3⟩
 . obtain⟨o,es,ep,ho,r⟩:=hm
   exact⟨o,es,ep,k _ o (Ne.symm hL) ho,r⟩
 . refine(I.aK b u e).tZ (fun c v hc q=>k c v ?_ q) (fun _ q=>q) (fun _ _ q=>q) .refl
   rcases hc with z | z | z
   . rw[z];exact Kh b u e
   . exact Kh c _ z
   . exact fun z'=>by rw[z',hn] at z;exact z
theorem Inv.tok (I:Inv X pins σ H s)(t:Nat):Inv X pins σ H { s with toks:=t}:=I.un (h':=s.heap) (t':=t) Un.refl I.aK
theorem Inv.kept {t':Nat}(I:Inv X pins σ H s)(k:∀ b u,s.heap.get? b=some u->h'.get? b=some u):Inv X pins σ H { s with heap:=h',toks:=t'}:=I.un (Un.kept k) (I.aK.kept k)
theorem Inv.laid {a:Addr}{o:HO}{t':Nat}(I:Inv X pins σ H s)(k:∀ b u,s.heap.get? b=some u->h'.get? b=some u)(hp:s.heap.objs.size<=a)(new:aD X.prog X.w (upd H a o) h' a o):Inv X pins σ (upd H a o) { s with heap:=h',toks:=t'}:=I.un (Un.laid k hp (I.aK.fresh hp)) (I.aK.laid k hp new)
theorem Inv.write {x e:Addr}{o:HO}{t':Nat}(I:Inv X pins σ H s)(mu:JS (H x))(he:e=x\/H e=some (.own x))(k:∀ b u,b≠e->s.heap.get? b=some u->h'.get? b=some u)(JT:∃ u,h'.get? e=some u)(new:aD X.prog X.w (upd H x o) h' x o):Inv X pins σ (upd H x o) { s with heap:=h',toks:=t'}:=I.un (Un.write mu he k JT) (I.aK.write mu he k JT new)
theorem Inv.xf {zZ:List (Addr×Obj)}(I:Inv X pins σ H s)(h:∀ p∈zZ,s.heap.get? p.1=some p.2/\H p.1=none/\p.1≠X.env.locals/\p.1 ∉ X.fs/\∀ v,p.2.data≠.cell v):Inv X zZ σ H s:=
 ⟨I.ok,I.os,I.bare,I.base,I.loc,I.cell,I.free,I.kH,fun p hp=>(WI.mp hp).elim (fun z=>I.pin p (List.mem_append_left _ z)) (h p),I.aK,I.len⟩
theorem t9 {N:List Str}(hN:N.Nodup){i j:Nat}{x:Str}(a:N[i]?=some x)(b:N[j]?=some x):i=j:=by
 obtain⟨h1,e1⟩:=Vx.mp a;obtain⟨h2,e2⟩:=Vx.mp b;exact(List.getElem_inj hN).mp (e1.trans e2.symm)
theorem l8 {M:Model}{A:Around}{E:Value->Shared->Prop}{i:Nat}{x:Str}{v:V}{u:Value}{Q:Unit->Shared->Prop}(I:Inv X pins σ H s)(hN:X.N.Nodup)(hi:X.N[i]?=some x)(hx:Loc X.env.scope x)(r:RelV v u)(h:∀ s',Inv X pins (σ.set i (some v)) H s'->(∃ a,W6 a s.heap s'.heap/\(a=X.env.locals\/X.env.cells.lookup x=some a))->Q () s')(hf:autoParam (X.fn x=true\/X.env.scope.names.lookup x=some .local) jR):wpAny M A (storeName X.env x u) Q E s:=by
 obtain⟨m,hn,hl⟩:=id I.loc;have N1:(X.env.scope.kind == .class || (X.env.scope.kind == .module && X.env.locals != X.env.globals))=false:=by rw[I.ok.kind];rfl
 have QB:i < σ.length:=by rw[I.len];exact(Vx.mp hi).1
 have vA:=I.vA;have tracked:∀ {a:Addr} {h':Heap},(∃ o,s.heap.get? a=some o/\H a=none)->W6 a s.heap h'->ll X.prog X.w H h':=fun {a h'} ha hs b ob e=>by
   obtain⟨_,_,z5⟩:=ha;refine(I.aK b ob e).tZ (fun c w' hc q=>(hs.2 c ?_).trans q) (fun _ q=>q) (fun _ _ q=>q) .refl
   rintro rfl
   rcases hc with rfl | hc | hc
   . rw[z5] at e;cases e
   . rw[z5] at hc;cases hc
   . rw[z5] at hc;exact hc
 rcases hx with hk | hk
 . refine wpAny_storeName_local hk hn (fun h' R9 hs=>?_) N1
   obtain⟨oL,_,_,Sa,_⟩:=id hn;refine h _ ⟨I.ok,I.os,I.bare,⟨fun b o e n hb hx=>?_,fun b o e n hb hx=>?_,I.base.free,fun b o e hx=>?_,I.base.t5,I.base.rE,I.base.t6⟩,⟨_,R9,fun j y v' e1 e2 e3=>?_⟩,fun y c e=>?_,I.free,I.kH,fun p hp=>?_,tracked ⟨oL,Sa,I.free⟩ hs,by simpa using I.len⟩ ⟨_,hs,.inl rfl⟩
   . exact(hs.2 b (V9 (V4 (VI e) I.ok.above))).trans (I.base.keep b o e n hb hx)
   . obtain⟨sl,e1⟩:=I.base.slot b o e n hb hx
     exact⟨sl,(hs.2 b (V9 (V4 (VI e) I.ok.above))).trans e1⟩
   . obtain⟨o',e1⟩:=I.base.there b o e hx
     exact⟨o',(hs.2 b (V9 (V4 (VI e) I.ok.above))).trans e1⟩
   . by_cases hj:j=i
     . subst hj
       rw[hi] at e1;cases e1;rw[VH QB] at e2;cases e2;exact⟨u,r,.inl ⟨hk,by simp⟩⟩
     . rw[VE (Ne.symm hj)] at e2
       obtain⟨u',r',q⟩:=hl j y v' e1 e2 e3;refine⟨u',r',?_⟩;rcases q with⟨k,e⟩ | ⟨k,c,e,z⟩
       . refine .inl ⟨k,?_⟩
         have:y≠x:=fun e=>hj (t9 hN e1 (e ▸ hi))
         simp[this,e]
       . exact .inr ⟨k,c,e,z.sameBut hs (vA y c e)⟩
   . obtain⟨w',z⟩:=I.cell y c e
     exact⟨w',z.sameBut hs (vA y c e)⟩
   . obtain⟨e,n,ne,nf,d⟩:=I.pin p hp
     exact⟨(hs.2 p.1 ne).trans e,n,ne,nf,d⟩
 . have N2:X.fn x=true:=by
     rcases hf with z | z
     . exact z
     . rw[z] at hk;cases hk
   obtain⟨c,hc⟩:=I.ok.has x (.inl hk);obtain⟨w',z⟩:=I.cell x c hc;refine wpAny_storeName_cell I.ok.kind hk hc z (fun h' vB hs=>?_);obtain⟨oc,xh,N3⟩:=id z;refine h { s with heap:=h'} ⟨I.ok,I.os,I.bare,⟨fun b o e n hb hx=>?_,fun b o e n hb hx=>?_,I.base.free,fun b o e hx=>?_,I.base.t5,I.base.rE,I.base.t6⟩,⟨m,hn.sameBut hs (Ne.symm (vA x c hc)),fun j y v' e1 e2 e3=>?_⟩,fun y c' e=>?_,I.free,I.kH,fun p hp=>?_,tracked ⟨oc,xh,I.kH x c hc⟩ hs,by simpa using I.len⟩ ⟨c,hs,.inr hc⟩
   . exact(hs.2 b (V9 (V4 (VI e) (I.ok.JU x c N2 hc)))).trans (I.base.keep b o e n hb hx)
   . obtain⟨sl,e1⟩:=I.base.slot b o e n hb hx
     exact⟨sl,(hs.2 b (V9 (V4 (VI e) (I.ok.JU x c N2 hc)))).trans e1⟩
   . obtain⟨o',e1⟩:=I.base.there b o e hx
     exact⟨o',(hs.2 b (V9 (V4 (VI e) (I.ok.JU x c N2 hc)))).trans e1⟩
   . by_cases hj:j=i
     . subst hj
       rw[hi] at e1;cases e1;rw[VH QB] at e2;cases e2;exact⟨u,r,.inr ⟨.inl hk,c,hc,vB⟩⟩
     . rw[VE (Ne.symm hj)] at e2
       obtain⟨u',r',q⟩:=hl j y v' e1 e2 e3;refine⟨u',r',?_⟩;rcases q with q | ⟨k,c',e,z'⟩
       . exact .inl q
       . refine .inr ⟨k,c',e,z'.sameBut hs ?_⟩
         rintro rfl
         exact hj (t9 hN e1 (I.ok.inj _ _ _ e hc ▸ hi))
   . by_cases Ki:c'=c
     . subst Ki;exact⟨_,vB⟩
     . obtain⟨w2,z2⟩:=I.cell y c' e
       exact⟨w2,z2.sameBut hs Ki⟩
   . obtain⟨e,n,ne,nf,d⟩:=I.pin p hp
     refine⟨(hs.2 p.1 ?_).trans e,n,ne,nf,d⟩;intro q;rw[q,xh] at e;have q':oc=p.2:=Option.some.inj e;exact d w' (by rw[<- q'];exact N3)
theorem ua {M:Model}{A:Around}{E:Value->Shared->Prop}{i:Nat}{x:Str}{v:V}{u:Value}{Q:Unit->Shared->Prop}(I:Inv X pins σ H s)(hN:X.N.Nodup)(hi:X.N[i]?=some x)(hx:Loc X.env.scope x)(r:RelV v u)(h:∀ s',Inv X pins (σ.set i (some v)) H s'->Q () s')(hf:autoParam (X.fn x=true\/X.env.scope.names.lookup x=some .local) jR):wpAny M A (storeName X.env x u) Q E s:=
 l8 I hN hi hx r (fun s' I' _=>h s' I') hf
theorem Inv.z6 {s':Shared}{ch:List Addr}(I:Inv X pins σ H s)(ho:s'.os=s.os)(u:Un (zW X.stack) ch H H' s.heap s'.heap)(aK:ll X.prog X.w H' s'.heap)(hg:AllBare s'.gens)(tU:∀ b∈ch,(b∈X.ex\/X.s₀.heap.objs.size<=b)/\b≠X.env.locals/\(∀ x c,X.env.cells.lookup x=some c->c≠b)/\∀ p∈X.pn ++ pins,p.1≠b):Inv X pins σ H' s':=by
 obtain⟨h',g',d',t',o'⟩:=s';have e:o'=s.os:=ho;subst e;exact I.call (g':=g') (t':=t') (d':=d') u aK hg tU
end
abbrev XK:=Value->Option Addr->Hp->Prop
noncomputable abbrev St:=List (Option V)
abbrev VK:=V->Hp->Prop
abbrev TE:=St->Hp->VK->Prop
abbrev TT:=St->Hp->(Bool->Hp->Prop)->Prop
abbrev TA:=St->Hp->(List V->Hp->Prop)->Prop
structure Ends where
 nx:St->Hp->Prop
 rt:VK
 bk:St->Hp->Prop:=fun _ _=>False
 ct:St->Hp->Prop:=fun _ _=>False
abbrev TS:=Ends->St->Hp->Prop
def EP (X:Cx)(pins:List (Addr×Obj))(σ:St)(Q:VK)(u:Value)(s':Shared):Prop:=∃ v H',Inv X pins σ H' s'/\RelV v u/\Q v H'
def TP (X:Cx)(pins:List (Addr×Obj))(σ:St)(Q:Bool->Hp->Prop)(b:Bool)(s':Shared):Prop:=∃ H',Inv X pins σ H' s'/\Q b H'
def AP (X:Cx)(pins:List (Addr×Obj))(σ:St)(Q:List V->Hp->Prop)(us:List Value)(s':Shared):Prop:=∃ vs H',Inv X pins σ H' s'/\Vals vs us/\Q vs H'
def SP (X:Cx)(pins:List (Addr×Obj))(D:Ends)(f:Flow)(s':Shared):Prop:=
 match f with
 | .next=>∃ σ' H',Inv X pins σ' H' s'/\D.nx σ' H'
 | .brk=>∃ σ' H',Inv X pins σ' H' s'/\D.bk σ' H'
 | .cont=>∃ σ' H',Inv X pins σ' H' s'/\D.ct σ' H'
 | .ret u=>∃ v σ' H',Inv X pins σ' H' s'/\RelV v u/\D.rt v H'
def PE (X:Cx)(e:Expr)(t:TE):Prop:=
 ∀ (pins:List (Addr×Obj)) (s:Shared) (σ:St) (H:Hp) (Q:VK),Inv X pins σ H s->t σ H Q->wpAny (model X.prog X.w) X.A (eval e X.env) (EP X pins σ Q) X.xe s
def PT (X:Cx)(e:Expr)(t:TT):Prop:=
 ∀ (pins:List (Addr×Obj)) (s:Shared) (σ:St) (H:Hp) (Q:Bool->Hp->Prop),Inv X pins σ H s->t σ H Q->wpAny (model X.prog X.w) X.A (isTrue e X.env (eval e X.env)) (TP X pins σ Q) X.xe s
def PW (X:Cx)(e:Expr)(t:TT):Prop:=
 ∀ (whole:Sem Value) (pins:List (Addr×Obj)) (s:Shared) (σ:St) (H:Hp) (Q:Bool->Hp->Prop),Inv X pins σ H s->t σ H Q->wpAny (model X.prog X.w) X.A (isTrue e X.env whole) (TP X pins σ Q) X.xe s
theorem PW.pt {X:Cx}{e:Expr}{t:TT}(h:PW X e t):PT X e t:=h _
def PA (X:Cx)(es:List Expr)(t:TA):Prop:=
 ∀ (pos:Pos) (pins:List (Addr×Obj)) (s:Shared) (σ:St) (H:Hp) (Q:List V->Hp->Prop),Inv X pins σ H s->t σ H Q->wpAny (model X.prog X.w) X.A (spliced (backTo pos (starEach es X.env))) (AP X pins σ Q) X.xe s
def PS (X:Cx)(st:Stmt)(t:TS):Prop:=
 ∀ (pins:List (Addr×Obj)) (s:Shared) (σ:St) (H:Hp) (D:Ends),Inv X pins σ H s->t D σ H->wpAny (model X.prog X.w) X.A (exec st X.env) (SP X pins D) X.xe s
def vG (X:Cx)(st:List Stmt)(t:TS):Prop:=
 ∀ (pins:List (Addr×Obj)) (s:Shared) (σ:St) (H:Hp) (D:Ends),Inv X pins σ H s->t D σ H->wpAny (model X.prog X.w) X.A (execs st X.env) (SP X pins D) X.xe s
theorem bF {α:Type}{t:Sem α}{Q Q':α->Shared->Prop}{M:Model}{A:Around}{E:Value->Shared->Prop}{s:Shared}(h:wpAny M A t Q E s)(hQ:∀ a s,Q a s->Q' a s):wpAny M A t Q' E s:=wpAny_mono h hQ fun _ _ x=>x
section
variable {X:Cx}
def N4 (i:Nat):TE:=fun σ H Q=>∃ v,σ[i]?=some (some v)/\Q v H
def tC (v:V):TE:=fun _ H Q=>Q v H
theorem ik {i:Nat}{x:Str}{pos:Pos}(hN:X.N[i]?=some x)(hv:qI X.env.scope x)(hd:autoParam ((x == ("__debug__":Str))=false) jM)(il:autoParam ((x == ("__classdict__":Str))=false) jM):PE X (.Name x pos) (N4 i):=by
 intro pins s σ H Q I h;obtain⟨v,e,h⟩:=h;obtain⟨m,hn,hl⟩:=I.loc;obtain⟨u,r,l⟩:=hl i x v hN e hv;have fin:EP X pins σ Q u s:=⟨v,H,I,r,h⟩
 rcases l with⟨hk,hm⟩ | ⟨hk,c,hc,FC⟩
 . exact wpAny_Name (wpAny_loadName_local I.ok.kind hk hn hm fin) hd
 . rcases hk with hk | hk
   . exact wpAny_Name (wpAny_loadName_cell I.ok.kind hk hc FC fin) hd
   . exact wpAny_Name (wpAny_loadName_free I.ok.kind hk hc FC fin il) hd
theorem GK {i j pos}:PE X (.Constant (.int i) j pos) (tC (.int i)):=fun _ _ _ H _ I h=>wpAny_Constant_int ⟨.int i,H,I.tok _,⟨_,rfl⟩,h⟩
theorem GL {x j pos}:PE X (.Constant (.str x) j pos) (tC (.str x)):=fun _ _ _ H _ I h=>Calls.Constant_str ⟨.str x,H,I.tok _,⟨_,rfl⟩,h⟩
def Gl (X:Cx)(x:Str):Prop:=X.env.kindOf x=some .globalImplicit
theorem oe {E:Value->Shared->Prop}{pins:List (Addr×Obj)}{s:Shared}{σ:St}{H:Hp}{x:Str}{u:Value}{pos:Pos}{Q:Value->Shared->Prop}(I:Inv X pins σ H s)(hg:Gl X x)(hm:X.mg x=some u)(h:Q u s)(hd:autoParam ((x == ("__debug__":Str))=false) jM):wpAny (model X.prog X.w) X.A (eval (.Name x pos) X.env) Q E s:=
 Calls.Name_function_global I.ok.kind hg (Calls.loadGlobal_global (by rw[I.ok.glob];exact I.mod.glob.keeps I.bk) hm h) hd
theorem ju {E:Value->Shared->Prop}{pins:List (Addr×Obj)}{s:Shared}{σ:St}{H:Hp}{x:Str}{u:Value}{pos:Pos}{Q:Value->Shared->Prop}(I:Inv X pins σ H s)(hg:Gl X x)(hm:X.mg x=none)(hv:bootBuiltins x=some u)(h:Q u s)(hn:autoParam (x≠"__name__") jM)(hd:autoParam ((x == ("__debug__":Str))=false) jM):wpAny (model X.prog X.w) X.A (eval (.Name x pos) X.env) Q E s:=by
 obtain⟨mb,h1,h2⟩:=I.mod.blt;exact Calls.Name_function_global I.ok.kind hg (Calls.loadGlobal_builtin (by rw[I.ok.glob];exact I.mod.glob.keeps I.bk) hm (by rw[I.ok.blt];exact h1.keeps I.bk) ((h2 x hn).trans hv) h) hd
theorem Dl {x:Str}{v:V}{u:Value}{pos:Pos}(hg:Gl X x)(hm:X.mg x=some u)(r:RelV v u)(hd:autoParam ((x == ("__debug__":Str))=false) jM):PE X (.Name x pos) (tC v):=
 fun _ _ _ H _ I h=>oe I hg hm ⟨v,H,I,r,h⟩ hd
theorem Dm {x:Str}{v:V}{u:Value}{pos:Pos}(hg:Gl X x)(hm:X.mg x=none)(hv:bootBuiltins x=some u)(r:RelV v u)(hn:autoParam (x≠"__name__") jM)(hd:autoParam ((x == ("__debug__":Str))=false) jM):PE X (.Name x pos) (tC v):=
 fun _ _ _ H _ I h=>ju I hg hm hv ⟨v,H,I,r,h⟩ hn hd
variable {a b:Expr}{ta tb:TE}{pos:Pos}
def PC (X:Cx)(op:CmpOp)(a b:Expr)(t:TE):Prop:=
 ∀ (pins:List (Addr×Obj)) (s:Shared) (σ:St) (H:Hp) (Q:VK),Inv X pins σ H s->t σ H Q ->
   wpAny (model X.prog X.w) X.A (eval a X.env) (fun v s₁=>wpAny (model X.prog X.w) X.A (eval b X.env) (fun u s₂=>wpAny (model X.prog X.w) X.A (compareOp op v u) (EP X pins σ Q) X.xe s₂) X.xe s₁) X.xe s
def tB (t:TE):TT:=fun σ H Q=>t σ H fun x H1=>∃ c,x=.bl c/\Q c H1
theorem GN {op:CmpOp}{t:TE}(h:PC X op a b t)(h1:behindInMarks op b=false:=by first | exact Kj _ (by decide) (by decide) | rfl):PT X (.Compare a [op] [b] pos) (tB t):=by
 intro pins s σ H Q I hw;refine wpAny_isTrue_Compare1 (bF (h pins s σ H _ I hw) fun v s1 h1=>bF h1 fun u s2 h2=>bF h2 fun c s3 ⟨x,H1,I1,r1,q1⟩=>?_) h1;obtain⟨d,rfl,q⟩:=q1;cases r1;exact wpAny_truthy_bool ⟨H1,I1,q⟩
theorem GO {e:Expr}{t:TE}(h:PE X e t)(he:autoParam (∀ whole,isTrue e X.env whole=(do let v <- whole;standAt e.pos;holding [v] (truthy v))) xz):PT X e (tB t):=by
 intro pins s σ H Q I hw;refine isTrue_plain (bF (h pins s σ H _ I hw) fun v s1 ⟨x,H1,I1,r1,q1⟩=>?_) (he _);obtain⟨d,rfl,q⟩:=q1;cases r1;exact wpAny_truthy_bool ⟨H1,I1,q⟩
variable {tA M3:TT}{rest:List Expr}
def N5 (t u:TT):TT:=fun σ H Q=>t σ H fun c H1=>if c=true then u σ H1 Q else Q false H1
def Sb (t u:TT):TT:=fun σ H Q=>t σ H fun c H1=>if c=true then Q true H1 else u σ H1 Q
def N6 (t:TT):TT:=fun σ H Q=>t σ H fun c H1=>Q (!c) H1
theorem pw_and1 (ha:PT X a tA):PW X (.BoolOp .And [a] pos) tA:=by
 intro wh pins s σ H Q I h;refine isTrue_and (bF (ha pins s σ H Q I h) fun c s1 e=>?_);cases c with
 | true=>exact isTrue_and_nil e
 | false=>exact e
theorem pw_or1 (ha:PT X a tA):PW X (.BoolOp .Or [a] pos) tA:=by
 intro wh pins s σ H Q I h;refine isTrue_or (bF (ha pins s σ H Q I h) fun c s1 e=>?_);cases c with
 | false=>exact isTrue_or_nil e
 | true=>exact e
theorem pw_and (ha:PT X a tA)(hb:PW X (.BoolOp .And (b::rest) pos) M3):PW X (.BoolOp .And (a::b::rest) pos) (N5 tA M3):=by
 intro wh pins s σ H Q I h;refine isTrue_and (bF (ha pins s σ H _ I h) fun c s1 ⟨H1,I1,q1⟩=>?_);cases c with
 | true=>exact hb wh pins s1 σ H1 Q I1 q1
 | false=>exact⟨H1,I1,q1⟩
theorem pw_or (ha:PT X a tA)(hb:PW X (.BoolOp .Or (b::rest) pos) M3):PW X (.BoolOp .Or (a::b::rest) pos) (Sb tA M3):=by
 intro wh pins s σ H Q I h;refine isTrue_or (bF (ha pins s σ H _ I h) fun c s1 ⟨H1,I1,q1⟩=>?_);cases c with
 | true=>exact⟨H1,I1,q1⟩
 | false=>exact hb wh pins s1 σ H1 Q I1 q1
theorem GP (ha:PT X a tA):PT X (.UnaryOp .Not a pos) (N6 tA):=by
 intro pins s σ H Q I h;exact isTrue_not (ha pins s σ H (fun c H1=>Q (!c) H1) I h)
def Kk (ta tb:TE):TE:=fun σ H Q=>ta σ H fun x H1=>∃ c,x=.bl c/\if c=true then tb σ H1 Q else Q (.bl false) H1
theorem GQ {op}{t:TE}(h:PE X a t):PE X (.BoolOp op [a] pos) t:=fun pins s σ H Q I hw=>BoolOp_one (h pins s σ H Q I hw)
theorem z7 (ha:PE X a ta)(hb:PE X (.BoolOp .And (b::rest) pos) tb):PE X (.BoolOp .And (a::b::rest) pos) (Kk ta tb):=by
 intro pins s σ H Q I h;refine BoolOp_and (bF (ha pins s σ H _ I h) fun v s1 ⟨x,H1,I1,r1,q1⟩=>?_);obtain⟨c,rfl,q1⟩:=q1;cases r1;refine wpAny_truthy_bool ?_;cases c with
 | true=>exact hb pins s1 σ H1 Q I1 q1
 | false=>exact⟨.bl false,H1,I1,rfl,q1⟩
end
def jm (K:PySem.W.Frag)(H:Hp)(a:Addr)(xs:List V):Prop:=
 Rd H a (.lst xs) \/
   ∃ (o:Obj) (aE:Array Value) (n:Nat),K.lookup a=some o/\o.cls=.type "list"/\o.dict=none/\o.data=.seq aE n/\aE.size<=sizeLine/\Vals xs aE.toList
abbrev vC (K:PySem.W.Frag)(H:Hp)(a:Addr)(xs:List V):Prop:=TupAt K H a xs
noncomputable def N7:Value->Option V
 | .none=>some .b0
 | .bool b=>some (.bl b)
 | .int i _=>some (.int i)
 | .str x _=>some (.str x)
 | .bytes b _=>some (.CZ b)
 | .float b _=>some (.GD b)
 | .ref a=>some (.ref a)
 | .type n=>some (.ty n)
 | _=>none
theorem RelV.abs {x:V}{u:Value}(r:RelV x u):N7 u=some x:=by
 cases x with
 | b0=>cases r;rfl
 | bl _=>cases r;rfl
 | int _=>obtain⟨t,rfl⟩:=r;rfl
 | str _=>obtain⟨t,rfl⟩:=r;rfl
 | CZ _=>obtain⟨t,rfl⟩:=r;rfl
 | GD _=>obtain⟨t,rfl⟩:=r;rfl
 | ref _=>cases r;rfl
 | ty _=>cases r;rfl
theorem RelV.inj {x y:V}{u:Value}(r:RelV x u)(q:RelV y u):x=y:=Option.some.inj (r.abs.symm.trans q.abs)
theorem Vals.inj:∀ {xs ys:List V} {us:List Value},Vals xs us->Vals ys us->xs=ys
 | _,_,_,.nil,.nil=>rfl
 | _,_,_,.cons r t,.cons r' t'=>by rw[r.inj r',Vals.inj t t']
section
variable {X:Cx}{pins:List (Addr×Obj)}{σ:St}{H:Hp}{s:Shared}{a:Addr}{xs ys:List V}
theorem jm.of {K:W.Frag}(h:H a=some (.lst xs)):jm K H a xs:=.inl (.inl h)
theorem vC.of {K:W.Frag}(h:H a=some (.tup xs)):vC K H a xs:=.inl h
theorem Inv.list (I:Inv X pins σ H s)(h:jm X.K H a xs):∃ aE:List Value,Vals xs aE/\PlainL s.heap a aE.toArray/\xs.length<=sizeLine:=by
 rcases h with h | ⟨o,aE,n,hk,hc,hd,hs,hz,r⟩
 . obtain⟨z,aE,n,r,e⟩:=h.ok I.aK
   exact⟨aE,r,⟨_,n,e,rfl,rfl,rfl⟩,z⟩
 . refine⟨aE.toList,r,⟨o,n,I.iT a o hk,hc,hd,by simpa using hs⟩,?_⟩
   have e:=r.length;simp only[W4] at e;omega
theorem Inv.tuple (I:Inv X pins σ H s)(h:vC X.K H a xs):∃ aE:List Value,Vals xs aE/\IsTup s.heap a aE.toArray/\xs.length<=sizeLine:=by
 rcases h with h | ⟨o,aE,n,hk,hc,hs,hz,r⟩
 . obtain⟨z,aE,r,p⟩:=(show aD X.prog X.w H s.heap a (.tup xs) from I.aK a _ h)
   exact⟨aE,r,p,z⟩
 . refine⟨aE.toList,r,⟨o,I.iT a o hk,hc,n,by simpa using hs⟩,?_⟩
   have e:=r.length;simp only[W4] at e;omega
theorem Inv.ub (I:Inv X pins σ H s)(h:jm X.K H a xs)(h':jm X.K H a ys):xs=ys:=by
 obtain⟨aE,r,⟨o,n,e,_,_,d⟩,_⟩:=I.list h;obtain⟨its',r',⟨o',n',e',_,_,d'⟩,_⟩:=I.list h';rw[e] at e';cases e';rw[d] at d';injection d' with d1 _
 have:aE=its':=by simpa using congrArg Array.toList d1
 subst this;exact r.inj r'
end
section
variable {X:Cx}{st:Stmt}{rest:List Stmt}{t u:TS}{e:Expr}{te:TE}{pos:Pos}
def Kl:TS:=fun D σ H=>D.nx σ H
def N8 (t u:TS):TS:=fun D σ H=>t { D with nx:=u D} σ H
theorem Dn:vG X [] Kl:=fun _ _ σ H _ I h=>wpAny_execs_nil ⟨σ,H,I,h⟩
theorem jv (h1:PS X st t)(h2:vG X rest u):vG X (st::rest) (N8 t u):=by
 intro pins s σ H D I h;refine wpAny_execs_cons (bF (h1 pins s σ H { D with nx:=u D} I h) fun f s1 q=>?_);cases f with
 | next=>
   obtain⟨σ',H',I',q⟩:=q;exact h2 pins s1 σ' H' D I' q
 | ret v=>exact q
 | brk=>exact q
 | cont=>exact q
theorem lq (h1:PS X st t):vG X [st] t:=by
 intro pins s σ H D I h;refine wpAny_execs_cons (bF (h1 pins s σ H D I h) fun f s1 q=>?_);cases f with
 | next=>exact wpAny_execs_nil q
 | ret v=>exact q
 | brk=>exact q
 | cont=>exact q
theorem Inv.quiet {pins:List (Addr×Obj)}{σ:St}{H:Hp}{s:Shared}(I:Inv X pins σ H s):interactive X.env=false:=by simp[interactive,I.ok.kind]
def Km (te:TE):TS:=fun D σ H=>te σ H fun _ H1=>D.nx σ H1
theorem jT (he:PE X e te)(hs:autoParam (swapsWith e none pos.line X.env=pure false) jp):PS X (.Expr e pos) (Km te):=by
 intro pins s σ H D I h;exact wpAny_Expr_any (bF (he pins s σ H _ I h) fun v s1 ⟨x,H1,I1,r1,q1⟩=>⟨σ,H1,I1,q1⟩) I.quiet hs
def N9 (te:TE):TS:=fun D σ H=>te σ H D.rt
theorem vH (he:PE X e te):PS X (.Return (some e) pos) (N9 te):=by
 intro pins s σ H D I h;exact wpAny_Return_some (bF (he pins s σ H _ I h) fun v s1 ⟨x,H1,I1,r1,q1⟩=>⟨x,σ,H1,I1,r1,q1⟩)
def Oa (c:TT)(t u:TS):TS:=fun D σ H=>c σ H fun b H1=>if b=true then t D σ H1 else u D σ H1
theorem FE {c:Expr}{a b:List Stmt}{tc:TT}(hc:PT X c tc)(ha:vG X a t)(hb:vG X b u):PS X (.If c a b pos) (Oa tc t u):=by
 intro pins s σ H D I h;refine wpAny_If (bF (hc pins s σ H _ I h) fun d s1 ⟨H1,I1,q1⟩=>?_);cases d with
 | true=>exact ha pins s1 σ H1 D I1 q1
 | false=>exact hb pins s1 σ H1 D I1 q1
def GR:TS:=fun _ _ _=>False
theorem l9 {sts:List Stmt}:vG X sts GR:=fun _ _ _ _ _ _ h=>h.elim
end
abbrev TG:=V->St->Hp->(St->Hp->Prop)->Prop
abbrev GS:=List V->St->Hp->(St->Hp->Prop)->Prop
def PG (X:Cx)(target:Expr)(t:TG):Prop:=
 ∀ (pins:List (Addr×Obj)) (s:Shared) (σ:St) (H:Hp) (v:V) (u:Value) (Q:St->Hp->Prop),Inv X pins σ H s->RelV v u->t v σ H Q ->
   wpAny (model X.prog X.w) X.A (assign target X.env u) (fun _ s'=>∃ σ' H',Inv X pins σ' H' s'/\Q σ' H') X.xe s
def M4 (X:Cx)(ts:List Expr)(t:GS):Prop:=
 ∀ (pins:List (Addr×Obj)) (s:Shared) (σ:St) (H:Hp) (vs:List V) (us:List Value) (Q:St->Hp->Prop),Inv X pins σ H s->Vals vs us->t vs σ H Q ->
   wpAny (model X.prog X.w) X.A (assignInOrder ((assignEach ts X.env).map (·.2)) us) (fun _ s'=>∃ σ' H',Inv X pins σ' H' s'/\Q σ' H') X.xe s
section
variable {X:Cx}{pos:Pos}
def kI (i:Nat):TG:=fun v σ H Q=>Q (σ.set i (some v)) H
theorem bh {i:Nat}{x:Str}(hN:X.N.Nodup)(hi:X.N[i]?=some x)(hx:Loc X.env.scope x)(hf:autoParam (X.fn x=true\/X.env.scope.names.lookup x=some .local) jR):PG X (.Name x pos) (kI i):=by
 intro pins s σ H v u Q I r h;exact wpAny_assign_Name (ua I hN hi hx r (fun s' I'=>⟨_,H,I',h⟩) hf)
def GU:GS:=fun vs σ H Q=>vs=[]/\Q σ H
def ue (t:TG)(u:GS):GS:=fun vs σ H Q=>∃ v r,vs=v::r/\t v σ H fun σ' H'=>u r σ' H' Q
theorem jU:M4 X [] GU:=by
 intro pins s σ H vs us Q I r h;obtain⟨e,h⟩:=h;subst e;cases r;exact assignInOrder_nil ⟨σ,H,I,h⟩
theorem cj {e:Expr}{es:List Expr}{t:TG}{u:GS}(h1:PG X e t)(h2:M4 X es u)(hs:autoParam ((assignEach (e::es) X.env).map (·.2)=assign e X.env::(assignEach es X.env).map (·.2)) jp):M4 X (e::es) (ue t u):=by
 intro pins s σ H vs us Q I r h;obtain⟨v,vr,e1,h⟩:=h;subst e1;cases r with
 | cons r rr=>
   rw[hs];refine assignInOrder_cons (bF (h1 pins s σ H _ _ _ I r h) fun _ s1 ⟨σ1,H1,I1,q1⟩=>?_);exact h2 pins s1 σ1 H1 _ _ Q I1 rr q1
def GV (K:W.Frag)(n:Nat)(t:GS):TG:=fun v σ H Q=>∃ a xs,v=.ref a/\vC K H a xs/\xs.length=n/\t xs σ H Q
theorem ma {es:List Expr}{k:Nat}{t:GS}{n:Nat}(hc:X.calm=true)(h:M4 X es t)(hn:autoParam ((assignEach es X.env).length=n) jp)(jf:autoParam ((assignEach es X.env).findIdx? (·.1)=none) jp):PG X (.Tuple es k pos) (GV X.K n t):=by
 intro pins s σ H v u Q I r hw;obtain⟨a,xs,e1,hq,hl,hw⟩:=hw;subst e1;cases r;obtain⟨aE,rv,ht,hz⟩:=I.tuple hq;refine assign_Tuple_tuple (I.ok.hd hc) ht (by simp[hn,<- hl,rv.length]) jf fun h' hx=>?_
 have I1:Inv X pins σ H { s with heap:=h'}:=I.kept (t':=s.toks) fun b o e=>hx b o (V9 (VI e)) e
 exact h pins _ σ H xs _ Q I1 (by simpa using rv) hw
def Kn (te:TE)(g:TG):TS:=fun D σ H=>te σ H fun x H1=>g x σ H1 D.nx
theorem GW {tg e:Expr}{te:TE}{g:TG}(he:PE X e te)(hg:PG X tg g)(hs:autoParam (swapsWithSole [tg] e pos.line X.env=pure false) jp)(hw:autoParam (swappedStores [tg] e X.env=pure none) jp)(h1:autoParam ((assignEach [tg] X.env).map (·.2)=[assign tg X.env]) jp):PS X (.Assign [tg] e pos) (Kn te g):=by
 intro pins s σ H D I h;refine wpAny_Assign_stores (bF (he pins s σ H _ I h) fun v s1 ⟨x,H1,I1,r1,q1⟩=>?_) hs hw;rw[h1];exact bF (hg pins s1 σ H1 x v _ I1 r1 q1) fun _ s2 q=>q
theorem vI {i:Nat}{x:Str}{e:Expr}{te:TE}{pos':Pos}(hN:X.N.Nodup)(hi:X.N[i]?=some x)(hx:Loc X.env.scope x)(he:PE X e te)(hs:autoParam (swapsWith e (some (.Name x pos')) pos.line X.env=pure false) jp)(hf:autoParam (X.fn x=true\/X.env.scope.names.lookup x=some .local) jR):PS X (.Assign [.Name x pos'] e pos) (Kn te (kI i)):=by
 intro pins s σ H D I h;refine wpAny_Assign_Name (bF (he pins s σ H _ I h) fun v s1 ⟨y,H1,I1,r1,q1⟩=>?_) hs;exact ua I1 hN hi hx r1 (fun s2 I2=>⟨_,H1,I2,q1⟩) hf
end
section
variable {X:Cx}{pos:Pos}
def GX (c:TT)(tb:TS):TS:=fun D σ H=>∃ W:Nat->St->Hp->Prop,(∃ m,W m σ H)/\∀ m σ H,W m σ H ->
 c σ H fun b H1=>if b=true then ∃ N:St->Hp->Prop,(∀ σ' H',N σ' H'->∃ m',m' < m/\W m' σ' H')/\tb { D with nx:=N,ct:=N,bk:=D.nx} σ H1 else D.nx σ H1
theorem uf {c:Expr}{body:List Stmt}{tc:TT}{tb:TS}(hp:PassesOwn (model X.prog X.w) X.A X.env X.xe)(hc:PT X c tc)(hb:vG X body tb):PS X (.While c body [] pos) (GX tc tb):=by
 intro pins s σ H D I h;obtain⟨W,⟨m0,w0⟩,turn⟩:=h;refine wpAny_While (codeAny_whileLoop (fun n s'=>∃ σ' H',Inv X pins σ' H' s'/\W n σ' H') ?_ m0 ⟨σ,H,I,w0⟩)
 rintro n s1 ⟨σ1,H1,I1,w1⟩
 refine wpAny_passesOwn hp (bF (hc pins s1 σ1 H1 _ I1 (turn n σ1 H1 w1)) fun b s2 ⟨H2,I2,q2⟩=>?_);cases b with
 | true=>
   obtain⟨N,hN,q2⟩:=q2;rw[if_pos rfl];refine wpAny_passesOwn hp (bF (hb pins s2 σ1 H2 _ I2 q2) fun f s3 q3=>?_);cases f with
   | next=>
     obtain⟨σ3,H3,I3,n3⟩:=q3;obtain⟨m',hm,w3⟩:=hN σ3 H3 n3;exact⟨m',hm,σ3,H3,I3,w3⟩
   | cont=>
     obtain⟨σ3,H3,I3,n3⟩:=q3;obtain⟨m',hm,w3⟩:=hN σ3 H3 n3;exact⟨m',hm,σ3,H3,I3,w3⟩
   | brk=>exact q3
   | ret v=>exact q3
 | false=>
   rw[if_neg V8];exact wpAny_execs_nil ⟨σ1,H2,I2,q2⟩
end
structure It where
 go:Nat->Hp->Prop
 z8:Nat->Hp->V->Hp->Prop
 stop:Nat->Hp->Prop
def gT (X:Cx)(pins:List (Addr×Obj))(H:Hp)(b:Addr):Prop:=
 H b=none/\b≠X.env.locals/\b ∉ X.fs/\(b∈X.ex\/X.s₀.heap.objs.size<=b)/\(∀ x c,X.env.cells.lookup x=some c->c≠b)/\∀ p∈X.pn ++ pins,p.1≠b
theorem Inv.nG {X:Cx}{pins:List (Addr×Obj)}{σ:St}{H H':Hp}{s:Shared}{b:Addr}(I:Inv X pins σ H s)(hb:s.heap.objs.size<=b)(hn:H' b=none):gT X pins H' b:=by
 refine⟨hn,Xb (V4 I.lt hb),I.NZ hb,.inr (We I.sz hb),fun x c e z=>?_,fun p hp z=>?_⟩
 . obtain⟨v,q⟩:=I.cell x c e
   exact absurd (V4 q.lt (by rw[z];exact hb)) (WK _)
 . exact absurd (V4 (VI (I.pin p hp).1) (by rw[z];exact hb)) (WK _)
structure Turn (P:Program)(w:World)(K:W.Frag)(tg:Expr)(J:It)(fp:List Addr)(it:Addr)(tn:Nat->Heap->Prop):Prop where
 mem:it∈fp
 obj:∀ i h,tn i h->∀ b∈fp,∃ o,h.get? b=some o/\∀ v,o.data≠.cell v
 keep:∀ i h h',tn i h->(∀ b∈fp,∀ o,h.get? b=some o->h'.get? b=some o)->tn i h'
 item:∀ (X:Cx),X.prog=P->X.w=w->X.K=K->X.calm=true->∀ (i:Nat) (pins:List (Addr×Obj)) (s:Shared) (σ:St) (H:Hp) (E:Value->Shared->Prop),Inv X pins σ H s->(∀ b∈fp,gT X pins H b)->tn i s.heap->J.go i H ->
   wpAny (model P w) X.A (pyNext (.ref it)) (fun r s1=>∃ u,r=some u /\
     wpAny (model P w) X.A (letOwnedTupleGo tg (.ref it) u) (fun _ s2=>∃ x H',Inv X pins σ H' s2/\RelV x u/\J.z8 i H x H'/\tn (i+1) s2.heap/\∀ b∈fp,H' b=none) E s1) E s
 done:∀ (X:Cx),X.prog=P->X.w=w->X.K=K->X.calm=true->∀ (i:Nat) (pins:List (Addr×Obj)) (s:Shared) (σ:St) (H:Hp) (E:Value->Shared->Prop),Inv X pins σ H s->(∀ b∈fp,gT X pins H b)->tn i s.heap->J.stop i H ->
   wpAny (model P w) X.A (pyNext (.ref it)) (fun r s1=>r=none/\Inv X pins σ H s1) E s
 self:∀ (A:Around) (i:Nat) (s:Shared) (Q:Value->Shared->Prop) (E:Value->Shared->Prop),tn i s.heap->Q (.ref it) s->wpAny (model P w) A (pyIter (.ref it)) Q E s
abbrev TI:=St->Hp->(It->Hp->Prop)->Prop
def QC (X:Cx)(pins:List (Addr×Obj))(σ:St)(tg:Expr)(R:It->Hp->Prop)(JW:Value)(s2:Shared):Prop:=
 ∃ (it:Addr) (fp:List Addr) (tn:Nat->Heap->Prop) (J:It) (H':Hp),JW=.ref it/\Inv X pins σ H' s2/\Turn X.prog X.w X.K tg J fp it tn/\tn 0 s2.heap/\(∀ b∈fp,gT X pins H' b)/\R J H'
def PI (X:Cx)(tg iter:Expr)(wi:TI):Prop:=
 ∀ (pins:List (Addr×Obj)) (s:Shared) (σ:St) (H:Hp) (R:It->Hp->Prop),Inv X pins σ H s->wi σ H R ->
   wpAny (model X.prog X.w) X.A (eval iter X.env) (fun v s1=>wpAny (model X.prog X.w) X.A (pyIter v) (QC X pins σ tg R) X.xe s1) X.xe s
theorem qJ {M:Model}{A:Around}{E:Value->Shared->Prop}{s:Shared}{tg:Expr}{it:Addr}{u:Value}{o:Obj}{n:String}{vs:Array Value}{Q:Unit->Shared->Prop}(ho:s.heap.get? it=some o)(hc:o.cls=.type n)(hd:o.data=.fields vs)(hn:["enumerate","zip","dict_itemiterator","dict_reverseitemiterator","odict_iterator","itertools.zip_longest","itertools.pairwise"].contains n=false)(hQ:Q () s):wpAny M A (letOwnedTupleGo tg (.ref it) u) Q E s:=by
 unfold letOwnedTupleGo;cases tg <;> first
   | exact wpAny_pure hQ
   | (cases u <;> first
       | exact wpAny_pure hQ
       | (refine wpAny_bind (wpAny_load ho ?_)
          rw[hc,hd];show wpAny M A (if (["enumerate","zip","dict_itemiterator","dict_reverseitemiterator","odict_iterator","itertools.zip_longest","itertools.pairwise"].contains n && vs[0]? == some (rawInt _))=true then _ else _) Q E s;rw[if_neg (by intro h;rw[hn,Bool.false_and] at h;cases h)];exact wpAny_pure hQ))
noncomputable def Ko (K:W.Frag)(a:Addr):It:=
 ⟨fun i H=>∃ xs x,jm K H a xs/\xs[i]?=some x,fun i H x H'=>H'=H/\∀ xs,jm K H a xs->xs[i]?=some x,fun i H=>∃ xs,jm K H a xs/\xs.length<=i⟩
noncomputable def GY (lo:Int)(n:Nat):It:=⟨fun i _=>i < n,fun i H x H'=>H'=H/\x=.int (lo+i),fun i _=>n<=i⟩
theorem yx {P:Program}{w:World}{K:W.Frag}{tg:Expr}(a it:Addr):Turn P w K tg (Ko K a) [it] it (fun i h=>h.IsListIter it a i) where
 mem:=by simp
 obj:=fun i h st b hb=>by
   have e:b=it:=by simpa using hb
   subst e;obtain⟨o,e,c,d⟩:=st;exact⟨o,e,fun v z=>by rw[d] at z;cases z⟩
 keep:=fun i h h' st k=>st.at fun o e=>k it (by simp) o e
 item:=by
   intro X hP hw hK hc i pins s σ H E I hf st hg;subst hP hw hK;obtain⟨xs,x,hq,hx⟩:=hg;obtain⟨aE,rv,p,hz⟩:=I.list hq;obtain⟨u,hu,ru⟩:=rv.get hx;obtain⟨f0,f1,f2,f3,f4,f5⟩:=hf it (by simp);refine wpAny_pyNext_list_item st p.isList (x:=u) (by simpa using hu) fun h' fL sb=>?_
   have I1:Inv X pins σ H { s with heap:=h'}:=I.turned (t':=s.toks) (fun b o hb e=>(sb.2 b hb).trans e) f0 f1 f3 f4 f5;obtain⟨o,e,c,d⟩:=id fL;exact⟨u,rfl,qJ (s:={ s with heap:=h'}) e c d (by decide) ⟨x,H,I1,ru,⟨rfl,fun ys hy=>by rw[I.ub hy hq];exact hx⟩,fL,fun b hb=>(hf b hb).1⟩⟩
 done:=by
   intro X hP hw hK hc i pins s σ H E I hf st hg;subst hP hw hK;obtain⟨xs,hq,hx⟩:=hg;obtain⟨aE,rv,p,hz⟩:=I.list hq;obtain⟨f0,f1,f2,f3,f4,f5⟩:=hf it (by simp);have hl:=rv.length;exact wpAny_pyNext_list_end (I.ok.hd hc) st p.isList (by simp;omega) fun h' eb=>⟨rfl,I.turned (t':=s.toks) (fun b o hb e=>eb b o hb e) f0 f1 f3 f4 f5⟩
 self:=fun _ _ _ _ _ st h=>wpAny_pyIter_listiter st h
theorem vJ {P:Program}{w:World}{K:PySem.W.Frag}{tg:Expr}(it:Addr)(lo:Int)(n:Nat):Turn P w K tg (GY lo n) [it] it (fun i h=>IsRangeIter h it (lo+(i:Nat) * 1) ((n:Int) - (i:Nat)) 1) where
 mem:=by simp
 obj:=fun i h st b hb=>by
   have e:b=it:=by simpa using hb
   subst e;exact⟨_,st,fun v z=>by
     have z':Data.fields _=Data.cell v:=z;cases z'⟩
 keep:=fun i h h' st k=>k it (by simp) _ st
 item:=by
   intro X hP hw hK hc i pins s σ H E I hf st hg;subst hP hw hK;obtain⟨f0,f1,f2,f3,f4,f5⟩:=hf it (by simp);have W:=Walks.range (prog:=X.prog) (w:=X.w) (I.ok.hd hc) it lo 1 n;refine W.item i s _ _ hg st fun v h' tk hv fL kk=>?_
   obtain⟨t,rfl⟩:=hv;have I1:Inv X pins σ H { s with heap:=h',toks:=tk}:=I.turned (fun b o hb e=>kk b o (by simpa using hb) e) f0 f1 f3 f4 f5;refine⟨_,rfl,qJ (s:={ s with heap:=h',toks:=tk}) (n:="range_iterator") fL rfl rfl (by decide) ⟨.int (lo+i),H,I1,⟨t,?_⟩,⟨rfl,rfl⟩,fL,fun b hb=>(hf b hb).1⟩⟩;rw[Int.mul_one]
 done:=by
   intro X hP hw hK hc i pins s σ H E I hf st hg;subst hP hw hK;obtain⟨f0,f1,f2,f3,f4,f5⟩:=hf it (by simp);exact wpAny_pyNext_range_end (I.ok.hd hc) st (by have:n<=i:=hg;omega) fun h' eb=>⟨rfl,I.turned (t':=s.toks) (fun b o hb e=>eb b o hb e) f0 f1 f3 f4 f5⟩
 self:=fun _ _ _ _ _ st h=>wpAny_pyIter_rangeiter st h
section
variable {X:Cx}{tg:Expr}
def z9 (K:W.Frag)(tl:TE):TI:=fun σ H R=>tl σ H fun x H1=>∃ a,x=.ref a/\(∃ xs,jm K H1 a xs)/\R (Ko K a) H1
theorem fS {l:Expr}{tl:TE}(hl:PE X l tl):PI X tg l (z9 X.K tl):=by
 intro pins s σ H R I h;refine bF (hl pins s σ H _ I h) fun v s1 ⟨x,H1,I1,r1,q1⟩=>?_
 obtain⟨a,e,⟨xs,hq⟩,q⟩:=q1;subst e;cases r1;obtain⟨aE,rv,p,hz⟩:=I1.list hq;refine wpAny_pyIter_list p.isList ?_;refine⟨s1.heap.objs.size,[s1.heap.objs.size],_,_,H1,rfl,I1.kept (t':=s1.toks) fun b o e=>Te _ e,yx a _,⟨_,VJ _ rfl,rfl,rfl⟩,fun b hb=>?_,q⟩;have e:b=s1.heap.objs.size:=by simpa using hb
 subst e;exact I1.nG (O0 _) (I1.aK.fresh (O0 _))
theorem Aa {pins:List (Addr×Obj)}{σ:St}{H:Hp}{s:Shared}{R:It->Hp->Prop}{E:Value->Shared->Prop}{lo hi:Int}{t u v:Tok}{tk:Nat}(I:Inv X pins σ H s)(h1:-(2 ^ 62)<=lo)(h2:lo < 2 ^ 62)(h3:-(2 ^ 62)<=hi)(h4:hi < 2 ^ 62)(q:R (GY lo (hi - lo).toNat) H):wpAny (model X.prog X.w) X.A (pyIter (.ref s.heap.objs.size)) (QC X pins σ tg R) E { s with heap:=s.heap.push { cls:=.type "range",data:=.fields #[.int lo t,.int hi u,.int 1 v]},toks:=tk}:=by
 refine wpAny_pyIter_range (IsRange.new ..) (small_one h1 h2 h3 h4) ?_;have I1:Inv X pins σ H { s with heap:=s.heap.push { cls:=.type "range",data:=.fields #[.int lo t,.int hi u,.int 1 v]},toks:=tk}:=I.kept fun b o e=>Te _ e
 refine⟨(s.heap.push { cls:=.type "range",data:=.fields #[.int lo t,.int hi u,.int 1 v]}).objs.size,[(s.heap.push { cls:=.type "range",data:=.fields #[.int lo t,.int hi u,.int 1 v]}).objs.size],_,_,H,rfl,
   I1.kept (t':=tk) fun b o e=>Te _ e,vJ _ lo (hi - lo).toNat,?_,fun b hb=>?_,q⟩
 . have e1:lo+((0:Nat):Int) * 1=lo:=by simp
   have e2:(((hi - lo).toNat:Nat):Int) - ((0:Nat):Int)=Builtin.Range.rangeSize lo hi 1:=by rw[rangeSize_one];split <;> omega
   show IsRangeIter _ _ (lo+((0:Nat):Int) * 1) ((((hi - lo).toNat:Nat):Int) - ((0:Nat):Int)) 1;rw[e1,e2];exact VJ _ rfl
 . have e:b=(s.heap.push { cls:=.type "range",data:=.fields #[.int lo t,.int hi u,.int 1 v]}).objs.size:=by simpa using hb
   subst e;exact I1.nG (O0 _) (I1.aK.fresh (O0 _))
def Kq (ta:TA):TI:=fun σ H R=>ta σ H fun vs H1=>∃ j:Int,vs=[.int j]/\-(2 ^ 62)<=j/\j < 2 ^ 62/\R (GY 0 j.toNat) H1
theorem yy {a:Expr}{ta:TA}{p pos:Pos}(hg:Gl X "range")(hm:X.mg "range"=none)(ha:PA X [a] ta)(hs:autoParam (starEach [a] X.env=[(false,eval a X.env)]) jp):PI X tg (.Call (.Name "range" p) [a] [] pos) (Kq ta):=by
 intro pins s σ H R I h;refine Call_ (ju I hg hm boot_range (PyProof.Rows.callWith_type1 (bF (ha pos pins s σ H _ I h) fun us s1 ⟨vs,H1,I1,r1,q1⟩=>?_) hs rfl));obtain⟨j,e,q1,q2,q⟩:=q1;subst e;cases r1 with
 | cons r rr=>
   cases rr;obtain⟨t,rfl⟩:=r;exact call_range_1 (Aa I1 (by omega) (by omega) q1 q2 (by simpa using q))
def Ob (wi:TI)(g:TG)(tb:TS):TS:=fun D σ H=>wi σ H fun J H1=>∃ W:Nat->Nat->St->Hp->Prop,(∃ m,W 0 m σ H1)/\∀ i m σ H,W i m σ H ->
 (J.stop i H/\D.nx σ H)\/(J.go i H/\∃ N:St->Hp->Prop,(∀ σ' H',N σ' H'->∃ m',m' < m/\W (i+1) m' σ' H')/\∀ x H',J.z8 i H x H'->g x σ H' fun σ2 H2=>tb { D with nx:=N,ct:=N,bk:=D.nx} σ2 H2)
noncomputable def md (fp:List Addr)(h:Heap):List (Addr×Obj):=fp.filterMap fun b=>(h.get? b).map fun o=>(b,o)
theorem du {fp:List Addr}{h:Heap}{b:Addr}{o:Obj}(hb:b∈fp)(e:h.get? b=some o):(b,o)∈md fp h:=List.mem_filterMap.mpr ⟨b,hb,by rw[e];rfl⟩
theorem yz {fp:List Addr}{h:Heap}{p:Addr×Obj}(hp:p∈md fp h):p.1∈fp/\h.get? p.1=some p.2:=by
 obtain⟨b,hb,e⟩:=List.mem_filterMap.mp hp;cases q:h.get? b with
 | none=>rw[q] at e;cases e
 | some o=>
   rw[q] at e;have e':(b,o)=p:=Option.some.inj e;subst e';exact⟨hb,q⟩
theorem Inv.pinned {pins:List (Addr×Obj)}{σ:St}{H:Hp}{s:Shared}{fp:List Addr}(I:Inv X pins σ H s)(hf:∀ b∈fp,gT X pins H b)(ho:∀ b∈fp,∃ o,s.heap.get? b=some o/\∀ v,o.data≠.cell v):Inv X (pins ++ md fp s.heap) σ H s:=
 I.xf fun p hp=>(WI.mp hp).elim (fun z=>I.pin p (Wa _ z)) fun z=>by
   obtain⟨hb,e⟩:=yz z;obtain⟨f0,f1,f2,_⟩:=hf p.1 hb;obtain⟨o,e',d⟩:=ho p.1 hb;rw[e] at e';cases e';exact⟨e,f0,f1,f2,d⟩
theorem Inv.f9 {pins pl:List (Addr×Obj)}{σ:St}{H:Hp}{s:Shared}(I:Inv X (pins ++ pl) σ H s):Inv X pins σ H s:=I.xf fun p hp=>I.pin p (Wa _ (List.mem_append_left _ hp))
theorem vK {iter:Expr}{body:List Stmt}{wi:TI}{g:TG}{tb:TS}{pos:Pos}(hp:PassesOwn (model X.prog X.w) X.A X.env X.xe)(hc:X.calm=true)(hi:PI X tg iter wi)(hg:PG X tg g)(hb:vG X body tb)(hs:autoParam (∀ x,foldedSetIterable iter X.env x=pure x) xz):PS X (.For tg iter body [] pos) (Ob wi g tb):=by
 intro pins s σ H D I h;refine wpAny_For (bF (hi pins s σ H _ I h) fun v s1 h1=>bF h1 fun JW s2 h2=>?_) hs;obtain⟨it,fp,tn,J,H2,e,I2,T,C1,f2,W,⟨m0,w0⟩,turn⟩:=h2;subst e;have kR:∀ {H':Hp},(∀ b∈fp,H' b=none)->∀ b∈fp,gT X pins H' b:=fun hn b hb=>⟨hn b hb,(f2 b hb).2⟩
 refine codeAny_forLoop_any (fun n s'=>∃ i σ' H',Inv X pins σ' H' s'/\tn i s'.heap/\(∀ b∈fp,H' b=none)/\W i n σ' H') ?_ m0 ⟨0,σ,H2,I2,C1,fun b hb=>(f2 b hb).1,w0⟩
 rintro n s3 ⟨i,σ3,H3,I3,M5,QD,w3⟩
 rcases turn i n σ3 H3 w3 with⟨stop,qn⟩ | ⟨go,N,hN,step⟩
 . refine wpAny_passesOwn hp (bF (T.done X rfl rfl rfl hc i pins s3 σ3 H3 X.xe I3 (kR QD) M5 stop) fun r s4 ⟨hr,I4⟩=>?_)
   subst hr;exact wpAny_execs_nil ⟨σ3,H3,I4,qn⟩
 . refine wpAny_passesOwn hp (bF (T.item X rfl rfl rfl hc i pins s3 σ3 H3 X.xe I3 (kR QD) M5 go) fun r s4 ⟨u,hr,h4⟩=>?_)
   subst hr;refine wpAny_passesOwn hp (bF h4 fun _ s5 ⟨x,H5,I5,r5,y5,zN,C3⟩=>?_);have Sd:=I5.pinned (kR C3) (T.obj _ _ zN);refine wpAny_passesOwn hp (bF (hg _ s5 σ3 H5 x u _ Sd r5 (step x H5 y5)) fun _ s6 ⟨σ6,H6,I6,q6⟩=>?_);refine wpAny_passesOwn hp (bF (hb _ s6 σ6 H6 _ I6 q6) fun f s7 q7=>?_);have again:∀ {σ7:St} {H7:Hp},Inv X (pins ++ md fp s5.heap) σ7 H7 s7->N σ7 H7->∃ m,m < n/\∃ i σ' H',Inv X pins σ' H' s7/\tn i s7.heap/\(∀ b∈fp,H' b=none)/\W i m σ' H':=fun {σ7 H7} I7 n7=>by
     obtain⟨m',hm,w7⟩:=hN σ7 H7 n7;refine⟨m',hm,i+1,σ7,H7,I7.f9,T.keep _ _ _ zN fun b hb o e=>(I7.pin (b,o) (Wa _ (Wa _ (du hb e)))).1,fun b hb=>?_,w7⟩;obtain⟨o,e,d⟩:=T.obj _ _ zN b hb;exact(I7.pin (b,o) (Wa _ (Wa _ (du hb e)))).2.1
   cases f with
   | next=>obtain⟨σ7,H7,I7,n7⟩:=q7;exact again I7 n7
   | cont=>obtain⟨σ7,H7,I7,n7⟩:=q7;exact again I7 n7
   | brk=>obtain⟨σ7,H7,I7,q7⟩:=q7;exact⟨σ7,H7,I7.f9,q7⟩
   | ret v=>obtain⟨x7,σ7,H7,I7,r7,q7⟩:=q7;exact⟨x7,σ7,H7,I7.f9,r7,q7⟩
end
theorem Ab {K:PySem.W.Frag}{a:Addr}{xs:List V}{g:TG}{tb:TS}{D:Ends}{σ:St}{H:Hp}(Pv:Nat->St->Hp->Prop)(h0:Pv 0 σ H)(hl:∀ i σ H,i<=xs.length->Pv i σ H->jm K H a xs)(hs:∀ i x σ H,xs[i]?=some x->Pv i σ H->g x σ H fun σ2 H2=>tb { D with nx:=Pv (i+1),ct:=Pv (i+1),bk:=D.nx} σ2 H2)(hd:∀ σ H,Pv xs.length σ H->D.nx σ H):∃ W:Nat->Nat->St->Hp->Prop,(∃ m,W 0 m σ H)/\∀ i m σ H,W i m σ H->((Ko K a).stop i H/\D.nx σ H)\/((Ko K a).go i H/\∃ N:St->Hp->Prop,(∀ σ' H',N σ' H'->∃ m',m' < m/\W (i+1) m' σ' H')/\∀ x H',(Ko K a).z8 i H x H'->g x σ H' fun σ2 H2=>tb { D with nx:=N,ct:=N,bk:=D.nx} σ2 H2):=by
 refine⟨fun i m σ H=>m=xs.length - i/\i<=xs.length/\Pv i σ H,⟨xs.length,by simp,Wr _,h0⟩,?_⟩
 rintro i m σ H ⟨rfl,hi,p⟩
 have q:=hl i σ H hi p;by_cases b5:i < xs.length
 . refine .inr ⟨⟨xs,xs[i],q,by simp[b5]⟩,Pv (i+1),fun σ' H' p'=>⟨xs.length - (i+1),by omega,rfl,b5,p'⟩,fun x H' y=>?_⟩
   obtain⟨e,y⟩:=y;subst e;exact hs i x σ _ (y xs q) p
 . have e:i=xs.length:=by omega
   subst e;exact .inl ⟨⟨xs,q,O0 _⟩,hd σ H p⟩
theorem yA {lo:Int}{n:Nat}{g:TG}{tb:TS}{D:Ends}{σ:St}{H:Hp}(Pv:Nat->St->Hp->Prop)(h0:Pv 0 σ H)(hs:∀ i σ H,i < n->Pv i σ H->g (.int (lo+i)) σ H fun σ2 H2=>tb { D with nx:=Pv (i+1),ct:=Pv (i+1),bk:=D.nx} σ2 H2)(hd:∀ σ H,Pv n σ H->D.nx σ H):∃ W:Nat->Nat->St->Hp->Prop,(∃ m,W 0 m σ H)/\∀ i m σ H,W i m σ H->((GY lo n).stop i H/\D.nx σ H)\/((GY lo n).go i H/\∃ N:St->Hp->Prop,(∀ σ' H',N σ' H'->∃ m',m' < m/\W (i+1) m' σ' H')/\∀ x H',(GY lo n).z8 i H x H'->g x σ H' fun σ2 H2=>tb { D with nx:=N,ct:=N,bk:=D.nx} σ2 H2):=by
 refine⟨fun i m σ H=>m=n - i/\i<=n/\Pv i σ H,⟨n,by simp,Wr _,h0⟩,?_⟩
 rintro i m σ H ⟨rfl,hi,p⟩
 by_cases b5:i < n
 . refine .inr ⟨b5,Pv (i+1),fun σ' H' p'=>⟨n - (i+1),by omega,rfl,b5,p'⟩,fun x H' y=>?_⟩
   obtain⟨e,y⟩:=y;subst e y;exact hs i σ _ b5 p
 . have e:i=n:=by omega
   subst e;exact .inl ⟨O0 _,hd σ H p⟩
abbrev R2:=V->V->Hp->VK->Prop
def kS (X:Cx)(f:Value->Value->Sem Value)(r:R2):Prop:=
 ∀ (pins:List (Addr×Obj)) (s:Shared) (σ:St) (H:Hp) (x y:V) (v u:Value) (Q:VK),Inv X pins σ H s->RelV x v->RelV y u->r x y H Q ->
   wpAny (model X.prog X.w) X.A (f v u) (EP X pins σ Q) X.xe s
def Oc (X:Cx)(f:Value->Sem Value)(r:V->Hp->VK->Prop):Prop:=
 ∀ (pins:List (Addr×Obj)) (s:Shared) (σ:St) (H:Hp) (x:V) (v:Value) (Q:VK),Inv X pins σ H s->RelV x v->r x H Q ->
   wpAny (model X.prog X.w) X.A (f v) (EP X pins σ Q) X.xe s
def gD (X:Cx)(f:Value)(r:List V->Hp->VK->Prop):Prop:=
 ∀ (pins:List (Addr×Obj)) (s:Shared) (σ:St) (H:Hp) (xs:List V) (us:List Value) (Q:VK),Inv X pins σ H s->Vals xs us->r xs H Q ->
   wpAny (model X.prog X.w) X.A (call f us) (EP X pins σ Q) X.xe s
def Kr (r:R2)(ta tb:TE):TE:=fun σ H Q=>ta σ H fun x H1=>tb σ H1 fun y H2=>r x y H2 Q
def Se (r:V->Hp->VK->Prop)(ta:TE):TE:=fun σ H Q=>ta σ H fun x H1=>r x H1 Q
def rI (C:Int->Int->Prop)(g:Int->Int->V):R2:=fun x y H Q=>∃ i j,x=.int i/\y=.int j/\C i j/\Q (g i j) H
def Dp (g:Int->Int->V):R2:=fun x y H Q=>∃ i j,x=.int i/\y=.int j/\Q (g i j) H
def rU (g:Int->V):V->Hp->VK->Prop:=fun x H Q=>∃ i,x=.int i/\Q (g i) H
section
variable {X:Cx}{a b:Expr}{ta tb:TE}{pos:Pos}
theorem GZ (ha:PE X a ta)(hb:PE X b tb){pins:List (Addr×Obj)}{s:Shared}{σ:St}{H:Hp}{R:V->V->Hp->Prop}(I:Inv X pins σ H s)(h:ta σ H fun x H1=>tb σ H1 fun y H2=>R x y H2){Q:Value->Shared->Prop}{f:Value->Value->Sem Value}(hf:∀ v u s2 x y H2,Inv X pins σ H2 s2->RelV x v->RelV y u->R x y H2->wpAny (model X.prog X.w) X.A (f v u) Q X.xe s2):wpAny (model X.prog X.w) X.A (eval a X.env) (fun v s₁=>wpAny (model X.prog X.w) X.A (eval b X.env) (fun u s₂=>wpAny (model X.prog X.w) X.A (f v u) Q X.xe s₂) X.xe s₁) X.xe s:=by
 refine bF (ha pins s σ H _ I h) fun v s1 ⟨x,H1,I1,r1,q1⟩=>?_
 refine bF (hb pins s1 σ H1 _ I1 q1) fun u s2 ⟨y,H2,I2,r2,q2⟩=>?_
 exact hf v u s2 x y H2 I2 r1 r2 q2
theorem Kt {op:Operator}{r:R2}(ho:kS X (binaryOp op) r)(ha:PE X a ta)(hb:PE X b tb):PE X (.BinOp a op b pos) (Kr r ta tb):=by
 intro pins s σ H Q I h;exact wpAny_BinOp (GZ ha hb I h fun v u s2 x y H2 I2 rx ry q=>ho pins s2 σ H2 x y v u Q I2 rx ry q)
theorem Ku {op:UnaryOp}{r:V->Hp->VK->Prop}(ho:Oc X (unaryOp op) r)(ha:PE X a ta):PE X (.UnaryOp op a pos) (Se r ta):=by
 intro pins s σ H Q I h;exact UnaryOp_ (bF (ha pins s σ H _ I h) fun v s1 ⟨x,H1,I1,r1,q1⟩=>ho pins s1 σ H1 x v Q I1 r1 q1)
theorem M6 {f:Value->Value->Sem Value}{C:Int->Int->Prop}{g:Int->Int->Int}(rule:∀ (i j:Int) (t u:Tok) (s:Shared) (Q:Value->Shared->Prop) (E:Value->Shared->Prop),C i j->Q (.int (g i j) s.toks) { s with toks:=s.toks+1}->wpAny (model X.prog X.w) X.A (f (.int i t) (.int j u)) Q E s):kS X f (rI C fun i j=>.int (g i j)):=by
 intro pins s σ H x y v u Q I rx ry h;obtain⟨i,j,rfl,rfl,hc,q⟩:=h;obtain⟨t,rfl⟩:=rx;obtain⟨t',rfl⟩:=ry;exact rule i j t t' s _ _ hc ⟨.int (g i j),H,I.tok _,⟨_,rfl⟩,q⟩
theorem Kv {f:Value->Value->Sem Value}{g:Int->Int->Int}(rule:∀ (i j:Int) (t u:Tok) (s:Shared) (Q:Value->Shared->Prop) (E:Value->Shared->Prop),Q (.int (g i j) s.toks) { s with toks:=s.toks+1}->wpAny (model X.prog X.w) X.A (f (.int i t) (.int j u)) Q E s):kS X f (Dp fun i j=>.int (g i j)):=by
 intro pins s σ H x y v u Q I rx ry h;obtain⟨i,j,rfl,rfl,q⟩:=h;obtain⟨t,rfl⟩:=rx;obtain⟨t',rfl⟩:=ry;exact rule i j t t' s _ _ ⟨.int (g i j),H,I.tok _,⟨_,rfl⟩,q⟩
theorem Dq {f:Value->Value->Sem Value}{g:Int->Int->Bool}(rule:∀ (i j:Int) (t u:Tok) (s:Shared) (Q:Value->Shared->Prop) (E:Value->Shared->Prop),Q (.bool (g i j)) s->wpAny (model X.prog X.w) X.A (f (.int i t) (.int j u)) Q E s):kS X f (Dp fun i j=>.bl (g i j)):=by
 intro pins s σ H x y v u Q I rx ry h;obtain⟨i,j,rfl,rfl,q⟩:=h;obtain⟨t,rfl⟩:=rx;obtain⟨t',rfl⟩:=ry;exact rule i j t t' s _ _ ⟨.bl (g i j),H,I,rfl,q⟩
def Kw (i j:Int):Prop:=0<=j/\j<=1000000/\i.natAbs < 2 ^ 64
def ug (i j:Int):Prop:=(-(2 ^ 64) < i/\i < 2 ^ 64)\/(-(2 ^ 64) < j/\j < 2 ^ 64)
theorem ug.ok {i j:Int}(h:ug i j):IntMulOk i j:=by
 rcases h with⟨h1,h2⟩ | ⟨h1,h2⟩
 . exact .of_left (intBits_le_64 h1 h2)
 . exact .of_right (intBits_le_64 h1 h2)
theorem G1:kS X (binaryOp .Add) (Dp fun i j=>.int (i+j)):=Kv fun _ _ _ _ _ _ _ q=>add_int q
theorem G3:kS X (binaryOp .Sub) (Dp fun i j=>.int (i - j)):=Kv fun _ _ _ _ _ _ _ q=>sub_int q
theorem G4:kS X (binaryOp .Mod) (rI (fun _ j=>0 < j) fun i j=>.int (i % j)):=M6 fun i j _ _ _ _ _ hc q=>by
 have h1:(0:Int) < j:=hc;exact mod_int' (by omega) (by rw[Int.fmod_eq_emod_of_nonneg i (by omega)];exact q)
theorem G5:kS X (binaryOp .Pow) (rI Kw fun i j=>.int (i ^ j.toNat)):=M6 fun _ _ _ _ _ _ _ hc q=>pow_int_small hc.1 hc.2.1 hc.2.2 q
theorem Sf {f:Value->Sem Value}{g:Int->Int}(rule:∀ (i:Int) (t:Tok) (s:Shared) (Q:Value->Shared->Prop) (E:Value->Shared->Prop),Q (.int (g i) s.toks) { s with toks:=s.toks+1}->wpAny (model X.prog X.w) X.A (f (.int i t)) Q E s):Oc X f (rU fun i=>.int (g i)):=by
 intro pins s σ H x v Q I rx h;obtain⟨i,rfl,q⟩:=h;obtain⟨t,rfl⟩:=rx;exact rule i t s _ _ ⟨.int (g i),H,I.tok _,⟨_,rfl⟩,q⟩
theorem G6:Oc X (unaryOp .USub) (rU fun i=>.int (-i)):=Sf fun _ _ _ _ _ q=>neg_int q
end
noncomputable def G7:V->V->Bool
 | .b0,.b0=>true | .b0,.int _=>true | .int _,.b0=>true | .b0,.bl _=>true | .bl _,.b0=>true | .b0,.str _=>true | .str _,.b0=>true
 | .int _,.int _=>true | .bl _,.bl _=>true | .str _,.str _=>true | .CZ _,.CZ _=>true
 | .int _,.str _=>true | .str _,.int _=>true | .bl _,.str _=>true | .str _,.bl _=>true
 | _,_=>false
def Sh:R2:=fun x y H Q=>G7 x y=true/\Q (.bl (decide (x=y))) H
theorem og {i j:Int}:decide (V.int i=V.int j)=(i == j):=by
 rw[Xr];simp
theorem G8 {i j:Bool}:decide (V.bl i=V.bl j)=(i == j):=by
 rw[Xr];simp
theorem rG {i j:Str}:decide (V.str i=V.str j)=(i == j):=by
 rw[Xr];simp
theorem Dr {i j:Array UInt8}:decide (V.CZ i=V.CZ j)=(i.toList == j.toList):=by
 rw[Xr];cases i;cases j;simp
section
variable {X:Cx}{a b c:Expr}{ta tb tc:TE}{pos:Pos}
theorem dS {pins:List (Addr×Obj)}{σ:St}{H:Hp}{s:Shared}{Q:VK}{k k':Bool}(I:Inv X pins σ H s)(q:Q (.bl k) H)(e:k=k'):EP X pins σ Q (.bool k') s:=by
 subst e;exact⟨.bl k,H,I,rfl,q⟩
theorem Ac:kS X (compareOp .Eq) Sh:=by
 intro pins s σ H x y v u Q I rx ry h;obtain⟨hs,q⟩:=h;cases x with
 | b0=>
   cases rx;cases y with
   | b0=>cases ry;exact PySem.EqNone.eq_none_none (dS I q (by simp))
   | bl j=>cases ry;exact PySem.EqNone.eq_none_bool (dS I q (by simp))
   | int j=>obtain⟨t',rfl⟩:=ry;exact PySem.EqNone.eq_none_int (dS I q (by simp))
   | str j=>obtain⟨t',rfl⟩:=ry;exact PySem.EqNone.eq_none_str (dS I q (by simp))
   | _=>exact absurd (show false=true from hs) V8
 | bl i=>
   cases rx;cases y with
   | b0=>cases ry;exact PySem.EqNone.eq_bool_none (dS I q (by simp))
   | bl j=>cases ry;exact eq_bool (dS I q G8)
   | str j=>obtain⟨t',rfl⟩:=ry;exact PySem.EqMixed.eq_bool_str (dS I q (by simp))
   | _=>exact absurd (show false=true from hs) V8
 | int i=>
   obtain⟨t,rfl⟩:=rx;cases y with
   | b0=>cases ry;exact PySem.EqNone.eq_int_none (dS I q (by simp))
   | int j=>obtain⟨t',rfl⟩:=ry;exact eq_int (dS I q og)
   | str j=>obtain⟨t',rfl⟩:=ry;exact PySem.EqMixed.eq_int_str (dS I q (by simp))
   | _=>exact absurd (show false=true from hs) V8
 | str i=>
   obtain⟨t,rfl⟩:=rx;cases y with
   | b0=>cases ry;exact PySem.EqNone.eq_str_none (dS I q (by simp))
   | bl j=>cases ry;exact PySem.EqMixed.eq_str_bool (dS I q (by simp))
   | int j=>obtain⟨t',rfl⟩:=ry;exact PySem.EqMixed.eq_str_int (dS I q (by simp))
   | str j=>obtain⟨t',rfl⟩:=ry;exact eq_str (dS I q rG)
   | _=>exact absurd (show false=true from hs) V8
 | CZ i=>
   obtain⟨t,rfl⟩:=rx;cases y with
   | CZ j=>obtain⟨t',rfl⟩:=ry;exact W.eq_bytes (dS I q Dr)
   | _=>exact absurd (show false=true from hs) V8
 | _=>cases y <;> exact absurd (show false=true from hs) V8
theorem Kx:kS X (compareOp .Lt) (Dp fun i j=>.bl (decide (i < j))):=Dq fun _ _ _ _ _ _ _ q=>lt_int q
theorem Ad:kS X (compareOp .LtE) (Dp fun i j=>.bl (decide (i<=j))):=Dq fun _ _ _ _ _ _ _ q=>le_int q
theorem Ky:kS X (compareOp .Gt) (Dp fun i j=>.bl (decide (j < i))):=Dq fun _ _ _ _ _ _ _ q=>gt_int q
theorem Kz:kS X (compareOp .GtE) (Dp fun i j=>.bl (decide (j<=i))):=Dq fun _ _ _ _ _ _ _ q=>ge_int q
theorem ip (b:Expr){op:CmpOp}(h:autoParam (op≠.In) jM)(h2:autoParam (op≠.NotIn) jM):behindInMarks op b=false:=by
 have e1:(op == CmpOp.In)=false:=by cases op <;> first | rfl | exact absurd rfl h
 have e2:(op == CmpOp.NotIn)=false:=by cases op <;> first | rfl | exact absurd rfl h2
 cases b <;> simp[behindInMarks,e1,e2]
theorem Ds {op:CmpOp}{r:R2}(ho:kS X (compareOp op) r)(ha:PE X a ta)(hb:PE X b tb)(hm:behindInMarks op b=false):PE X (.Compare a [op] [b] pos) (Kr r ta tb):=by
 intro pins s σ H Q I h;exact wpAny_Compare1 (GZ ha hb I h fun v u s2 x y H2 I2 rx ry q=>ho pins s2 σ H2 x y v u Q I2 rx ry q) hm
def KA (t:TE):TT:=fun σ H Q=>t σ H fun x H'=>∃ k,x=.bl k/\Q k H'
theorem Du {op:CmpOp}{r:R2}(ho:kS X (compareOp op) r)(ha:PE X a ta)(hb:PE X b tb)(hm:behindInMarks op b=false):PT X (.Compare a [op] [b] pos) (KA (Kr r ta tb)):=by
 intro pins s σ H Q I h;refine wpAny_isTrue_Compare1 (bF (ha pins s σ H _ I h) fun v s1 ⟨x,H1,I1,r1,q1⟩=>bF (hb pins s1 σ H1 _ I1 q1) fun u s2 ⟨y,H2,I2,r2,q2⟩=>
   bF (ho pins s2 σ H2 x y v u _ I2 r1 r2 q2) fun c s3 ⟨z,H3,I3,r3,k,e,q3⟩=>?_) hm
 subst e;cases r3;exact wpAny_truthy_bool ⟨H3,I3,q3⟩
def G9 (r r':R2)(ta tb tc:TE):TE:=fun σ H Q=>ta σ H fun x H1=>tb σ H1 fun y H2=>r x y H2 fun z H3=>∃ k,z=.bl k /\
 (if k=true then tc σ H3 fun w' H4=>r' y w' H4 Q else Q (.bl false) H3)
theorem Ae {op Hc:CmpOp}{r r':R2}(ho:kS X (compareOp op) r)(zX:kS X (compareOp Hc) r')(ha:PE X a ta)(hb:PE X b tb)(hc:PE X c tc)(hm:autoParam (lastMarks [op,Hc] [b,c]=false) x5):PE X (.Compare a [op,Hc] [b,c] pos) (G9 r r' ta tb tc):=by
 intro pins s σ H Q I h;refine Compare_chain (bF (ha pins s σ H _ I h) fun v s1 ⟨x,H1,I1,r1,q1⟩=>chain_link (bF (hb pins s1 σ H1 _ I1 q1) fun u s2 ⟨y,H2,I2,r2,q2⟩=>
   bF (ho pins s2 σ H2 x y v u _ I2 r1 r2 q2) fun d s3 ⟨z,H3,I3,r3,k,e,q3⟩=>?_)) hm
 subst e;cases r3;refine wpAny_truthy_bool ?_;cases k with
 | false=>exact ite_ff ⟨.bl false,H3,I3,rfl,q3⟩
 | true=>exact ite_tt (chain_last (bF (hc pins s3 σ H3 _ I3 q3) fun w' s4 ⟨z',H4,I4,r4,q4⟩=>zX pins s4 σ H4 y z' u w' Q I4 r2 r4 q4))
theorem iU:(sizeLine:Nat) < 2 ^ 63:=by rw[sizeLine_eq];decide
theorem vL:kS X (binaryOp .Add) (fun x y H Q=>∃ i j,x=.str i/\y=.str j/\i.length+j.length<=sizeLine/\Q (.str (i ++ j)) H):=by
 intro pins s σ H x y v u Q I rx ry h;obtain⟨i,j,rfl,rfl,hz,q⟩:=h;obtain⟨t,rfl⟩:=rx;obtain⟨t',rfl⟩:=ry;exact add_str (fun t' tk=>⟨.str (i ++ j),H,I.tok _,⟨_,rfl⟩,q⟩) hz
theorem vals1 {x:V}{us:List Value}(r:Vals [x] us):∃ u,us=[u]/\RelV x u:=by
 cases r with
 | cons r1 r2=>cases r2;exact⟨_,rfl,r1⟩
theorem vals2 {x y:V}{us:List Value}(r:Vals [x,y] us):∃ u w',us=[u,w']/\RelV x u/\RelV y w':=by
 cases r with
 | cons r1 r2=>
   cases r2 with
   | cons r3 r4=>cases r4;exact⟨_,_,rfl,r1,r3⟩
theorem yB (hc:X.calm=true):gD X (.builtin "min") (fun xs H Q=>∃ i j,xs=[.int i,.int j]/\Q (.int (if j < i then j else i)) H):=by
 intro pins s σ H xs us Q I r h;obtain⟨i,j,rfl,q⟩:=h;obtain⟨u,w',rfl,⟨t,rfl⟩,⟨t',rfl⟩⟩:=vals2 r;refine min_two_ints (I.ok.hd hc) fun h' tk k=>⟨_,H,I.kept k,?_,q⟩
 by_cases hj:j < i
 . rw[if_pos hj,if_pos hj];exact⟨_,rfl⟩
 . rw[if_neg hj,if_neg hj];exact⟨_,rfl⟩
end
structure vM (h:Heap)(x dx C:Addr)(mA:Str->Option Value):Prop where
 obj:h.get? x=some (W.instObj C dx)
 ns:h.Ns1 dx mA
 ne:dx≠x
theorem yC {h:Heap}{dx:Addr}{mA:Str->Option Value}(n:h.Ns1 dx mA):∃ od,h.get? dx=some od/\∀ name,W.lookIn name od=some (mA name):=by
 obtain⟨o,es,ep,ho,hd,hk,_,hm⟩:=n;refine⟨o,ho,fun name=>?_⟩;have e:=hm name;unfold nsFind findBy at e;rw[<- Array.find?_toList] at e;unfold W.lookIn;rw[hd];dsimp only
 split
 . rename_i y q
   rw[q] at e;exact congrArg some e
 . rename_i q
   rw[q] at e;have a:es.toList.any (·.refKey)=false:=by
     rw[List.any_eq_false];intro y hy;obtain⟨z,t,Dv⟩:=hk y (Array.mem_toList_iff.mp hy);simp[DictEntry.refKey,Dv]
   have a':¬ es.toList.any (·.refKey)=true:=by rw[a];exact V8
   rw[if_neg a'];exact congrArg some e
theorem vM.look {h:Heap}{x dx C:Addr}{mA:Str->Option Value}(I:vM h x dx C mA):∃ od,W.InstAt h x (W.instObj C dx) C (some od)/\∀ name,W.lookIn name od=some (mA name):=
 let ⟨od,ho,hl⟩:=yC I.ns
 ⟨od,⟨I.obj,rfl,rfl,ho⟩,hl⟩
section
variable {prog:Program}{w:World}{A:Around}{E:Value->Shared->Prop}{s:Shared}{K:W.Frag}{x dx C f:Addr}{mA:Str->Option Value}{name:Str}{v:Value}
theorem get_map {expr:Bool}{Q:Value->Shared->Prop}(X:K.In s.heap)(I:vM s.heap x dx C mA)(hg:W.plainGet K C name=true)(hh:W.hasDictIn K C=true)(ha:W.findIn K (.ref C) name=some none)(hv:mA name=some v)(M7:W.handedIn v=true)(h:Q v { s with toks:=s.toks+1}):wpAny (model prog w) A (getAttr (.ref x) name expr) Q E s:=by
 obtain⟨od,J,hl⟩:=I.look;exact W.get_value X J (W.plainGet_of hg).1 (W.findObj_own hh ha rfl (by rw[hl,hv])) M7 h
theorem Af {pl:Sem Bool}{Q:Value×List Value->Shared->Prop}(X:K.In s.heap)(I:vM s.heap x dx C mA)(hg:W.plainGet K C name=true)(hf:W.findIn K (.ref C) name=some (some (.ref f)))(ht:W.isFn K (.ref f)=true)(hv:mA name=none)(h:Q (.ref f,[.ref x]) s):wpAny (model prog w) A (getMethod (.ref x) name pl) Q E s:=by
 obtain⟨od,J,hl⟩:=I.look;exact W.method_fn X J (W.plainGet_of hg).1 (W.plainGet_of hg).2 hf (beq_iff_eq.mp ht) (by show(W.lookIn name od).map (·.isSome)=some false;rw[hl,hv];rfl) h
theorem Dw {ns:List Str}{Q:Unit->Shared->Prop}(X:K.In s.heap)(I:vM s.heap x dx C mA)
   (hs:W.findIn K (.ref C) "__setattr__"=some (some (.builtin "object.__setattr__"))) (hp:W.plainOver K C=true) (ht:W.takerIn K C name=some none) (hh:W.hasDictIn K C=true)
   (hw:PySem.Within mA ns) (hsz:ns.length<=sizeLine)
   (h:∀ h',vM h' x dx C (fun y=>if y=name then some v else mA y)->W6 dx s.heap h'->Q () { s with heap:=h',toks:=s.toks+2}) :
   wpAny (model prog w) A (setAttr (.ref x) name v) Q E s:=by
 obtain⟨od,J,hl⟩:=I.look;refine W.set_plain X J hs (W.osa_open (s:={ s with toks:=s.toks+1}) (r:=none) X J hp ht fun b=>?_);obtain⟨cd,hc,JV⟩:=W.any_some hh;have hx:s.heap.get? x=some ⟨.ref C,some dx,.plain,#[]⟩:=I.obj;refine wpAny_bind (wpAny_pure (wpAny_bind (wpAny_bind (wpAny_loadPart hx (wpAny_bind (W.Looks.here (s:={ s with toks:=s.toks+1}) (W.looks_clsIn X hc) ?_))))));rw[JV];refine wpAny_pure (a:=some dx) (wpAny_bind (wpAny_pure (wpAny_bind ?_)));refine wpAny_nsSet1 (s:={ s with toks:=s.toks+1}) I.ns fun h' JX uh=>?_
 obtain⟨oD,Vy,Vz,Si,Sk,Dx⟩:=JX.count (PySem.Within.cons name v hw);refine wpAny_bind (wpAny_lookBehind Si (by rw[Sk];exact pastItsLine_dict (We Dx (by rw[Ws];omega))) ?_);exact wpAny_pure (h _ ⟨(uh.2 _ (Ne.symm I.ne)).trans I.obj,JX,I.ne⟩ uh)
theorem Ag {R:Result->Shared->Prop}{vs:List Value}{kw:List (Str×Value)}(X:K.In s.heap)(hm:W.makesIn K C=true)(hi:W.findIn K (.ref C) "__init__"=some (some (.ref f)))(hf:W.typeIn K (.ref f)=some (.type "function"))(h:codeAny (model prog w) (A.under (.builtin "type.__call__" ⟨.ref C::vs,kw⟩)) (.call (.ref f) ⟨.ref (s.heap.objs.size+1)::vs,kw⟩) (W.InitBack (s.heap.objs.size+1) R) { s with heap:=(s.heap.push W.emptyDict).push (W.instObj C s.heap.objs.size)}):codeAny (model prog w) A (.call (.ref C) ⟨vs,kw⟩) R s:=by
 obtain⟨hh,g,d,t,os⟩:=s;exact W.make_core (W.makes_of X hm) (W.looks_findIn X hi) (fun self=>W.bind_fn X self hf) (.inl rfl) h
theorem yD {R:Result->Shared->Prop}(X:K.In s.heap)(hm:W.makesIn K C=true)(hi:W.findIn K (.ref C) "__init__"=some (some (.builtin "object.__init__")))(hb:∀ self,W.Looks (model prog w) s.heap (bindSpecial (.builtin "object.__init__") self) (.builtin "object.__init__",[self]))(h:codeAny (model prog w) (A.under (.builtin "type.__call__" ⟨[.ref C],[]⟩)) (.call (.builtin "object.__init__") ⟨[.ref (s.heap.objs.size+1)],[]⟩) (W.InitBack (s.heap.objs.size+1) R) { s with heap:=(s.heap.push W.emptyDict).push (W.instObj C s.heap.objs.size)}):codeAny (model prog w) A (.call (.ref C) ⟨[],[]⟩) R s:=by
 obtain⟨hh,g,d,t,os⟩:=s;exact W.make_core (W.makes_of X hm) (W.looks_findIn X hi) hb (.inr ⟨rfl,rfl⟩) h
end
noncomputable def dC (f:Str)(v:V):List (Str×V)->List (Str×V)
 | []=>[(f,v)]
 | (g,x)::r=>if g=f then (g,v)::r else (g,x)::dC f v r
theorem jw (f g:Str)(v:V):∀ fs:List (Str×V),(dC f v fs).lookup g=if g=f then some v else fs.lookup g
 | []=>by
   show Xh g [(f,v)]=_;by_cases h:g=f
   . have hb:(g == f)=true:=beq_iff_eq.mpr h
     simp only[Xh,hb,if_pos h]
   . have hb:(g == f)=false:=beq_eq_false_iff_ne.mpr h
     simp only[Xh,hb,if_neg h]
 | (k,x)::r=>by
   have ih:=jw f g v r;rw[show dC f v ((k,x)::r)=(if k=f then (k,v)::r else (k,x)::dC f v r) from rfl];by_cases hk:k=f
   . rw[if_pos hk]
     by_cases h:g=k
     . have hb:(g == k)=true:=beq_iff_eq.mpr h
       simp only[Xh,hb,if_pos (h.trans hk)]
     . have hb:(g == k)=false:=beq_eq_false_iff_ne.mpr h
       simp only[Xh,hb,if_neg (fun e:g=f=>h (e.trans hk.symm))]
   . rw[if_neg hk]
     by_cases h:g=k
     . have hb:(g == k)=true:=beq_iff_eq.mpr h
       simp only[Xh,hb,if_neg (fun e:g=f=>hk (h.symm.trans e))]
     . have hb:(g == k)=false:=beq_eq_false_iff_ne.mpr h
       simp only[Xh,hb];exact ih
theorem me (f:Str)(v:V):∀ fs:List (Str×V),f∈(dC f v fs).map (·.1)/\∀ g,g∈fs.map (·.1)->g∈(dC f v fs).map (·.1)
 | []=>⟨by simp[dC],fun g h=>by simp at h⟩
 | (k,x)::r=>by
   obtain⟨i1,i2⟩:=me f v r;rw[show dC f v ((k,x)::r)=(if k=f then (k,v)::r else (k,x)::dC f v r) from rfl];by_cases hk:k=f
   . rw[if_pos hk]
     subst hk;exact⟨by simp,fun g h=>by simpa using h⟩
   . rw[if_neg hk]
     refine⟨?_,fun g h=>?_⟩
     . rw[V7]
       exact Wk _ i1
     . rw[V7] at h ⊢
       rcases Wh.mp h with e | e
       . exact Wh.mpr (.inl e)
       . exact Wk _ (i2 g e)
theorem ni (f:Str)(v:V):∀ fs:List (Str×V),(dC f v fs).length<=fs.length+1
 | []=>by simp[dC]
 | (k,x)::r=>by
   have ih:=ni f v r;rw[show dC f v ((k,x)::r)=(if k=f then (k,v)::r else (k,x)::dC f v r) from rfl];by_cases hk:k=f
   . rw[if_pos hk,Ws,Ws];omega
   . rw[if_neg hk,Ws,Ws];omega
theorem kz.some_of {v:V}{o:Option Value}(r:kz (some v) o):∃ u,o=some u/\RelV v u:=by
 cases o with
 | none=>exact(show False from r).elim
 | some u=>exact⟨u,rfl,r⟩
theorem kz.none_of {o:Option Value}(r:kz none o):o=none:=by
 cases o with
 | none=>rfl
 | some u=>exact(show False from r).elim
theorem yE {v:V}{u:Value}(r:RelV v u):W.handedIn u=true:=by
 cases v with
 | b0=>cases (show u=Value.none from r);rfl
 | bl b=>cases (show u=Value.bool b from r);rfl
 | int i=>obtain⟨t,e⟩:=(show ∃ t,u=Value.int i t from r);cases e;rfl
 | str x=>obtain⟨t,e⟩:=(show ∃ t,u=Value.str x t from r);cases e;rfl
 | CZ b=>obtain⟨t,e⟩:=(show ∃ t,u=Value.bytes b t from r);cases e;rfl
 | GD b=>obtain⟨t,e⟩:=(show ∃ t,u=Value.float b t from r);cases e;rfl
 | ref a=>cases (show u=Value.ref a from r);rfl
 | ty n=>cases (show u=Value.type n from r);rfl
section
variable {P:Program}{w:World}{H:Hp}{h:Heap}{a C dx:Addr}{fs:List (Str×V)}
theorem oh (aK:ll P w H h)(e:Rd H a (.ins C dx fs)):∃ mA,vM h a dx C mA/\(∀ f,kz (fs.lookup f) (mA f))/\PySem.Within mA (fs.map (·.1))/\fs.length<=1000/\H dx=some (.own a):=by
 obtain⟨d,z,ne,ob,mA,n,r,q⟩:=(show aD P w H h a (.ins C dx fs) from e.ok aK)
 exact⟨mA,⟨ob,n,ne⟩,r,q,z,d⟩
end
structure qp (K:W.Frag)(C:Addr):Prop where
 pg:W.plainGet K C Str.empty=true
 hd:W.hasDictIn K C=true
 po:W.plainOver K C=true
 sa:W.findIn K (.ref C) "__setattr__"=some (some (.builtin "object.__setattr__"))
theorem qp.get {K:W.Frag}{C:Addr}(c:qp K C)(f:Str):W.plainGet K C f=true:=c.pg
def cO (K:W.Frag)(C:Addr)(f:Str):Prop:=W.findIn K (.ref C) f=some none
theorem cO.KC {K:W.Frag}{C:Addr}{f:Str}(n:cO K C f):W.takerIn K C f=some none:=by
 unfold W.takerIn;rw[show W.findIn K (.ref C) f=some none from n];rfl
structure VA (K:W.Frag)(C:Addr)(f:Str)(v:V)(u:Value):Prop where
 at_:W.findIn K (.ref C) f=some (some u)
 rel:RelV v u
 get:W.specialIn K u "__get__"=some none
 cp:W.copiedNames.contains f=false
structure Meth (K:W.Frag)(C:Addr)(m:Str)(f:Addr):Prop where
 at_:W.findIn K (.ref C) m=some (some (.ref f))
 fn:W.isFn K (.ref f)=true
 kp:W.keepIn K (.ref f)=true
section
variable {X:Cx}{pins:List (Addr×Obj)}{σ:St}{H:Hp}{s:Shared}{a C dx:Addr}{fs:List (Str×V)}{f:Str}{v:V}{A:Around}{E:Value->Shared->Prop}
theorem vN {b:Bool}{Q:Value->Shared->Prop}(I:Inv X pins σ H s)(e:Rd H a (.ins C dx fs))(c:qp X.K C)(n:cO X.K C f)(l:fs.lookup f=some v)(h:∀ u s',Inv X pins σ H s'->RelV v u->Q u s'):wpAny (model X.prog X.w) A (getAttr (.ref a) f b) Q E s:=by
 obtain⟨mA,O,r,_,_,_⟩:=oh I.aK e;obtain⟨u,hu,ru⟩:=kz.some_of (v:=v) (o:=mA f) (by rw[<- l];exact r f);exact get_map I.iT O (c.get f) c.hd n hu (yE ru) (h u _ (I.tok _) ru)
theorem oT {m:Str}{g:Addr}{pl:Sem Bool}{Q:Value×List Value->Shared->Prop}(I:Inv X pins σ H s)(e:Rd H a (.ins C dx fs))(c:qp X.K C)(k:Meth X.K C m g)(l:fs.lookup m=none)(h:Q (.ref g,[.ref a]) s):wpAny (model X.prog X.w) A (getMethod (.ref a) m pl) Q E s:=by
 obtain⟨mA,O,r,_,_,_⟩:=oh I.aK e;have hn:mA m=none:=kz.none_of (by rw[<- l];exact r m);exact Af I.iT O (c.get m) k.at_ k.fn hn h
theorem vO {y:V}{u:Value}{Q:Unit->Shared->Prop}(I:Inv X pins σ H s)(e:H a=some (.ins C dx fs))(c:qp X.K C)(n:cO X.K C f)(hl:fs.length < 1000)(ry:RelV y u)(h:∀ s',Inv X pins σ (upd H a (.ins C dx (dC f y fs))) s'->Q () s'):wpAny (model X.prog X.w) A (setAttr (.ref a) f u) Q E s:=by
 obtain⟨mA,O,r,wi,_,ho⟩:=oh I.aK (.of e);have hz:(fs.map (·.1)).length<=sizeLine:=by rw[ou,sizeLine_eq];omega
 refine Dw I.iT O c.sa c.po n.KC c.hd wi hz fun h' O' sb=>h _ ?_
 have hd:∃ o,h'.get? dx=some o:=let ⟨o,_,_,e',_⟩:=O'.ns;⟨o,e'⟩;refine I.write (x:=a) (e:=dx) (by rw[e];exact True.intro) (.inr ho) (fun b q hb z=>(sb.2 b hb).trans z) hd ?_;refine⟨by rw[ag O.ne];exact ho,?_,O.ne,O'.obj,_,O'.ns,fun g=>?_,fun g hg=>?_⟩
 . have:=ni f y fs;omega
 . show kz ((dC f y fs).lookup g) (if g=f then some u else mA g)
   rw[jw];by_cases q:g=f
   . rw[if_pos q,if_pos q];exact ry
   . rw[if_neg q,if_neg q];exact r g
 . by_cases q:g=f
   . rw[q];exact(me f y fs).1
   . refine(me f y fs).2 g (wi g fun z=>hg ?_)
     show(if g=f then some u else mA g)=none;rw[if_neg q];exact z
theorem Inv.made (I:Inv X pins σ H s):Inv X pins σ (upd (upd H s.heap.objs.size (.own (s.heap.objs.size+1))) (s.heap.objs.size+1) (.ins C s.heap.objs.size [])) { s with heap:=(s.heap.push W.emptyDict).push (W.instObj C s.heap.objs.size)}:=by
 have e1:(s.heap.push W.emptyDict).get? s.heap.objs.size=some W.emptyDict:=VJ s.heap rfl;have e2:((s.heap.push W.emptyDict).push (W.instObj C s.heap.objs.size)).get? (s.heap.objs.size+1)=some (W.instObj C s.heap.objs.size):=by
   have:=VJ (s.heap.push W.emptyDict) (o:=W.instObj C s.heap.objs.size) rfl
   rwa [WS] at this
 have e3:(s.heap.push W.emptyDict).Ns s.heap.objs.size (fun _=>none):=⟨W.emptyDict,#[],_,e1,rfl,(fun e he=>absurd he (by simp)),fun _=>rfl⟩
 have I1:=I.laid (a:=s.heap.objs.size) (o:=.own (s.heap.objs.size+1)) (h':=s.heap.push W.emptyDict) (t':=s.toks) (fun b u q=>Te _ q) (O0 _) ⟨_,e1⟩;refine I1.laid (a:=s.heap.objs.size+1) (o:=.ins C s.heap.objs.size []) (t':=s.toks) (fun b u q=>Te _ q) (Nat.le_of_eq (WS _ _)) ?_;have ne:s.heap.objs.size≠s.heap.objs.size+1:=V9 (WV _);refine⟨by rw[ag ne,ah],Wr _,ne,e2,fun _=>none,(Heap.Ns1.of_empty e3).at fun o q=>Te _ q,fun _=>True.intro,fun y hy=>absurd rfl hy⟩
theorem Dy {prog:Program}{w:World}{env:Env}{e:Expr}{f:Str}{pos:Pos}{s:Shared}{Q:Value->Shared->Prop}(hb:attributeBase e f env (eval e env)=eval e env)(h:wpAny (model prog w) A (eval e env) (fun o s₁=>wpAny (model prog w) A (getAttr o f true) Q E s₁) E s):wpAny (model prog w) A (eval (.Attribute e f pos) env) Q E s:=
 Attribute_any_ h (by rw[arm_eval_Attribute,hb])
end
def Od (K:PySem.W.Frag)(ta:TE)(f:Str):TE:=fun σ H Q=>ta σ H fun x H1=>∃ a C dx fs v,x=.ref a/\Rd H1 a (.ins C dx fs)/\qp K C/\cO K C f/\fs.lookup f=some v/\Q v H1
def Oe (K:PySem.W.Frag)(ta tv:TE)(f:Str):TS:=fun D σ H=>tv σ H fun y H1=>ta σ H1 fun x H2=>∃ a C dx fs,x=.ref a/\H2 a=some (.ins C dx fs)/\qp K C/\cO K C f/\fs.length < 1000 /\
 D.nx σ (upd H2 a (.ins C dx (dC f y fs)))
section
variable {X:Cx}{o e value:Expr}{f:Str}{pos pos':Pos}{ta tv:TE}
theorem rJ (he:PE X e ta)(hb:attributeBase e f X.env (eval e X.env)=eval e X.env):PE X (.Attribute e f pos) (Od X.K ta f):=by
 intro pins s σ H Q I h;refine Dy hb (bF (he pins s σ H _ I h) fun u s1 ⟨x,H1,I1,rx,a,C,dx,fs,v,ex,ea,c,n,l,q⟩=>?_);subst ex;obtain rfl:u=Value.ref a:=rx;exact vN I1 ea c n l fun u' s2 I2 ru=>⟨v,H1,I2,ru,q⟩
theorem rK (ha:PE X o ta)(hv:PE X value tv)(hs:swapsWith value (some (.Attribute o f pos')) pos.line X.env=pure false):PS X (.Assign [.Attribute o f pos'] value pos) (Oe X.K ta tv f):=by
 intro pins s σ H D I h;refine plainObj_wpAny_Assign_Attribute (bF (hv pins s σ H _ I h) fun u s1 ⟨y,H1,I1,ry,q⟩=>bF (ha pins s1 σ H1 _ I1 q) fun ov s2 ⟨x,H2,I2,rx,a,C,dx,fs,ex,ea,c,n,l,q2⟩=>?_) hs;subst ex;obtain rfl:ov=Value.ref a:=rx;exact vO I2 ea c n l ry fun s3 I3=>⟨σ,_,I3,q2⟩
end
section
variable {X:Cx}{pins:List (Addr×Obj)}{σ:St}{H:Hp}{s:Shared}{A:Around}{E:Value->Shared->Prop}{Q:Value->Shared->Prop}{c:Value}{b:Bool}
inductive nH (K:W.Frag)(H:Hp):V->Value->Prop where
 | b0:nH K H .b0 (.type "NoneType")
 | bl (x:Bool):nH K H (.bl x) (.type "bool")
 | int (i:Int):nH K H (.int i) (.type "int")
 | str (x:Str):nH K H (.str x) (.type "str")
 | GD (x:UInt64):nH K H (.GD x) (.type "float")
 | lst {a:Addr} {xs:List V} (e:H a=some (.lst xs)):nH K H (.ref a) (.type "list")
 | aY {a:Addr} {o:Obj} {xs:List V} (e:H a=some (.aY o (.lst xs))):nH K H (.ref a) (.type "list")
 | tup {a:Addr} {xs:List V} (e:H a=some (.tup xs)):nH K H (.ref a) (.type "tuple")
 | dK {a:Addr} {kvs:List (Key×V)} (e:H a=some (.dK kvs)):nH K H (.ref a) (.type "dict")
 | dT {a:Addr} {kvs:List (List Key×V)} (e:H a=some (.dT kvs)):nH K H (.ref a) (.type "dict")
 | ins {a C dx:Addr} {fs:List (Str×V)} (e:Rd H a (.ins C dx fs)) (cl:qp K C) (ha:W.findIn K (.ref C) "__class__"=some (some (.builtin "object.__class__")))
     (hn:W.specialIn K (.builtin "object.__class__") "__get__"=some (some (.builtin "getset_descriptor.__get__"))) (Hd:W.takesIn K (.builtin "object.__class__")=some true)
     (hm:W.mroIn K C (.type "object")=some true):nH K H (.ref a) (.ref C)
theorem mf {x:V}{u t:Value}(I:Inv X pins σ H s)(rx:RelV x u)(ty:nH X.K H x t)(e:W.kitOne X.K t c=some b)(h:∀ tk,Q (.bool b) { s with toks:=tk}):wpAny (model X.prog X.w) A (call (.builtin "isinstance") [u,c]) Q E s:=by
 cases ty with
 | b0=>cases (show u=Value.none from rx);exact W.kia_one W.kitx_none I.iT True.intro e (fun z=>nomatch z) h
 | bl y=>cases (show u=Value.bool y from rx);exact W.kia_one W.kitx_bool I.iT True.intro e (fun z=>nomatch z) h
 | int i=>obtain⟨t,q⟩:=(show ∃ t,u=Value.int i t from rx);cases q;exact W.kia_one W.kitx_int I.iT True.intro e (fun z=>nomatch z) h
 | str y=>obtain⟨t,q⟩:=(show ∃ t,u=Value.str y t from rx);cases q;exact W.kia_one W.kitx_str I.iT True.intro e (fun z=>nomatch z) h
 | GD y=>obtain⟨t,q⟩:=(show ∃ t,u=Value.float y t from rx);cases q;exact W.kia_one W.kitx_float I.iT True.intro e (fun z=>nomatch z) h
 | @lst a xs ea=>
   cases (show u=Value.ref a from rx);obtain⟨_,_,n,_,h1⟩:=(show aD X.prog X.w H s.heap a (.lst xs) from I.aK a _ ea)
   exact W.kia_one W.kitx_list I.iT ⟨_,h1,rfl⟩ e (fun z=>nomatch z) h
 | @aY a ob xs ea=>
   cases (show u=Value.ref a from rx);obtain⟨_,_,_,n,_,h1⟩:=(show aD X.prog X.w H s.heap a (.aY ob (.lst xs)) from I.aK a _ ea)
   exact W.kia_one W.kitx_list I.iT ⟨_,h1,rfl⟩ e (fun z=>nomatch z) h
 | @tup a xs ea=>
   cases (show u=Value.ref a from rx);obtain⟨_,_,_,p⟩:=(show aD X.prog X.w H s.heap a (.tup xs) from I.aK a _ ea)
   obtain⟨o,h1,h2,_⟩:=p;exact W.kia_one W.kitx_tuple I.iT ⟨o,h1,h2⟩ e (fun z=>nomatch z) h
 | @dK a kvs ea=>
   cases (show u=Value.ref a from rx);obtain⟨_,_,vs,_,p⟩:=(show aD X.prog X.w H s.heap a (.dK kvs) from I.aK a _ ea)
   obtain⟨o,es,ep,h1,h2,_⟩:=p;exact W.kia_one W.kitx_dict I.iT ⟨o,h1,h2.1⟩ e (fun z=>nomatch z) h
 | @dT a kvs ea=>
   cases (show u=Value.ref a from rx);obtain⟨_,_,xs,_,o,es,ep,h1,h2,_⟩:=(show aD X.prog X.w H s.heap a (.dT kvs) from I.aK a _ ea)
   exact W.kia_one W.kitx_dict I.iT ⟨o,h1,h2.1⟩ e (fun z=>nomatch z) h
 | @ins a C dx fs ea cl ha hn Hd hm=>
   cases (show u=Value.ref a from rx);obtain⟨mA,O,_⟩:=oh I.aK ea;obtain⟨od,J,_⟩:=O.look;exact W.kia_one (W.kitx_own (cl.get _) cl.hd ha hn Hd hm) I.iT J e (fun z=>nomatch z) h
end
structure cA (k:Nat)(A:Around):Prop where
 hd:A.handled=none
 dp:A.depth+3 * k+5 < recursionLimit
 un:A.units+16 * k+200 < cLine
theorem cA.mono {j k:Nat}{A:Around}(r:cA k A)(h:j<=k):cA j A:=⟨r.hd,by have:=r.dp;omega,by have:=r.un;omega⟩
theorem cA.deeper {k:Nat}{A:Around}(r:cA (k+1) A)(env:Env):cA k (A.deeper env):=
 ⟨r.hd,by have:=r.dp;show A.depth+1+3 * k+5 < _;omega,by have:=r.un;show A.units+3+16 * k+200 < _;omega⟩
theorem vP {A:Around}{C:Addr}{us:List Value}{kw:List (Str×Value)}:(A.under (.builtin "type.__call__" ⟨.ref C::us,kw⟩)).depth=A.depth+1:=by
 first | rfl | simp[Around.under,Code.weight,Code.isCreation,Code.isGuard,Code.isCaller,Code.frames,Code.isFrame,guardIds]
theorem vQ {A:Around}{C:Addr}{us:List Value}{kw:List (Str×Value)}:(A.under (.builtin "type.__call__" ⟨.ref C::us,kw⟩)).units=A.units+1:=by
 first | rfl | simp[Around.under,Code.cUnits,Code.frames,Code.isFrame]
theorem cA.make {k:Nat}{A:Around}(r:cA (k+1) A)(C:Addr)(us:List Value)(kw:List (Str×Value)):cA k (A.under (.builtin "type.__call__" ⟨.ref C::us,kw⟩)):=
 ⟨r.hd,by have:=r.dp;rw[vP];omega,by have:=r.un;rw[vQ];omega⟩
theorem cA.depth {k:Nat}{A:Around}(r:cA k A):A.depth < recursionLimit:=by have:=r.dp;omega
theorem cA.units {k:Nat}{A:Around}(r:cA k A):A.units+64 < cLine:=by have:=r.un;omega
def KD:TA:=fun _ H Q=>Q [] H
def KG (ta:TE)(tr:TA):TA:=fun σ H Q=>ta σ H fun x H1=>tr σ H1 fun xs H2=>Q (x::xs) H2
section
variable {X:Cx}{e:Expr}{es:List Expr}{te:TE}{t:TA}{pos:Pos}
theorem iq:PA X [] KD:=fun _ _ _ _ H Q I h=>Calls.spliced_nil ⟨[],H,I,.nil,h⟩
theorem fT (ha:PE X e te)(hr:PA X es t)(hs:autoParam (starEach (e::es) X.env=(false,eval e X.env)::starEach es X.env) jp):PA X (e::es) (KG te t):=by
 intro pos pins s σ H Q I h;rw[hs];show wpAny _ _ (spliced ((false,eval e X.env)::backTo pos (starEach es X.env))) _ _ s;refine Calls.spliced_cons (bF (ha pins s σ H _ I h) fun u s1 ⟨x,H1,I1,r1,q1⟩=>?_);exact bF (hr pos pins s1 σ H1 _ I1 q1) fun us s2 ⟨xs,H2,I2,r2,q2⟩=>⟨x::xs,H2,I2,.cons r1 r2,q2⟩
def Of (t:TA):TE:=fun σ H Q=>t σ H fun xs H1=>xs.length<=sizeLine/\∀ p,H1 p=none->Q (.ref p) (upd H1 p (.tup xs))
def Og (t:TA):TE:=fun σ H Q=>t σ H fun xs H1=>xs.length<=sizeLine/\∀ p,H1 p=none->Q (.ref p) (upd H1 p (.lst xs))
theorem He {x1}(h:PA X es t):PE X (.Tuple es x1 pos) (Of t):=by
 intro pins s σ H Q I hq;refine wpAny_Tuple_spliced (bF (h pos pins s σ H _ I hq) fun us s1 ⟨xs,H1,I1,r,z,q⟩=>⟨by rw[<- r.length];exact z,?_⟩);have hf:H1 s1.heap.objs.size=none:=I1.aK.fresh (O0 _);refine⟨.ref s1.heap.objs.size,upd H1 s1.heap.objs.size (.tup xs),I1.laid (t':=s1.toks) (fun b u e=>Te _ e) (O0 _) ?_,rfl,q _ hf⟩;exact⟨z,us,r,⟨_,VJ _ rfl,rfl,_,rfl⟩⟩
theorem vR (h:PA X es t):PE X (.List es pos) (Og t):=by
 intro pins s σ H Q I hq;refine wpAny_List_spliced (bF (h pos pins s σ H _ I hq) fun us s1 ⟨xs,H1,I1,r,z,q⟩=>⟨by rw[<- r.length];exact z,?_⟩);have hf:H1 s1.heap.objs.size=none:=I1.aK.fresh (O0 _);refine⟨.ref s1.heap.objs.size,upd H1 s1.heap.objs.size (.lst xs),I1.laid (t':=s1.toks) (fun b u e=>Te _ e) (O0 _) ?_,rfl,q _ hf⟩;exact⟨z,us,0,r,VJ _ rfl⟩
end
abbrev Sp:=List V->Hp->VK->XK->Prop
abbrev kT:=List Env->Hp->Shared->XK->Value->Shared->Prop
structure uk (P:Program)(w:World)(K:W.Frag)(mg:Str->Option Value)(base:Heap)(A:Around)(outer:List Env)(s:Shared)(H:Hp):Prop where
 frames:A.frames=some outer
 mod:Mod K mg base
 bs:∀ b o,base.get? b=some o->s.heap.get? b=some o/\H b=none
 xc:base.objs.size<=s.heap.objs.size
 l7:s.heap.FunFrames base outer
 FA:∀ b∈zW outer,H b=none
 aK:ll P w H s.heap
 bare:AllBare s.gens
def CE (outer:List Env)(P:Program)(w:World)(H:Hp)(s:Shared)(Q:VK)(u:Value)(s':Shared):Prop:=
 ∃ v H',s'.os=s.os/\AllBare s'.gens/\Un (zW outer) [] H H' s.heap s'.heap/\ll P w H' s'.heap/\RelV v u/\Q v H'
def CR (CX:kT)(outer:List Env)(P:Program)(w:World)(H:Hp)(s:Shared)(Q:VK)(E:XK)(r:Result)(s':Shared):Prop:=
 match r with
 | .ok (.ret u)=>CE outer P w H s Q u s'
 | .ok _=>False
 | .error e=>CX outer H s E e s'
structure gu (P:Program)(w:World)(K:W.Frag)(mg:Str->Option Value)(base:Heap)(CX:kT)(k:Nat)(f:Addr)(fd:FuncData)(ps:List Str)(sp:Sp):Prop where
 len:∀ vs H Q E,sp vs H Q E->vs.length=ps.length
 run:∀ (A:Around) (outer:List Env) (s:Shared) (H:Hp) (args:Args) (us:List Value) (vs:List V) (Q:VK) (E:XK),cA k A->uk P w K mg base A outer s H->BindsTo s fd args (ps.zip us)->Vals vs us->sp vs H Q E ->
   codeAny (model P w) A (.call (.ref f) args) (CR CX outer P w H s Q E) s
theorem uk.make {P:Program}{w:World}{K:W.Frag}{mg:Str->Option Value}{base:Heap}{A:Around}{outer:List Env}{s:Shared}{H:Hp}(e:uk P w K mg base A outer s H)(C:Addr)(us:List Value)(kw:List (Str×Value)):uk P w K mg base (A.under (.builtin "type.__call__" ⟨.ref C::us,kw⟩)) outer s H:=⟨by first | exact e.frames | (simpa [Around.under,Code.envs,Code.isFrame,pushEnvs] using e.frames),e.mod,e.bs,e.xc,e.l7,e.FA,e.aK,e.bare⟩
section
variable {X:Cx}{pins:List (Addr×Obj)}{σ:St}{H:Hp}{s s':Shared}
theorem Inv.KH (I:Inv X pins σ H s):uk X.prog X.w X.K X.mg X.base X.A X.stack s H:=
 ⟨I.ok.frames,I.ok.mod,I.bs,We I.ok.xc I.sz,I.stack,I.n9,I.aK,I.bare⟩
theorem Inv.after {Q:VK}{u:Value}(I:Inv X pins σ H s)(h:CE X.stack X.prog X.w H s Q u s'):EP X pins σ Q u s':=by
 obtain⟨v,H',os,bare,un,aK,r,q⟩:=h;obtain⟨hh,g,d,t,Oh⟩:=s';obtain rfl:Oh=s.os:=os;exact⟨v,H',I.call (h':=hh) (g':=g) (d':=d) (t':=t) (ch:=[]) un aK bare (fun b z=>absurd z (by simp)),r,q⟩
end
def KI (sp:Sp)(dvs:List V)(E:XK)(t:TA):TE:=fun σ H Q=>t σ H fun vs H1=>sp (vs ++ dvs) H1 Q E
def FF (C:Addr)(m:Str)(sp:Sp)(dvs:List V)(E:XK)(ta:TE)(t:TA):TE:=fun σ H Q=>ta σ H fun x H1=>∃ a dx fs,x=.ref a/\Rd H1 a (.ins C dx fs)/\fs.lookup m=none /\
 t σ H1 fun vs H2=>sp (x::(vs ++ dvs)) H2 Q E
def KJ (C:Addr)(sp:Sp)(dvs:List V)(E:XK)(t:TA):TE:=fun σ H Q=>t σ H fun vs H1=>∀ x dx,H1 x=none->H1 dx=none->dx≠x ->
 sp (.ref x::(vs ++ dvs)) (upd (upd H1 dx (.own x)) x (.ins C dx [])) (fun v H2=>v=.b0/\Q (.ref x) H2) E
def Binds (K:PySem.W.Frag)(fd:FuncData)(ps:List Str)(ds:List Value):Prop:=
 ∀ (s:Shared) (us:List Value),K.In s.heap->(us ++ ds).length=ps.length->BindsTo s fd ⟨us,[]⟩ (ps.zip (us ++ ds))
theorem Binds.all {K:W.Frag}{fd:FuncData}{ps:List Str}(h:∀ us:List Value,us.length=ps.length->bindArgs fd ⟨us,[]⟩=pure (ps.zip us)):Binds K fd ps []:=fun s us _ hl=>by
 rw[Wq] at hl ⊢;exact .of_eq (h us hl)
def Passes (CX:kT)(X:Cx)(E:XK):Prop:=∀ (pins:List (Addr×Obj)) (σ:St) (H:Hp) (s:Shared) (e:Value) (s':Shared),Inv X pins σ H s->CX X.stack H s E e s'->X.xe e s'
section
variable {X:Cx}{CX:kT}{k:Nat}{f C:Addr}{fd:FuncData}{ps:List Str}{sp:Sp}{dvs:List V}{ds:List Value}{E:XK}{x m:Str}{p pos apos:Pos}{e o:Expr}{es:List Expr}{ta:TE}{t:TA}
theorem vS {pins:List (Addr×Obj)}{σ:St}{H:Hp}{s:Shared}{Q:VK}{us:List Value}{vs:List V}(F:gu X.prog X.w X.K X.mg X.base CX k f fd ps sp)(hr:cA k X.A)(hb:Binds X.K fd ps ds)(hd:Vals dvs ds)(hx:Passes CX X E)(I:Inv X pins σ H s)(r:Vals vs us)(h:sp (vs ++ dvs) H Q E):wpAny (model X.prog X.w) X.A (call (.ref f) us) (EP X pins σ Q) X.xe s:=by
 have r2:Vals (vs ++ dvs) (us ++ ds):=r.append hd;have hl:(us ++ ds).length=ps.length:=by rw[<- r2.length];exact F.len _ _ _ _ h
 refine wpAny_call (codeAny_mono (F.run X.A X.stack s H ⟨us,[]⟩ (us ++ ds) (vs ++ dvs) Q E hr I.KH (hb s us I.iT hl) r2 h) fun r s' hq=>?_);cases r with
 | error e=>exact hx pins σ H s e s' I hq
 | ok fl=>
   cases fl with
   | ret u=>exact I.after hq
   | next=>exact False.elim hq
   | brk=>exact False.elim hq
   | cont=>exact False.elim hq
theorem rL (F:gu X.prog X.w X.K X.mg X.base CX k f fd ps sp)(hr:cA k X.A)(hg:Gl X x)(hm:X.mg x=some (.ref f))(hk:W.keepIn X.K (.ref f)=true)(hb:Binds X.K fd ps ds)(hd:Vals dvs ds)(hx:Passes CX X E)(ha:PA X (e::es) t)(hU:autoParam ((x == ("__debug__":Str))=false) jM)(he:autoParam (starEach (e::es) X.env=(false,eval e X.env)::starEach es X.env) jp)(jn:autoParam ((backTo pos (starEach es X.env)).any (·.1)=false) jp):PE X (.Call (.Name x p) (e::es) [] pos) (KI sp dvs E t):=by
 intro pins s σ H Q I h;refine wpAny_Call_Name_kw (oe I hg hm ?_ hU);refine W.callWith_K (h₀:=X.base) I.ok.mod.Kd hk (bF (ha pos pins s σ H _ I h) fun us s1 ⟨vs,H1,I1,r,q⟩=>⟨I1.iT,?_⟩) he jn;exact vS F hr hb hd hx I1 r q
theorem xi {pl:Sem Bool}(he:PE X o ta)(c:qp X.K C)(hm:Meth X.K C m f)(F:gu X.prog X.w X.K X.mg X.base CX k f fd ps sp)(hr:cA k X.A)(hb:Binds X.K fd ps ds)(hd:Vals dvs ds)(hx:Passes CX X E)(ha:PA X (e::es) t)
   (jf:autoParam (starEach (e::es) X.env=(false,eval e X.env)::starEach es X.env) jp) (jn:autoParam ((backTo pos (starEach es X.env)).any (·.1)=false) jp)
   (ht:autoParam (eval (.Call (.Attribute o m apos) (e::es) [] pos) X.env=(do
     let ov <- eval o X.env
     standAt apos.atName
     let (f,first) <- holding [ov] (getMethod ov m pl)
     callWith pos f first (backTo pos (starEach (e::es) X.env)) (backToKw pos (keywordEach [] X.env)))) jp) :
   PE X (.Call (.Attribute o m apos) (e::es) [] pos) (FF C m sp dvs E ta t):=by
 intro pins s σ H Q I h;refine W.methodCall_KW (pl:=pl) (bF (he pins s σ H _ I h) fun u s1 ⟨x,H1,I1,rx,a,dx,fs,ex,ea,l,q⟩=>?_) ht;subst ex;obtain rfl:u=Value.ref a:=rx;refine oT I1 ea c hm l ?_;refine W.callWith_K (first:=[.ref a]) (h₀:=X.base) I.ok.mod.Kd hm.kp (bF (ha pos pins s1 σ H1 _ I1 q) fun us s2 ⟨vs,H2,I2,r,q2⟩=>⟨I2.iT,?_⟩) jf jn;exact vS (us:=.ref a::us) (vs:=.ref a::vs) F hr hb hd hx I2 (.cons rfl r) q2
theorem Ah {pl:Sem Bool}(he:PE X o ta)(c:qp X.K C)(hm:Meth X.K C m f)(F:gu X.prog X.w X.K X.mg X.base CX k f fd ps sp)(hr:cA k X.A)(hb:Binds X.K fd ps ds)(hd:Vals dvs ds)(hx:Passes CX X E)
   (ht:autoParam (eval (.Call (.Attribute o m apos) [] [] pos) X.env=(do
     let ov <- eval o X.env
     standAt apos.atName
     let (f,first) <- holding [ov] (getMethod ov m pl)
     callWith pos f first (backTo pos (starEach [] X.env)) (backToKw pos (keywordEach [] X.env)))) jp) :
   PE X (.Call (.Attribute o m apos) [] [] pos) (FF C m sp dvs E ta KD):=by
 intro pins s σ H Q I h;refine W.methodCall_KW (pl:=pl) (bF (he pins s σ H _ I h) fun u s1 ⟨x,H1,I1,rx,a,dx,fs,ex,ea,l,q⟩=>?_) ht;subst ex;obtain rfl:u=Value.ref a:=rx;refine oT I1 ea c hm l ?_;exact W.callWith_K0 (first:=[.ref a]) I1.iT hm.kp (vS (us:=[.ref a]) (vs:=[.ref a]) F hr hb hd hx I1 (.cons rfl .nil) q)
structure Mk (K:W.Frag)(C f:Addr):Prop where
 makes:W.makesIn K C=true
 init:W.findIn K (.ref C) "__init__"=some (some (.ref f))
 fn:W.isFn K (.ref f)=true
 kp:W.keepIn K (.ref C)=true
theorem Ai {pins:List (Addr×Obj)}{σ:St}{H:Hp}{s:Shared}{Q:VK}{us:List Value}{vs:List V}(M:Mk X.K C f)(F:gu X.prog X.w X.K X.mg X.base CX k f fd ps sp)(hr:cA (k+1) X.A)(hb:Binds X.K fd ps ds)(hd:Vals dvs ds)(hx:Passes CX X E)(I:Inv X pins σ H s)(r:Vals vs us)(h:∀ x dx,H x=none->H dx=none->dx≠x->sp (.ref x::(vs ++ dvs)) (upd (upd H dx (.own x)) x (.ins C dx [])) (fun v H2=>v=.b0/\Q (.ref x) H2) E):wpAny (model X.prog X.w) X.A (call (.ref C) us) (EP X pins σ Q) X.xe s:=by
 have hq:=h (s.heap.objs.size+1) s.heap.objs.size (I.aK.fresh (WU _)) (I.aK.fresh (O0 _)) (V9 (WV _));have I2:=Inv.made (C:=C) I;have r2:Vals (V.ref (s.heap.objs.size+1)::(vs ++ dvs)) (Value.ref (s.heap.objs.size+1)::(us ++ ds)):=.cons rfl (r.append hd);have hl:(Value.ref (s.heap.objs.size+1)::us ++ ds).length=ps.length:=by
   have e:=r2.length;rw[F.len _ _ _ _ hq] at e;exact e.symm
 refine wpAny_call (Ag (f:=f) I.iT M.makes M.init (beq_iff_eq.mp M.fn) (codeAny_mono (F.run _ X.stack _ _ ⟨Value.ref (s.heap.objs.size+1)::us,[]⟩ (Value.ref (s.heap.objs.size+1)::(us ++ ds)) _ _ E (hr.make C us [])
   (I2.KH.make C us []) (hb _ (Value.ref (s.heap.objs.size+1)::us) I2.iT hl) r2 hq) fun r s' Aj=>?_))
 cases r with
 | error e=>exact hx pins σ _ _ e s' I2 Aj
 | ok fl=>
   cases fl with
   | ret u=>
     obtain⟨v,H',I3,rv,ev,q3⟩:=I2.after Aj;subst ev;exact⟨rv,⟨V.ref (s.heap.objs.size+1),H',I3,rfl,q3⟩⟩
   | next=>exact False.elim Aj
   | brk=>exact False.elim Aj
   | cont=>exact False.elim Aj
theorem xj (M:Mk X.K C f)(F:gu X.prog X.w X.K X.mg X.base CX k f fd ps sp)(hr:cA (k+1) X.A)(hg:Gl X x)(hm:X.mg x=some (.ref C))(hb:Binds X.K fd ps ds)(hd:Vals dvs ds)(hx:Passes CX X E)(ha:PA X (e::es) t)(hU:autoParam ((x == ("__debug__":Str))=false) jM)(he:autoParam (starEach (e::es) X.env=(false,eval e X.env)::starEach es X.env) jp)(jn:autoParam ((backTo pos (starEach es X.env)).any (·.1)=false) jp):PE X (.Call (.Name x p) (e::es) [] pos) (KJ C sp dvs E t):=by
 intro pins s σ H Q I h;refine wpAny_Call_Name_kw (oe I hg hm ?_ hU);refine W.callWith_K (h₀:=X.base) I.ok.mod.Kd M.kp (bF (ha pos pins s σ H _ I h) fun us s1 ⟨vs,H1,I1,r,q⟩=>⟨I1.iT,?_⟩) he jn;exact Ai M F hr hb hd hx I1 r q
end
section
variable {fd:FuncData}{ps ks:List Str}
structure Oi (K:W.Frag)(fd:FuncData)(ps ks:List Str)(g:List Value->List Value->List Value)(gV:List V->List V->List V):Prop where
 to:∀ (s:Shared) (us ws:List Value),K.In s.heap->(g us ws).length=ps.length->BindsTo s fd ⟨us,ks.zip ws⟩ (ps.zip (g us ws))
 rel:∀ {vs:List V} {us:List Value} {zs:List V} {ws:List Value},Vals vs us->Vals zs ws->Vals (gV vs zs) (g us ws)
end
structure au (N P:List Str)(sc:Scope):Prop where
 kind:sc.kind=.function
 co:sc.isCoroutine=false
 gen:sc.isGenerator=false
 nd:N.Nodup
 pre:N.take P.length=P
 par:∀ x∈P,sc.names.lookup x=some .local\/sc.names.lookup x=some .cell
 Hg:∀ y∈sc.names,y.2≠.free
theorem qK {kindOf:Str->Option NameKind}{x:Str}:∀ {binds:List (Str×Value)} {m:Str->Option Value},(∀ v,(x,v) ∉ binds)->bindL kindOf binds m x=m x
 | [],_,_=>rfl
 | (n,v)::r,m,h=>by
   unfold bindL;rw[qK fun w hw=>h w (Wk _ hw)]
   split
   . have:x≠n:=by rintro rfl;exact h v WG
     simp[this]
   . rfl
theorem qL {kindOf:Str->Option NameKind}{x:Str}:∀ {binds:List (Str×Value)} {m:Str->Option Value},(∀ v,(x,v) ∉ binds)->bindC kindOf binds m x=m x
 | [],_,_=>rfl
 | (n,v)::r,m,h=>by
   unfold bindC;rw[qL fun w hw=>h w (Wk _ hw)]
   split
   . rfl
   . have:x≠n:=by rintro rfl;exact h v WG
     simp[this]
theorem qM {kindOf:Str->Option NameKind}{x:Str}{v:Value}:∀ {P:List Str} {vs:List Value} {i:Nat} {m:Str->Option Value},P.Nodup->P[i]?=some x->vs[i]?=some v->kindOf x=some .local->bindL kindOf (P.zip vs) m x=some v
 | [],_,_,_,_,h,_,_=>by simp at h
 | _::_,[],_,_,_,_,h,_=>by simp at h
 | p::P,w::vs,0,m,nd,h1,h2,hk=>by
   simp at h1 h2;subst h1;subst h2;show bindL kindOf ((p,w)::P.zip vs) m p=_;unfold bindL;rw[qK fun v hv=>(W3.mp nd).1 (List.of_mem_zip hv).1,if_pos hk];simp
 | p::P,w::vs,i+1,m,nd,h1,h2,hk=>by
   show bindL kindOf ((p,w)::P.zip vs) m x=_;unfold bindL;exact qM (i:=i) (W3.mp nd).2 (by simpa using h1) (by simpa using h2) hk
theorem qN {kindOf:Str->Option NameKind}{x:Str}{v:Value}:∀ {P:List Str} {vs:List Value} {i:Nat} {m:Str->Option Value},P.Nodup->P[i]?=some x->vs[i]?=some v->kindOf x≠some .local->bindC kindOf (P.zip vs) m x=some v
 | [],_,_,_,_,h,_,_=>by simp at h
 | _::_,[],_,_,_,_,h,_=>by simp at h
 | p::P,w::vs,0,m,nd,h1,h2,hk=>by
   simp at h1 h2;subst h1;subst h2;show bindC kindOf ((p,w)::P.zip vs) m p=_;unfold bindC;rw[qL fun v hv=>(W3.mp nd).1 (List.of_mem_zip hv).1,if_neg hk];simp
 | p::P,w::vs,i+1,m,nd,h1,h2,hk=>by
   show bindC kindOf ((p,w)::P.zip vs) m x=_;unfold bindC;exact qN (i:=i) (W3.mp nd).2 (by simpa using h1) (by simpa using h2) hk
noncomputable def start (N:List Str)(vs:List V):St:=vs.map some ++ Wg (N.length - vs.length) none
noncomputable def mh (CX:kT)(P:Program)(w:World)(K:W.Frag)(mg:Str->Option Value)(base:Heap)(N:List Str)(qual:Str)(scope:Scope)(f:Addr)(cd:Value)(A:Around)(outer:List Env)(s:Shared)(H:Hp)(E:XK):Cx where
 prog:=P
 w:=w
 K:=K
 mg:=mg
 base:=base
 A:=A.deeper (envOfC qual scope s.heap.objs.size f cd)
 N:=N
 s₀:=s
 H₀:=H
 env:=envOfC qual scope s.heap.objs.size f cd
 outer:=outer
 stack:=envOfC qual scope s.heap.objs.size f cd::outer
 ex:=[]
 calm:=true
 fn:=fun _=>true
 pn:=[]
 xe:=fun e s'=>wpAny (model P w) (A.deeper (envOfC qual scope s.heap.objs.size f cd)) (leaving (envOfC qual scope s.heap.objs.size f cd) e) (fun _ Hh=>CX outer H s E e Hh) (fun e' Hh=>CX outer H s E e' Hh) s'
theorem um {sc:Scope}{n:Nat}{x:Str}(h:sc.names.lookup x=some .cell):∃ c,(cellsFrom n sc.names []).lookup x=some c:=by
 have q:=W.cellsFrom_some sc.names n [] (.inl h);exact Xf.mp q
theorem yF {CX:kT}{P:Program}{w:World}{K:W.Frag}{mg:Str->Option Value}{base:Heap}{N ps:List Str}{qual:Str}{scope:Scope}{f:Addr}{cd:Value}{A:Around}{outer:List Env}{s s1:Shared}{H:Hp}{E:XK}{us:List Value}{vs:List V}(S:au N ps scope)(hd:A.handled=none)(e0:uk P w K mg base A outer s H)(hl:vs.length=ps.length)(r:Vals vs us)(x:InCallC s s.heap.objs.size (bindL (envOfC qual scope s.heap.objs.size f cd).kindOf (ps.zip us) fun _=>none) (cellsFrom (s.heap.objs.size+1) scope.names []) (bindC (envOfC qual scope s.heap.objs.size f cd).kindOf (ps.zip us) fun _=>none) s1):Inv (mh CX P w K mg base N qual scope f cd A outer s H E) [] (start N vs) H s1:=by
 have jn:ps.length<=N.length:=by have:=congrArg W9 S.pre;rw[Wc] at this;omega
 obtain⟨h1,tk,rfl,hk⟩:=x.done;have KL:∀ b:Addr,b ∉ (mh CX P w K mg base N qual scope f cd A outer s H E).ex:=fun b z=>absurd (show b∈([]:List Addr) from z) (by simp)
 refine⟨⟨e0.mod,S.kind,rfl,rfl,O0 _,fun y z c h1 h2=>?_,fun y hy=>?_,fun y c _ h=>?_,fun _=>hd,Around.frames_deeper e0.frames,.inr ⟨rfl,rfl⟩,fun b z=>absurd z (KL b),e0.bs,e0.xc,fun b _ _=>KL b,fun b z=>absurd z (KL b),e0.l7,e0.FA⟩,
   rfl,e0.bare,Un.kept hk,⟨_,x.toInCall.ns,fun i y v h1 h2 h3=>?_⟩,fun y c h=>⟨_,x.cell y c h⟩,e0.aK.fresh (O0 _),fun y c h=>?_,fun p hp=>absurd (show p∈([]:List (Addr×Obj)) from hp) (by simp),e0.aK.kept hk,?_⟩
 . exact name_of_addr x.apart (PySem.mem_of_lookup h1) (PySem.mem_of_lookup h2)
 . have hy:scope.names.lookup y=some .cell\/scope.names.lookup y=some .free:=hy
   rcases hy with hy | hy
   . exact um hy
   . exact absurd rfl (S.Hg _ (PySem.mem_of_lookup hy))
 . exact WL (x.above y c (PySem.mem_of_lookup h))
 . have hi:i < vs.length:=by
     unfold start at h2;by_cases hi:i < vs.length
     . exact hi
     . rw[Wd (by simpa using hi)] at h2
       rw[Ww] at h2
       split at h2 <;> cases h2
   have ha:vs[i]?=some v:=by
     unfold start at h2;rw[Wf (by simpa using hi),VB] at h2;cases e:vs[i]? with
     | none=>rw[e] at h2;cases h2
     | some a=>rw[e] at h2;cases h2;rfl
   obtain⟨u,hu,rv⟩:=r.get ha;have hp:ps[i]?=some y:=by
     rw[<- S.pre,List.getElem?_take_of_lt (by omega)];exact h1
   have QE:ps.Nodup:=by rw[<- S.pre];exact S.nd.sublist (List.take_sublist _ _)
   refine⟨u,rv,?_⟩;rcases S.par y (WW hp) with k | k
   . exact .inl ⟨k,qM QE hp hu k⟩
   . obtain⟨c,e⟩:=um (n:=s.heap.objs.size+1) k
     refine .inr ⟨.inl k,c,e,?_⟩;have q:=x.cell y c e;rw[qN QE hp hu (by show scope.names.lookup y≠_;rw[k];decide)] at q;exact q
 . exact e0.aK.fresh (WL (x.above y c (PySem.mem_of_lookup h)))
 . unfold start
   show _=N.length;rw[V5,ou,List.length_replicate];omega
theorem xk {CX:kT}{P:Program}{w:World}{K:W.Frag}{mg:Str->Option Value}{base:Heap}{k:Nat}{f:Addr}{name qual:Str}{params:Arguments}{body:List Stmt}{scope:Scope}{dV kV doc pm a6 ct oc:Value}{an od:Option Addr}{oU:Array (Option Value)}{N ps:List Str}{sp:Sp}(lk:K.lookup f=some ⟨oc,od,.func (W.fnOf name qual params body scope dV kV doc pm an a6 ct),oU⟩)(il:W.codeIn K a6 qual=true)(S:au N ps scope)(len:∀ vs H Q E,sp vs H Q E->vs.length=ps.length)(jx:∀ (A:Around) (outer:List Env) (s:Shared) (H:Hp) (vs:List V) (Q:VK) (E:XK),cA k (A.deeper (envOfC qual scope s.heap.objs.size f a6))->sp vs H Q E->∃ t,vG (mh CX P w K mg base N qual scope f a6 A outer s H E) body t/\t { nx:=fun _ H'=>Q .b0 H',rt:=Q} (start N vs) H):gu P w K mg base CX (k+1) f (W.fnOf name qual params body scope dV kV doc pm an a6 ct) ps sp:=by
 refine⟨len,fun A outer s H args us vs Q E hr e0 hb r FG=>?_⟩;have hl:=len _ _ _ _ FG;have KX:K.In s.heap:=e0.mod.Kd.keeps fun b o e=>(e0.bs b o e).1
 have lim:s.heap.NoLimit:=e0.mod.nolimit.keeps fun b o e=>(e0.bs b o e).1
 have KN:∀ y∈ps.zip us,scope.names.lookup y.1=some .local\/(scope.names.lookup y.1=some .cell/\((cellsFrom (s.heap.objs.size+1) scope.names []).lookup y.1).isSome=true):=fun⟨n,v⟩ hy=>by
   rcases S.par n (List.of_mem_zip hy).1 with q | q
   . exact .inl q
   . exact .inr ⟨q,W.cellsFrom_some _ _ _ (.inl q)⟩
 refine codeAny_call_function hr.depth (KX _ _ lk) rfl S.co S.gen rfl (W.codeRec_of KX il) (hb _ _ _ _ ?_);refine wpAny_newFunctionEnv_cells S.kind KN fun env he s1 x=>?_
 subst he;refine⟨lim.keeps x.toInCall.keep,codeAny_func ?_⟩;obtain⟨t,ht,hq⟩:=jx A outer s H vs Q E (hr.deeper _) FG;have I:Inv (mh CX P w K mg base N qual scope f a6 A outer s H E) [] (start N vs) H s1:=yF S hr.hd e0 hl r x;refine wpAny_mono (ht [] s1 (start N vs) H _ I hq) (fun fl s' hs=>?_) fun e s' hs=>hs
 have fin:∀ {σ':St} {H':Hp} {v:V} {u:Value},Inv (mh CX P w K mg base N qual scope f a6 A outer s H E) [] σ' H' s'->RelV v u->Q v H'->CE outer P w H s Q u s':=
   fun {σ' H' v u} J rv q=>⟨v,H',J.os,J.bare,J.base,J.aK,rv,q⟩
 cases fl with
 | ret u=>
   obtain⟨v,σ',H',J,rv,q⟩:=hs;exact fin J rv q
 | next=>
   obtain⟨σ',H',J,q⟩:=hs;exact fin (v:=V.b0) (u:=Value.none) J rfl q
 | brk=>
   obtain⟨_,_,_,q⟩:=hs;exact False.elim q
 | cont=>
   obtain⟨_,_,_,q⟩:=hs;exact False.elim q
section
variable {X:Cx}{x:Str}{p pos:Pos}{e:Expr}{es:List Expr}{t:TA}{id T:String}{r:List V->Hp->VK->Prop}
def QF (r:List V->Hp->VK->Prop)(t:TA):TE:=fun σ H Q=>t σ H fun vs H1=>r vs H1 Q
theorem e9 (hc:gD X (.builtin id) r)(hg:Gl X x)(hm:X.mg x=none)(hv:bootBuiltins x=some (.builtin id))(ha:PA X (e::es) t)(hn:autoParam (x≠"__name__") jM)(hU:autoParam ((x == ("__debug__":Str))=false) jM)(he:autoParam (starEach (e::es) X.env=(false,eval e X.env)::starEach es X.env) jp)(jn:autoParam ((backTo pos (starEach es X.env)).any (·.1)=false) jp):PE X (.Call (.Name x p) (e::es) [] pos) (QF r t):=by
 intro pins s σ H Q I h;refine wpAny_Call_Name_kw (ju I hg hm hv ?_ hn hU);exact PyProof.Rows.callWith_builtin1 (bF (ha pos pins s σ H _ I h) fun us s1 ⟨vs,H1,I1,r1,q1⟩=>hc pins s1 σ H1 vs us Q I1 r1 q1) he jn
theorem fM (hc:gD X (.type T) r)(hg:Gl X x)(hm:X.mg x=none)(hv:bootBuiltins x=some (.type T))(ha:PA X (e::es) t)(hn:autoParam (x≠"__name__") jM)(hU:autoParam ((x == ("__debug__":Str))=false) jM)(he:autoParam (starEach (e::es) X.env=(false,eval e X.env)::starEach es X.env) jp)(jn:autoParam ((backTo pos (starEach es X.env)).any (·.1)=false) jp):PE X (.Call (.Name x p) (e::es) [] pos) (QF r t):=by
 intro pins s σ H Q I h;refine wpAny_Call_Name_kw (ju I hg hm hv ?_ hn hU);exact PyProof.Rows.callWith_type1 (bF (ha pos pins s σ H _ I h) fun us s1 ⟨vs,H1,I1,r1,q1⟩=>hc pins s1 σ H1 vs us Q I1 r1 q1) he jn
end
end L2
namespace HT
open PySem PyProof.Rows
section
noncomputable def uo (n d:Nat):Option Int->Nat
 | none=>d
 | some v=>if v < 0 then (v+(n:Int)).toNat else min v.toNat n
theorem uq (n d:Nat):uo n d none=d:=rfl
theorem oi (n d k:Nat):uo n d (some (k:Int))=min k n:=by
 show(if (k:Int) < 0 then ((k:Int)+(n:Int)).toNat else min (k:Int).toNat n)=min k n;rw[if_neg (by omega),WT]
end
end HT
namespace L2
open PySem PySem.Spec PyProof.Rows
abbrev TO:=St->Hp->(Option Int->Hp->Prop)->Prop
def PO (X:Cx)(e:Option Expr)(t:TO):Prop:=
 ∀ (pins:List (Addr×Obj)) (s:Shared) (σ:St) (H:Hp) (Q:Option Int->Hp->Prop),Inv X pins σ H s->t σ H Q ->
   wpAny (model X.prog X.w) X.A (evalPart e X.env) (fun u s'=>∃ o H',Inv X pins σ H' s'/\IsPart u o/\Q o H') X.xe s
def Dz:TO:=fun _ H Q=>Q none H
def KO (t:TE):TO:=fun σ H Q=>t σ H fun x H1=>∃ i,x=.int i/\Q (some i) H1
section
variable {X:Cx}{e:Expr}{te:TE}{lo hi:Option Expr}{tl th:TO}{pos p2:Pos}
theorem rM:PO X none Dz:=by
 intro pins s σ H Q I h;rw[evalPart_none];exact wpAny_pure ⟨none,H,I,.none,h⟩
theorem lr (h:PE X e te):PO X (some e) (KO te):=by
 intro pins s σ H Q I hw;rw[evalPart_some];refine bF (h pins s σ H _ I hw) fun u s1 ⟨x,H1,I1,r1,q1⟩=>?_
 obtain⟨i,rfl,q⟩:=q1;obtain⟨t,rfl⟩:=r1;exact⟨some i,H1,I1,.int i t,q⟩
def Oj (X:Cx)(r:V->Option Int->Option Int->Hp->VK->Prop):Prop:=
 ∀ (pins:List (Addr×Obj)) (s:Shared) (σ:St) (H:Hp) (x:V) (v vl vu:Value) (lo hi:Option Int) (sl:Addr) (Q:VK),Inv X pins σ H s->RelV x v->s.heap.IsSliceOf sl vl vu .none->IsPart vl lo->IsPart vu hi->r x lo hi H Q ->
   ∃ T id,typeLookup (.type T) "__getitem__"=pure (some (.builtin id))/\s.TypeIs v T/\wpAny (model X.prog X.w) X.A (getItem v (.ref sl)) (EP X pins σ Q) X.xe s
def Sm (r:V->Option Int->Option Int->Hp->VK->Prop)(te:TE)(tl th:TO):TE:=fun σ H Q=>te σ H fun x H1=>tl σ H1 fun l H2=>th σ H2 fun u H3=>r x l u H3 Q
theorem lu {r:V->Option Int->Option Int->Hp->VK->Prop}(hr:Oj X r)(he:PE X e te)(hl:PO X lo tl)(hu:PO X hi th):PE X (.Subscript e (.Slice lo hi none p2) pos) (Sm r te tl th):=by
 intro pins s σ H Q I h;refine Subscript_ (bF (he pins s σ H _ I h) fun v s1 ⟨x,H1,I1,r1,q1⟩=>?_);refine wpAny_Slice (bF (hl pins s1 σ H1 _ I1 q1) fun vl s2 ⟨l,H2,I2,pl,q2⟩=>bF (hu pins s2 σ H2 _ I2 q2) fun vu s3 ⟨u,H3,I3,pu,q3⟩=>?_);rw[evalPart_none];refine wpAny_pure ?_;have I4:Inv X pins σ H3 { s3 with heap:=s3.heap.push { cls:=.type "slice",data:=.fields #[vl,vu,.none]}}:=I3.kept (t':=s3.toks) fun b ob q=>Te _ q
 obtain⟨T,id,hT,ht,hg⟩:=hr pins { s3 with heap:=s3.heap.push { cls:=.type "slice",data:=.fields #[vl,vu,.none]}} σ H3 x v vl vu l u s3.heap.objs.size Q I4 r1 (Heap.IsSliceOf.new ..) pl pu q3;show wpAny (model X.prog X.w) X.A (subscriptTail e (.Slice lo hi none p2) v (.ref s3.heap.objs.size)) (EP X pins σ Q) X.xe { s3 with heap:=s3.heap.push { cls:=.type "slice",data:=.fields #[vl,vu,.none]}};exact tail_any (ops:=[.ref s3.heap.objs.size,v]) ht hT hg (by with_unfolding_all rfl)
noncomputable def qr (xs:List V)(lo hi:Option Int):List V:=(xs.drop (HT.uo xs.length 0 lo)).take (HT.uo xs.length xs.length hi - HT.uo xs.length 0 lo)
theorem ur (xs:List V)(lo hi:Option Int):(qr xs lo hi).length<=xs.length:=by
 unfold qr;rw[Wc,Wz];omega
theorem uu:gD X (.type "tuple") (fun xs H Q=>∃ a ys,xs=[.ref a]/\vC X.K H a ys/\Q (.ref a) H):=by
 intro pins s σ H xs us Q I r h;obtain⟨a,ys,rfl,ha,q⟩:=h;obtain⟨u,rfl,ru⟩:=vals1 r;cases ru;obtain⟨aE,_,p1,_⟩:=I.tuple ha;exact call_tuple_same (items:=aE.toArray) p1 ⟨.ref a,H,I,rfl,q⟩
end
noncomputable def FH (n:Nat)(i:Int):Option Nat:=if 0<=i then (if i < n then some i.toNat else none) else if -(n:Int)<=i then some (i+n).toNat else none
noncomputable def nI {α:Type}(xs:List α)(i:Int):Option α:=(FH xs.length i).bind fun j=>xs[j]?
theorem DA {n:Nat}{i:Int}{j:Nat}(h:FH n i=some j):seqIndex? i n=some j/\j < n/\-(n:Int)<=i/\i < n:=by
 unfold FH at h;by_cases h0:0<=i
 . rw[if_pos h0] at h
   by_cases h1:i < n
   . rw[if_pos h1] at h
     have e:i.toNat=j:=Option.some.inj h;exact⟨by rw[seqIndex_of h0 h1,e],by omega,by omega,h1⟩
   . rw[if_neg h1] at h;cases h
 . rw[if_neg h0] at h
   by_cases h1:-(n:Int)<=i
   . rw[if_pos h1] at h
     have e:(i+n).toNat=j:=Option.some.inj h;exact⟨by rw[seqIndex_neg (by omega) h1,e],by omega,h1,by omega⟩
   . rw[if_neg h1] at h;cases h
theorem rN {α:Type}{xs:List α}{i:Int}{v:α}(h:nI xs i=some v):∃ j,seqIndex? i xs.length=some j/\xs[j]?=some v/\j < xs.length/\-(xs.length:Int)<=i/\i < xs.length:=by
 unfold nI at h;cases e:FH xs.length i with
 | none=>rw[e] at h;cases h
 | some j=>
   rw[e] at h;obtain⟨h1,h2,h3,h4⟩:=DA e;exact⟨j,h1,h,h2,h3,h4⟩
theorem jV {α:Type}{xs:List α}{j:Nat}{v:α}(h:xs[j]?=some v):nI xs (j:Int)=some v:=by
 have hj:j < xs.length:=(Vx.mp h).1;have e:FH xs.length (j:Int)=some j:=by
   unfold FH;rw[if_pos (by omega),if_pos (by omega)];simp
 unfold nI;rw[e];exact h
def hW (b:Expr):Prop:=∀ o i,subscripted b false o i=operate [o,i] (getItem o i)
def JY (X:Cx)(r:R2):Prop:=
 ∀ (value slice:Expr) (pins:List (Addr×Obj)) (s:Shared) (σ:St) (H:Hp) (x y:V) (v u:Value) (Q:VK),Inv X pins σ H s->RelV x v->RelV y u->r x y H Q ->
   subscripted slice false v u=operate [v,u] (getItem v u)->wpAny (model X.prog X.w) X.A (subscriptTail value slice v u) (EP X pins σ Q) X.xe s
def JZ (X:Cx)(id:String)(r:V->List V->Hp->VK->Prop):Prop:=
 ∀ (pins:List (Addr×Obj)) (s:Shared) (σ:St) (H:Hp) (x:V) (xs:List V) (v:Value) (us:List Value) (Q:VK),Inv X pins σ H s->RelV x v->Vals xs us->r x xs H Q ->
   wpAny (model X.prog X.w) X.A (call (.builtin id) (v::us)) (EP X pins σ Q) X.xe s
section
variable {X:Cx}{a b:Expr}{ta tb:TE}{pos:Pos}
theorem qO {r:R2}(hr:JY X r)(ha:PE X a ta)(hb:PE X b tb)(hs:hW b):PE X (.Subscript a b pos) (Kr r ta tb):=by
 intro pins s σ H Q I h;exact Subscript_ (GZ ha hb I h fun v u s2 x y H2 I2 rx ry q=>hr a b pins s2 σ H2 x y v u Q I2 rx ry q (hs _ _))
def Ol (K:W.Frag):R2:=fun x y H Q=>∃ p xs i v,x=.ref p/\y=.int i/\jm K H p xs/\nI xs i=some v/\Q v H
def Om (K:W.Frag):R2:=fun x y H Q=>∃ p xs i v,x=.ref p/\y=.int i/\vC K H p xs/\nI xs i=some v/\Q v H
def Oo:R2:=fun x y H Q=>∃ z i c,x=.str z/\y=.int i/\z.length<=sizeLine/\nI z.cps.toList i=some c/\Q (.str ⟨#[c]⟩) H
theorem xl:JY X (Ol X.K):=by
 intro value slice pins s σ H x y v u Q I rx ry h hs;obtain⟨p,xs,i,z,rfl,rfl,hq,he,q⟩:=h;cases rx;obtain⟨t,rfl⟩:=ry;obtain⟨aE,r,pl,hz⟩:=I.list hq;obtain⟨j,h1,h2,h3,h4,h5⟩:=rN he;obtain⟨w,ew,DB⟩:=r.get h2;have hl:=r.length;have hn:=iU;have fin:EP X pins σ Q w s:=⟨z,H,I,DB,q⟩
 by_cases h0:0<=i
 . have hj:i.toNat=j:=by
     rw[seqIndex_of h0 h5] at h1;exact Option.some.inj h1
   exact item_listR pl.isList h0 (by omega) (by rw[hj];simpa using ew) fin hs
 . have hj:(i+(aE.toArray.size:Int)).toNat=j:=by
     rw[seqIndex_neg (by omega) h4] at h1;rw[V6,<- hl];exact Option.some.inj h1
   exact subscriptTail_builtinR (x:=w) pl.isList.typeIs slot_list_getitem.lookup
     (wpAny_getItem_list_neg (Q:=fun r s'=>r=w/\EP X pins σ Q r s') pl.isList (by omega) (by rw[V6] <;> omega) (by omega) (by rw[hj];simpa using ew) ⟨rfl,fin⟩) hs
theorem Hi:JY X (Om X.K):=by
 intro value slice pins s σ H x y v u Q I rx ry h hs;obtain⟨p,xs,i,z,rfl,rfl,hq,he,q⟩:=h;cases rx;obtain⟨t,rfl⟩:=ry;obtain⟨aE,r,pl,hz⟩:=I.tuple hq;obtain⟨j,h1,h2,h3,h4,h5⟩:=rN he;obtain⟨w,ew,DB⟩:=r.get h2;have hl:=r.length;have hn:=iU;have fin:EP X pins σ Q w s:=⟨z,H,I,DB,q⟩
 exact subscriptTail_builtinR (x:=w) pl.typeIs slot_tuple_getitem.lookup
   (getItem_tuple (j:=j) (Q:=fun r s'=>r=w/\EP X pins σ Q r s') pl (by omega) (by omega) (by rw[V6,<- hl];exact h1) (by simpa using ew) ⟨rfl,fin⟩) hs
theorem Hj:JY X Oo:=by
 intro value slice pins s σ H x y v u Q I rx ry h hs;obtain⟨z,i,c,rfl,rfl,hz,he,q⟩:=h;obtain⟨t,rfl⟩:=rx;obtain⟨t',rfl⟩:=ry;obtain⟨j,h1,h2,h3,h4,h5⟩:=rN he;have hl:z.cps.toList.length=z.length:=by simp[Str.length]
 rw[hl] at h1 h4 h5;have hn:=iU;exact tail_any (typeIs_str s z t) slot_str_getitem.lookup (getItem_str (c:=c) (by
   have e1:decide (i < -(2 ^ 63:Int))=false:=decide_eq_false (by omega);have e2:decide (i >= 2 ^ 63)=false:=decide_eq_false (by omega);rw[e1,e2,Bool.or_false]) (by rw[h1];simpa using h2) ⟨.str ⟨#[c]⟩,H,I.tok _,⟨_,rfl⟩,q⟩) hs
theorem rO (lo hi:Option Int)(n:Nat):(sliceBounds lo hi none n).1=((HT.uo n 0 lo:Nat):Int)/\(sliceBounds lo hi none n).2.1=((HT.uo n n hi:Nat):Int)/\(sliceBounds lo hi none n).2.2=1:=by
 refine⟨?_,?_,rfl⟩
 . cases lo with
   | none=>simp[sliceBounds,HT.uo]
   | some i=>
     simp only[sliceBounds,HT.uo,Option.getD_none,show(1:Int) > 0 by decide,if_true];by_cases h:i < 0
     . simp only[h,if_true] <;> omega
     . simp only[h,if_false] <;> omega
 . cases hi with
   | none=>simp[sliceBounds,HT.uo]
   | some i=>
     simp only[sliceBounds,HT.uo,Option.getD_none,show(1:Int) > 0 by decide,if_true];by_cases h:i < 0
     . simp only[h,if_true] <;> omega
     . simp only[h,if_false] <;> omega
theorem qt (aE:List Value)(lo hi:Option Int):slicePick aE.toArray lo hi none=((aE.drop (HT.uo aE.length 0 lo)).take (HT.uo aE.length aE.length hi - HT.uo aE.length 0 lo)).toArray:=by
 obtain⟨h1,h2,h3⟩:=rO lo hi aE.toArray.size;unfold slicePick;rw[h1,h2,h3];simp only[sliceRange_one,pick_run,V6] <;> rfl
def Oq (K:W.Frag):V->Option Int->Option Int->Hp->VK->Prop:=fun x lo hi H Q=>∃ a xs,x=.ref a/\jm K H a xs/\∀ p,H p=none->Q (.ref p) (upd H p (.lst (qr xs lo hi)))
theorem rP:Oj X (Oq X.K):=by
 intro pins s σ H x v vl vu lo hi sl Q I rx hs pl pu h;obtain⟨a,xs,rfl,hx,q⟩:=h;cases rx;obtain⟨aE,r,ht,hz⟩:=I.list hx;have hlen:=r.length;refine⟨"list",_,slot_list_getitem.lookup,ht.isList.typeIs,?_⟩;refine wpAny_getItem_list_slice ht.isList hs pl pu .none (by simp) ?_ (by rw[V6] <;> omega);rw[qt,<- hlen];refine⟨.ref s.heap.objs.size,_,I.laid (t':=s.toks) (o:=.lst (qr xs lo hi)) (fun b ob q=>Te _ q) (O0 _) ?_,rfl,q _ (I.aK.fresh (O0 _))⟩;exact⟨We (ur xs lo hi) hz,_,0,(r.drop (HT.uo xs.length 0 lo)).take (HT.uo xs.length xs.length hi - HT.uo xs.length 0 lo),VJ _ rfl⟩
noncomputable def lx:V->Bool
 | .b0=>true
 | .bl _=>true
 | .int _=>true
 | .str _=>true
 | _=>false
noncomputable def C4:V->V->Bool
 | .b0,.b0=>true
 | .bl a,.bl b=>a == b
 | .bl a,.int b=>(if a then 1 else 0) == b
 | .int a,.bl b=>a == (if b then 1 else 0)
 | .int a,.int b=>a == b
 | .str a,.str b=>a == b
 | _,_=>false
theorem Hk {A:Around}{s:Shared}{y x:V}{u v:Value}(ry:RelV y u)(rx:RelV x v)(fy:lx y=true)(fx:lx x=true):SeqAt.EqAt A s u v (C4 y x):=by
 cases y with
 | b0=>
   cases ry;cases x with
   | b0=>cases rx;exact SeqAt.EqAt.same _
   | bl b=>cases rx;exact SeqAt.EqAt.none_bool b
   | int b=>obtain⟨t,rfl⟩:=rx;exact SeqAt.EqAt.none_int b t
   | str b=>obtain⟨t,rfl⟩:=rx;exact SeqAt.EqAt.none_str b t
   | _=>exact absurd (show false=true from fx) V8
 | bl a=>
   cases ry;cases x with
   | b0=>cases rx;exact SeqAt.EqAt.bool_none a
   | bl b=>cases rx;exact SeqAt.EqAt.bool_bool a b
   | int b=>obtain⟨t,rfl⟩:=rx;exact SeqAt.EqAt.bool_int a b t
   | str b=>obtain⟨t,rfl⟩:=rx;exact SeqAt.EqAt.bool_str a b t
   | _=>exact absurd (show false=true from fx) V8
 | int a=>
   obtain⟨t',rfl⟩:=ry;cases x with
   | b0=>cases rx;exact SeqAt.EqAt.int_none a t'
   | bl b=>cases rx;exact SeqAt.EqAt.int_bool a t' b
   | int b=>obtain⟨t,rfl⟩:=rx;exact SeqAt.EqAt.int_int a t' b t
   | str b=>obtain⟨t,rfl⟩:=rx;exact SeqAt.EqAt.int_str a t' b t
   | _=>exact absurd (show false=true from fx) V8
 | str a=>
   obtain⟨t',rfl⟩:=ry;cases x with
   | b0=>cases rx;exact SeqAt.EqAt.str_none a t'
   | bl b=>cases rx;exact SeqAt.EqAt.str_bool a t' b
   | int b=>obtain⟨t,rfl⟩:=rx;exact SeqAt.EqAt.str_int a t' b t
   | str b=>obtain⟨t,rfl⟩:=rx;exact SeqAt.EqAt.str_str a t' b t
   | _=>exact absurd (show false=true from fx) V8
 | _=>exact absurd (show false=true from fy) V8
noncomputable def vT (x:V)(u:Value):Bool:=match u with
 | .none=>C4 .b0 x
 | .bool b=>C4 (.bl b) x
 | .int i _=>C4 (.int i) x
 | .str z _=>C4 (.str z) x
 | _=>false
theorem Ak {x y:V}{u:Value}(r:RelV y u)(f:lx y=true):vT x u=C4 y x:=by
 cases y with
 | b0=>cases r;rfl
 | bl b=>cases r;rfl
 | int i=>obtain⟨t,rfl⟩:=r;rfl
 | str z=>obtain⟨t,rfl⟩:=r;rfl
 | _=>exact absurd (show false=true from f) V8
theorem ly {x:V}:∀ {xs:List V} {us:List Value},Vals xs us->xs.all lx=true->us.any (vT x)=xs.any fun y=>C4 y x
 | _,_,.nil,_=>rfl
 | y::xs,u::us,.cons r t,f=>by
   rw[Xq,Wn] at f;rw[Xg,Xg,Ak r f.1,ly t f.2]
theorem jy {A:Around}{s:Shared}{x:V}{v:Value}(rx:RelV x v)(fx:lx x=true):∀ {xs:List V} {us:List Value},Vals xs us->xs.all lx=true->∀ u∈us,SeqAt.EqAt A s u v (vT x u)
 | _,_,.nil,_=>fun u hu=>by cases hu
 | y::xs,u::us,.cons r t,f=>fun u' hu=>by
   rw[Xq,Wn] at f;rcases Wh.mp hu with rfl | hu
   . rw[Ak r f.1];exact Hk r rx f.1 fx
   . exact jy rx fx t f.2 u' hu
noncomputable def KP (x:V)(xs:List V):Bool:=xs.any fun y=>C4 y x
def M8 (K:W.Frag)(neg:Bool):R2:=fun x y H Q=>∃ p xs,y=.ref p/\(jm K H p xs\/vC K H p xs)/\lx x=true/\xs.all lx=true/\Q (.bl (if neg then !KP x xs else KP x xs)) H
theorem qP:kS X (compareOp .In) (M8 X.K false):=by
 intro pins s σ H x y v u Q I rx ry h;obtain⟨p,xs,rfl,hq,fx,fs,q⟩:=h;cases ry;rcases hq with hq | hq
 . obtain⟨aE,r,pl,hz⟩:=I.list hq
   refine SeqAt.in_listAt (vT x) pl.isList (fun w hw=>jy rx fx r fs w (by simpa using hw)) ⟨.bl _,H,I,rfl,?_⟩;rw[show aE.toArray.any (vT x)=aE.any (vT x) by simp,ly r fs];exact q
 . obtain⟨aE,r,pl,hz⟩:=I.tuple hq
   refine SeqAt.in_tupleAt (vT x) pl (fun w hw=>jy rx fx r fs w (by simpa using hw)) ⟨.bl _,H,I,rfl,?_⟩;rw[show aE.toArray.any (vT x)=aE.any (vT x) by simp,ly r fs];exact q
theorem rQ:kS X (compareOp .NotIn) (M8 X.K true):=by
 intro pins s σ H x y v u Q I rx ry h;obtain⟨p,xs,rfl,hq,fx,fs,q⟩:=h;cases ry;rcases hq with hq | hq
 . obtain⟨aE,r,pl,hz⟩:=I.list hq
   refine SeqAt.notIn_listAt (vT x) pl.isList (fun w hw=>jy rx fx r fs w (by simpa using hw)) ⟨.bl _,H,I,rfl,?_⟩;rw[show aE.toArray.any (vT x)=aE.any (vT x) by simp,ly r fs];exact q
 . obtain⟨aE,r,pl,hz⟩:=I.tuple hq
   refine SeqAt.notIn_tupleAt (vT x) pl (fun w hw=>jy rx fx r fs w (by simpa using hw)) ⟨.bl _,H,I,rfl,?_⟩;rw[show aE.toArray.any (vT x)=aE.any (vT x) by simp,ly r fs];exact q
theorem lz:gD X (.builtin "len") (fun xs H Q=>∃ p ys,xs=[.ref p]/\(jm X.K H p ys\/vC X.K H p ys)/\Q (.int ys.length) H):=by
 intro pins s σ H xs us Q I r h;obtain⟨p,ys,rfl,hq,q⟩:=h;obtain⟨u,rfl,rx⟩:=vals1 r;cases rx;have hn:=iU;rcases hq with hq | hq
 . obtain⟨aE,r',pl,hz⟩:=I.list hq
   have hlen:=r'.length;exact Calls.call_len_list pl.isList (by simp only[V6] <;> omega) ⟨.int ys.length,H,I.tok _,⟨s.toks+1,by rw[V6,hlen]⟩,q⟩
 . obtain⟨aE,r',pl,hz⟩:=I.tuple hq
   have hlen:=r'.length;exact len_tuple pl (by simp only[V6] <;> omega) ⟨.int ys.length,H,I.tok _,⟨s.toks+1,by rw[V6,hlen]⟩,q⟩
theorem rR:gD X (.builtin "len") (fun xs H Q=>∃ z,xs=[.str z]/\z.length<=sizeLine/\Q (.int z.length) H):=by
 intro pins s σ H xs us Q I r h;obtain⟨z,rfl,hz,q⟩:=h;obtain⟨u,rfl,t,rfl⟩:=vals1 r;have hn:=iU;exact len_str (by omega) ⟨.int z.length,H,I.tok _,⟨_,rfl⟩,q⟩
theorem rS:gD X (.type "list") (fun xs H Q=>∃ p ys,xs=[.ref p]/\(jm X.K H p ys\/vC X.K H p ys)/\∀ l,H l=none->Q (.ref l) (upd H l (.lst ys))):=by
 intro pins s σ H xs us Q I r h;obtain⟨p,ys,rfl,hq,q⟩:=h;obtain⟨u,rfl,rx⟩:=vals1 r;cases rx;have fin:∀ (aE:List Value),Vals ys aE->ys.length<=sizeLine->∀ (h':Heap) (c':Nat),(∀ b o',s.heap.get? b=some o'->h'.get? b=some o') ->
     h'.get? s.heap.objs.size=some { cls:=.type "list",dict:=none,data:=.seq aE.toArray c',slots:=#[]}->EP X pins σ Q (.ref s.heap.objs.size) { s with heap:=h'}:=fun aE r' hz h' c' kp e=>
   ⟨.ref s.heap.objs.size,_,I.laid (t':=s.toks) kp (O0 _) (show aD X.prog X.w _ h' _ (.lst ys) from⟨hz,aE,c',r',e⟩),rfl,q _ (I.aK.fresh (O0 _))⟩
 rcases hq with hq | hq
 . obtain⟨aE,r',pl,hz⟩:=I.list hq
   have hlen:=r'.length;obtain⟨o,ho,hc,n,hd⟩:=pl.isList;exact call_list_seq p (.inl rfl) ho hc hd (fun h' c' kp e=>fin aE r' hz h' c' kp e) (by simp only[V6] <;> omega)
 . obtain⟨aE,r',pl,hz⟩:=I.tuple hq
   have hlen:=r'.length;obtain⟨o,ho,hc,n,hd⟩:=pl;exact call_list_seq p (.inr rfl) ho hc hd (fun h' c' kp e=>fin aE r' hz h' c' kp e) (by simp only[V6] <;> omega)
def M9 (K:W.Frag)(T:String)(x:V)(H:Hp):Prop:=match x with
 | .str _=>T="str"
 | .int _=>T="int"
 | .ref p=>(T="list"/\∃ xs,jm K H p xs)\/(T="tuple"/\∃ o,K.lookup p=some o/\o.cls=.type "tuple"/\o.dict=none) \/
     (T="dict"/\((∃ kvs,H p=some (.dK kvs))\/(∃ kvs,H p=some (.dT kvs))\/∃ tg o kvs,H p=some (.kd tg o kvs)))\/(T="set"/\∃ S n,H p=some (.set S n)) \/
     (T="list"/\∃ (a:Addr) (ls:iB) (ns:List Nat) (j:Nat) (f:Nat->List (Key×FD)) (N:Nat),H a=some (.bD ls ns)/\ls[j]?=some (p,f)/\ns[j]?=some N)
 | _=>False
theorem Al {pins:List (Addr×Obj)}{σ:St}{H:Hp}{s:Shared}{T:String}{x:V}{v:Value}(I:Inv X pins σ H s)(r:RelV x v)(ty:M9 X.K T x H):s.TypeIs v T/\∀ a,v=.ref a->∃ ob,s.heap.get? a=some ob/\ob.dict=none:=by
 cases x with
 | str z=>
   obtain⟨t,rfl⟩:=r;cases (show T="str" from ty);exact⟨typeIs_str s z t,fun _ e=>nomatch e⟩
 | int i=>
   obtain⟨t,rfl⟩:=r;cases (show T="int" from ty);exact⟨typeIs_int s i t,fun _ e=>nomatch e⟩
 | ref p=>
   cases r;rcases ty with⟨rfl,xs,hq⟩ | ⟨rfl,o,hk,hc,hd⟩ | ⟨rfl,hk⟩ | ⟨rfl,S,n,hk⟩ | ⟨rfl,a,ls,ns,j,f,N,h1,h2,h3⟩
   . obtain⟨aE,_,pl,_⟩:=I.list hq
     refine⟨pl.isList.typeIs,fun a e=>?_⟩;cases e;obtain⟨o,n,e,c,hd,_⟩:=pl;exact⟨o,e,hd⟩
   . refine⟨⟨o,I.iT p o hk,hc⟩,fun a e=>?_⟩
     cases e;exact⟨o,I.iT _ o hk,hd⟩
   . have z:∃ o,s.heap.get? p=some o/\o.ExactDict:=by
       rcases hk with⟨kvs,hk⟩ | ⟨kvs,hk⟩ | ⟨tg,ob,kvs,hk⟩
       . obtain⟨_,_,_,_,o,_,_,e,ex,_⟩:=I.aK p _ hk
         exact⟨o,e,ex⟩
       . obtain⟨_,_,_,_,o,_,_,e,ex,_⟩:=I.aK p _ hk
         exact⟨o,e,ex⟩
       . obtain⟨_,⟨_,_,_,_,o,_,_,e,ex,_⟩,_⟩:=I.aK p _ hk
         exact⟨o,e,ex⟩
     obtain⟨o,e,ex⟩:=z;refine⟨⟨o,e,ex.1⟩,fun a e2=>?_⟩;cases e2;exact⟨o,e,ex.2.1⟩
   . obtain⟨o,_,_,_,e,ex,_⟩:=I.aK p _ hk
     refine⟨⟨o,e,ex.1⟩,fun a e2=>?_⟩;cases e2;exact⟨o,e,ex.2.1⟩
   . obtain⟨_,_,_,_,_,_,h6⟩:=(show aD X.prog X.w H s.heap a (.bD ls ns) from I.aK a _ h1)
     obtain⟨aE,c,e1,e2,e3⟩:=h6 j p f N h2 h3;refine⟨⟨_,e1,rfl⟩,fun a' e4=>?_⟩;cases e4;exact⟨_,e1,rfl⟩
 | _=>exact False.elim ty
def Ot (K:W.Frag)(T:String)(r:V->List V->Hp->VK->Prop)(to:TE):TE:=fun σ H Q=>to σ H fun x H1=>M9 K T x H1/\r x [] H1 Q
def So (K:W.Frag)(T:String)(r:V->List V->Hp->VK->Prop)(to:TE)(t:TA):TE:=fun σ H Q=>to σ H fun x H1=>M9 K T x H1/\t σ H1 fun xs H2=>r x xs H2 Q
variable {o e:Expr}{es:List Expr}{to:TE}{t:TA}{name:Str}{apos a7:Pos}{T id:String}{r:V->List V->Hp->VK->Prop}
theorem Am (pa:PlainAttrs T)(slot:Slot T name id)(KQ:typeOf (.builtin id)=pure (.type "method_descriptor"))(hm:JZ X id r)(ho:PE X o to)(gb:autoParam (attributeBase o name X.env (eval o X.env)=eval o X.env) jp)(gc:autoParam ((apos.endLine == a7.line)=true) jp):PE X (.Call (.Attribute o name apos) [] [] a7) (Ot X.K T r to):=by
 intro pins s σ H Q I h;refine wpAny_Call_method0_late gb gc (bF (ho pins s σ H _ I h) fun v s1 ⟨x,H1,I1,r1,ty,q1⟩=>?_);obtain⟨h1,h2⟩:=Al I1 r1 ty;exact⟨T,id,pa,slot,KQ,h1,h2,Calls.callWith_builtin rfl (PySem.evalArgs_none (hm pins s1 σ H1 x [] v [] Q I1 r1 .nil q1))⟩
theorem qQ (pa:PlainAttrs T)(slot:Slot T name id)(KQ:typeOf (.builtin id)=pure (.type "method_descriptor"))(hm:JZ X id r)(ho:PE X o to)(ha:PA X (e::es) t)
   (gb:autoParam (attributeBase o name X.env (eval o X.env)=eval o X.env) jp)
   (oV:autoParam (((backTo a7 (starEach (e::es) X.env)).all (fun x=>!x.1) && (backToKw a7 (keywordEach [] X.env)).all (fun x=>x.1.isSome)
     && decide ((e::es).length+([]:List Keyword).length+(if ([]:List Keyword).isEmpty then 0 else 1) < 30))=true) jp)
   (gc:autoParam ((apos.endLine == a7.line)=true) jp) (hs:autoParam (starEach (e::es) X.env=(false,eval e X.env)::starEach es X.env) jp) (Hl:autoParam ((backTo a7 (starEach es X.env)).any (·.1)=false) jp) :
   PE X (.Call (.Attribute o name apos) (e::es) [] a7) (So X.K T r to t):=by
 intro pins s σ H Q I h;refine wpAny_Call_method_late gb oV gc rfl (bF (ho pins s σ H _ I h) fun v s1 ⟨x,H1,I1,r1,ty,q1⟩=>?_);obtain⟨h1,h2⟩:=Al I1 r1 ty;refine⟨T,id,pa,slot,KQ,h1,h2,?_⟩;have hA:=ha a7 pins s1 σ H1 _ I1 q1;rw[hs] at hA ⊢;refine Calls.callWith_builtin (by show(false || (backTo a7 (starEach es X.env)).any (·.1))=false;rw[Hl] <;> rfl) (Calls.evalArgs_plain ?_);exact bF hA fun us s2 ⟨vs,H2,I2,r2,q2⟩=>hm pins s2 σ H2 x vs v us Q I2 r1 r2 q2
end
def Ou (X:Cx)(id:String)(r:V->List V->Hp->VK->Prop):Prop:=
 ∀ (pins:List (Addr×Obj)) (s:Shared) (σ:St) (H:Hp) (x:V) (xs:List V) (v:Value) (us:List Value) (Q:VK),Inv X pins σ H s->RelV x v->Vals xs us->r x xs H Q ->
   wpAny (model X.prog X.w) X.A (call (.builtin id) (v::us)) (EP X pins σ Q) X.xe s
theorem Vals.one:∀ {x:V} {us:List Value},Vals [x] us->∃ u,us=[u]/\RelV x u
 | _,_,.cons r .nil=>⟨_,rfl,r⟩
theorem Vals.zero:∀ {us:List Value},Vals [] us->us=[]
 | _,.nil=>rfl
theorem Vals.dropLast {xs:List V}{us:List Value}(h:Vals xs us):Vals xs.dropLast us.dropLast:=by
 induction h with
 | nil=>exact .nil
 | cons r t ih=>
   cases t with
   | nil=>exact .nil
   | cons q t'=>exact .cons r ih
theorem vU {α:Type}(l:List α):l.eraseIdx (l.length - 1)=l.dropLast:=by
 induction l with
 | nil=>rfl
 | cons a r ih=>
   cases r with
   | nil=>rfl
   | cons b r=>
     have e:(a::b::r).length - 1=((b::r).length - 1)+1:=by
       have h1:(a::b::r).length=r.length+2:=rfl;have h2:(b::r).length=r.length+1:=rfl;omega
     rw[e,List.eraseIdx_cons_succ,ih]
     all_goals rfl
section
variable {X:Cx}{pins:List (Addr×Obj)}{σ:St}{H:Hp}{s:Shared}{l:Addr}{xs ys:List V}
theorem Inv.Hm {aE its':List Value}{n:Nat}{f:Array Value->Array Value}{t':Nat}(I:Inv X pins σ H s)(hH:H l=some (.lst xs))(e:s.heap.get? l=some { cls:=.type "list",data:=.seq aE.toArray n})(hf:f aE.toArray=its'.toArray)(hv:Vals ys its')(hz:ys.length<=sizeLine):Inv X pins σ (upd H l (.lst ys)) { s with heap:=s.heap.update l (Obj.mapSeq f),toks:=t'}:=by
 have q:=PySem.IsL.update e f;rw[hf] at q;refine I.write (x:=l) (e:=l) (by rw[hH];exact trivial) (.inl rfl) (fun b' u hb hu=>(Heap.get?_update_other s.heap (Obj.mapSeq f) (Ne.symm hb)).trans hu) ⟨_,q⟩ ?_;exact⟨hz,its',_,hv,q⟩
theorem Inv.DC (I:Inv X pins σ H s)(hH:H l=some (.lst xs)):xs.length<=sizeLine/\∃ (aE:List Value) (n:Nat),Vals xs aE/\xs.length=aE.length/\s.heap.get? l=some { cls:=.type "list",data:=.seq aE.toArray n}:=by
 obtain⟨z,aE,n,r,e⟩:=I.aK l _ hH;exact⟨z,aE,n,r,r.length,e⟩
theorem Ao {n:Nat}(h:n<=sizeLine):Builtin.List.listTooLong n=false:=by
 unfold Builtin.List.listTooLong;exact decide_eq_false (by omega)
end
section
variable {X:Cx}
def DD:V->List V->Hp->VK->Prop:=fun x vs H Q=>∃ l xs y,x=.ref l/\vs=[y]/\H l=some (.lst xs)/\xs.length < sizeLine/\Q .b0 (upd H l (.lst (xs ++ [y])))
theorem jW:Ou X "list.append" DD:=by
 intro pins s σ H x vs v us Q I rx rv h;obtain⟨l,xs,y,rfl,rfl,hH,hz,q⟩:=h;cases rx;obtain⟨u,rfl,ru⟩:=rv.one;obtain⟨z,aE,n,r,hl,e⟩:=I.DC hH;refine call_meets F.slot_list_append ⟨_,e,rfl⟩ F.entry_list_append (F.args_list_append_2 _ _) (PySem.list_append l aE.toArray n u (by rw[V6];omega)) ⟨e,?_⟩;refine⟨.b0,_,I.Hm (its':=aE ++ [u]) hH e (by simp) (r.append (.cons ru .nil)) ?_,rfl,q⟩;rw[V5,List.length_singleton];omega
def DE:V->List V->Hp->VK->Prop:=fun x vs H Q=>∃ l b xs zs,x=.ref l/\vs=[.ref b]/\H l=some (.lst xs)/\H b=some (.lst zs)/\xs.length+zs.length<=sizeLine/\Q .b0 (upd H l (.lst (xs ++ zs)))
theorem yG:Ou X "list.extend" DE:=by
 intro pins s σ H x vs v us Q I rx rv h;obtain⟨l,b,xs,zs,rfl,rfl,hH,hB,hz,q⟩:=h;cases rx;obtain⟨u,rfl,ru⟩:=rv.one;cases ru;obtain⟨z,aE,n,r,hl,e⟩:=I.DC hH;obtain⟨z2,DF,n2,r2,KR,e2⟩:=I.DC hB;have hsz:aE.toArray.size+DF.toArray.size<=sizeLine:=by rw[V6,V6];omega
 have KS:¬ (!aE.toArray.isEmpty && Builtin.List.listTooLong (aE.toArray.size+DF.toArray.size))=true:=by
   rw[Ao hsz,Bool.and_false];exact V8
 refine call_meets F.slot_list_extend ⟨_,e,rfl⟩ F.entry_list_extend (F.args_list_extend_2 _ _)
   (AutoSeq1.list_extend_list_list_0 l aE.toArray n b DF.toArray n2 KS (by rw[V6];omega) (by omega)) ⟨e,e2,?_⟩
 refine⟨.b0,_,I.Hm (its':=aE ++ DF) hH e (by simp) (r.append r2) ?_,rfl,q⟩;rw[V5];omega
def Ov:V->List V->Hp->VK->Prop:=fun x vs H Q=>∃ l xs y,x=.ref l/\vs=[]/\H l=some (.lst xs)/\xs[xs.length - 1]?=some y/\Q y (upd H l (.lst xs.dropLast))
theorem Hn:Ou X "list.pop" Ov:=by
 intro pins s σ H x vs v us Q I rx rv h;obtain⟨l,xs,y,rfl,rfl,hH,hy,q⟩:=h;cases rx;have Sq:=rv.zero;subst Sq;obtain⟨z,aE,n,r,hl,e⟩:=I.DC hH;obtain⟨u,hu,ru⟩:=r.get hy;have KU:aE.toArray[aE.toArray.size - 1]?=some u:=by
   show aE.toArray[aE.length - 1]?=some u;rw[<- Xn,<- hl];exact hu
 refine call_meets F.slot_list_pop ⟨_,e,rfl⟩ F.entry_list_pop (F.args_list_pop_1 _) (MeetsSeq.list_pop_last l aE.toArray n u KU (by rw[V6];omega)) ⟨e,?_⟩;refine⟨y,_,I.Hm (its':=aE.dropLast) hH e ?_ r.dropLast ?_,ru,q⟩
 . show aE.toArray.eraseIdxIfInBounds (aE.toArray.size - 1)=aE.dropLast.toArray
   rw[V6,List.eraseIdxIfInBounds_toArray,vU]
 . rw[List.length_dropLast]
   omega
end
section
variable {κ:Type}[DecidableEq κ]
noncomputable def jo (kvs:List (κ×V))(k:κ):Option V:=(kvs.find? fun kv=>decide (kv.1=k)).map (·.2)
noncomputable def putK (kvs:List (κ×V))(k:κ)(v:V):List (κ×V):=
 if (kvs.any fun kv=>decide (kv.1=k))=true then kvs.map (fun kv=>if kv.1=k then (kv.1,v) else kv) else kvs ++ [(k,v)]
theorem jz {p:κ×V}{r:List (κ×V)}{k:κ}(e:p.1=k):jo (p::r) k=some p.2:=by simp[jo,WZ,e]
theorem iC {p:κ×V}{r:List (κ×V)}{k:κ}(e:¬ p.1=k):jo (p::r) k=jo r k:=by simp[jo,WZ,e]
theorem lA (k:κ):∀ kvs:List (κ×V),(kvs.any fun kv=>decide (kv.1=k))=(jo kvs k).isSome
 | []=>rfl
 | p::r=>by
   rw[Xg];by_cases e:p.1=k
   . simp only[jz e,decide_eq_true e,Bool.true_or,Option.isSome_some]
   . rw[iC e,decide_eq_false e,Bool.false_or];exact lA k r
theorem nr (kvs:List (κ×V))(k:κ)(v:V):(putK kvs k v).length<=kvs.length+1:=by
 unfold putK
 split
 . rw[ou];omega
 . rw[V5,Ws,List.length_nil];omega
theorem kz.mi {o:Option V}{u:Option Value}(r:kz o u):o.isSome=u.isSome:=by
 cases o with
 | none=>cases u with
   | none=>rfl
   | some _=>exact(show False from r).elim
 | some _=>cases u with
   | none=>exact(show False from r).elim
   | some _=>rfl
theorem KV.val {kvs:List (κ×V)}{vs:List (κ×Value)}(r:KV kvs vs)(k:κ):kz (jo kvs k) (valueAt vs k):=by
 unfold KV at r
 induction r with
 | nil=>exact True.intro
 | @cons p q ps qs h t ih=>
   obtain⟨h1,h2⟩:=h;by_cases e:p.1=k
   . have e':q.1=k:=h1.symm.trans e
     have b:valueAt (q::qs) k=some q.2:=by simp[valueAt,WZ,e']
     rw[jz e,b];exact h2
   . have e':¬ q.1=k:=fun z=>e (h1.trans z)
     have b:valueAt (q::qs) k=valueAt qs k:=by simp[valueAt,WZ,e']
     rw[iC e,b];exact ih
theorem KV.any {kvs:List (κ×V)}{vs:List (κ×Value)}(r:KV kvs vs)(k:κ):(kvs.any fun kv=>decide (kv.1=k))=vs.any fun kv=>decide (kv.1=k):=by
 unfold KV at r
 induction r with
 | nil=>rfl
 | cons h t ih=>rw[Xg,Xg,ih,h.1]
theorem KV.Ho {kvs:List (κ×V)}{vs:List (κ×Value)}(r:KV kvs vs)(k:κ){y:V}{u:Value}(ry:RelV y u):KV (kvs.map fun kv=>if kv.1=k then (kv.1,y) else kv) (vs.map fun kv=>if kv.1=k then (kv.1,u) else kv):=by
 unfold KV at r ⊢
 induction r with
 | nil=>exact .nil
 | @cons p q ps qs h t ih=>
   rw[V7,V7];refine .cons ?_ ih;obtain⟨h1,h2⟩:=h;by_cases e:p.1=k
   . rw[if_pos e,if_pos (h1.symm.trans e)];exact⟨h1,ry⟩
   . rw[if_neg e,if_neg (fun z=>e (h1.trans z))];exact⟨h1,h2⟩
theorem KV.put {kvs:List (κ×V)}{vs:List (κ×Value)}(r:KV kvs vs)(k:κ){y:V}{u:Value}(ry:RelV y u):KV (putK kvs k y) (stored vs k u):=by
 unfold putK stored;rw[r.any k];by_cases e:(vs.any fun kv=>decide (kv.1=k))=true
 . rw[if_pos e,if_pos e];exact r.Ho k ry
 . rw[if_neg e,if_neg e];exact Paired.snoc r ⟨rfl,ry⟩
theorem KV.length {kvs:List (κ×V)}{vs:List (κ×Value)}(r:KV kvs vs):kvs.length=vs.length:=Paired.length r
end
theorem uv {P:Program}{w:World}{k:Key}{u:Value}(r:RelV (kV k) u):(aG P w).is k u=true:=by
 cases k with
 | inl i=>obtain⟨t,e⟩:=(show ∃ t,u=Value.int i t from r);subst e;exact tX P w i t
 | inr x=>obtain⟨t,e⟩:=(show ∃ t,u=Value.str x t from r);subst e;exact tY P w x t
theorem qR {P:Program}{w:World}:∀ {ks:List Key} {us:List Value},Vals (ks.map kV) us->ItemsAre (aG P w) ks us
 | [],_,r=>by rw[List.map_nil] at r;cases r;exact .nil
 | k::ks,_,r=>by
   rw[V7] at r;cases r with
   | cons h t=>exact .cons (uv h) (qR t)
abbrev KT (H:Hp):List (List Key×V)->List (List Key×Addr×Value)->Prop:=Paired fun p q=>p.1=q.1/\H q.2.1=some (.tup (p.1.map kV))/\RelV p.2 q.2.2
theorem KT.val {H:Hp}{kvs:List (List Key×V)}{xs:List (List Key×Addr×Value)}(r:KT H kvs xs)(k:List Key):kz (jo kvs k) ((atKey xs k).map (·.2)):=by
 induction r with
 | nil=>exact True.intro
 | @cons p q ps qs h t ih=>
   obtain⟨h1,_,h2⟩:=h;by_cases e:p.1=k
   . have e':q.1=k:=h1.symm.trans e
     have b:atKey (q::qs) k=some q.2:=by simp[atKey,WZ,e']
     rw[jz e,b];exact h2
   . have e':¬ q.1=k:=fun z=>e (h1.trans z)
     have b:atKey (q::qs) k=atKey qs k:=by simp[atKey,WZ,e']
     rw[iC e,b];exact ih
theorem KT.Ho {H:Hp}{kvs:List (List Key×V)}{xs:List (List Key×Addr×Value)}(r:KT H kvs xs)(k:List Key){y:V}{u:Value}(ry:RelV y u):KT H (kvs.map fun kv=>if kv.1=k then (kv.1,y) else kv) (xs.map (putAt k u)):=by
 induction r with
 | nil=>exact .nil
 | @cons p q ps qs h t ih=>
   rw[V7,V7];refine .cons ?_ ih;obtain⟨h1,h2,h3⟩:=h;unfold putAt;by_cases e:p.1=k
   . rw[if_pos e,if_pos (h1.symm.trans e)];exact⟨h1,h2,ry⟩
   . rw[if_neg e,if_neg (fun z=>e (h1.trans z))];exact⟨h1,h2,h3⟩
theorem KT.put {H:Hp}{kvs:List (List Key×V)}{xs:List (List Key×Addr×Value)}(r:KT H kvs xs)(k:List Key){b:Addr}{y:V}{u:Value}(hb:H b=some (.tup (k.map kV)))(ry:RelV y u):KT H (putK kvs k y) (storedH xs k b u):=by
 have e:(kvs.any fun kv=>decide (kv.1=k))=(atKey xs k).isSome:=by
   rw[lA,(r.val k).mi,Option.isSome_map]
 unfold putK storedH;rw[e];by_cases q:(atKey xs k).isSome=true
 . rw[if_pos q,if_pos q];exact r.Ho k ry
 . rw[if_neg q,if_neg q];exact Paired.snoc r ⟨rfl,hb,ry⟩
theorem KT.keeps {H H':Hp}{kvs:List (List Key×V)}{xs:List (List Key×Addr×Value)}(r:KT H kvs xs)(ht:∀ b ys,H b=some (.tup ys)->H' b=some (.tup ys)):KT H' kvs xs:=
 Paired.GI r fun _ _ z=>⟨z.1,ht _ _ z.2.1,z.2.2⟩
section
variable {P:Program}{w:World}{H:Hp}{h:Heap}{a:Addr}
theorem FI {u:HO}(ok:ll P w H h)(e:Rd H a u):aD P w H h a u:=e.ok ok
theorem iD {kvs:List (Key×V)}(ok:ll P w H h)(e:Rd H a (.dK kvs)):kvs.length<=sizeLine/\(a == sysModules)=false/\∃ vs,KV kvs vs/\h.DictOf (aG P w) a vs:=
 show aD P w H h a (.dK kvs) from FI ok e
theorem FJ {kvs:List (Key×V)}(ok:ll P w H h)(e:H a=some (.dK kvs)):kvs.length<=sizeLine/\(a == sysModules)=false/\∃ vs,KV kvs vs/\h.DictOf (aG P w) a vs:=iD ok (.inl e)
theorem rT {ks:List Key}(ok:ll P w H h)(e:H a=some (.tup (ks.map kV))):(tupleKind (aG P w)).is h ks a:=by
 obtain⟨_,aE,r,o,h1,h2,n,h3⟩:=(show aD P w H h a (.tup (ks.map kV)) from ok a _ e)
 exact⟨o,aE.toArray,n,h1,h2,h3,by simpa using qR r⟩
theorem xm {kvs:List (List Key×V)}(ok:ll P w H h)(e:Rd H a (.dT kvs)):kvs.length<=sizeLine/\(a == sysModules)=false/\∃ xs,KT H kvs xs/\h.DictOfH (tupleKind (aG P w)) a xs:=by
 obtain⟨z,y,xs,r,o,es,ep,h1,h2,h3,h4,h5⟩:=(show aD P w H h a (.dT kvs) from FI ok e)
 refine⟨z,y,xs,r,o,es,ep,h1,h2,h3,h4,fun x hx=>?_,h5⟩;have all:∀ {l:List (List Key×V)} {m:List (List Key×Addr×Value)},KT H l m->∀ x∈m,(tupleKind (aG P w)).is h x.1 x.2.1:=by
   intro l m q
   induction q with
   | nil=>intro x hx;exact nomatch hx
   | @cons p q ps qs hq t ih=>
     intro x hx;rcases Wh.mp hx with e | hx
     . subst e
       exact rT ok (by rw[<- hq.1];exact hq.2.1)
     . exact ih x hx
 exact all r x hx
theorem KW {kvs:List (List Key×V)}(ok:ll P w H h)(e:H a=some (.dT kvs)):kvs.length<=sizeLine/\(a == sysModules)=false/\∃ xs,KT H kvs xs/\h.DictOfH (tupleKind (aG P w)) a xs:=xm ok (.inl e)
end
def mj (H:Hp)(a:Addr)(y:V)(r:Option V):Prop:=
 (∃ kvs k,Rd H a (.dK kvs)/\y=kV k/\r=jo kvs k)\/∃ kvs k b,Rd H a (.dT kvs)/\y=.ref b/\H b=some (.tup (k.map kV))/\r=jo kvs k
def yH (H:Hp)(a:Addr)(y v:V)(H':Hp):Prop:=
 (∃ kvs k,H a=some (.dK kvs)/\y=kV k/\kvs.length < sizeLine/\H'=upd H a (.dK (putK kvs k v))) \/
 ∃ kvs k b,H a=some (.dT kvs)/\y=.ref b/\H b=some (.tup (k.map kV))/\kvs.length < sizeLine/\H'=upd H a (.dT (putK kvs k v))
theorem mj.k {H:Hp}{a:Addr}{kvs:List (Key×V)}{k:Key}(e:H a=some (.dK kvs)):mj H a (kV k) (jo kvs k):=.inl ⟨kvs,k,.inl e,rfl,rfl⟩
theorem yH.k {H:Hp}{a:Addr}{kvs:List (Key×V)}{k:Key}{v:V}(e:H a=some (.dK kvs))(hl:kvs.length < sizeLine):yH H a (kV k) v (upd H a (.dK (putK kvs k v))):=.inl ⟨kvs,k,e,rfl,hl,rfl⟩
section
variable {X:Cx}{pins:List (Addr×Obj)}{σ:St}{H:Hp}{s:Shared}{a:Addr}{y v:V}{u r:Value}{o:Option V}{A:Around}{E:Value->Shared->Prop}
theorem Inv.big (I:Inv X pins σ H s):sysModules < s.heap.objs.size:=by
 have h:mainGlobals < s.heap.objs.size:=(I.mod.glob.keeps I.bk).lt;exact Nat.lt_trans (by decide) h
theorem yI {Q:Value->Shared->Prop}(hu:A.units+1 < cLine)(I:Inv X pins σ H s)(g:mj H a y (some v))(ry:RelV y u)(h:∀ w' s',Inv X pins σ H s'->RelV v w'->Q w' s'):wpAny (model X.prog X.w) A (getItem (.ref a) u) Q E s:=by
 rcases g with⟨kvs,k,e,ey,l⟩ | ⟨kvs,k,b,e,ey,eb,l⟩
 . subst ey
   obtain⟨z,hd,vs,rel,dd⟩:=iD I.aK e;obtain⟨w',hw,DB⟩:=kz.some_of (v:=v) (o:=valueAt vs k) (by rw[l];exact rel.val k);exact wpAny_getItem_of (uv ry) dd.mapOf hw (h w' _ (I.tok _) DB)
 . subst ey
   cases (show u=Value.ref b from ry);obtain⟨z,hd,xs,rel,dd⟩:=xm I.aK e;obtain⟨w',hw,DB⟩:=kz.some_of (v:=v) (o:=(atKey xs k).map (·.2)) (by rw[l];exact rel.val k);obtain⟨p,hp,oW⟩:=Option.map_eq_some_iff.mp hw;refine wpAny_getItem_heap (tupleKind_room_in1 hu) (rT I.aK eb) dd hp ?_;rw[oW];exact h w' _ (I.tok _) DB
theorem DG {Q:Value->Shared->Prop}(hu:A.units+1 < cLine)(I:Inv X pins σ H s)(g:mj H a y o)(ry:RelV y u)(h:∀ s',Inv X pins σ H s'->Q (.bool (!o.isSome)) s'):wpAny (model X.prog X.w) A (compareOp .NotIn u (.ref a)) Q E s:=by
 rcases g with⟨kvs,k,e,ey,l⟩ | ⟨kvs,k,b,e,ey,eb,l⟩
 . subst ey
   obtain⟨z,hd,vs,rel,dd⟩:=iD I.aK e;refine wpAny_notIn_of (uv ry) hd dd.mapOf ?_;rw[<- (rel.val k).mi,<- l];exact h _ (I.tok _)
 . subst ey
   cases (show u=Value.ref b from ry);obtain⟨z,hd,xs,rel,dd⟩:=xm I.aK e;refine wpAny_notIn_heap (tupleKind_room_in1 hu) (rT I.aK eb) hd dd ?_;have q:=(rel.val k).mi;rw[Option.isSome_map] at q;rw[<- q,<- l];exact h _ (I.tok _)
theorem jX {h':Heap}{t':Nat}{ob:HO}(I:Inv X pins σ H s)(mu:JS (H a))(hs:W6 a s.heap h')(he:∃ q,h'.get? a=some q)(new:aD X.prog X.w (upd H a ob) h' a ob):Inv X pins σ (upd H a ob) { s with heap:=h',toks:=t'}:=
 I.write (x:=a) (e:=a) mu (.inl rfl) (fun b q hb z=>(hs.2 b hb).trans z) he new
theorem Ap {P:Program}{w:World}{H':Hp}{h':Heap}{kvs:List (Key×V)}{vs:List (Key×Value)}(z:kvs.length<=sizeLine)(hd:(a == sysModules)=false)(rel:KV kvs vs)(dd:h'.DictOf (aG P w) a vs):aD P w H' h' a (.dK kvs):=⟨z,hd,vs,rel,dd⟩
theorem yJ {H':Hp}{Q:Unit->Shared->Prop}(hu:A.units+1 < cLine)(I:Inv X pins σ H s)(g:yH H a y v H')(ry:RelV y u)(rv:RelV v r)(h:∀ s',Inv X pins σ H' s'->Q () s'):wpAny (model X.prog X.w) A (setItem (.ref a) u r) Q E s:=by
 rcases g with⟨kvs,k,e,ey,l,eH⟩ | ⟨kvs,k,b,e,ey,eb,l,eH⟩
 . subst ey eH
   obtain⟨z,hd,vs,rel,dd⟩:=FJ I.aK e;have hz:vs.length<=sizeLine:=by rw[<- rel.length];exact z
   have hl:(putK kvs k v).length<=sizeLine:=by have:=nr kvs k v;omega
   refine wpAny_setItem_pairs (hsz:=hz) (uv ry) dd fun h' Hq hs=>h _ ?_
   have he:∃ q,h'.get? a=some q:=let ⟨q,_,_,hq,_⟩:=Hq;⟨q,hq⟩;exact jX I (by rw[e];exact True.intro) hs he (Ap hl hd (rel.put k rv) Hq)
 . subst ey eH
   cases (show u=Value.ref b from ry);obtain⟨z,hd,xs,rel,dd⟩:=KW I.aK e;have hz:xs.length<=sizeLine:=by rw[<- Paired.length rel];exact z
   have hl:(putK kvs k v).length<=sizeLine:=by have:=nr kvs k v;omega
   refine wpAny_setItem_heap (hsz:=hz) (tupleKind_room_in1 hu) (rT I.aK eb) dd fun h' Hq hs=>h _ ?_
   obtain⟨q,es,ep,hq,h2,h3,h4,_,h5⟩:=Hq;refine jX I (by rw[e];exact True.intro) hs ⟨q,hq⟩ ⟨hl,hd,_,(rel.put k eb rv).keeps fun c ys ec=>?_,q,es,ep,hq,h2,h3,h4,h5⟩;rw[ag (Ka ec e (fun z=>nomatch z))];exact ec
end
def Aq (i:Expr):Prop:=∀ ov iv,subscripted i false ov iv=operate [ov,iv] (getItem ov iv)
theorem DH {prog:Program}{w:World}{A:Around}{E:Value->Shared->Prop}{s:Shared}{env:Env}{value slice:Expr}{pos:Pos}{T id:String}{Q:Value->Shared->Prop}(hl:typeLookup (.type T) "__getitem__"=pure (some (.builtin id)))(hs:Aq slice)(h:wpAny (model prog w) A (eval value env) (fun o s₁=>wpAny (model prog w) A (eval slice env) (fun i s₂=>s₂.TypeIs o T/\wpAny (model prog w) A (getItem o i) Q E s₂) E s₁) E s):wpAny (model prog w) A (eval (.Subscript value slice pos) env) Q E s:=by
 refine Subscript_ (wpAny_mono h (fun o s₁ h₁=>wpAny_mono h₁ (fun i s₂ h₂=>?_) fun _ _ x=>x) fun _ _ x=>x);obtain⟨hT,h₂⟩:=h₂;unfold subscriptTail;refine wpAny_bind ?_;rw[getitemInPython_of_ne hT.not_modules];refine wpAny_bind (wpAny_specialOf hT hl ?_);have fin:wpAny (model prog w) A (subscripted slice false o i) (fun r s₃=>wpAny (model prog w) A (letTemporaryGo value o r >>= fun _=>pure r) Q E s₃) E s₂:=by
   rw[hs o i];exact wpAny_operating (wpAny_mono h₂ (fun r s₃ h₃=>wpAny_bind (wpAny_letTemporaryGo (wpAny_pure h₃))) fun _ _ x=>x)
 first
   | exact wpAny_pure (wpAny_bind fin)
   | exact wpAny_bind (wpAny_pure (wpAny_bind fin))
   | exact wpAny_bind fin
theorem uw {X:Cx}{pins:List (Addr×Obj)}{σ:St}{H:Hp}{s:Shared}{a:Addr}{y:V}{o:Option V}(I:Inv X pins σ H s)(g:mj H a y o):s.TypeIs (.ref a) "dict":=by
 rcases g with⟨kvs,k,e,_,_⟩ | ⟨kvs,k,b,e,_,_,_⟩
 . obtain⟨_,_,vs,_,dd⟩:=iD I.aK e
   exact dd.typeIs
 . obtain⟨_,_,xs,_,dd⟩:=xm I.aK e
   exact dd.typeIs
def KY (td ty:TE):TE:=fun σ H Q=>td σ H fun x H1=>ty σ H1 fun y H2=>∃ a v,x=.ref a/\mj H2 a y (some v)/\Q v H2
def Ow (ty td:TE):TE:=fun σ H Q=>ty σ H fun y H1=>td σ H1 fun x H2=>∃ a o,x=.ref a/\mj H2 a y o/\Q (.bl o.isSome) H2
def xn (ty td:TE):TE:=fun σ H Q=>ty σ H fun y H1=>td σ H1 fun x H2=>∃ a o,x=.ref a/\mj H2 a y o/\Q (.bl (!o.isSome)) H2
def KZ (td ty tv:TE):TS:=fun D σ H=>tv σ H fun v H1=>td σ H1 fun x H2=>ty σ H2 fun y H3=>∃ a H4,x=.ref a/\yH H3 a y v H4/\D.nx σ H4
section
variable {X:Cx}{o i value:Expr}{pos pos':Pos}{td ty tv:TE}
theorem rV (hu:X.A.units+1 < cLine)(ho:PE X o td)(hi:PE X i ty)(hs:Aq i):PE X (.Subscript o i pos) (KY td ty):=by
 intro pins s σ H Q I h;refine DH PySem.F.slot_dict_getitem.lookup hs (bF (ho pins s σ H _ I h) fun u s1 ⟨x,H1,I1,rx,q1⟩=>bF (hi pins s1 σ H1 _ I1 q1) fun iv s2 ⟨y,H2,I2,ry,a,v,ex,g,q2⟩=>?_);subst ex;obtain rfl:u=Value.ref a:=rx;exact⟨uw I2 g,yI hu I2 g ry fun w' s3 I3 DB=>⟨v,H2,I3,DB,q2⟩⟩
theorem yK (hu:X.A.units+1 < cLine)(hi:PE X i ty)(ho:PE X o td):PC X .NotIn i o (xn ty td):=by
 intro pins s σ H Q I h;refine bF (hi pins s σ H _ I h) fun iv s1 ⟨y,H1,I1,ry,q1⟩=>bF (ho pins s1 σ H1 _ I1 q1) fun u s2 ⟨x,H2,I2,rx,a,ov,ex,g,q2⟩=>?_
 subst ex;obtain rfl:u=Value.ref a:=rx;exact DG hu I2 g ry fun s3 I3=>⟨.bl (!ov.isSome),H2,I3,rfl,q2⟩
theorem xp (hu:X.A.units+1 < cLine)(ho:PE X o td)(hi:PE X i ty)(hv:PE X value tv)(hs:swapsWith value (some (.Subscript o i pos')) pos.line X.env=pure false):PS X (.Assign [.Subscript o i pos'] value pos) (KZ td ty tv):=by
 intro pins s σ H D I h;refine wpAny_Assign_Subscript (bF (hv pins s σ H _ I h) fun r s1 ⟨v,H1,I1,rv,q1⟩=>bF (ho pins s1 σ H1 _ I1 q1) fun u s2 ⟨x,H2,I2,rx,q2⟩=>bF (hi pins s2 σ H2 _ I2 q2) fun iv s3 ⟨y,H3,I3,ry,a,H4,ex,g,q3⟩=>?_) hs;subst ex;obtain rfl:u=Value.ref a:=rx;exact yJ hu I3 g ry rv fun s4 I4=>⟨σ,H4,I4,q3⟩
end
theorem ux {P:Program}{w:World}{H:Hp}(h:Heap)(hb:sysModules < h.objs.size):aD P w H (h.push { cls:=.type "dict",data:=.dict #[]}) h.objs.size (.dK []):=
 ⟨Wr _,beq_eq_false_iff_ne.mpr (Ne.symm (V9 hb)),[],.nil,Heap.DictOf.new h⟩
def Hr:TE:=fun _ H Q=>∀ p,H p=none->Q (.ref p) (upd H p (.dK []))
section
variable {X:Cx}{pos:Pos}
theorem uy:PE X (.Dict [] [] pos) Hr:=fun pins s σ H Q I h=>
 wpAny_Dict_empty ⟨.ref s.heap.objs.size,_,I.laid (a:=s.heap.objs.size) (o:=.dK []) (t':=s.toks) (fun _ _ q=>Te _ q) (O0 _) (ux s.heap I.big),rfl,h _ (I.aK.fresh (O0 _))⟩
end
structure M1 (X:Cx)(o:Expr)(m:Str)(apos:Pos)(e:Expr)(a7:Pos):Prop where
 base:attributeBase o m X.env (eval o X.env)=eval o X.env
 Sr:((backTo a7 (starEach [e] X.env)).all (fun x=>!x.1) && (backToKw a7 (keywordEach [] X.env)).all (fun x=>x.1.isSome)
   && decide (([e]:List Expr).length+([]:List Keyword).length+(if ([]:List Keyword).isEmpty then 0 else 1) < 30))=true
 line:(apos.endLine == a7.line)=true
 trees:backTo a7 (starEach [e] X.env)=[(false,eval e X.env)]
structure M2 (X:Cx)(o:Expr)(m:Str)(apos:Pos)(e f:Expr)(a7:Pos):Prop where
 base:attributeBase o m X.env (eval o X.env)=eval o X.env
 Sr:((backTo a7 (starEach [e,f] X.env)).all (fun x=>!x.1) && (backToKw a7 (keywordEach [] X.env)).all (fun x=>x.1.isSome)
   && decide (([e,f]:List Expr).length+([]:List Keyword).length+(if ([]:List Keyword).isEmpty then 0 else 1) < 30))=true
 line:(apos.endLine == a7.line)=true
 trees:backTo a7 (starEach [e,f] X.env)=[(false,eval e X.env),(false,eval f X.env)]
end L2
namespace Att
open PySem PySem.W PySem.Calls PyProof.Rows
theorem nJ {P:Params}{h:Heap}:∀ (ns:List Int) (vs:List Value),WellAll P h vs (ns.map WData.int)->IntsAre vs ns:=by
 intro ns
 induction ns with
 | nil=>
   intro vs w;rw[List.map_nil] at w;cases w;exact .nil
 | cons n ns ih=>
   intro vs w;rw[V7] at w;cases w with
   | cons a b=>
     cases a;exact .cons _ _ (ih _ b)
theorem yL {l:OpenLaw}{n:Nat}(hn:l.most=some n){P:Params}{h:Heap}{args:List WData}{vals:List Value}(DI:l.row.toRowW.claim.pre args=true)(J0:WellAll P h vals args):∃ a vs ns,vals=[Value.ref a]/\args=[WData.list (ns.map WData.int)]/\h.get? a=some { cls:=.type "list",data:=.seq vs.toArray}/\IntsAre vs ns/\ns.length<=n:=by
 have Ss:WShape.hasAll [] args [.list .int]=true:=(pre_splitW DI).1;have hc:l.pre.holds [] { args:=args}=true:=(pre_splitW DI).2;obtain⟨d,r,rfl,h1,h2⟩:=hasAllW_cons Ss;obtain rfl:=hasAllW_nil h2;obtain⟨xs,rfl,h3⟩:=hasW_list h1;obtain⟨ns,rfl⟩:=items_int h3;have hlen:ns.length<=n:=by
   unfold OpenLaw.pre at hc;have h4:(WTm.not (.lt (.lit (.int (n:Int))) (.len (.arg 0)))).holds [] { args:=[.list (ns.map .int)]}=true:=by
     have h4:=(holds_andW hc).1;rw[hn] at h4;exact h4
   have h5:=condW_of h4 (w_not (w_lt w_lit (w_len_list (w_arg rfl))));rw[ou] at h5;refine Xo fun q=>?_
   have q':(n:Int) < ((ns.length:Nat):Int):=by omega
   first
     | (rw[decide_eq_true q'] at h5;exact absurd h5 (by decide))
     | (simp at h5;omega)
 cases J0 with
 | cons w1 w2=>
   cases w2;cases w1 with
   | list ho Ox=>exact⟨_,_,ns,rfl,rfl,ho,nJ ns _ Ox,hlen⟩
theorem yM (l:OpenLaw)(args:List WData):l.row.toRowW.claim.post args (.bool true) args=true:=
 postW_of (r:=l.row.toRowW) (X:=(true == true))
   (show WShape.has [] (.bool true) .bool=true by first | rfl | decide | simp[WShape.has,WShape.arms,WShape.armsAll])
   (show(WTm.eq .res (.lit (.bool true))).value [] { args:=args,res:=some (.bool true),after:=args}=some (.bool (true == true)) from w_eq_bool (w_res rfl) w_lit) rfl
theorem uz {l:OpenLaw}{n:Nat}{q:Program}{loose:List Str}{XP:(Str->Option Value)->Heap->Prop}{YP:World->Heap->Prop}{d:DefRec}(hn:l.most=some n)(K0:d.params.defaults=[])(call:∀ (w:World) (s₀ s₁:Shared) (mg mb:Str->Option Value) (fa:Addr) (o:Obj) (pm cd doc:Value) (a:Addr) (vs:List Value) (ns:List Int),Ground q loose [] XP w s₀ mg mb s₁.heap->YP w s₁.heap->s₁.heap.get? fa=some o->o.data=.func (docDef d.name d.params d.body d.scope pm cd doc)->s₁.heap.CodeRec cd d.name->mg d.name=some (.ref fa)->s₁.heap.get? a=some { cls:=.type "list",data:=.seq vs.toArray}->IntsAre vs ns->ns.length<=n->s₁.gens=#[]->codeAny (model l.prog w) callerA (.call (.ref fa) ⟨[.ref a],[]⟩) (fun r s'=>r=.ok (.ret (.bool true))/\OldK s₁.heap s'.heap/\s'.os=s₁.os/\AllBare s'.gens) s₁):WalkO q loose XP YP l.row.toRowW d [] (fun f vs=>PySem.call f vs):=by
 intro w s₀ s₁ mg mb G Y fa o pm cd doc dV kV ho hd il hD K1 hg args vals as DI Sv FK J0 Sx;obtain rfl:dV=.none:=Dflts.none hD K0;obtain rfl:kV=.none:=Dflts.noKw hD;obtain⟨a,vs,ns,rfl,rfl,Hs,hints,hlen⟩:=yL hn DI J0;refine enter_call (codeAny_mono (call w s₀ s₁ mg mb fa o pm cd doc a vs ns G Y ho (fd_plain hd) il K1 Hs hints hlen hg) fun r s' hq=>?_);obtain⟨rfl,h2,h3,h4⟩:=hq;exact⟨.inl ⟨.bool true,.bool true,[],rfl,fun _=>rfl,.bool true,yM l _,fun _=>⟨List.Pairwise.nil,fun _ hm=>(nomatch hm)⟩⟩,h2,h3,h4⟩
end Att
namespace L2
open PySem PySem.Spec PyProof.Rows
theorem jY:∀ {vs:List Value} {ns:List Int},IntsAre vs ns->Vals (ns.map V.int) vs
 | _,_,.nil=>.nil
 | _,_,.cons n t h=>.cons ⟨t,rfl⟩ (jY h)
def DJ (H:Hp):Prop:=∀ b,H b=none\/∃ o xs,H b=some (.aY o (.lst xs))
theorem Ar {P:Program}{w:World}{K:W.Frag}{mg mb:Str->Option Value}{CX:kT}{k:Nat}{fa a:Addr}{fd:FuncData}{x:Str}{sp:Sp}{s₁:Shared}{vs:List Value}{ns:List Int}(KX:K.In s₁.heap)(zO:s₁.heap.Ns mainGlobals mg)(hb:s₁.heap.Ns builtinsNs mb)(Sy:∀ x:Str,x≠"__name__"->mb x=bootBuiltins x)(Oy:s₁.heap.NoLimit)(hg:s₁.gens=#[])(ha:s₁.heap.get? a=some { cls:=.type "list",data:=.seq vs.toArray})(hi:IntsAre vs ns)(hl:ns.length<=sizeLine)(hr:cA k callerA)(F:∀ base:Heap,K.In base->base.Ns mainGlobals mg->gu P w K mg base CX k fa fd [x] sp)(K2:∀ (s:Shared) (u:Value),BindsTo s fd ⟨[u],[]⟩ [(x,u)])(FG:∀ H:Hp,DJ H->jm K H a (ns.map V.int)->sp [.ref a] H (fun v _=>v=.bl true) fun _ _ _=>False)(K3:∀ H e s',CX [] H s₁ (fun _ _ _=>False) e s'->False):codeAny (model P w) callerA (.call (.ref fa) ⟨[.ref a],[]⟩) (fun r s'=>r=.ok (.ret (.bool true))/\OldK s₁.heap s'.heap/\s'.os=s₁.os/\AllBare s'.gens) s₁:=by
 have rv:=jY hi;have Oz:=hi.length;have core:∀ H:Hp,DJ H->jm K H a (ns.map V.int)->ll P w H s₁.heap->(∀ b,H b≠none->b=a)->(H a≠none->K.lookup a=none) ->
     codeAny (model P w) callerA (.call (.ref fa) ⟨[.ref a],[]⟩) (fun r s'=>r=.ok (.ret (.bool true))/\OldK s₁.heap s'.heap/\s'.os=s₁.os/\AllBare s'.gens) s₁:=by
   intro H hO hS aK hA hK;have xq:∀ {b:Addr} {o:Obj},s₁.heap.get? b=some o->H b=none->(rF s₁.heap H).get? b=some o:=fun e n=>zV e n
   have KL:∀ {b:Addr} {o:Obj} {es:Array DictEntry} {ep:Nat},s₁.heap.get? b=some o->o.data=.dict es ep->H b=none:=fun {b o es ep} e d=>by
     cases q:H b with
     | none=>rfl
     | some u=>
       have e':b=a:=hA b (by rw[q];simp);subst e';rw[ha] at e;cases e;have d':Data.seq vs.toArray _=Data.dict es ep:=d;cases d'
   have Na:∀ {b:Addr} {m:Str->Option Value},s₁.heap.Ns b m->(rF s₁.heap H).Ns b m:=fun {b m} ⟨o,es,ep,e,d,r⟩=>⟨o,es,ep,xq e (KL e d),d,r⟩
   have QG:K.In (rF s₁.heap H):=fun b o e=>xq (KX b o e) (by
     cases q:H b with
     | none=>rfl
     | some u=>
       have e':b=a:=hA b (by rw[q];simp);subst e';rw[hK (by rw[q];simp)] at e;cases e)
   have hM:Mod K mg (rF s₁.heap H):=⟨QG,Na zO,⟨mb,Na hb,Sy⟩,let ⟨mc,h1,h2⟩:=Oy;⟨mc,Na h1,h2⟩⟩
   have e0:uk P w K mg (rF s₁.heap H) callerA [] s₁ H:=⟨rfl,hM,fun b o e=>Dh e,Nat.le_of_eq (yw _ _),trivial,fun b hb=>absurd (show b∈([]:List Addr) from hb) (by simp),aK,.of_eq hg⟩
   refine codeAny_mono ((F _ QG (Na zO)).run callerA [] s₁ H ⟨[.ref a],[]⟩ [.ref a] [.ref a] _ _ hr e0 (K2 s₁ (.ref a)) (.cons rfl .nil) (FG H hO hS)) fun r s' h=>?_
   cases r with
   | error e=>exact(K3 H e s' h).elim
   | ok fl=>
     cases fl with
     | next=>exact False.elim h
     | brk=>exact False.elim h
     | cont=>exact False.elim h
     | ret u=>
       obtain⟨v,H',os,bare,un,OA,r',q⟩:=h;have q':v=.bl true:=q;subst q';obtain rfl:u=Value.bool true:=r';refine⟨rfl,OldK.of_keep fun b o e=>?_,os,bare⟩;cases q:H b with
       | none=>exact un.keep b o e q (by intro z;exact absurd (show b∈([]:List Addr) from z) (by simp)) (by simp)
       | some u=>
         rcases hO b with z | ⟨ob,xs,z⟩
         . rw[q] at z;cases z
         . have z2:=un.rE b ob _ z
           obtain⟨e1,_⟩:=aK b _ z;obtain⟨e2,_⟩:=OA b _ z2;rw[e] at e1;cases e1;exact e2
 cases hk:K.lookup a with
 | some o=>
   have e:=KX a o hk;rw[ha] at e;cases e;refine core (fun _=>none) (fun _=>.inl rfl) (.inr ⟨_,vs.toArray,_,hk,rfl,rfl,rfl,by rw[V6,Oz];exact hl,by simpa using rv⟩) (fun b u z=>by have z':(none:Option HO)=some u:=z;cases z') (fun b z=>absurd rfl z) fun z=>absurd rfl z
 | none=>
   refine core (fun b=>if b=a then some (.aY { cls:=.type "list",data:=.seq vs.toArray} (.lst (ns.map V.int))) else none) (fun b=>?_) (.inl (.inr (.inl ⟨{ cls:=.type "list",data:=.seq vs.toArray},if_pos rfl⟩))) (fun b u z=>?_) (fun b z=>?_) fun _=>hk
   . by_cases hb:b=a
     . exact .inr ⟨_,_,if_pos hb⟩
     . exact .inl (if_neg hb)
   . by_cases hb:b=a
     . have z':=(if_pos hb).symm.trans z
       cases z';subst hb;exact⟨ha,by rw[ou];exact hl,vs,_,rv,ha⟩
     . have z':=(if_neg hb).symm.trans z
       cases z'
   . by_cases hb:b=a
     . exact hb
     . exact absurd (if_neg hb) z
noncomputable abbrev QH {K:W.Frag}{h:Heap}(_:K.In h):W.Frag:=K
theorem DK {l:W.OpenLaw}{n k:Nat}{q:Program}{loose:List Str}{XP:(Str->Option Value)->Heap->Prop}{YP:World->Heap->Prop}{d:DefRec}{K:Params->W.Frag}{CX:World->kT}{sp:World->Sp}{x:Str}(hn:l.most=some n)(JX:n<=sizeLine)(K0:d.params.defaults=[])(hr:cA k callerA)(hY:∀ (w:World) (h:Heap),YP w h->(K w.params).In h)(F:∀ (w:World) (mg:Str->Option Value) (fa:Addr) (h:Heap),(K w.params).In h->h.Ns mainGlobals mg->mg d.name=some (.ref fa)->∃ fd:FuncData,(∀ (s:Shared) (u:Value),BindsTo s fd ⟨[u],[]⟩ [(x,u)])/\∀ base:Heap,(K w.params).In base->base.Ns mainGlobals mg->gu l.prog w (K w.params) mg base (CX w) k fa fd [x] (sp w))(FG:∀ (w:World) (H:Hp) (a:Addr) (ns:List Int),ns.length<=n->DJ H->jm (K w.params) H a (ns.map V.int)->sp w [.ref a] H (fun v _=>v=.bl true) fun _ _ _=>False)(K3:∀ (w:World) (H:Hp) (s:Shared) (e:Value) (s':Shared),CX w [] H s (fun _ _ _=>False) e s'->False):W.WalkO q loose XP YP l.row.toRowW d [] (fun f vs=>PySem.call f vs):=by
 refine Att.uz hn K0 fun w s₀ s₁ mg mb fa o pm cd doc a vs ns G Y ho hd il K1 Hs hints hlen hg=>?_
 have KX:=hY w _ Y;obtain⟨fd,hb,hF⟩:=F w mg fa _ KX G.T.g K1;exact Ar KX G.T.g G.T.b G.T.builtins G.T.nolimit hg Hs hints (We hlen JX) hr hF hb (fun H hO hS=>FG w H a ns hlen hO hS) fun H e s'=>K3 w H s₁ e s'
theorem As {l:W.OpenLaw}{n k:Nat}{q:Program}{loose:List Str}{XP:(Str->Option Value)->Heap->Prop}{YP:World->Heap->Prop}{d:DefRec}{K:Params->W.Frag}{CX:kT}{sp:W.Frag->Sp}{x:Str}(hn:l.most=some n)(JX:n<=sizeLine)(K0:d.params.defaults=[])(hr:cA k callerA)(hY:∀ (w:World) (h:Heap),YP w h->(K w.params).In h)(F:∀ (w:World) (mg:Str->Option Value) (fa:Addr) (h:Heap),(K w.params).In h->h.Ns mainGlobals mg->mg d.name=some (.ref fa)->∃ fd:FuncData,(∀ (s:Shared) (u:Value),BindsTo s fd ⟨[u],[]⟩ [(x,u)])/\∀ base:Heap,(K w.params).In base->base.Ns mainGlobals mg->gu l.prog w (K w.params) mg base CX k fa fd [x] (sp (K w.params)))(FG:∀ (K:W.Frag) (H:Hp) (a:Addr) (ns:List Int),ns.length<=n->DJ H->jm K H a (ns.map V.int)->sp K [.ref a] H (fun v _=>v=.bl true) fun _ _ _=>False)(K3:∀ (H:Hp) (s:Shared) (e:Value) (s':Shared),CX [] H s (fun _ _ _=>False) e s'->False):W.WalkO q loose XP YP l.row.toRowW d [] (fun f vs=>PySem.call f vs):=
 DK (K:=K) (CX:=fun _=>CX) (sp:=fun w=>sp (K w.params)) hn JX K0 hr hY F (fun w H a ns h1 h2 h3=>FG (K w.params) H a ns h1 h2 h3) fun _ H s e s'=>K3 H s e s'
noncomputable def inClass (s:Stmt)(j:Nat):Stmt:=match s with
 | .ClassDef _ _ _ body _ _ _ _ _ _ _=>body.getD j (.Pass ⟨0,0,0,0⟩)
 | _=>.Pass ⟨0,0,0,0⟩
noncomputable def cy (s:Stmt):Arguments:=match s with
 | .FunctionDef _ a _ _ _ _ _ _ _ _=>a
 | _=>{ posonlyargs:=[],args:=[],vararg:=none,kwonlyargs:=[],kw_defaults:=[],kwarg:=none,defaults:=[]}
noncomputable def ax (s:Stmt):List Stmt:=match s with
 | .FunctionDef _ _ b _ _ _ _ _ _ _=>b
 | _=>[]
noncomputable def af (s:Stmt):Scope:=match s with
 | .FunctionDef _ _ _ _ _ _ sc _ _ _=>sc
 | _=>{ kind:=.function,names:=[],isGenerator:=false,isCoroutine:=false}
abbrev QI:kT:=fun _ _ _ _ _ _=>False
abbrev E0:XK:=fun _ _ _=>False
structure Ht (K:W.Frag)(x qual:Str)(st:Stmt)(f:Addr)(fd:FuncData):Prop where
 ex:∃ (oc:Value) (od:Option Addr) (kV doc pm:Value) (an:Option Addr) (a6 ct:Value) (oU:Array (Option Value)),
   fd=W.fnOf x qual (cy st) (ax st) (af st) .none kV doc pm an a6 ct/\K.lookup f=some ⟨oc,od,.func fd,oU⟩/\W.codeIn K a6 qual=true
 kp:W.keepIn K (.ref f)=true
section
variable {K:W.Frag}
theorem Ht.binds {x qual:Str}{st:Stmt}{f:Addr}{fd:FuncData}{ps:List Str}(F:Ht K x qual st f fd)(h:∀ (kV doc pm:Value) (an:Option Addr) (a6 ct:Value) (us:List Value),us.length=ps.length->bindArgs (W.fnOf x qual (cy st) (ax st) (af st) .none kV doc pm an a6 ct) ⟨us,[]⟩=pure (ps.zip us)):Binds K fd ps []:=by
 obtain⟨oc,od,kV,doc,pm,an,a6,ct,oU,rfl,lk,il⟩:=F.ex;exact .all (h kV doc pm an a6 ct)
theorem oX {x qual:Str}{st:Stmt}{f:Addr}{oc:Value}{od an:Option Addr}{oU:Array (Option Value)}{kV doc pm a6 ct:Value}(l:K.lookup f=some ⟨oc,od,.func (W.fnOf x qual (cy st) (ax st) (af st) .none kV doc pm an a6 ct),oU⟩)(c:W.codeIn K a6 qual=true)(k:W.keepIn K (.ref f)=true):Ht K x qual st f (W.fnOf x qual (cy st) (ax st) (af st) .none kV doc pm an a6 ct):=⟨⟨oc,od,kV,doc,pm,an,a6,ct,oU,rfl,l,c⟩,k⟩
end
theorem yN {n:Nat}(h:n<=1000):n < sizeLine:=WC h (by decide)
theorem vV {A B:Prop}(h:B):if false=true then A else B:=by
 rw[if_neg V8];exact h
theorem vW {A B:Prop}(h:A):if true=true then A else B:=by
 rw[if_pos rfl];exact h
def ay (H H':Hp):Prop:=∀ b o,H b=some o->H' b=some o
theorem ay.refl (H:Hp):ay H H:=fun _ _ h=>h
theorem ay.trans {H H1 H2:Hp}(a:ay H H1)(b:ay H1 H2):ay H H2:=fun c o h=>b c o (a c o h)
theorem ay.free {H H':Hp}(e:ay H H'){l:Addr}(h:H' l=Option.none):H l=Option.none:=by
 cases q:H l with
 | none=>rfl
 | some o=>
   rw[e l o q] at h;cases h
theorem ay.seq {K:W.Frag}{H H':Hp}{a:Addr}{xs:List V}(e:ay H H')(h:jm K H a xs):jm K H' a xs:=by
 rcases h with(h | ⟨o,h⟩ | ⟨_,_,_,_,h⟩ | ⟨o,h⟩) | h
 . exact .inl (.inl (e _ _ h))
 . exact .inl (.inr (.inl ⟨o,e _ _ h⟩))
 . cases h
 . exact .inl (.inr (.inr (.inr ⟨o,e _ _ h⟩)))
 . exact .inr h
end L2
set_option maxHeartbeats 4000000
namespace Sg
open PySem PySem.Spec PyProof.Rows L2 PySem.Builtin PySem.Builtin.Getset_descriptor
def vX (h:Heap)(x D:Addr):Prop:=∃ ox,h.get? x=some ox/\ox.cls=.ref D
theorem vX.ty {M:Model}{h:Heap}{x D:Addr}(I:vX h x D):W.Looks M h (typeOf (.ref x)) (.ref D):=by
 obtain⟨ox,h1,h2⟩:=I;rw[<- h2];exact(W.Looks.ld h1).andThen .now
theorem Hu {prog:Program}{w:World}{A:Around}{E:Value->Shared->Prop}{K:W.Frag}{s:Shared}{x D:Addr}{name:Str}{tk:Tok}{fill expr:Bool}{Q:Value->Shared->Prop}{r:Builtin.ObjectAttr.Found}(X:K.In s.heap)(I:vX s.heap x D)
   (Sz:W.findIn K (.ref D) "__getattribute__"=some (some (.builtin "BaseException.__getattribute__"))) (SA:W.findIn K (.ref D) "__getattr__"=some none) (qH:W.mroIn K D (.type "BaseException")=some true)
   (hf:W.Looks (model prog w) s.heap (Builtin.ObjectAttr.find (.ref x) (.ref D) name) r)
   (h:match r with
     | .bind g a=>wpAny (model prog w) A.in1 (call g [a,.ref x,.ref D]) (fun v s'=>wpAny (model prog w) A (handedOut v) Q E s') (fun _ _=>False) s
     | .value v=>wpAny (model prog w) A (handedOut v) Q E s
     | .missing=>False) :
   wpAny (model prog w) A (getAttrBy (.ref x) (.str name tk) fill expr) Q E s:=by
 obtain⟨hh,gg,d,t,os⟩:=s;have L0:=I.ty (M:=model prog w);have L1:=W.looks_findIn (M:=model prog w) X Sz;have SD:=W.looks_findIn (M:=model prog w) X SA;have L4:=W.looks_mroIn (M:=model prog w) X qH;have f3:=PySem.F.excAttr_ValueError.ga.bind (.ref x);unfold getAttrBy;refine wpAny_holding (wpAny_bind (L0.at (wpAny_bind (L1.at ?_))));have OB:(Value.builtin "BaseException.__getattribute__" == Value.builtin "object.__getattribute__")=false:=by
   decide +kernel
 simp only[OB,Bool.and_false,WH,if_false];unfold getAttrByItsOwn hookBefore;refine wpAny_bind (SD.at ?_);refine wpAny_bind (wpAny_attempt (wpAny_holding ?_));unfold callGetattribute boundAndCalled;have SE:(expr && onTheHeap (Value.builtin "BaseException.__getattribute__"))=false:=by
   cases expr <;> rfl
 rw[SE,f3];simp only[WH,if_false];refine wpAny_bind (wpAny_pure ?_);have SF:W.Looks (model prog w) hh (isInstance (.ref x) (.type "BaseException")) true:=L0.andThen L4;refine wpAny_call (codeAny_call_builtin PySem.F.excAttr_ValueError.ga.plain PySem.F.entry_bexc_ga (@W.check_slot (model prog w) _ _ _ "BaseException.__getattribute__" "BaseException" "__getattribute__" (.ref x) [.str name tk] [] _ (by decide +kernel) (by decide +kernel) SF (PySem.F.args_bexc_ga _ _) ?_));unfold Builtin.«object.__getattribute__»;refine wpAny_bind (wpAny_pure ?_);show wpAny (model prog w) A.in1 (Builtin.ObjectAttr.attrName (.str name tk) >>= _) _ _ _;unfold Builtin.ObjectAttr.attrName;refine wpAny_bind (wpAny_pure (wpAny_bind (L0.at (wpAny_bind (hf.at ?_)))));cases r with
 | bind g a=>
   show wpAny (model prog w) A.in1 (Builtin.ObjectAttr.bindTo g a (.ref x) (.ref D)) _ _ _;unfold Builtin.ObjectAttr.bindTo;show wpAny (model prog w) A.in1 (holding [a] (call g [a,.ref x,.ref D]) >>= ret) _ _ _;exact wpAny_bind (wpAny_holding (wpAny_mono h (fun v s' z=>wpAny_pure z) fun _ _ z=>z.elim))
 | value v=>
   show wpAny (model prog w) A.in1 (ret v) _ _ _;exact wpAny_pure h
 | missing=>exact h.elim
theorem DL {prog:Program}{w:World}{A:Around}{K:W.Frag}{s:Shared}{x D:Addr}{tp:Value}{R:Result->Shared->Prop}(X:K.In s.heap)(I:vX s.heap x D)(hm:W.mroIn K D (.type "object")=some true)(hR:R (.ok (.ret (.ref D))) s):codeAny (model prog w) A (.call (.builtin "getset_descriptor.__get__") ⟨[.builtin "object.__class__",.ref x,tp],[]⟩) R s:=by
 obtain⟨hh,g,dr,t,os⟩:=s;have L0:=I.ty (M:=model prog w);have L1:=W.looks_mroIn (M:=model prog w) X hm;have pl:=W.KF.slot_gs.plain;have ent:=W.KF.entry_gs;refine codeAny_call_builtin pl ent (W.KF.slot_gs.check _ _ _ _ _ _ _ _ W.KF.type_class (W.KF.args_gs _ _ _) ?_);unfold Builtin.«getset_descriptor.__get__» descrGet;rw[W.dga_obj];refine wpAny_bind (wpAny_pure ?_);unfold descrGetter descrCheckInstance descrNameAndClass isInstance;simp only[W.KF.owner_class]
 repeat lk
 refine⟨Code.quiet_builtin _ (by decide +kernel),codeAny_builtin W.KF.entry_class ?_⟩;unfold Builtin.«object.__class__» shownTypeOf
 repeat lk
 exact hR
structure J1 (K:W.Frag)(C:Addr):Prop where
 hc:(W.clsIn K C).isSome=true
 ga:W.findIn K (.ref C) "__getattribute__"=some (some (.builtin "BaseException.__getattribute__"))
 gt:W.findIn K (.ref C) "__getattr__"=some none
 be:W.mroIn K C (.type "BaseException")=some true
 ha:W.findIn K (.ref C) "__class__"=some (some (.builtin "object.__class__"))
 hn:W.specialIn K (.builtin "object.__class__") "__get__"=some (some (.builtin "getset_descriptor.__get__"))
 Hd:W.takesIn K (.builtin "object.__class__")=some true
 hm:W.mroIn K C (.type "object")=some true
theorem Au {M:Model}{K:W.Frag}{h:Heap}{x C:Addr}(X:K.In h)(T:J1 K C):W.Looks M h (Builtin.ObjectAttr.find (.ref x) (.ref C) "__class__") (.bind (.builtin "getset_descriptor.__get__") (.builtin "object.__class__")):=by
 refine(W.looks_findIn X T.ha).andThen ?_;refine(W.looks_specialIn X T.hn:W.Looks M h (Builtin.ObjectAttr.getOf (some (.builtin "object.__class__"))) _).andThen ?_;refine((W.looks_takesIn X T.Hd).andThen .now:W.Looks M h (Builtin.ObjectAttr.dataDescriptor? (some (.builtin "object.__class__")) (some (.builtin "getset_descriptor.__get__"))) (some (.builtin "getset_descriptor.__get__",.builtin "object.__class__"))).andThen ?_;exact W.Looks.tag .now
theorem uA {K:W.Frag}{x D:Addr}(T:J1 K D):W.KitX K (.ref x) (.ref D) (fun h=>vX h x D) where
 ty:=fun _ _ _ I=>I.ty
 it:=fun M h X _=>by
   obtain⟨SG,Dx⟩:=Xf.mp T.hc;unfold W.clsIn at Dx
   split at Dx
   . rename_i u1 u2 u3 u4 OC
     intro A' Q' E' s' k q;unfold isType loadHead;exact wpAny_bind (wpAny_loadPart (k _ _ (X _ _ OC)) (wpAny_pure q))
   . cases Dx
 ne:=fun h tp dd aE n sl X SH=>by
   obtain⟨SG,Dx⟩:=Xf.mp T.hc;refine Bool.eq_false_iff.mpr fun q=>?_
   have e:D=tp:=Value.ref.inj (beq_iff_eq.mp q);subst e;unfold W.clsIn at Dx
   split at Dx
   . rename_i u1 u2 u3 u4 OC
     have z:=(X _ _ OC).symm.trans SH;cases z
   . cases Dx
 ca:=fun {prog w A E Q s} X I k=>by
   unfold getAttr? getAttrBy?;refine wpAny_bind (wpAny_mkText (wpAny_bind (wpAny_attempt ?_)));refine Hu (s:={ s with toks:=s.toks+1}) X I T.ga T.gt T.be (Au X T) ?_;refine wpAny_call (DL (s:={ s with toks:=s.toks+1}) X I T.hm ?_);exact W.handed_on rfl (wpAny_pure k)
end Sg
namespace Sg
open PySem PySem.Spec PyProof.Rows L2
noncomputable abbrev St:=L2.St
def Av (h:Heap)(x C dx:Addr):Prop:=∃ ox,h.get? x=some ox/\ox.cls=.ref C/\ox.dict=some dx/\∃ vs,ox.data=.fields vs
theorem Av.of {h:Heap}{x C dx:Addr}(I:Av h x C dx):vX h x C:=let ⟨ox,h1,h2,_⟩:=I;⟨ox,h1,h2⟩
inductive Dt where
 | b0
 | bl (b:Bool)
 | int (i:Int)
 | str (x:Str)
 | tup (ds:List Dt)
 | lst (ds:List Dt)
 | jq (ns:List Int)
 | b6 (kvs:List (Key×Dt))
 | obj (C:Addr) (fs:List (Str×Dt))
 | ty (n:String)
 | cls (C:Addr)
 | xo (C:Addr)
 | eV (kvs:List (Key×Dt))
 | vD (C:Addr) (fs:List (Str×Dt))
 | cK (kvs:List (Key×Dt))
 | memo (a:Addr) (ls:iB) (j n:Nat)
 | cM (a:Addr) (ls:iB) (j n:Nat)
 | qu (a:Addr) (ls:iB) (n:Nat)
 | ql (C:Addr) (fs:List (Str×Dt)) (gs:List (Nat->List (Key×FD))) (nm:List Str) (n:Nat)
 | ml (fd:FD)
 | ir (FN:List (List Key×Int))
noncomputable def vY (fs:List (Str×Dt))(nm:List Str)(a:Addr)(ls:iB)(n:Nat):List (Str×Dt):=fs ++ (Wi nm.length).map fun j=>(nm.getD j "",.memo a ls j n)
def Known (H:Hp)(p:Addr)(f:Nat->List (Key×FD))(n:Nat):Prop:=∀ i,i < n->∃ q o kvs,H q=some (.kd (some (p,i)) o kvs)/\oQ H kvs (f i)
def br (H:Hp)(a:Addr)(ls:iB):Prop:=H a=some (.memo ls)\/∃ ns,H a=some (.bD ls ns)
theorem Known.mono {H H':Hp}{p:Addr}{f:Nat->List (Key×FD)}{n:Nat}(e:∀ b u,H b=some u->H' b=some u)(h:Known H p f n):Known H' p f n:=fun i hi=>let ⟨q,o,kvs,h1,h2⟩:=h i hi;⟨q,o,kvs,e _ _ h1,h2.kp (.of e)⟩
theorem br.mono {H H':Hp}{a:Addr}{ls:iB}(e:∀ b u,H b=some u->H' b=some u)(h:br H a ls):br H' a ls:=h.imp (e _ _) fun⟨ns,z⟩=>⟨ns,e _ _ z⟩
mutual
inductive Rep (K:W.Frag)(H:Hp):V->Dt->Prop
 | b0:Rep K H .b0 .b0
 | bl (b:Bool):Rep K H (.bl b) (.bl b)
 | int (i:Int):Rep K H (.int i) (.int i)
 | str (x:Str):Rep K H (.str x) (.str x)
 | tup {a:Addr} {vs:List V} {ds:List Dt}:vC K H a vs->bu K H vs ds->Rep K H (.ref a) (.tup ds)
 | lst {a:Addr} {vs:List V} {ds:List Dt}:H a=some (.lst vs)->bu K H vs ds->Rep K H (.ref a) (.lst ds)
 | jq {a:Addr} {ns:List Int}:jm K H a (ns.map V.int)->Rep K H (.ref a) (.jq ns)
 | b6 {a:Addr} {kvs:List (Key×V)} {kds:List (Key×Dt)}:H a=some (.dK kvs)->bH K H kvs kds->Rep K H (.ref a) (.b6 kds)
 | obj {a C dx:Addr} {fs:List (Str×V)} {ds:List (Str×Dt)}:Rd H a (.ins C dx fs)->aU K H fs ds->Rep K H (.ref a) (.obj C ds)
 | ty (n:String):Rep K H (.ty n) (.ty n)
 | cls (C:Addr):Rep K H (.ref C) (.cls C)
 | xo {a C:Addr} {ph:Heap->Prop}:H a=some (.ext ph)->(∀ h,ph h->vX h a C)->Rep K H (.ref a) (.xo C)
 | eV {a:Addr} {ob:Obj} {kvs:List (Key×V)} {kds:List (Key×Dt)}:H a=some (.aY ob (.dK kvs))->bH K H kvs kds->Rep K H (.ref a) (.eV kds)
 | vD {a C dx:Addr} {ph:Heap->Prop} {fs:List (Str×V)} {ds:List (Str×Dt)}:H a=some (.ext ph)->(∀ h,ph h->Av h a C dx)->H dx=some (.xd fs)->aU K H fs ds->Rep K H (.ref a) (.vD C ds)
 | cK {a:Addr} {tg:Option (Addr×Nat)} {ob:Obj} {kvs:List (Key×V)} {kds:List (Key×Dt)}:H a=some (.kd tg ob kvs)->bH K H kvs kds->Rep K H (.ref a) (.cK kds)
 | memo {a p:Addr} {ls:iB} {j n:Nat} {f:Nat->List (Key×FD)}:ls[j]?=some (p,f)->H a=some (.memo ls)->(p=a\/H p=some (.part a))->Known H p f n->Rep K H (.ref p) (.memo a ls j n)
 | cM {a p:Addr} {ls:iB} {j n:Nat} {f:Nat->List (Key×FD)}:ls[j]?=some (p,f)->br H a ls->(p=a\/H p=some (.part a))->Known H p f n->Rep K H (.ref p) (.cM a ls j n)
 | qu {a:Addr} {ls:iB} {n:Nat}:(∀ (j:Nat) (p:Addr) (f:Nat->List (Key×FD)),ls[j]?=some (p,f)->Known H p f n)->Rep K H .b0 (.qu a ls n)
 | ql {s a C dx:Addr} {fv:List (Str×V)} {fs:List (Str×Dt)} {gs:List (Nat->List (Key×FD))} {nm:List Str} {n:Nat} {ls:iB}:ls.map (·.2)=gs->Rd H s (.ins C dx fv)->aU K H fv (vY fs nm a ls n)->Rep K H (.ref s) (.ql C fs gs nm n)
 | ml {v:V} {fd:FD}:Fz H v fd->Rep K H v (.ml fd)
 | ir {a:Addr} {FN:List (List Key×Int)}:H a=some (.dT (FN.map fun k=>(k.1,V.int k.2)))->Rep K H (.ref a) (.ir FN)
inductive bu (K:W.Frag)(H:Hp):List V->List Dt->Prop
 | nil:bu K H [] []
 | cons {v:V} {d:Dt} {vs:List V} {ds:List Dt}:Rep K H v d->bu K H vs ds->bu K H (v::vs) (d::ds)
inductive bH (K:W.Frag)(H:Hp):List (Key×V)->List (Key×Dt)->Prop
 | nil:bH K H [] []
 | cons {k:Key} {v:V} {d:Dt} {vs:List (Key×V)} {ds:List (Key×Dt)}:Rep K H v d->bH K H vs ds->bH K H ((k,v)::vs) ((k,d)::ds)
inductive aU (K:W.Frag)(H:Hp):List (Str×V)->List (Str×Dt)->Prop
 | nil:aU K H [] []
 | cons {k:Str} {v:V} {d:Dt} {vs:List (Str×V)} {ds:List (Str×Dt)}:Rep K H v d->aU K H vs ds->aU K H ((k,v)::vs) ((k,d)::ds)
end
theorem d8 {H H':Hp}{a:Addr}{u:HO}(e:ay H H')(h:Rd H a u):Rd H' a u:=by
 rcases h with h | ⟨o,h⟩ | ⟨tg,o,kvs,h,z⟩ | ⟨o,h⟩
 . exact .inl (e _ _ h)
 . exact .inr (.inl ⟨o,e _ _ h⟩)
 . exact .inr (.inr (.inl ⟨tg,o,kvs,e _ _ h,z⟩))
 . exact .inr (.inr (.inr ⟨o,e _ _ h⟩))
theorem dv {K:W.Frag}{H H':Hp}{a:Addr}{xs:List V}(e:ay H H')(h:vC K H a xs):vC K H' a xs:=by
 rcases h with h | h
 . exact .inl (e _ _ h)
 . exact .inr h
mutual
theorem Rep.mono {K:W.Frag}{H H':Hp}(e:ay H H'):∀ {v:V} {d:Dt},Rep K H v d->Rep K H' v d
 | _,_,.b0=>.b0
 | _,_,.bl b=>.bl b
 | _,_,.int i=>.int i
 | _,_,.str x=>.str x
 | _,_,.tup h r=>.tup (dv e h) (bu.mono e r)
 | _,_,.lst h r=>.lst (e _ _ h) (bu.mono e r)
 | _,_,.jq h=>.jq (e.seq h)
 | _,_,.b6 h r=>.b6 (e _ _ h) (bH.mono e r)
 | _,_,.obj h r=>.obj (d8 e h) (aU.mono e r)
 | _,_,.ty n=>.ty n
 | _,_,.cls C=>.cls C
 | _,_,.xo h r=>.xo (e _ _ h) r
 | _,_,.eV h r=>.eV (e _ _ h) (bH.mono e r)
 | _,_,.vD h q g r=>.vD (e _ _ h) q (e _ _ g) (aU.mono e r)
 | _,_,.cK h r=>.cK (e _ _ h) (bH.mono e r)
 | _,_,.memo h1 h2 h3 h4=>.memo h1 (e _ _ h2) (h3.imp id fun z=>e _ _ z) (h4.mono e)
 | _,_,.cM h1 h2 h3 h4=>.cM h1 (h2.mono e) (h3.imp id fun z=>e _ _ z) (h4.mono e)
 | _,_,.qu h=>.qu fun j p f z=>(h j p f z).mono e
 | _,_,.ql h1 h2 h3=>.ql h1 (d8 e h2) (aU.mono e h3)
 | _,_,.ml h=>.ml (h.st fun b u q _=>e b u q)
 | _,_,.ir h=>.ir (e _ _ h)
theorem bu.mono {K:W.Frag}{H H':Hp}(e:ay H H'):∀ {v:List V} {d:List Dt},bu K H v d->bu K H' v d
 | _,_,.nil=>.nil
 | _,_,.cons h r=>.cons (Rep.mono e h) (bu.mono e r)
theorem bH.mono {K:W.Frag}{H H':Hp}(e:ay H H'):∀ {v:List (Key×V)} {d:List (Key×Dt)},bH K H v d->bH K H' v d
 | _,_,.nil=>.nil
 | _,_,.cons h r=>.cons (Rep.mono e h) (bH.mono e r)
theorem aU.mono {K:W.Frag}{H H':Hp}(e:ay H H'):∀ {v:List (Str×V)} {d:List (Str×Dt)},aU K H v d->aU K H' v d
 | _,_,.nil=>.nil
 | _,_,.cons h r=>.cons (Rep.mono e h) (aU.mono e r)
end
theorem bu.length {K:W.Frag}{H:Hp}:∀ {v:List V} {d:List Dt},bu K H v d->v.length=d.length
 | _,_,.nil=>rfl
 | _,_,.cons _ r=>congrArg (·+1) (bu.length r)
theorem bu.get {K:W.Frag}{H:Hp}:∀ {v:List V} {d:List Dt} {i:Nat} {x:Dt},bu K H v d->d[i]?=some x->∃ y,v[i]?=some y/\Rep K H y x
 | _,_,_,_,.nil,e=>by simp at e
 | _,_,0,_,.cons h _,e=>by simp at e;subst e;exact⟨_,rfl,h⟩
 | _,_,i+1,x,.cons _ r,e=>by
   obtain⟨y,h1,h2⟩:=bu.get (i:=i) (x:=x) r (by simpa using e);exact⟨y,by simpa using h1,h2⟩
theorem bu.get' {K:W.Frag}{H:Hp}{v:List V}{d:List Dt}{i:Nat}{y:V}(r:bu K H v d)(e:v[i]?=some y):∃ x,d[i]?=some x/\Rep K H y x:=by
 have hi:i < v.length:=(Vx.mp e).1;have Hv:i < d.length:=by rw[<- r.length];exact hi
 obtain⟨z,h1,h2⟩:=r.get (Bn Hv);rw[e] at h1;cases h1;exact⟨_,Bn Hv,h2⟩
theorem bu.append {K:W.Frag}{H:Hp}:∀ {v:List V} {d:List Dt} {v':List V} {d':List Dt},bu K H v d->bu K H v' d'->bu K H (v ++ v') (d ++ d')
 | _,_,_,_,.nil,s=>s
 | _,_,_,_,.cons h r,s=>.cons h (bu.append r s)
theorem bu.take {K:W.Frag}{H:Hp}:∀ {v:List V} {d:List Dt} (n:Nat),bu K H v d->bu K H (v.take n) (d.take n)
 | _,_,0,_=>.nil
 | _,_,_+1,.nil=>.nil
 | _,_,n+1,.cons h r=>.cons h (bu.take n r)
theorem aU.lookup {K:W.Frag}{H:Hp}{f:Str}:∀ {v:List (Str×V)} {d:List (Str×Dt)} {x:Dt},aU K H v d->d.lookup f=some x->∃ y,v.lookup f=some y/\Rep K H y x
 | _,_,_,.nil,e=>by simp at e
 | (k,v)::r,(_,d)::s,x,.cons h t,e=>by
   rw[Wt] at e ⊢;cases q:(f == k) with
   | true=>rw[q] at e;cases e;exact⟨v,rfl,h⟩
   | false=>rw[q] at e;exact aU.lookup t e
theorem aU.none_of {K:W.Frag}{H:Hp}{f:Str}:∀ {v:List (Str×V)} {d:List (Str×Dt)},aU K H v d->d.lookup f=none->v.lookup f=none
 | _,_,.nil,_=>rfl
 | (k,v)::r,(_,d)::s,.cons h t,e=>by
   rw[Wt] at e ⊢;cases q:(f == k) with
   | true=>rw[q] at e;cases e
   | false=>rw[q] at e;exact aU.none_of t e
theorem aU.length {K:W.Frag}{H:Hp}:∀ {v:List (Str×V)} {d:List (Str×Dt)},aU K H v d->v.length=d.length
 | _,_,.nil=>rfl
 | _,_,.cons _ r=>congrArg (·+1) (aU.length r)
theorem bH.length {K:W.Frag}{H:Hp}:∀ {v:List (Key×V)} {d:List (Key×Dt)},bH K H v d->v.length=d.length
 | _,_,.nil=>rfl
 | _,_,.cons _ r=>congrArg (·+1) (bH.length r)
structure aN (Hf H aA H':Hp):Prop where
 big:ay H H'
 aY:ay Hf aA
 sub:ay aA H'
 new:∀ a o,aA a=some o->(∃ o,Hf a=some o)\/H a=Option.none\/Kept o
theorem aN.refl {Hf H:Hp}(s:ay Hf H):aN Hf H Hf H:=⟨ay.refl _,ay.refl _,s,fun a o h=>.inl ⟨o,h⟩⟩
theorem aN.trans {Hf H Hf1 H1 bw H2:Hp}(a:aN Hf H Hf1 H1)(b:aN Hf1 H1 bw H2):aN Hf H bw H2:=
 ⟨a.big.trans b.big,a.aY.trans b.aY,b.sub,fun x o h=>by
   rcases b.new x o h with⟨o',h'⟩ | h' | h'
   . have e:=b.aY _ _ h'
     rw[h] at e;cases e;exact a.new x o h'
   . exact .inr (.inl (a.big.free h'))
   . exact .inr (.inr h')⟩
theorem aN.rW {Hf H aA H':Hp}(g:aN Hf H aA H'){a:Addr}{u o:HO}(h:H a=some u)(nk:¬ Kept u)(q:aA a=some o):∃ o,Hf a=some o:=by
 rcases g.new a o q with z | z | z
 . exact z
 . rw[h] at z;cases z
 . have e:=g.big _ _ h
   rw[g.sub _ _ q] at e;cases e;exact absurd z nk
theorem bj {H:Hp}{p:Addr}{o:HO}(n:H p=Option.none):ay H (upd H p o):=fun b u e=>by
 rw[ag (ar e n)];exact e
theorem c8 {Hf H:Hp}{p:Addr}{o:HO}(s:ay Hf H):ay (upd Hf p o) (upd H p o):=fun b u e=>by
 by_cases hb:b=p
 . subst hb;rw[ah] at e ⊢;exact e
 . rw[ag hb] at e ⊢;exact s _ _ e
theorem qS {Hf H:Hp}{p:Addr}{o:HO}(s:ay Hf H)(n:Hf p=Option.none):ay Hf (upd H p o):=fun b u e=>by
 rw[ag (ar e n)];exact s _ _ e
theorem aN.alloc {Hf H:Hp}{p:Addr}{o:HO}(s:ay Hf H)(n:H p=Option.none):aN Hf H (upd Hf p o) (upd H p o):=
 ⟨bj n,bj (s.free n),c8 s,fun a u h=>by
   by_cases hb:a=p
   . subst hb;exact .inr (.inl n)
   . rw[ag hb] at h;exact .inl ⟨u,h⟩⟩
theorem aN.cB {Hf H:Hp}{p:Addr}{o:HO}(s:ay Hf H)(n:H p=Option.none):aN Hf H Hf (upd H p o):=
 ⟨bj n,ay.refl _,qS s (s.free n),fun a u h=>.inl ⟨u,h⟩⟩
inductive Own where
 | lst (ds:List Dt)
 | b6 (kds:List (Key×Dt))
 | obj (C:Addr) (fs:List (Str×Dt))
 | vZ (x:Addr) (C:Addr) (fs:List (Str×Dt))
 | nK (C:Addr) (fs:List (Str×Dt)) (gs:List (Nat->List (Key×FD))) (nm:List Str) (n:Nat)
 | uB (x:Addr) (C:Addr) (fs:List (Str×Dt)) (gs:List (Nat->List (Key×FD))) (nm:List Str) (n:Nat)
 | ir (FN:List (List Key×Int))
set_option genInjectivity true in
inductive Slot where
 | cz
 | val (d:Dt)
 | own (o:Own)
def dZ (K:W.Frag)(Hf H:Hp)(a:Addr):Own->Prop
 | .lst ds=>∃ vs,H a=some (.lst vs)/\bu K Hf vs ds
 | .b6 kds=>∃ kvs,H a=some (.dK kvs)/\bH K Hf kvs kds
 | .obj C ds=>∃ dx fs,H a=some (.ins C dx fs)/\aU K Hf fs ds
 | .vZ x C ds=>a=x/\∃ dx fs,H a=some (.ins C dx fs)/\aU K Hf fs ds
 | .nK C ds gs nm n=>∃ dx fs b ls,(ls:iB).map (·.2)=gs/\H a=some (.ins C dx fs)/\aU K Hf fs (vY ds nm b ls n)
 | .uB x C ds gs nm n=>a=x/\∃ dx fs b ls,(ls:iB).map (·.2)=gs/\H a=some (.ins C dx fs)/\aU K Hf fs (vY ds nm b ls n)
 | .ir FN=>H a=some (.dT (FN.map fun k=>(k.1,V.int k.2)))
theorem dZ.K4 {K:W.Frag}{Hf H:Hp}{a:Addr}:∀ {o:Own},dZ K Hf H a o->∃ u,H a=some u/\¬ Kept u
 | .lst _,⟨_,h,_⟩=>⟨_,h,fun z=>z⟩
 | .b6 _,⟨_,h,_⟩=>⟨_,h,fun z=>z⟩
 | .obj _ _,⟨_,_,h,_⟩=>⟨_,h,fun z=>z⟩
 | .vZ _ _ _,⟨_,_,_,h,_⟩=>⟨_,h,fun z=>z⟩
 | .nK _ _ _ _ _,⟨_,_,_,_,_,h,_⟩=>⟨_,h,fun z=>z⟩
 | .uB _ _ _ _ _ _,⟨_,_,_,_,_,_,h,_⟩=>⟨_,h,fun z=>z⟩
 | .ir _,h=>⟨_,h,fun z=>z⟩
theorem dZ.some {K:W.Frag}{Hf H:Hp}{a:Addr}:∀ {o:Own},dZ K Hf H a o->∃ u,H a=some u
 | .lst _,⟨_,h,_⟩=>⟨_,h⟩
 | .b6 _,⟨_,h,_⟩=>⟨_,h⟩
 | .obj _ _,⟨_,_,h,_⟩=>⟨_,h⟩
 | .vZ _ _ _,⟨_,_,_,h,_⟩=>⟨_,h⟩
 | .nK _ _ _ _ _,⟨_,_,_,_,_,h,_⟩=>⟨_,h⟩
 | .uB _ _ _ _ _ _,⟨_,_,_,_,_,_,h,_⟩=>⟨_,h⟩
 | .ir _,h=>⟨_,h⟩
theorem dZ.grow {K:W.Frag}{Hf H aA H':Hp}{a:Addr}(e:H' a=H a)(f:ay Hf aA):∀ {o:Own},dZ K Hf H a o->dZ K aA H' a o
 | .lst _,⟨vs,h,r⟩=>⟨vs,by rw[e];exact h,r.mono f⟩
 | .b6 _,⟨vs,h,r⟩=>⟨vs,by rw[e];exact h,r.mono f⟩
 | .obj _ _,⟨dx,fs,h,r⟩=>⟨dx,fs,by rw[e];exact h,r.mono f⟩
 | .vZ _ _ _,⟨q,dx,fs,h,r⟩=>⟨q,dx,fs,by rw[e];exact h,r.mono f⟩
 | .nK _ _ _ _ _,⟨dx,fs,b,ls,q,h,r⟩=>⟨dx,fs,b,ls,q,by rw[e];exact h,r.mono f⟩
 | .uB _ _ _ _ _ _,⟨q0,dx,fs,b,ls,q,h,r⟩=>⟨q0,dx,fs,b,ls,q,by rw[e];exact h,r.mono f⟩
 | .ir FN,h=>(show H' a=Option.some (HO.dT (FN.map fun k=>(k.1,V.int k.2))) from by rw[e];exact h)
structure Gr where
 Hf:Hp
 H:Hp
structure cL (K:W.Frag)(G:Gr)(st:L2.St)(Hf H:Hp)(dl:List Slot):Prop where
 gr:aN G.Hf G.H Hf H
 len:st.length=dl.length
 val:∀ (i:Nat) d,dl[i]?=some (.val d)->∃ v,st[i]?=some (some v)/\Rep K Hf v d
 own:∀ (i:Nat) o,dl[i]?=some (.own o)->∃ a,st[i]?=some (some (.ref a))/\Hf a=Option.none/\G.H a=Option.none/\dZ K Hf H a o
 C5:∀ (i j:Nat) o o' a,dl[i]?=some (.own o)->dl[j]?=some (.own o')->st[i]?=some (some (.ref a))->st[j]?=some (some (.ref a))->i=j
section
variable {K:W.Frag}{G:Gr}{st:L2.St}{Hf H aA H':Hp}{dl dl':List Slot}
theorem cL.sub (S:cL K G st Hf H dl):ay Hf H:=S.gr.sub
theorem cL.grow (S:cL K G st Hf H dl)(g:aN Hf H aA H'):cL K G st aA H' dl:=by
 refine⟨S.gr.trans g,S.len,fun i d h=>let ⟨v,h1,h2⟩:=S.val i d h;⟨v,h1,h2.mono g.aY⟩,fun i o h=>?_,S.C5⟩;obtain⟨a,h1,h2,h3,h4⟩:=S.own i o h;obtain⟨u,hu,nk⟩:=h4.K4;refine⟨a,h1,?_,h3,h4.grow (by rw[hu];exact g.big _ _ hu) g.aY⟩;cases q:aA a with
 | none=>rfl
 | some u'=>
   obtain⟨o',z⟩:=g.rW hu nk q;rw[h2] at z;cases z
theorem cL.set (S:cL K G st Hf H dl){i:Nat}{v:V}{d:Dt}(r:Rep K Hf v d):cL K G (st.set i (some v)) Hf H (dl.set i (.val d)):=by
 have ln:=S.len;refine⟨S.gr,by simp[S.len],fun j x h=>?_,fun j o h=>?_,fun j k o o' a h1 h2 h3 h4=>?_⟩
 . by_cases e:i=j
   . subst e
     by_cases hl:i < dl.length
     . rw[VH hl] at h;cases h
       exact⟨v,VH (by omega),r⟩
     . rw[Wm (by simp;omega)] at h;cases h
   . rw[VE e] at h ⊢;exact S.val j x h
 . by_cases e:i=j
   . subst e
     by_cases hl:i < dl.length
     . rw[VH hl] at h;cases h
     . rw[Wm (by simp;omega)] at h;cases h
   . rw[VE e] at h ⊢;exact S.own j o h
 . have nj:i≠j:=fun e=>by
     subst e;by_cases hl:i < dl.length
     . rw[VH hl] at h1;cases h1
     . rw[Wm (by simp;omega)] at h1;cases h1
   have nk:i≠k:=fun e=>by
     subst e;by_cases hl:i < dl.length
     . rw[VH hl] at h2;cases h2
     . rw[Wm (by simp;omega)] at h2;cases h2
   rw[VE nj] at h1 h3;rw[VE nk] at h2 h4;exact S.C5 j k o o' a h1 h2 h3 h4
theorem cL.Aw (S:cL K G st Hf H dl){i:Nat}{p:Addr}{o:HO}{w w':Own}(hi:dl[i]?=some (.own w))(hp:st[i]?=some (some (.ref p)))(r:dZ K Hf (upd H p o) p w'):cL K G st Hf (upd H p o) (dl.set i (.own w')):=by
 have ln:=S.len;obtain⟨p',q1,q2,q3,q4⟩:=S.own i w hi;rw[hp] at q1;cases q1;have hl:i < dl.length:=(Vx.mp hi).1;have g:aN G.Hf G.H Hf (upd H p o):=⟨fun b u e=>by rw[ag (ar e q3)];exact S.gr.big _ _ e,S.gr.aY,qS S.sub q2,S.gr.new⟩
 refine⟨g,by simp[S.len],fun j x h=>?_,fun j o' h=>?_,fun j k o1 o2 a h1 h2 h3 h4=>?_⟩
 . by_cases e:i=j
   . subst e;rw[VH hl] at h;cases h
   . rw[VE e] at h;exact S.val j x h
 . by_cases e:i=j
   . subst e;rw[VH hl] at h;cases h
     exact⟨p,hp,q2,q3,r⟩
   . rw[VE e] at h
     obtain⟨a,z1,z2,z3,z4⟩:=S.own j o' h;have:a≠p:=fun q=>by subst q;exact e (S.C5 i j _ _ _ hi h hp z1)
     exact⟨a,z1,z2,z3,z4.grow (ag this) (ay.refl _)⟩
 . have tr:∀ (j:Nat) o',(dl.set i (.own w'))[j]?=some (.own o')->∃ Nb,dl[j]?=some (.own Nb):=fun j o' h=>by
     by_cases e:i=j
     . subst e;exact⟨_,hi⟩
     . rw[VE e] at h;exact⟨_,h⟩
   obtain⟨_,t1⟩:=tr j o1 h1;obtain⟨_,t2⟩:=tr k o2 h2;exact S.C5 j k _ _ a t1 t2 h3 h4
def Le (dl dl':List Slot):Prop:=dl.length=dl'.length/\∀ (i:Nat) s,dl[i]?=some s->s≠.cz->dl'[i]?=some s
theorem Le.refl (dl:List Slot):Le dl dl:=⟨rfl,fun _ _ h _=>h⟩
theorem cL.weak (S:cL K G st Hf H dl')(l:Le dl dl'):cL K G st Hf H dl:=
 ⟨S.gr,by rw[S.len,l.1],fun i d h=>S.val i d (l.2 i _ h (by intro z;cases z)),fun i o h=>S.own i o (l.2 i _ h (by intro z;cases z)),
  fun i j o o' a h1 h2=>S.C5 i j o o' a (l.2 i _ h1 (by intro z;cases z)) (l.2 j _ h2 (by intro z;cases z))⟩
def K5:List Slot->List Slot->Prop
 | [],[]=>True
 | .cz::r,_::s=>K5 r s
 | x::r,y::s=>x=y/\K5 r s
 | _,_=>False
theorem Le.of:∀ {dl dl':List Slot},K5 dl dl'->Le dl dl'
 | [],[],_=>Le.refl _
 | .cz::r,y::s,h=>by
   have q:=Le.of (dl:=r) (dl':=s) h;refine⟨congrArg (·+1) q.1,fun i x e n=>?_⟩;cases i with
   | zero=>simp at e;exact absurd e.symm n
   | succ i=>exact q.2 i x (by simpa using e) n
 | .val d::r,y::s,h=>by
   obtain⟨h1,h2⟩:=(show Slot.val d=y/\K5 r s from h)
   subst h1;have q:=Le.of h2;refine⟨congrArg (·+1) q.1,fun i x e n=>?_⟩;cases i with
   | zero=>exact e
   | succ i=>exact q.2 i x (by simpa using e) n
 | .own d::r,y::s,h=>by
   obtain⟨h1,h2⟩:=(show Slot.own d=y/\K5 r s from h)
   subst h1;have q:=Le.of h2;refine⟨congrArg (·+1) q.1,fun i x e n=>?_⟩;cases i with
   | zero=>exact e
   | succ i=>exact q.2 i x (by simpa using e) n
end
def tD (K:PySem.W.Frag)(G:Gr)(dl:List Slot)(d:Dt):TE:=fun st H Q=>∃ Hf,cL K G st Hf H dl/\∀ v aA H',aN Hf H aA H'->Rep K aA v d->Q v H'
def Nc (K:PySem.W.Frag)(G:Gr)(dl:List Slot)(ds:List Dt):TA:=fun st H Q=>∃ Hf,cL K G st Hf H dl/\∀ vs aA H',aN Hf H aA H'->bu K aA vs ds->Q vs H'
def K6 (K:PySem.W.Frag)(G:Gr)(dl:List Slot)(b:Bool):TT:=fun st H Q=>∃ Hf,cL K G st Hf H dl/\∀ aA H',aN Hf H aA H'->Q b H'
abbrev EE (X:Cx)(G:Gr)(dl:List Slot)(e:Expr)(d:Dt):Prop:=PE X e (tD X.K G dl d)
abbrev EA (X:Cx)(G:Gr)(dl:List Slot)(es:List Expr)(ds:List Dt):Prop:=PA X es (Nc X.K G dl ds)
abbrev EB (X:Cx)(G:Gr)(dl:List Slot)(e:Expr)(b:Bool):Prop:=PT X e (K6 X.K G dl b)
def ExcAt (K:PySem.W.Frag)(Hf:Hp)(od:Option Addr)(fs:List (Str×Dt)):Prop:=match od with
 | none=>fs=[]
 | some dx=>∃ fv,Hf dx=some (.xd fv)/\aU K Hf fv fs
inductive Out where
 | nx (dl:List Slot)
 | rt (d:Dt)
 | ro (w:Own)
 | bk (dl:List Slot)
 | ct (dl:List Slot)
 | ex (c:Value) (fs:List (Str×Dt))
 | raw (R:L2.St->Hp->Prop)
def qv (K:W.Frag)(G:Gr)(E:XK)(D:Ends)(Hf:Hp):Out->Prop
 | .nx dl=>∀ st aA H,ay Hf aA->cL K G st aA H dl->D.nx st H
 | .bk dl=>∀ st aA H,ay Hf aA->cL K G st aA H dl->D.bk st H
 | .ct dl=>∀ st aA H,ay Hf aA->cL K G st aA H dl->D.ct st H
 | .rt d=>∀ v aA H,aN G.Hf G.H aA H->Rep K aA v d->D.rt v H
 | .ro o=>∀ p aA H,aN G.Hf G.H aA H->G.H p=none->aA p=none->dZ K aA H p o->D.rt (.ref p) H
 | .ex c fs=>∀ od aA H,aN G.Hf G.H aA H->ExcAt K aA od fs->E c od H
 | .raw R=>∀ st H,R st H->D.nx st H
theorem qv.mono {K:W.Frag}{G:Gr}{E:XK}{D:Ends}{Hf Hf1:Hp}(s:ay Hf Hf1):∀ {o:Out},qv K G E D Hf o->qv K G E D Hf1 o
 | .nx _,k=>fun st aA H s' S=>k st aA H (s.trans s') S
 | .bk _,k=>fun st aA H s' S=>k st aA H (s.trans s') S
 | .ct _,k=>fun st aA H s' S=>k st aA H (s.trans s') S
 | .rt _,k=>k
 | .ro _,k=>k
 | .ex _ _,k=>k
 | .raw _,k=>k
def tO (K:W.Frag)(G:Gr)(E:XK)(dl:List Slot)(o:Out):TS:=fun D st H=>∃ Hf,cL K G st Hf H dl/\qv K G E D Hf o
abbrev ES (X:Cx)(G:Gr)(E:XK)(dl:List Slot)(s:Stmt)(o:Out):Prop:=PS X s (tO X.K G E dl o)
abbrev iV (X:Cx)(G:Gr)(E:XK)(dl:List Slot)(s:List Stmt)(o:Out):Prop:=vG X s (tO X.K G E dl o)
theorem fG {X:Cx}{e:Expr}{t t':TE}(h:PE X e t)(i:∀ st H Q,t' st H Q->t st H Q):PE X e t':=fun pins s st H Q I q=>h pins s st H Q I (i st H Q q)
theorem K7 {X:Cx}{e:Expr}{t t':TT}(h:PT X e t)(i:∀ st H Q,t' st H Q->t st H Q):PT X e t':=fun pins s st H Q I q=>h pins s st H Q I (i st H Q q)
theorem QJ {X:Cx}{e:List Expr}{t t':TA}(h:PA X e t)(i:∀ st H Q,t' st H Q->t st H Q):PA X e t':=fun pos pins s st H Q I q=>h pos pins s st H Q I (i st H Q q)
theorem qT {X:Cx}{e:Stmt}{t t':TS}(h:PS X e t)(i:∀ D st H,t' D st H->t D st H):PS X e t':=fun pins s st H D I q=>h pins s st H D I (i D st H q)
theorem v3 {X:Cx}{e:List Stmt}{t t':TS}(h:vG X e t)(i:∀ D st H,t' D st H->t D st H):vG X e t':=fun pins s st H D I q=>h pins s st H D I (i D st H q)
section
variable {X:Cx}{G:Gr}{dl:List Slot}{a b e:Expr}{i j:Int}{d d1 d2:Dt}{pos:Pos}{x y:Str}{u v:Bool}
theorem aa (n:Nat){x:Str}{pos:Pos}(hd:autoParam (dl[n]?=some (.val d)) jp)(hN:autoParam (X.N[n]?=some x) jp)(hv:autoParam (qI X.env.scope x) jN)(hb:autoParam ((x == ("__debug__":Str))=false) jM)(il:autoParam ((x == ("__classdict__":Str))=false) jM):EE X G dl (.Name x pos) d:=
 fG (ik hN hv hb il) fun st H Q zq=>Nf zq fun Hf zq=>have S:=zq.1;have k:=zq.2;let ⟨v,h1,h2⟩:=S.val n d hd;⟨v,h1,k v Hf H (.refl S.sub) h2⟩
theorem aj {z:Int}{j pos}:EE X G dl (.Constant (.int z) j pos) (.int z):=fG GK fun st H Q zq=>Nf zq fun Hf zq=>have S:=zq.1;have k:=zq.2;k _ Hf H (.refl S.sub) (.int z)
theorem ff {z:Str}{j pos}:EE X G dl (.Constant (.str z) j pos) (.str z):=fG GL fun st H Q zq=>Nf zq fun Hf zq=>have S:=zq.1;have k:=zq.2;k _ Hf H (.refl S.sub) (.str z)
def xr (K:W.Frag)(r:R2)(d1 d2 d:Dt):Prop:=∀ v w Hf H Q,ay Hf H->Rep K Hf v d1->Rep K Hf w d2->(∀ u aA H',aN Hf H aA H'->Rep K aA u d->Q u H')->r v w H Q
theorem oY {r:R2}(h:xr X.K r d1 d2 d):∀ st H Q,tD X.K G dl d st H Q->Kr r (tD X.K G dl d1) (tD X.K G dl d2) st H Q:=fun st H Q zq=>Nf zq fun Hf zq=>have S:=zq.1;have k:=zq.2;
 ⟨Hf,S,fun v Hf1 H1 g1 r1=>⟨Hf1,S.grow g1,fun w bw H2 g2 r2=>h v w bw H2 Q g2.sub (r1.mono g2.aY) r2 fun u fH H3 g3 r3=>k u fH H3 ((g1.trans g2).trans g3) r3⟩⟩
theorem oZ {op:Operator}{r:R2}(ho:kS X (binaryOp op) r)(h:xr X.K r d1 d2 d)(ha:EE X G dl a d1)(hb:EE X G dl b d2):EE X G dl (.BinOp a op b pos) d:=fG (Kt ho ha hb) (oY h)
theorem rX {op:CmpOp}{r:R2}(ho:kS X (compareOp op) r)(h:xr X.K r d1 d2 d)(hm:behindInMarks op b=false)(ha:EE X G dl a d1)(hb:EE X G dl b d2):EE X G dl (.Compare a [op] [b] pos) d:=fG (Ds ho ha hb hm) (oY h)
theorem iW {op:CmpOp}{r:R2}(ho:kS X (compareOp op) r)(h:xr X.K r d1 d2 (.bl u))(hm:behindInMarks op b=false)(ha:EE X G dl a d1)(hb:EE X G dl b d2):EB X G dl (.Compare a [op] [b] pos) u:=
 K7 (Du ho ha hb hm) fun st H Q zq=>Nf zq fun Hf zq=>have S:=zq.1;have k:=zq.2;oY h st H _ ⟨Hf,S,fun v aA H' g r=>by cases r;exact⟨u,rfl,k aA H' g⟩⟩
theorem nu {K:W.Frag}{g:Int->Int->V}{g':Int->Int->Dt}(h:∀ K H i j,Rep K H (g i j) (g' i j)):xr K (Dp g) (.int i) (.int j) (g' i j):=fun v w Hf H Q s r1 r2 k=>by
 cases r1;cases r2;exact⟨i,j,rfl,rfl,k _ Hf H (.refl s) (h _ _ _ _)⟩
theorem DM {K:W.Frag}{C:Int->Int->Prop}{g:Int->Int->V}{g':Int->Int->Dt}(h:∀ K H i j,Rep K H (g i j) (g' i j))(hc:C i j):xr K (rI C g) (.int i) (.int j) (g' i j):=fun v w Hf H Q s r1 r2 k=>by
 cases r1;cases r2;exact⟨i,j,rfl,rfl,hc,k _ Hf H (.refl s) (h _ _ _ _)⟩
theorem dU (ha:EE X G dl a (.int i))(hb:EE X G dl b (.int j)):EE X G dl (.BinOp a .Add b pos) (.int (i+j)):=oZ G1 (nu (g':=fun i j=>.int (i+j)) fun _ _ _ _=>.int _) ha hb
theorem o3 (ha:EE X G dl a (.int i))(hb:EE X G dl b (.int j)):EE X G dl (.BinOp a .Sub b pos) (.int (i - j)):=oZ G3 (nu (g':=fun i j=>.int (i - j)) fun _ _ _ _=>.int _) ha hb
theorem DN:kS X (binaryOp .Mult) (rI IntMulOk fun i j=>.int (i * j)):=M6 fun _ _ _ _ _ _ _ hc q=>mul_int q hc
theorem kU (ha:EE X G dl a (.int i))(hb:EE X G dl b (.int j))(hc:IntMulOk i j):EE X G dl (.BinOp a .Mult b pos) (.int (i * j)):=oZ DN (DM (g':=fun i j=>.int (i * j)) (fun _ _ _ _=>.int _) hc) ha hb
theorem Ax:kS X (binaryOp .FloorDiv) (rI (fun _ j=>0 < j/\j.natAbs.log2 < 9000) fun i j=>.int (i / j)):=M6 fun i j _ _ _ _ _ hc q=>by
 refine floordiv_int (Int.ne_of_gt hc.1) ?_ (.inl (PyProof.noPylong_of_log2 hc.2));rw[Int.fdiv_eq_ediv_of_nonneg _ (Int.le_of_lt hc.1)];exact q
theorem dD (ha:EE X G dl a (.int i))(hb:EE X G dl b (.int j))(hc:0 < j/\j.natAbs.log2 < 9000):EE X G dl (.BinOp a .FloorDiv b pos) (.int (i / j)):=oZ Ax (DM (g':=fun i j=>.int (i / j)) (fun _ _ _ _=>.int _) hc) ha hb
theorem cq (ha:EE X G dl a (.int i))(hb:EE X G dl b (.int j))(hc:0 < j):EE X G dl (.BinOp a .Mod b pos) (.int (i % j)):=oZ G4 (DM (g':=fun i j=>.int (i % j)) (fun _ _ _ _=>.int _) hc) ha hb
theorem Hw (ha:EE X G dl a (.int i))(hb:EE X G dl b (.int j))(hc:Kw i j):EE X G dl (.BinOp a .Pow b pos) (.int (i ^ j.toNat)):=oZ G5 (DM (g':=fun i j=>.int (i ^ j.toNat)) (fun _ _ _ _=>.int _) hc) ha hb
theorem Hx {K:W.Frag}(h:x.length+y.length<=sizeLine):xr K (fun a b H Q=>∃ i j,a=.str i/\b=.str j/\i.length+j.length<=sizeLine/\Q (.str (i ++ j)) H) (.str x) (.str y) (.str (x ++ y)):=fun v w Hf H Q s r1 r2 k=>by
 cases r1;cases r2;exact⟨x,y,rfl,rfl,h,k _ Hf H (.refl s) (.str _)⟩
theorem Hy (ha:EE X G dl a (.str x))(hb:EE X G dl b (.str y))(h:x.length+y.length<=sizeLine):EE X G dl (.BinOp a .Add b pos) (.str (x ++ y)):=oZ vL (Hx h) ha hb
theorem Ay (ha:EE X G dl a (.int i)):EE X G dl (.UnaryOp .USub a pos) (.int (-i)):=
 fG (Ku G6 ha) fun st H Q zq=>xa zq fun Hf S k=>fun v Hf1 H1 g1 r1=>by cases r1;exact⟨i,rfl,k _ Hf1 H1 g1 (.int _)⟩
theorem o4 (h:EE X G dl e (.bl u))(he:autoParam (∀ whole,isTrue e X.env whole=(do let v <- whole;standAt e.pos;holding [v] (truthy v))) xz):EB X G dl e u:=
 K7 (GO h he) fun st H Q zq=>xa zq fun Hf S k=>fun v Hf1 H1 g1 r1=>by cases r1;exact⟨u,rfl,k Hf1 H1 g1⟩
end
section
variable {X:Cx}{G:Gr}{E:XK}{dl dl1:List Slot}{a b c e:Expr}{es:List Expr}{i j:Int}{d d1:Dt}{ds:List Dt}{pos:Pos}{o o':Out}{x:Str}{u v:Bool}{rest:List Expr}{sts yO:List Stmt}{s:Stmt}
theorem Hz:PE X e fun _ _ _=>False:=fun _ _ _ _ _ _ h=>h.elim
theorem pw_nev:PW X e fun _ _ _=>False:=fun _ _ _ _ _ _ _ h=>h.elim
abbrev EW (X:Cx)(G:Gr)(dl:List Slot)(e:Expr)(b:Bool):Prop:=PW X e (K6 X.K G dl b)
theorem Ng {e:Expr}{t t':TT}(h:PW X e t)(i:∀ st H Q,t' st H Q->t st H Q):PW X e t':=fun wh pins s st H Q I q=>h wh pins s st H Q I (i st H Q q)
theorem jZ (ha:EB X G dl a u):EW X G dl (.BoolOp .And [a] pos) u:=pw_and1 ha
theorem rY (ha:EB X G dl a u):EW X G dl (.BoolOp .Or [a] pos) u:=pw_or1 ha
theorem jA (ha:EB X G dl a u)(hb:u=true->EW X G dl (.BoolOp .And (b::rest) pos) v):EW X G dl (.BoolOp .And (a::b::rest) pos) (u && v):=by
 cases u with
 | true=>exact Ng (pw_and ha (hb rfl)) fun st H Q zq=>xa zq fun Hf S k=>fun Hf1 H1 g1=>vW ⟨Hf1,S.grow g1,fun bw H2 g2=>k bw H2 (g1.trans g2)⟩
 | false=>exact Ng (pw_and ha pw_nev) fun st H Q zq=>xa zq fun Hf S k=>fun Hf1 H1 g1=>vV (k Hf1 H1 g1)
theorem xu (ha:EB X G dl a u)(hb:u=false->EW X G dl (.BoolOp .Or (b::rest) pos) v):EW X G dl (.BoolOp .Or (a::b::rest) pos) (u || v):=by
 cases u with
 | false=>exact Ng (pw_or ha (hb rfl)) fun st H Q zq=>xa zq fun Hf S k=>fun Hf1 H1 g1=>vV ⟨Hf1,S.grow g1,fun bw H2 g2=>k bw H2 (g1.trans g2)⟩
 | true=>exact Ng (pw_or ha pw_nev) fun st H Q zq=>xa zq fun Hf S k=>fun Hf1 H1 g1=>vW (k Hf1 H1 g1)
theorem o5 (h:EW X G dl e u):EB X G dl e u:=h.pt
theorem o6 (ha:EB X G dl a u):EB X G dl (.UnaryOp .Not a pos) (!u):=K7 (GP ha) fun st H Q zq=>xa zq fun Hf S k=>fun Hf1 H1 g1=>k Hf1 H1 g1
theorem rZ (ha:EE X G dl a (.bl u)):EE X G dl (.BoolOp .And [a] pos) (.bl u):=GQ ha
theorem v5 (ha:EE X G dl a (.bl u))(hb:u=true->EE X G dl (.BoolOp .And (b::rest) pos) (.bl v)):EE X G dl (.BoolOp .And (a::b::rest) pos) (.bl (u && v)):=by
 cases u with
 | true=>exact fG (z7 ha (hb rfl)) fun st H Q zq=>xa zq fun Hf S k=>fun w Hf1 H1 g1 r1=>by cases r1;exact⟨true,rfl,vW ⟨Hf1,S.grow g1,fun w bw H2 g2 r2=>k w bw H2 (g1.trans g2) r2⟩⟩
 | false=>exact fG (z7 ha Hz) fun st H Q zq=>xa zq fun Hf S k=>fun w Hf1 H1 g1 r1=>by cases r1;exact⟨false,rfl,vV (k _ Hf1 H1 g1 (.bl _))⟩
theorem aP (h:EB X G dl e u)(q:u=v):EB X G dl e v:=by subst q;exact h
theorem a8 (h:EE X G dl e d)(q:d=d1):EE X G dl e d1:=by subst q;exact h
theorem ak:EA X G dl [] []:=QJ iq fun st H Q zq=>Nf zq fun Hf zq=>have S:=zq.1;have k:=zq.2;k [] Hf H (.refl S.sub) .nil
theorem ae (ha:EE X G dl e d)(hr:EA X G dl es ds)(hs:autoParam (starEach (e::es) X.env=(false,eval e X.env)::starEach es X.env) jp):EA X G dl (e::es) (d::ds):=
 QJ (fT ha hr hs) fun st H Q zq=>xa zq fun Hf S k=>fun v Hf1 H1 g1 r1=>⟨Hf1,S.grow g1,fun vs bw H2 g2 r2=>k _ bw H2 (g1.trans g2) (.cons (r1.mono g2.aY) r2)⟩
theorem gU {x1}(h:EA X G dl es ds)(hl:autoParam (ds.length<=sizeLine) jM):EE X G dl (.Tuple es x1 pos) (.tup ds):=
 fG (He h) fun st H Q zq=>xa zq fun Hf S k=>fun vs Hf1 H1 g1 r1=>⟨by rw[r1.length];exact hl,fun p hp=>k _ (upd Hf1 p (.tup vs)) _ (g1.trans (.alloc g1.sub hp)) (.tup (.of ah) (r1.mono (bj (g1.sub.free hp))))⟩
theorem bu.nI {K:W.Frag}{H:Hp}{vs:List V}{ds:List Dt}{i:Int}{d:Dt}(r:bu K H vs ds)(h:L2.nI ds i=some d):∃ v,L2.nI vs i=some v/\Rep K H v d:=by
 unfold L2.nI at h ⊢;rw[r.length];cases q:FH ds.length i with
 | none=>rw[q] at h;cases h
 | some n=>
   rw[q] at h;exact r.get h
theorem dW (ha:EE X G dl a (.tup ds))(hb:EE X G dl b (.int i))(h:nI ds i=some d)(hs:autoParam (hW b) xL):EE X G dl (.Subscript a b pos) d:=
 fG (qO Hi ha hb hs) (oY fun v w Hf H Q s r1 r2 k=>by
   cases r1 with
   | tup q r=>
     cases r2;obtain⟨v,h1,h2⟩:=r.nI h;exact⟨_,_,i,v,rfl,rfl,dv s q,h1,k v Hf H (.refl s) h2⟩)
theorem v7 (ha:EE X G dl a (.lst ds))(hb:EE X G dl b (.int i))(h:nI ds i=some d)(hs:autoParam (hW b) xL):EE X G dl (.Subscript a b pos) d:=
 fG (qO xl ha hb hs) (oY fun v w Hf H Q s r1 r2 k=>by
   cases r1 with
   | lst q r=>
     cases r2;obtain⟨v,h1,h2⟩:=r.nI h;exact⟨_,_,i,v,rfl,rfl,.of (s _ _ q),h1,k v Hf H (.refl s) h2⟩)
theorem HA {ns:List Int}{z:Int}(ha:EE X G dl a (.jq ns))(hb:EE X G dl b (.int i))(h:nI ns i=some z)(hs:autoParam (hW b) xL):EE X G dl (.Subscript a b pos) (.int z):=
 fG (qO xl ha hb hs) (oY fun v w Hf H Q s r1 r2 k=>by
   cases r1 with
   | jq q=>
     cases r2;have h':L2.nI (ns.map V.int) i=some (.int z):=by
       unfold L2.nI at h ⊢;rw[ou];cases q2:FH ns.length i with
       | none=>rw[q2] at h;cases h
       | some n=>
         rw[q2] at h;show(ns.map V.int)[n]?=_;rw[VB,show ns[n]?=some z from h];rfl
     exact⟨_,_,i,_,rfl,rfl,s.seq q,h',k _ Hf H (.refl s) (.int z)⟩)
theorem HB {z:Nat}(ha:EE X G dl a (.str x))(hb:EE X G dl b (.int i))(h:nI x.cps.toList i=some z)(hl:x.length<=sizeLine)(hs:autoParam (hW b) xL):EE X G dl (.Subscript a b pos) (.str ⟨#[z]⟩):=
 fG (qO Hj ha hb hs) (oY fun v w Hf H Q s r1 r2 k=>by
   cases r1;cases r2;exact⟨x,i,z,rfl,rfl,hl,h,k _ Hf H (.refl s) (.str _)⟩)
theorem bg:iV X G E dl [] (.nx dl):=v3 Dn fun D st H zq=>Nf zq fun Hf zq=>have S:=zq.1;have k:=zq.2;k st Hf H (ay.refl _) S
theorem ai (h1:ES X G E dl s (.nx dl1))(h2:iV X G E dl1 sts o):iV X G E dl (s::sts) o:=
 v3 (jv h1 h2) fun D st H zq=>xa zq fun Hf S k=>fun fL aA H' s' S'=>⟨aA,S',k.mono s'⟩
theorem aq (h1:ES X G E dl s o):iV X G E dl [s] o:=lq h1
theorem qv.stop {K:W.Frag}{D D':Ends}{Hf:Hp}(h:(∀ dl,o≠.nx dl)/\∀ R,o≠.raw R)(hr:D'.rt=D.rt)(hb:D'.bk=D.bk)(hc:D'.ct=D.ct)(k:qv K G E D Hf o):qv K G E D' Hf o:=by
 cases o with
 | nx dl=>exact absurd rfl (h.1 dl)
 | raw R=>exact absurd rfl (h.2 R)
 | rt d=>show ∀ v Hf H,_->_->D'.rt v H;rw[hr];exact k
 | ro d=>show ∀ v Hf H,_->_->_->_->D'.rt _ H;rw[hr];exact k
 | bk d=>show ∀ v Hf H,_->_->D'.bk v H;rw[hb];exact k
 | ct d=>show ∀ v Hf H,_->_->D'.ct v H;rw[hc];exact k
 | ex c fs=>exact k
theorem fg (h1:ES X G E dl s o)(h:(∀ dl,o≠.nx dl)/\(∀ R,o≠.raw R):=by exact⟨(fun _ z=>nomatch z),(fun _ z=>nomatch z)⟩):iV X G E dl (s::sts) o:=
 v3 (jv h1 (l9 (sts:=sts))) fun D st H zq=>xa zq fun Hf S k=>qv.stop (D:=D) h rfl rfl rfl k
theorem DO (h1:iV X G E dl1 sts o)(l:Le dl1 dl):iV X G E dl sts o:=v3 h1 fun D st H zq=>Nf zq fun Hf zq=>have S:=zq.1;have k:=zq.2;⟨Hf,S.weak l,k⟩
theorem aQ (hc:EB X G dl c u)(h1:u=true->iV X G E dl sts o)(h2:u=false->iV X G E dl yO o):ES X G E dl (.If c sts yO pos) o:=by
 cases u with
 | true=>exact qT (FE hc (h1 rfl) (l9 (sts:=yO))) fun D st H zq=>xa zq fun Hf S k=>fun Hf1 H1 g1=>vW ⟨Hf1,S.grow g1,k.mono g1.aY⟩
 | false=>exact qT (FE hc (l9 (sts:=sts)) (h2 rfl)) fun D st H zq=>xa zq fun Hf S k=>fun Hf1 H1 g1=>vV ⟨Hf1,S.grow g1,k.mono g1.aY⟩
theorem bb (h:EE X G dl e d):ES X G E dl (.Return (some e) pos) (.rt d):=qT (vH h) fun D st H zq=>xa zq fun Hf S k=>fun v Hf1 H1 g1 r1=>k v Hf1 H1 (S.gr.trans g1) r1
theorem dE (h:EE X G dl e d)(hs:autoParam (swapsWith e none pos.line X.env=pure false) jp):ES X G E dl (.Expr e pos) (.nx dl):=
 qT (jT h hs) fun D st H zq=>xa zq fun Hf S k=>fun v Hf1 H1 g1 r1=>k st Hf1 H1 g1.aY (S.grow g1)
theorem aw (n:Nat){x:Str}{pos':Pos}(hN:X.N.Nodup)(he:EE X G dl e d)(hi:autoParam (X.N[n]?=some x) jp)(hx:autoParam (Loc X.env.scope x) zD)(hs:autoParam (swapsWith e (some (.Name x pos')) pos.line X.env=pure false) jp)(hf:autoParam (X.fn x=true\/X.env.scope.names.lookup x=some .local) jR):ES X G E dl (.Assign [.Name x pos'] e pos) (.nx (dl.set n (.val d))):=
 qT (vI hN hi hx he hs hf) fun D st H zq=>xa zq fun Hf S k=>fun v Hf1 H1 g1 r1=>k _ Hf1 H1 g1.aY ((S.grow g1).set r1)
inductive lB (X:Cx)(G:Gr)(E:XK)(body:List Stmt)(S:Nat->List Slot)(pre:Nat->List Slot)(n m:Nat):Out->Prop
 | all (h:m=n):lB X G E body S pre n m (.nx (S n))
 | rt {d:Dt} (h:m < n) (hb:iV X G E (pre m) body (.rt d)):lB X G E body S pre n m (.rt d)
 | ro {d:Own} (h:m < n) (hb:iV X G E (pre m) body (.ro d)):lB X G E body S pre n m (.ro d)
 | bk {dl':List Slot} (h:m < n) (hb:iV X G E (pre m) body (.bk dl')):lB X G E body S pre n m (.nx dl')
 | ex {c:Value} {fs:List (Str×Dt)} (h:m < n) (hb:iV X G E (pre m) body (.ex c fs)):lB X G E body S pre n m (.ex c fs)
inductive Goes (X:Cx)(G:Gr)(E:XK)(body:List Stmt)(pre post:List Slot):Prop
 | nx {dl':List Slot} (hb:iV X G E pre body (.nx dl')) (l:Le post dl')
 | ct {dl':List Slot} (hb:iV X G E pre body (.ct dl')) (l:Le post dl')
def Az (X:Cx)(G:Gr)(E:XK)(body:List Stmt):TS:=fun D st H=>∃ pre o,iV X G E pre body o/\tO X.K G E pre o D st H
theorem o7 {body:List Stmt}:vG X body (Az X G E body):=fun pins s st H D J ⟨pre,o,h,q⟩=>h pins s st H D J q
theorem mn {body:List Stmt}{pre post:List Slot}{D:Ends}{st:L2.St}{Hf H:Hp}(g:Goes X G E body pre post)(S:cL X.K G st Hf H pre)(hn:∀ st aA H,ay Hf aA->cL X.K G st aA H post->D.nx st H)(hc:∀ st aA H,ay Hf aA->cL X.K G st aA H post->D.ct st H):Az X G E body D st H:=by
 cases g with
 | nx hb l=>exact⟨_,_,hb,Hf,S,fun fL aA H' s' S'=>hn fL aA H' s' (S'.weak l)⟩
 | ct hb l=>exact⟨_,_,hb,Hf,S,fun fL aA H' s' S'=>hc fL aA H' s' (S'.weak l)⟩
theorem qU {body:List Stmt}{S pre:Nat->List Slot}{n m:Nat}{D D':Ends}{st:L2.St}{Hf H:Hp}(e:lB X G E body S pre n m o)(hm:m < n)(S':cL X.K G st Hf H (pre m))(k:qv X.K G E D Hf o)(hr:D'.rt=D.rt)(DP:D'.bk=D.nx):Az X G E body D' st H:=by
 cases e with
 | all h=>omega
 | rt h hb=>exact⟨_,_,hb,Hf,S',by show ∀ v Hf H,_->_->D'.rt v H;rw[hr];exact k⟩
 | ro h hb=>exact⟨_,_,hb,Hf,S',by show ∀ v Hf H,_->_->_->_->D'.rt _ H;rw[hr];exact k⟩
 | bk h hb=>exact⟨_,_,hb,Hf,S',by show ∀ v Hf H,_->_->D'.bk v H;rw[DP];exact k⟩
 | ex h hb=>exact⟨_,_,hb,Hf,S',k⟩
theorem AA (nN:Nat){x:Str}{px:Pos}{body:List Stmt}{lo:Int}{n m:Nat}(S:Nat->List Slot)(hN:X.N.Nodup)(o8:X.calm=true)(hp:PassesOwn (model X.prog X.w) X.A X.env X.xe){wi:TI}{iter:Expr}(hI:PI X (.Name x px) iter wi)(hw:∀ st Hf H R,cL X.K G st Hf H dl->(∀ aA H',aN Hf H aA H'->R (GY lo n) H')->wi st H R)(h0:Le (S 0) dl)(OD:m<=n)(hb:∀ k,k < m->Goes X G E body ((S k).set nN (.val (.int (lo+k)))) (S (k+1)))(he:lB X G E body S (fun k=>(S k).set nN (.val (.int (lo+k)))) n m o)(hi:autoParam (X.N[nN]?=some x) jp)(hx:autoParam (Loc X.env.scope x) zD)(hf:autoParam (X.fn x=true\/X.env.scope.names.lookup x=some .local) jR)(hs:autoParam (∀ x,foldedSetIterable iter X.env x=pure x) xz):ES X G E dl (.For (.Name x px) iter body [] pos) o:=by
 refine qT (vK hp o8 hI (bh hN hi hx hf) (o7 (G:=G) (E:=E)) hs) fun D st H ⟨Hf,S0,k⟩=>hw st Hf H _ S0 fun aA H' g=>?_
 refine yA (lo:=lo) (n:=n) (fun j st H=>j<=m/\∃ Hf1,ay Hf Hf1/\cL X.K G st Hf1 H (S j)) ⟨Wr _,aA,g.aY,(S0.grow g).weak h0⟩ (fun j st H hj ⟨VC,Hf1,s1,Sj⟩=>?_) (fun st H ⟨QK,Hf1,s1,Sn⟩=>?_)
 . have Sp:cL X.K G (st.set nN (some (.int (lo+j)))) Hf1 H ((S j).set nN (.val (.int (lo+j)))):=Sj.set (.int _)
   by_cases b5:j < m
   . exact mn (hb j b5) Sp (fun st bw H s2 S'=>⟨b5,bw,s1.trans s2,S'⟩) (fun st bw H s2 S'=>⟨b5,bw,s1.trans s2,S'⟩)
   . have e:j=m:=by omega
     subst e;exact qU he hj Sp (k.mono s1) rfl rfl
 . have e:m=n:=by omega
   subst e;cases he with
   | all _=>exact k st Hf1 H s1 Sn
   | rt h _=>omega
   | ro h _=>omega
   | bk h _=>omega
   | ex h _=>omega
theorem j0 (nN:Nat){x:Str}{p px pc:Pos}{body:List Stmt}{n:Int}{m:Nat}(S:Nat->List Slot)(hN:X.N.Nodup)(o8:X.calm=true)(hp:PassesOwn (model X.prog X.w) X.A X.env X.xe)(K8:X.mg "range"=none)(ha:EA X G dl [a] [.int n])(hn:-(2 ^ 62)<=n/\n < 2 ^ 62)(h0:Le (S 0) dl)(OD:m<=n.toNat)(hb:∀ k:Nat,k < m->Goes X G E body ((S k).set nN (.val (.int k))) (S (k+1)))(he:lB X G E body S (fun k=>(S k).set nN (.val (.int k))) n.toNat m o)(hg:autoParam (Gl X "range") jp)(hi:autoParam (X.N[nN]?=some x) jp)(hx:autoParam (Loc X.env.scope x) zD)(hf:autoParam (X.fn x=true\/X.env.scope.names.lookup x=some .local) jR)(FO:autoParam (starEach [a] X.env=[(false,eval a X.env)]) jp)(hs:autoParam (∀ z,foldedSetIterable (.Call (.Name "range" p) [a] [] pc) X.env z=pure z) xz):ES X G E dl (.For (.Name x px) (.Call (.Name "range" p) [a] [] pc) body [] pos) o:=by
 have ez:∀ k:Nat,(0:Int)+k=k:=fun k=>Int.zero_add _
 have eS:(fun k:Nat=>(S k).set nN (.val (.int ((0:Int)+k))))=fun k:Nat=>(S k).set nN (.val (.int k)):=by funext k;rw[ez]
 refine AA nN (lo:=0) (n:=n.toNat) (m:=m) S hN o8 hp (yy hg K8 ha FO) (fun st Hf H R S0 h=>⟨Hf,S0,fun vs Hf1 H1 g1 r1=>?_⟩) h0 OD (fun k hk=>by rw[ez];exact hb k hk) (by rw[eS];exact he) hi hx hf hs;cases r1 with
 | cons r t=>cases t;cases r;exact⟨n,rfl,hn.1,hn.2,h Hf1 H1 g1⟩
inductive Res where
 | ret (d:Dt)
 | own (w:Own)
 | exc (c:Value) (fs:List (Str×Dt))
def HC (K:W.Frag)(Hf H:Hp)(Q:VK)(E:XK):Res->Prop
 | .ret d=>∀ v aA H',aN Hf H aA H'->Rep K aA v d->Q v H'
 | .own w=>∀ p aA H',aN Hf H aA H'->H p=none->aA p=none->dZ K aA H' p w->Q (.ref p) H'
 | .exc c fs=>∀ od aA H',aN Hf H aA H'->ExcAt K aA od fs->E c od H'
def AB (K:W.Frag)(n:Nat)(R:List Dt->Res->Prop):Sp:=fun vs H Q E=>∃ Hf ds r,ay Hf H/\bu K Hf vs ds/\ds.length=n/\R ds r/\HC K Hf H Q E r
def v8 (CX:kT):Prop:=∀ outer H s e s',CX outer H s E0 e s'->False
theorem aB:v8 QI:=fun _ _ _ _ _ h=>h
theorem v8.passes {CX:kT}(n:v8 CX):Passes CX X E0:=fun _ _ _ _ _ _ _ h=>(n _ _ _ _ _ h).elim
noncomputable def slots (N:List Str)(ds:List Dt):List Slot:=ds.map Slot.val ++ Wg (N.length - ds.length) .cz
theorem qV {K:W.Frag}{N:List Str}{Hf H:Hp}{vs:List V}{ds:List Dt}(s:ay Hf H)(r:bu K Hf vs ds):cL K ⟨Hf,H⟩ (start N vs) Hf H (slots N ds):=by
 have hl:=r.length;have l6:∀ (i:Nat) o,(slots N ds)[i]?≠some (.own o):=fun i o h=>by
   unfold slots at h;by_cases hi:i < ds.length
   . rw[Wf (by simpa using hi),VB] at h
     cases e:ds[i]? with
     | none=>rw[e] at h;cases h
     | some a=>rw[e] at h;cases h
   . rw[Wd (by simpa using hi),Ww] at h
     split at h <;> cases h
 refine⟨.refl s,?_,fun i d h=>?_,fun i o h=>absurd h (l6 i o),fun i j o o' a h=>absurd h (l6 i o)⟩
 . unfold L2.start slots
   simp[hl]
 . unfold slots at h
   by_cases hi:i < ds.length
   . rw[Wf (by simpa using hi),VB] at h
     cases e:ds[i]? with
     | none=>rw[e] at h;cases h
     | some a=>
       rw[e] at h;cases h;obtain⟨v,h1,h2⟩:=r.get e;refine⟨v,?_,h2⟩;unfold L2.start;rw[Wf (by simp;omega),VB,h1];rfl
   . rw[Wd (by simpa using hi),Ww] at h
     split at h <;> cases h
inductive Comes:Out->Res->Prop
 | rt (d:Dt):Comes (.rt d) (.ret d)
 | ro (d:Own):Comes (.ro d) (.own d)
 | nx (dl:List Slot):Comes (.nx dl) (.ret .b0)
 | kn {dl:List Slot} {d:Dt} (h:∀ K G st Hf H,cL K G st Hf H dl->Rep K Hf .b0 d):Comes (.nx dl) (.ret d)
 | ex (c:Value) (fs:List (Str×Dt)):Comes (.ex c fs) (.exc c fs)
theorem Comes.ends {K:W.Frag}{Hf H:Hp}{Q:VK}{o:Out}{r:Res}(h:Comes o r)(k:HC K Hf H Q E r):qv K ⟨Hf,H⟩ E { nx:=fun _ H'=>Q .b0 H',rt:=Q} Hf o:=by
 cases h with
 | rt d=>exact k
 | ro d=>exact k
 | nx dl=>exact fun st aA H' s' S=>k _ aA H' S.gr .b0
 | kn h=>exact fun st aA H' s' S=>k _ aA H' S.gr (h _ _ _ _ _ S)
 | ex c fs=>exact k
theorem jt {P:Program}{w:World}{K:W.Frag}{mg:Str->Option Value}{base:Heap}{CX:kT}{x qual:Str}{st:Stmt}{f:Addr}{fd:FuncData}{N ps:List Str}{k n:Nat}{R:List Dt->Res->Prop}(F:Ht K x qual st f fd)(S:au N ps (af st))(hn:ps.length=n)(jx:∀ (a6:Value) (A:Around) (outer:List Env) (s:Shared) (H:Hp) (E:XK) (G:Gr) (ds:List Dt) (r:Res),cA k (A.deeper (envOfC qual (af st) s.heap.objs.size f a6))->ds.length=n->R ds r->∃ o,Comes o r/\iV (mh CX P w K mg base N qual (af st) f a6 A outer s H E) G E (slots N ds) (ax st) o):gu P w K mg base CX (k+1) f fd ps (AB K n R):=by
 obtain⟨oc,od,kV,doc,pm,an,a6,ct,oU,rfl,lk,il⟩:=F.ex;refine xk lk il S (fun vs H Q E ⟨Hf,ds,r,s,rp,hl,_⟩=>by rw[rp.length,hl,hn]) fun A outer s H vs Q E hr ⟨Hf,ds,r,sm,rp,hl,hR,hk⟩=>?_
 obtain⟨o,hc,hb⟩:=jx a6 A outer s H E ⟨Hf,H⟩ ds r hr hl hR;exact⟨_,hb,Hf,qV sm rp,hc.ends hk⟩
section
variable {CX:kT}{k n:Nat}{f C:Addr}{fd:FuncData}{ps:List Str}{R:List Dt->Res->Prop}{m:Str}{p apos:Pos}{ob:Expr}{dvs:List Dt}{vds:List V}{AD:List Value}{fs:List (Str×Dt)}
theorem DQ (F:gu X.prog X.w X.K X.mg X.base CX k f fd ps (AB X.K n R))(nx:v8 CX)(hr:cA k X.A)(hm:X.mg x=some (.ref f))(hk:W.keepIn X.K (.ref f)=true)(hb:Binds X.K fd ps AD)(hd:Vals vds AD)(AE:∀ H,bu X.K H vds dvs)(ha:EA X G dl (e::es) ds)(hl:(ds ++ dvs).length=n)(h:R (ds ++ dvs) (.ret d))(hg:autoParam (Gl X x) jp)(hU:autoParam ((x == ("__debug__":Str))=false) jM)(he:autoParam (starEach (e::es) X.env=(false,eval e X.env)::starEach es X.env) jp)(jn:autoParam ((backTo pos (starEach es X.env)).any (·.1)=false) jp):EE X G dl (.Call (.Name x p) (e::es) [] pos) d:=
 fG (rL (E:=E0) F hr hg hm hk hb hd nx.passes ha hU he jn) fun st H Q zq=>xa zq fun Hf S k=>fun vs Hf1 H1 g1 r1=>⟨Hf1,ds ++ dvs,.ret d,g1.sub,r1.append (AE _),hl,h,fun v bw H2 g2 r2=>k v bw H2 (g1.trans g2) r2⟩
theorem xv {pl:Sem Bool}(he:EE X G dl ob (.obj C fs))(c:qp X.K C)(hm:Meth X.K C m f)(F:gu X.prog X.w X.K X.mg X.base CX k f fd ps (AB X.K n R))(nx:v8 CX)(hr:cA k X.A)(hb:Binds X.K fd ps AD)(hd:Vals vds AD)(AE:∀ H,bu X.K H vds dvs)
   (ha:EA X G dl (e::es) ds) (hl:(.obj C fs::(ds ++ dvs)).length=n) (h:R (.obj C fs::(ds ++ dvs)) (.ret d)) (qm:fs.lookup m=none)
   (jf:autoParam (starEach (e::es) X.env=(false,eval e X.env)::starEach es X.env) jp) (jn:autoParam ((backTo pos (starEach es X.env)).any (·.1)=false) jp)
   (ht:autoParam (eval (.Call (.Attribute ob m apos) (e::es) [] pos) X.env=(do
     let ov <- eval ob X.env
     standAt apos.atName
     let (f,first) <- holding [ov] (getMethod ov m pl)
     callWith pos f first (backTo pos (starEach (e::es) X.env)) (backToKw pos (keywordEach [] X.env)))) jp):EE X G dl (.Call (.Attribute ob m apos) (e::es) [] pos) d:=
 fG (xi (pl:=pl) (E:=E0) he c hm F hr hb hd nx.passes ha jf jn ht) fun st H Q zq=>xa zq fun Hf S k=>fun v Hf1 H1 g1 r1=>by
   cases r1 with
   | @obj a _ dx fv _ q r=>
     exact⟨a,dx,fv,rfl,d8 g1.sub q,r.none_of qm,Hf1,S.grow g1,fun vs bw H2 g2 r2=>⟨bw,_,.ret d,g2.sub,.cons (.obj (d8 g2.aY q) (r.mono g2.aY)) (r2.append (AE _)),hl,h,fun v fH H3 g3 r3=>k v fH H3 ((g1.trans g2).trans g3) r3⟩⟩
theorem AF {pl:Sem Bool}(he:EE X G dl ob (.obj C fs))(c:qp X.K C)(hm:Meth X.K C m f)(F:gu X.prog X.w X.K X.mg X.base CX k f fd ps (AB X.K n R))(nx:v8 CX)(hr:cA k X.A)(hb:Binds X.K fd ps AD)(hd:Vals vds AD)(AE:∀ H,bu X.K H vds dvs)
   (hl:(Dt.obj C fs::dvs).length=n) (h:R (.obj C fs::dvs) (.ret d)) (qm:fs.lookup m=none)
   (ht:autoParam (eval (.Call (.Attribute ob m apos) [] [] pos) X.env=(do
     let ov <- eval ob X.env
     standAt apos.atName
     let (f,first) <- holding [ov] (getMethod ov m pl)
     callWith pos f first (backTo pos (starEach [] X.env)) (backToKw pos (keywordEach [] X.env)))) jp):EE X G dl (.Call (.Attribute ob m apos) [] [] pos) d:=
 fG (Ah (pl:=pl) (E:=E0) he c hm F hr hb hd nx.passes ht) fun st H Q zq=>xa zq fun Hf S k=>fun v Hf1 H1 g1 r1=>by
   cases r1 with
   | @obj a _ dx fv _ q r=>
     exact⟨a,dx,fv,rfl,d8 g1.sub q,r.none_of qm,Hf1,_,.ret d,g1.sub,.cons (.obj q r) (AE _),hl,h,fun v fH H3 g3 r3=>k v fH H3 (g1.trans g3) r3⟩
end
end
section
variable {X:Cx}{G:Gr}{dl:List Slot}{a b c e:Expr}{i j:Int}{d d1 d2:Dt}{ds:List Dt}{pos p:Pos}{o:Out}{x y f:Str}{u v:Bool}{s:Stmt}{C:Addr}{fs:List (Str×Dt)}
theorem xw {T:String}(hm:X.mg x=none)(hv:bootBuiltins x=some (.type T))(hg:autoParam (Gl X x) jp)(hn:autoParam (x≠"__name__") jM)(hd:autoParam ((x == ("__debug__":Str))=false) jM):EE X G dl (.Name x pos) (.ty T):=
 fG (Dm (v:=.ty T) hg hm hv rfl hn hd) fun st H Q zq=>Nf zq fun Hf zq=>have S:=zq.1;have k:=zq.2;k _ Hf H (.refl S.sub) (.ty T)
theorem hX {w:V}{z:Value}(hm:X.mg x=some z)(r:RelV w z)(hr:∀ H,Rep X.K H w d)(hg:autoParam (Gl X x) jp)(hd:autoParam ((x == ("__debug__":Str))=false) jM):EE X G dl (.Name x pos) d:=
 fG (Dl hg hm r hd) fun st H Q zq=>Nf zq fun Hf zq=>have S:=zq.1;have k:=zq.2;k _ Hf H (.refl S.sub) (hr _)
theorem boot_list:bootBuiltins "list"=some (.type "list"):=by decide +kernel
theorem boot_dict:bootBuiltins "dict"=some (.type "dict"):=by decide +kernel
structure HD (K:W.Frag)(C:Addr):Prop where
 makes:W.makesIn K C=true
 init:W.findIn K (.ref C) "__init__"=some (some (.builtin "object.__init__"))
 kp:W.keepIn K (.ref C)=true
theorem yP {pins:List (Addr×Obj)}{st:L2.St}{H:Hp}{s:Shared}{Q:VK}(M:HD X.K C)(I:L2.Inv X pins st H s)(h:∀ x dx,H x=none->H dx=none->dx≠x->Q (.ref x) (upd (upd H dx (.own x)) x (.ins C dx []))):wpAny (model X.prog X.w) X.A (call (.ref C) []) (EP X pins st Q) X.xe s:=by
 have hq:=h (s.heap.objs.size+1) s.heap.objs.size (I.aK.fresh (WU _)) (I.aK.fresh (O0 _)) (V9 (WV _));have I2:=L2.Inv.made (C:=C) I;refine wpAny_call (yD (s:=s) I.iT M.makes M.init (fun self=>W.Looks.of_pure (W.oi_bind self)) ?_);obtain⟨hh,g,d,t,os⟩:=s;have Y:=W.makes_of (M:=model X.prog X.w) I.iT M.makes;have t1:W.Looks (model X.prog X.w) ((hh.push W.emptyDict).push (W.instObj C hh.objs.size)) (typeOf (.ref (hh.objs.size+1))) (.ref C):=by
   have e2:=VJ (hh.push W.emptyDict) (o:=W.instObj C hh.objs.size) rfl;rw[WS] at e2;exact(W.Looks.ld e2).andThen .now
 have t2:W.Looks (model X.prog X.w) ((hh.push W.emptyDict).push (W.instObj C hh.objs.size)) (isInstance (.ref (hh.objs.size+1)) (.type "object")) true:=t1.andThen (Y.top.keeps fun b o e=>Te _ (Te _ e));refine codeAny_call_builtin W.oi_plain W.entry_oi (@W.check_slot (model X.prog X.w) _ _ _ "object.__init__" "object" "__init__" (.ref (hh.objs.size+1)) [] [] _ W.oi_kind W.oi_split t2 (W.oi_args (.ref (hh.objs.size+1))) ?_);rw[W.oi_run];exact wpAny_pure (And.intro rfl ⟨V.ref (hh.objs.size+1),_,I2,rfl,hq⟩)
theorem cu (he:EE X G dl e (.obj C fs))(c:qp X.K C)(n:cO X.K C f)(h:fs.lookup f=some d)(hb:autoParam (attributeBase e f X.env (eval e X.env)=eval e X.env) jp):EE X G dl (.Attribute e f pos) d:=
 fG (rJ he hb) fun st H Q zq=>xa zq fun Hf S k=>fun v Hf1 H1 g1 r1=>by
   cases r1 with
   | @obj a _ dx fv _ q r=>
     obtain⟨y,h1,h2⟩:=r.lookup h;exact⟨a,C,dx,fv,y,rfl,d8 g1.sub q,c,n,h1,k y Hf1 H1 g1 h2⟩
theorem r0 (hm:X.mg "len"=none)(ha:EE X G dl a (.lst ds))(hg:autoParam (Gl X "len") jp)(he:autoParam (starEach [a] X.env=[(false,eval a X.env)]) jp):EE X G dl (.Call (.Name "len" p) [a] [] pos) (.int ds.length):=
 fG (e9 lz hg hm PySem.boot_len (ae ha ak he) (he:=he)) fun st H Q zq=>xa zq fun Hf S k=>fun vs Hf1 H1 g1 r1=>by
   cases r1 with
   | cons r t=>cases t;cases r with
     | @lst q vs _ z w=>exact⟨q,vs,rfl,.inl (.of (g1.sub _ _ z)),by rw[w.length];exact k _ Hf1 H1 g1 (.int _)⟩
theorem xx {ns:List Int}(hm:X.mg "len"=none)(ha:EE X G dl a (.jq ns))(hg:autoParam (Gl X "len") jp)(he:autoParam (starEach [a] X.env=[(false,eval a X.env)]) jp):EE X G dl (.Call (.Name "len" p) [a] [] pos) (.int ns.length):=
 fG (e9 lz hg hm PySem.boot_len (ae ha ak he) (he:=he)) fun st H Q zq=>xa zq fun Hf S k=>fun vs Hf1 H1 g1 r1=>by
   cases r1 with
   | cons r t=>cases t;cases r with
     | @jq q _ z=>exact⟨q,_,rfl,.inl (g1.sub.seq z),by rw[ou];exact k _ Hf1 H1 g1 (.int _)⟩
theorem oj (hm:X.mg "len"=none)(ha:EE X G dl a (.str x))(hl:x.length<=sizeLine)(hg:autoParam (Gl X "len") jp)(he:autoParam (starEach [a] X.env=[(false,eval a X.env)]) jp):EE X G dl (.Call (.Name "len" p) [a] [] pos) (.int x.length):=
 fG (e9 rR hg hm PySem.boot_len (ae ha ak he) (he:=he)) fun st H Q zq=>xa zq fun Hf S k=>fun vs Hf1 H1 g1 r1=>by
   cases r1 with
   | cons r t=>cases t;cases r;exact⟨x,rfl,hl,k _ Hf1 H1 g1 (.int _)⟩
noncomputable def OE:Dt->Value
 | .b0=>.type "NoneType"
 | .bl _=>.type "bool"
 | .int _=>.type "int"
 | .str _=>.type "str"
 | .tup _=>.type "tuple"
 | .lst _=>.type "list"
 | .jq _=>.type "list"
 | .b6 _=>.type "dict"
 | .obj C _=>.ref C
 | .ty _=>.type "type"
 | .cls _=>.type "type"
 | .xo C=>.ref C
 | .eV _=>.type "dict"
 | .vD C _=>.ref C
 | .cK _=>.type "dict"
 | .memo _ _ _ _=>.type "list"
 | .cM _ _ _ _=>.type "list"
 | .qu _ _ _=>.type "NoneType"
 | .ql C _ _ _ _=>.ref C
 | _=>.type "object"
structure Nh (K:W.Frag)(C:Addr):Prop where
 cl:qp K C
 ha:W.findIn K (.ref C) "__class__"=some (some (.builtin "object.__class__"))
 hn:W.specialIn K (.builtin "object.__class__") "__get__"=some (some (.builtin "getset_descriptor.__get__"))
 Hd:W.takesIn K (.builtin "object.__class__")=some true
 hm:W.mroIn K C (.type "object")=some true
def HE (K:W.Frag):Dt->Prop
 | .obj C _=>Nh K C
 | .xo C=>J1 K C
 | .vD C _=>J1 K C
 | .memo _ _ _ _=>False
 | .cM _ _ _ _=>False
 | .qu _ _ _=>False
 | .ql C _ _ _ _=>Nh K C
 | .ml _=>False
 | .ir _=>False
 | .ty _=>False
 | .cls _=>False
 | _=>True
noncomputable def K9:Dt->Option Value
 | .ty n=>some (.type n)
 | .cls C=>some (.ref C)
 | _=>none
theorem AG {pins:List (Addr×Obj)}{st:L2.St}{Hf H:Hp}{s:Shared}{Q:Value->Shared->Prop}{w:V}{z c:Value}{r:Bool}(I:L2.Inv X pins st H s)(sm:ay Hf H)(rp:Rep X.K Hf w d)(rx:RelV w z)(t:HE X.K d)(e:W.kitOne X.K (OE d) c=some r)(h:∀ tk,Q (.bool r) { s with toks:=tk}):wpAny (model X.prog X.w) X.A (call (.builtin "isinstance") [z,c]) Q X.xe s:=by
 cases rp with
 | b0=>cases (show z=Value.none from rx);exact W.kia_one W.kitx_none I.iT True.intro e (fun z=>nomatch z) h
 | bl y=>cases (show z=Value.bool y from rx);exact W.kia_one W.kitx_bool I.iT True.intro e (fun z=>nomatch z) h
 | int i=>obtain⟨t,q⟩:=(show ∃ t,z=Value.int i t from rx);cases q;exact W.kia_one W.kitx_int I.iT True.intro e (fun z=>nomatch z) h
 | str y=>obtain⟨t,q⟩:=(show ∃ t,z=Value.str y t from rx);cases q;exact W.kia_one W.kitx_str I.iT True.intro e (fun z=>nomatch z) h
 | @tup a vs ds q rr=>
   cases (show z=Value.ref a from rx);obtain⟨aE,_,⟨o,h1,h2,_⟩,_⟩:=I.tuple (dv sm q);exact W.kia_one W.kitx_tuple I.iT ⟨o,h1,h2⟩ e (fun z=>nomatch z) h
 | @lst a vs ds q rr=>
   cases (show z=Value.ref a from rx);obtain⟨aE,_,⟨o,n,h1,h2,_⟩,_⟩:=I.list (.of (sm _ _ q));exact W.kia_one W.kitx_list I.iT ⟨o,h1,h2⟩ e (fun z=>nomatch z) h
 | @jq a ns q=>
   cases (show z=Value.ref a from rx);obtain⟨aE,_,⟨o,n,h1,h2,_⟩,_⟩:=I.list (sm.seq q);exact W.kia_one W.kitx_list I.iT ⟨o,h1,h2⟩ e (fun z=>nomatch z) h
 | @b6 a kvs kds q rr=>
   cases (show z=Value.ref a from rx);exact mf (x:=.ref a) I rfl (.dK (sm _ _ q)) e h
 | @obj a C dx fv fs q rr=>
   cases (show z=Value.ref a from rx);have t:Nh X.K C:=t;exact mf (x:=.ref a) I rfl (.ins (d8 sm q) t.cl t.ha t.hn t.Hd t.hm) e h
 | ty n=>exact t.elim
 | cls C=>exact t.elim
 | @xo a C ph q hp=>
   cases (show z=Value.ref a from rx);have t:J1 X.K C:=t;have ok:aD X.prog X.w H s.heap a (.ext ph):=I.aK a _ (sm _ _ q);exact W.kia_one (uA t) I.iT (hp _ ok.1) e (fun z=>nomatch z) h
 | @eV a ob kvs kds q rr=>
   cases (show z=Value.ref a from rx);obtain⟨_,_,vs,_,D⟩:=iD (kvs:=kvs) I.aK (.inr (.inl ⟨ob,sm _ _ q⟩));exact W.kia_one W.kitx_dict I.iT D.typeIs e (fun z=>nomatch z) h
 | @vD a C dx ph fv fs q hp g rr=>
   cases (show z=Value.ref a from rx);have t:J1 X.K C:=t;have ok:aD X.prog X.w H s.heap a (.ext ph):=I.aK a _ (sm _ _ q);exact W.kia_one (uA t) I.iT (hp _ ok.1).of e (fun z=>nomatch z) h
 | @cK a tg ob kvs kds q rr=>
   cases (show z=Value.ref a from rx);obtain⟨_,_,vs,_,D⟩:=iD (kvs:=kvs) I.aK (.inr (.inr (.inl ⟨tg,ob,kvs,sm _ _ q,rfl⟩)));exact W.kia_one W.kitx_dict I.iT D.typeIs e (fun z=>nomatch z) h
 | memo=>exact t.elim
 | cM=>exact t.elim
 | ml=>exact t.elim
 | ir=>exact t.elim
 | qu=>exact t.elim
 | @ql a _ C dx fv fs gs nm n ls _ q rr=>
   cases (show z=Value.ref a from rx);have t:Nh X.K C:=t;exact mf (x:=.ref a) I rfl (.ins (d8 sm q) t.cl t.ha t.hn t.Hd t.hm) e h
theorem boot_isinstance:bootBuiltins "isinstance"=some (.builtin "isinstance"):=by decide +kernel
def OF (K:W.Frag)(d d2:Dt)(r:Bool):List V->Hp->VK->Prop:=fun xs H Q=>∃ Hf w c,xs=[w,c]/\ay Hf H/\Rep K Hf w d/\Rep K Hf c d2/\Q (.bl r) H
theorem AH {r:Bool}{z:Value}(hc:K9 d2=some z)(t:HE X.K d)(h:W.kitOne X.K (OE d) z=some r):gD X (.builtin "isinstance") (OF X.K d d2 r):=by
 intro pins s st H xs us Q I rv ⟨Hf,w,c,e,sm,r1,r2,q⟩;subst e;cases rv with
 | cons q1 t1=>
   cases t1 with
   | cons q2 t2=>
     cases t2;rename_i ud uc;have ez:uc=z:=by
       cases r2 with
       | ty n=>cases hc;exact q2
       | cls C=>cases hc;exact q2
       | _=>cases hc
     subst ez;exact AG I sm r1 q1 t h fun tk=>⟨.bl r,H,I.tok _,rfl,q⟩
theorem r6 {r:Bool}{z:Value}(hm:X.mg "isinstance"=none)(ha:EE X G dl a d)(hb:EE X G dl b d2)(hc:K9 d2=some z)(t:HE X.K d)(h:W.kitOne X.K (OE d) z=some r)(hg:autoParam (Gl X "isinstance") jp)(he:autoParam (starEach [a,b] X.env=(false,eval a X.env)::starEach [b] X.env) jp)(HF:autoParam (starEach [b] X.env=[(false,eval b X.env)]) jp)(jn:autoParam ((backTo pos (starEach [b] X.env)).any (·.1)=false) jp):EE X G dl (.Call (.Name "isinstance" p) [a,b] [] pos) (.bl r):=
 fG (e9 (AH hc t h) hg hm boot_isinstance (ae ha (ae hb ak HF) he) (by decide) (by decide) he jn) fun st H Q zq=>xa zq fun Hf S k=>fun vs Hf1 H1 g1 r1=>by
   cases r1 with
   | cons r1 t1=>cases t1 with
     | cons r2 t2=>cases t2;exact⟨Hf1,_,_,rfl,g1.sub,r1,r2,k _ Hf1 H1 g1 (.bl _)⟩
mutual
noncomputable def pd:Dt->PyData
 | .b0=>.none
 | .bl b=>.bool b
 | .int i=>.int i
 | .str x=>.str x
 | .tup ds=>.tuple (C6 ds)
 | .lst ds=>.list (C6 ds)
 | .jq _=>.none
 | .b6 _=>.none
 | .obj _ _=>.none
 | .ty _=>.none
 | .cls _=>.none
 | .xo _=>.none
 | .eV _=>.none
 | .vD _ _=>.none
 | .cK _=>.none
 | .memo _ _ _ _=>.none
 | .cM _ _ _ _=>.none
 | .qu _ _ _=>.none
 | .ql _ _ _ _ _=>.none
 | .ml _=>.none
 | .ir _=>.none
noncomputable def C6:List Dt->List PyData
 | []=>[]
 | d::r=>pd d::C6 r
end
mutual
noncomputable def plain:Dt->Bool
 | .tup ds=>kW ds
 | .lst ds=>kW ds
 | .jq _=>false
 | .b6 _=>false
 | .obj _ _=>false
 | .ty _=>false
 | .cls _=>false
 | .xo _=>false
 | .eV _=>false
 | .vD _ _=>false
 | .cK _=>false
 | .memo _ _ _ _=>false
 | .cM _ _ _ _=>false
 | .qu _ _ _=>false
 | .ql _ _ _ _ _=>false
 | .ml _=>false
 | .ir _=>false
 | .b0=>true
 | .bl _=>true
 | .int _=>true
 | .str _=>true
noncomputable def kW:List Dt->Bool
 | []=>true
 | d::r=>plain d && kW r
end
section
variable {pins:List (Addr×Obj)}{st:L2.St}{Hf H:Hp}{s:Shared}
mutual
theorem o9 (I:L2.Inv X pins st H s)(sm:ay Hf H):∀ {w:V} {d:Dt} {z:Value},Rep X.K Hf w d->plain d=true->RelV w z->∃ as,Reads s.heap z (pd d) as
 | _,_,z,.b0,_,r=>by cases (show z=Value.none from r);exact⟨_,.none⟩
 | _,_,z,.bl b,_,r=>by cases (show z=Value.bool b from r);exact⟨_,.bool b⟩
 | _,_,z,.int i,_,r=>by obtain⟨t,q⟩:=(show ∃ t,z=Value.int i t from r);cases q;exact⟨_,.int i t⟩
 | _,_,z,.str x,_,r=>by obtain⟨t,q⟩:=(show ∃ t,z=Value.str x t from r);cases q;exact⟨_,.str x t⟩
 | _,_,z,@Rep.tup _ _ a vs ds q rr,h,r=>by
   cases (show z=Value.ref a from r);obtain⟨aE,rv,⟨o,h1,h2,n,h3⟩,_⟩:=I.tuple (dv sm q);obtain⟨as,ra⟩:=mq I sm rr (by rw[plain] at h;exact h) rv;refine⟨as,?_⟩;rw[pd];exact .tuple h1 h2 h3 (by simpa using ra)
 | _,_,z,@Rep.lst _ _ a vs ds q rr,h,r=>by
   cases (show z=Value.ref a from r);obtain⟨aE,rv,⟨o,n,h1,h2,_,h3⟩,_⟩:=I.list (.of (sm _ _ q));obtain⟨as,ra⟩:=mq I sm rr (by rw[plain] at h;exact h) rv;refine⟨a::as,?_⟩;rw[pd];exact .list h1 h2 h3 (by simpa using ra)
 | _,_,_,.b6 _ _,h,_=>by rw[plain] at h;cases h
 | _,_,_,.jq _,h,_=>by rw[plain] at h;cases h
 | _,_,_,.obj _ _,h,_=>by rw[plain] at h;cases h
 | _,_,_,.ty _,h,_=>by rw[plain] at h;cases h
 | _,_,_,.cls _,h,_=>by rw[plain] at h;cases h
 | _,_,_,.xo _ _,h,_=>by rw[plain] at h;cases h
 | _,_,_,.eV _ _,h,_=>by rw[plain] at h;cases h
 | _,_,_,.vD _ _ _ _,h,_=>by rw[plain] at h;cases h
 | _,_,_,.cK _ _,h,_=>by rw[plain] at h;cases h
 | _,_,_,.memo _ _ _ _,h,_=>by rw[plain] at h;cases h
 | _,_,_,.cM _ _ _ _,h,_=>by rw[plain] at h;cases h
 | _,_,_,.qu _,h,_=>by rw[plain] at h;cases h
 | _,_,_,.ql _ _ _,h,_=>by rw[plain] at h;cases h
 | _,_,_,.ml _,h,_=>by rw[plain] at h;cases h
 | _,_,_,.ir _,h,_=>by rw[plain] at h;cases h
theorem mq (I:L2.Inv X pins st H s)(sm:ay Hf H):∀ {vs:List V} {ds:List Dt} {zs:List Value},bu X.K Hf vs ds->kW ds=true->Vals vs zs->∃ as,ReadsAll s.heap zs (C6 ds) as
 | _,_,_,.nil,_,.nil=>⟨[],by rw[C6];exact .nil⟩
 | _,_,_,.cons r t,h,.cons q w=>by
   rw[kW,Wn] at h;obtain⟨as,h1⟩:=o9 I sm r h.1 q;obtain⟨bs,h2⟩:=mq I sm t h.2 w;exact⟨as ++ bs,by rw[C6];exact .cons h1 h2⟩
end
end
def HG (d:Dt):Prop:=plain d=true/\SeqAt.shaped (pd d)=true
def La (K:PySem.W.Frag)(d1 d2:Dt)(g:Bool->Bool):R2:=fun x y H Q=>∃ Hf,ay Hf H/\Rep K Hf x d1/\Rep K Hf y d2/\HG d1/\HG d2/\Q (.bl (g (PyData.eqv (pd d1) (pd d2)))) H
theorem HH (hu:X.A.units+64 < cLine):kS X (compareOp .NotEq) (La X.K d1 d2 (!·)):=by
 intro pins s st H x y v w Q I rx ry ⟨Hf,sm,r1,r2,o1,o2,q⟩;obtain⟨as,h1⟩:=o9 I sm r1 o1.1 rx;obtain⟨bs,h2⟩:=o9 I sm r2 o2.1 ry;exact ne_dataH h1 h2 o1.2 o2.2 hu ⟨.bl _,H,I,rfl,q⟩
theorem HI {K:W.Frag}{g:Bool->Bool}(o1:HG d1)(o2:HG d2):xr K (La K d1 d2 g) d1 d2 (.bl (g (PyData.eqv (pd d1) (pd d2)))):=fun v w Hf H Q s r1 r2 k=>⟨Hf,s,r1,r2,o1,o2,k _ Hf H (.refl s) (.bl _)⟩
mutual
theorem eqv_refl:∀ d:Dt,plain d=true->PyData.eqv (pd d) (pd d)=true
 | .b0,_=>by simp[pd,PyData.eqv]
 | .bl b,_=>by simp[pd,PyData.eqv]
 | .int i,_=>by simp[pd,PyData.eqv]
 | .str x,_=>by simp[pd,PyData.eqv]
 | .tup ds,h=>by rw[plain] at h;rw[pd,PyData.eqv];exact mv ds h
 | .lst ds,h=>by rw[plain] at h;rw[pd,PyData.eqv];exact mv ds h
 | .b6 _,h=>by rw[plain] at h;cases h
 | .jq _,h=>by rw[plain] at h;cases h
 | .obj _ _,h=>by rw[plain] at h;cases h
 | .ty _,h=>by rw[plain] at h;cases h
 | .cls _,h=>by rw[plain] at h;cases h
 | .xo _,h=>by rw[plain] at h;cases h
 | .eV _,h=>by rw[plain] at h;cases h
 | .vD _ _,h=>by rw[plain] at h;cases h
 | .cK _,h=>by rw[plain] at h;cases h
 | .memo _ _ _ _,h=>by rw[plain] at h;cases h
 | .cM _ _ _ _,h=>by rw[plain] at h;cases h
 | .qu _ _ _,h=>by rw[plain] at h;cases h
 | .ql _ _ _ _ _,h=>by rw[plain] at h;cases h
theorem mv:∀ ds:List Dt,kW ds=true->PyData.eqvAll (C6 ds) (C6 ds)=true
 | [],_=>by simp[C6,PyData.eqvAll]
 | d::r,h=>by
   rw[kW,Wn] at h;rw[C6,PyData.eqvAll,eqv_refl d h.1,mv r h.2];rfl
end
theorem Lb (hr:X.A.units+64 < cLine)(ha:EE X G dl a d1)(hb:EE X G dl b d2)(o1:HG d1)(o2:HG d2)(hu:(!PyData.eqv (pd d1) (pd d2))=u):EB X G dl (.Compare a [.NotEq] [b] pos) u:=by
 subst hu;exact iW (HH hr) (HI (g:=(!·)) o1 o2) (ip _) ha hb
theorem nv (ha:EE X G dl a (.int i))(hb:EE X G dl b (.int j)):EB X G dl (.Compare a [.Lt] [b] pos) (decide (i < j)):=iW Kx (nu (g':=fun i j=>.bl (decide (i < j))) fun _ _ _ _=>.bl _) (ip _) ha hb
theorem pj (ha:EE X G dl a (.int i))(hb:EE X G dl b (.int j)):EB X G dl (.Compare a [.LtE] [b] pos) (decide (i<=j)):=iW Ad (nu (g':=fun i j=>.bl (decide (i<=j))) fun _ _ _ _=>.bl _) (ip _) ha hb
theorem ny (ha:EE X G dl a (.int i))(hb:EE X G dl b (.int j)):EB X G dl (.Compare a [.Gt] [b] pos) (decide (j < i)):=iW Ky (nu (g':=fun i j=>.bl (decide (j < i))) fun _ _ _ _=>.bl _) (ip _) ha hb
theorem FP (ha:EE X G dl a (.int i))(hb:EE X G dl b (.int j)):EB X G dl (.Compare a [.GtE] [b] pos) (decide (j<=i)):=iW Kz (nu (g':=fun i j=>.bl (decide (j<=i))) fun _ _ _ _=>.bl _) (ip _) ha hb
theorem v9 {K:W.Frag}{w1 w2:V}{g:Bool->Bool}(h1:∀ H w,Rep K H w d1->w=w1)(h2:∀ H w,Rep K H w d2->w=w2)(hs:G7 w1 w2=true):xr K (fun x y H Q=>G7 x y=true/\Q (.bl (g (decide (x=y)))) H) d1 d2 (.bl (g (decide (w1=w2)))):=fun v w Hf H Q s r1 r2 k=>by
 cases h1 _ _ r1;cases h2 _ _ r2;exact⟨hs,k _ Hf H (.refl s) (.bl _)⟩
theorem og (i j:Int):decide (V.int i=V.int j)=decide (i=j):=by simp
theorem rG (i j:Str):decide (V.str i=V.str j)=decide (i=j):=by simp
theorem HJ (ha:EE X G dl a (.int i))(hb:EE X G dl b (.int j)):EE X G dl (.Compare a [.Eq] [b] pos) (.bl (decide (i=j))):=by
 rw[<- og];exact rX Ac (v9 (g:=id) (fun _ _ r=>by cases r;rfl) (fun _ _ r=>by cases r;rfl) rfl) (ip _) ha hb
theorem bP (ha:EE X G dl a (.int i))(hb:EE X G dl b (.int j)):EB X G dl (.Compare a [.Eq] [b] pos) (decide (i=j)):=by
 rw[<- og];exact iW Ac (v9 (g:=id) (fun _ _ r=>by cases r;rfl) (fun _ _ r=>by cases r;rfl) rfl) (ip _) ha hb
theorem HK (ha:EE X G dl a (.str x))(hb:EE X G dl b (.str y)):EB X G dl (.Compare a [.Eq] [b] pos) (decide (x=y)):=by
 rw[<- rG];exact iW Ac (v9 (g:=id) (fun _ _ r=>by cases r;rfl) (fun _ _ r=>by cases r;rfl) rfl) (ip _) ha hb
end
structure GF (P:Program)(w:World)(K:W.Frag)(mg:Str->Option Value)(base:Heap)(CX:kT)(k:Nat)(x:Str)(n:Nat)(R:List Dt->Res->Prop):Prop where
 ex:∃ f fd ps,gu P w K mg base CX k f fd ps (AB K n R)/\mg x=some (.ref f)/\W.keepIn K (.ref f)=true/\Binds K fd ps []
structure MF (P:Program)(w:World)(K:W.Frag)(mg:Str->Option Value)(base:Heap)(CX:kT)(k:Nat)(C:Addr)(m:Str)(n:Nat)(R:List Dt->Res->Prop):Prop where
 cl:qp K C
 ex:∃ f fd ps,gu P w K mg base CX k f fd ps (AB K n R)/\Meth K C m f/\Binds K fd ps []
section
variable {X:Cx}{G:Gr}{dl:List Slot}{e:Expr}{es:List Expr}{d:Dt}{ds:List Dt}{pos p apos:Pos}{x m:Str}{C:Addr}{fs:List (Str×Dt)}{CX:kT}{k k' n:Nat}{R:List Dt->Res->Prop}{ob:Expr}
theorem b7 (F:GF X.prog X.w X.K X.mg X.base CX k x n R)(nx:v8 CX)(hr:cA k' X.A)(ha:EA X G dl (e::es) ds)(h:R ds (.ret d))(qW:autoParam (k<=k') jM)(hl:autoParam (ds.length=n) jp)(hg:autoParam (Gl X x) jp)(hU:autoParam ((x == ("__debug__":Str))=false) jM)(he:autoParam (starEach (e::es) X.env=(false,eval e X.env)::starEach es X.env) jp)(jn:autoParam ((backTo pos (starEach es X.env)).any (·.1)=false) jp):EE X G dl (.Call (.Name x p) (e::es) [] pos) d:=by
 obtain⟨f,fd,ps,F,hm,hk,hb⟩:=F.ex;refine DQ (dvs:=[]) (vds:=[]) F nx (hr.mono qW) hm hk hb .nil (fun _=>.nil) ha (by rw[Wq];exact hl) (by rw[Wq];exact h) hg hU he jn
theorem cN {pl:Sem Bool}(he:EE X G dl ob (.obj C fs))(F:MF X.prog X.w X.K X.mg X.base CX k C m n R)(nx:v8 CX)(hr:cA k' X.A)(ha:EA X G dl (e::es) ds)(h:R (.obj C fs::ds) (.ret d))(qW:autoParam (k<=k') jM)(hl:autoParam ((Dt.obj C fs::ds).length=n) jp)(qm:autoParam (fs.lookup m=none) jp)
   (jf:autoParam (starEach (e::es) X.env=(false,eval e X.env)::starEach es X.env) jp) (jn:autoParam ((backTo pos (starEach es X.env)).any (·.1)=false) jp)
   (ht:autoParam (eval (.Call (.Attribute ob m apos) (e::es) [] pos) X.env=(do
     let ov <- eval ob X.env
     standAt apos.atName
     let (f,first) <- holding [ov] (getMethod ov m pl)
     callWith pos f first (backTo pos (starEach (e::es) X.env)) (backToKw pos (keywordEach [] X.env)))) jp):EE X G dl (.Call (.Attribute ob m apos) (e::es) [] pos) d:=by
 obtain⟨f,fd,ps,Fo,hm,hb⟩:=F.ex;refine xv (dvs:=[]) (vds:=[]) (pl:=pl) he F.cl hm Fo nx (hr.mono qW) hb .nil (fun _=>.nil) ha (by rw[Wq];exact hl) (by rw[Wq];exact h) qm jf jn ht
theorem mw {pl:Sem Bool}(he:EE X G dl ob (.obj C fs))(F:MF X.prog X.w X.K X.mg X.base CX k C m n R)(nx:v8 CX)(hr:cA k' X.A)(h:R [.obj C fs] (.ret d))(qW:autoParam (k<=k') jM)(hl:autoParam ([Dt.obj C fs].length=n) jp)(qm:autoParam (fs.lookup m=none) jp)
   (ht:autoParam (eval (.Call (.Attribute ob m apos) [] [] pos) X.env=(do
     let ov <- eval ob X.env
     standAt apos.atName
     let (f,first) <- holding [ov] (getMethod ov m pl)
     callWith pos f first (backTo pos (starEach [] X.env)) (backToKw pos (keywordEach [] X.env)))) jp):EE X G dl (.Call (.Attribute ob m apos) [] [] pos) d:=by
 obtain⟨f,fd,ps,Fo,hm,hb⟩:=F.ex;refine AF (dvs:=[]) (vds:=[]) (pl:=pl) he F.cl hm Fo nx (hr.mono qW) hb .nil (fun _=>.nil) hl h qm ht
end
noncomputable def QL:List Value:=[.type "ValueError",.type "Exception",.type "BaseException",.type "object"]
structure VD (K:W.Frag)(C:Addr):Prop where
 ex:W.excIn K C QL "ValueError.__new__"=true
def qw:Value->Shared->Prop:=fun _ _=>False
theorem DR {P:Program}{w:World}{A:Around}{R:Result->Shared->Prop}{s:Shared}{elt tg iter:Expr}{sc:Scope}{pos:Pos}{it acc:Value}{env:Env}(J:Nat->Shared->Prop)
   (turn:∀ n s,J n s->wpAny (model P w) A (pyNext it) (fun r s1=>match r with
     | none=>R (.ok .next) s1
     | some v=>wpAny (model P w) A (letOwnedTupleGo tg it v) (fun _ s2=>wpAny (model P w) A (assign tg env v) (fun _ s3=>wpAny (model P w) A (eval elt env) (fun x s4=>
         wpAny (model P w) A (call (.builtin "list.append") [acc,x]) (fun _ s5=>∃ m,m < n/\J m s5) qw s4) qw s3) qw s2) qw s1) qw s)
   (n:Nat) (h:J n s):codeAny (model P w) A (.compLoop (.ListComp elt [⟨tg,iter,[],0⟩] sc pos) 0 it acc env) R s:=by
 have off:∀ {B:Value->Shared->Prop} (x:Value) (s':Shared),qw x s'->B x s':=fun _ _ z=>z.elim
 refine codeAny_loop rfl J (fun n s hJ=>?_) n h;show wpAny _ A ((compTurn (.ListComp elt [⟨tg,iter,[],0⟩] sc pos) 0 it acc env).onRaise (fun x=>(do noteFrame x env;theTreesLotGoes x))) _ _ s;refine wpAny_noted ?_;rw[compTurn_list1];refine wpAny_bind (wpAny_standAt (wpAny_bind (wpAny_mono (turn n s hJ) (fun r s1 h1=>?_) off)));cases r with
 | none=>exact wpAny_pure h1
 | some v=>
   refine wpAny_bind (wpAny_mono h1 (fun _ s2 h2=>wpAny_bind (wpAny_mono h2 (fun _ s3 h3=>wpAny_bind (wpAny_bind ?_)) off)) off);exact wpAny_mono h3 (fun x s4 h4=>wpAny_bind (wpAny_mono h4 (fun _ s5 h5=>wpAny_pure (wpAny_pure ⟨rfl,h5⟩)) off)) off
noncomputable def r8 (cells:List (Str×Addr)):List (Str×NameKind)->List (Str×Addr)->List (Str×Addr)
 | [],cs=>cs
 | (n,k)::r,cs=>if k == .free then r8 cells r ((n,(cells.lookup n).getD 0)::cs) else r8 cells r cs
noncomputable def g8 (sc:Scope)(env:Env):List (Str×Addr):=r8 env.cells sc.names []
theorem sd {env:Env}:∀ (l:List (Str×NameKind)) (cs:List (Str×Addr)),(∀ y∈l,y.2=.free->∃ c,env.cells.lookup y.1=some c) ->
   (forIn l cs fun(x:Str×NameKind) r=>(if x.2 == .free then (do let c <- cellOf env x.1;pure (ForInStep.yield ((x.1,c)::r))) else pure (ForInStep.yield r):Sem _))=pure (r8 env.cells l cs)
 | [],cs,_=>rfl
 | (n,k)::l,cs,h=>by
   have hr:∀ y∈l,y.2=.free->∃ c,env.cells.lookup y.1=some c:=fun y hy=>h y (Wk _ hy)
   rw[List.forIn_cons,r8];by_cases hk:(k == NameKind.free)=true
   . obtain⟨c,hc⟩:=h (n,k) WG (by simpa using hk)
     have hc:env.cells.lookup n=some c:=hc;simp only[hk,if_true,cellOf,hc,pure_bind,Option.getD_some];exact sd l _ hr
   . simp only[hk,if_false,pure_bind]
     exact sd l _ hr
theorem se {sc:Scope}{env:Env}(h:∀ y∈sc.names,y.2=.free->∃ c,env.cells.lookup y.1=some c):closureFor sc env=pure (g8 sc env):=by
 unfold closureFor g8;have:=sd (env:=env) sc.names [] h;simp only[bind_pure];refine Eq.trans ?_ this
 congr 1
theorem lC {cells:List (Str×Addr)}{y:Str}{c:Addr}:∀ (l:List (Str×NameKind)) (cs:List (Str×Addr)),(r8 cells l cs).lookup y=some c->((y,NameKind.free)∈l/\(cells.lookup y).getD 0=c)\/cs.lookup y=some c
 | [],cs,h=>.inr h
 | (n,k)::l,cs,h=>by
   rw[r8] at h;by_cases hk:(k == NameKind.free)=true
   . rw[if_pos hk] at h
     have DS:k=.free:=by simpa using hk
     subst DS;rcases lC l _ h with⟨h1,h2⟩ | h1
     . exact .inl ⟨Wk _ h1,h2⟩
     . rw[Wt] at h1
       cases q:(y == n) with
       | true=>
         rw[q] at h1;have e:y=n:=by simpa using q
         subst e;exact .inl ⟨WG,Option.some.inj h1⟩
       | false=>rw[q] at h1;exact .inr h1
   . rw[if_neg hk] at h
     rcases lC l _ h with⟨h1,h2⟩ | h1
     . exact .inl ⟨Wk _ h1,h2⟩
     . exact .inr h1
theorem gd {cells:List (Str×Addr)}{y:Str}:∀ (l:List (Str×NameKind)) (cs:List (Str×Addr)),((y,NameKind.free)∈l\/∃ c,cs.lookup y=some c)->∃ c,(r8 cells l cs).lookup y=some c
 | [],cs,h=>by
   rcases h with h | h
   . cases h
   . exact h
 | (n,k)::l,cs,h=>by
   rw[r8];by_cases hk:(k == NameKind.free)=true
   . rw[if_pos hk]
     refine gd l _ ?_;rcases h with h | ⟨c,h⟩
     . rcases Wh.mp h with h | h
       . cases h;exact .inr ⟨_,by rw[Wt,show(y == y)=true by simp]⟩
       . exact .inl h
     . refine .inr ?_
       rw[Wt];cases q:(y == n) with
       | true=>exact⟨_,rfl⟩
       | false=>exact⟨c,h⟩
   . rw[if_neg hk]
     refine gd l _ ?_;rcases h with h | h
     . rcases Wh.mp h with h | h
       . cases h;exact absurd rfl hk
       . exact .inl h
     . exact .inr h
theorem dw {env:Env}{y:Str}{k:NameKind}:∀ {names:List (Str×NameKind)},(names.map fun(n,k)=>if (k == NameKind.free && env.scope.kind == .function && env.kindOf n == some .cell) then (n,NameKind.cell) else (n,k)).lookup y=some k->∃ k',(y,k')∈names/\(k=k'\/k'=.free)
 | [],h=>by simp at h
 | (n,kk)::r,h=>by
   rw[V7,Wt] at h;by_cases hc:(kk == NameKind.free && env.scope.kind == .function && env.kindOf n == some .cell)=true
   . simp only[hc,if_true] at h
     cases q:(y == n) with
     | true=>
       have e:y=n:=by simpa using q
       subst e;have:kk=.free:=by
         have:=hc;simp at this;exact this.1.1
       exact⟨kk,WG,.inr this⟩
     | false=>
       rw[q] at h;obtain⟨k',h1,h2⟩:=dw h;exact⟨k',Wk _ h1,h2⟩
   . simp only[hc,WH,if_false] at h
     cases q:(y == n) with
     | true=>
       have e:y=n:=by simpa using q
       subst e;rw[q] at h;exact⟨kk,WG,.inl (Option.some.inj h).symm⟩
     | false=>
       rw[q] at h;obtain⟨k',h1,h2⟩:=dw h;exact⟨k',Wk _ h1,h2⟩
theorem iX {env:Env}{y:Str}:∀ {names:List (Str×NameKind)},names.lookup y=some .free->(names.map fun(n,k)=>if (k == NameKind.free && env.scope.kind == .function && env.kindOf n == some .cell) then (n,NameKind.cell) else (n,k)).lookup y=some .cell \/
   (names.map fun(n,k)=>if (k == NameKind.free && env.scope.kind == .function && env.kindOf n == some .cell) then (n,NameKind.cell) else (n,k)).lookup y=some .free
 | [],h=>by simp at h
 | (n,kk)::r,h=>by
   rw[V7,Wt];rw[Wt] at h;cases q:(y == n) with
   | true=>
     rw[q] at h;have:kk=.free:=Option.some.inj h;subst this;by_cases hc:(NameKind.free == NameKind.free && env.scope.kind == .function && env.kindOf n == some .cell)=true
     . left;simp only[hc,if_true];simp[q]
     . right;simp only[hc,WH,if_false];simp[q]
   | false=>
     rw[q] at h;have ih:=iX (env:=env) h;by_cases hc:(kk == NameKind.free && env.scope.kind == .function && env.kindOf n == some .cell)=true
     . simp only[hc,if_true,q];exact ih
     . simp only[hc,WH,if_false,q];exact ih
structure gf (X:Cx)(N:List Str)(ix:List Nat)(x:Str)(sc:Scope):Prop where
 nd:N.Nodup
 nm:N=x::ix.map (fun j=>X.N.getD j "")
 kind:sc.kind=.function
 pk:∀ y∈sc.names,y.2≠.cell
 names:∀ y∈sc.names,y.2=.local->sc.names.lookup y.1=some .local
 hx:sc.names.lookup x=some .local
 fr:∀ y∈sc.names,y.2=.free->X.env.kindOf y.1=some .cell\/X.env.kindOf y.1=some .free
 Lc:∀ j∈ix,∃ y,X.N[j]?=some y/\sc.names.lookup y=some .free
noncomputable def aO (X:Cx)(N:List Str)(sc:Scope)(C:Addr)(fp:List Addr)(s:Shared)(H:Hp):Cx:=
 { X with N:=N,s₀:=s,H₀:=H,env:=compEnvC sc (g8 sc X.env) C X.env,outer:=X.stack,stack:=X.stack,ex:=fp,fn:=fun _=>false,pn:=[],xe:=qw}
noncomputable def frees (ix:List Nat)(st:L2.St):L2.St:=ix.map fun j=>(st[j]?).join
section
variable {X:Cx}{N:List Str}{ix:List Nat}{x:Str}{sc:Scope}{pins:List (Addr×Obj)}{st:L2.St}{H H':Hp}{s s':Shared}{C D:Addr}{fp:List Addr}{h1:Heap}
theorem HL (B:gf X N ix x sc)(ok:X.Ok):closureFor sc X.env=pure (g8 sc X.env):=se fun y hy hk=>ok.has y.1 (B.fr y hy hk)
theorem pq (B:gf X N ix x sc)(ok:X.Ok){y:Str}{c:Addr}(h:(g8 sc X.env).lookup y=some c):X.env.cells.lookup y=some c/\(y,NameKind.free)∈sc.names:=by
 rcases lC _ _ h with⟨h1,h2⟩ | h1
 . obtain⟨c',h3⟩:=ok.has y (B.fr _ h1 rfl)
   rw[h3] at h2;cases h2;exact⟨h3,h1⟩
 . cases h1
theorem sh (B:gf X N ix x sc)(I:L2.Inv X pins st H s)(hC:s.heap.objs.size<=C)(hf:∀ b∈fp,gT X pins H b)(b5:∀ b∈fp,b < s.heap.objs.size):(aO X N sc C fp s H).Ok where
 mod:=I.ok.mod
 kind:=B.kind
 glob:=I.ok.glob
 blt:=I.ok.blt
 above:=hC
 inj:=fun y z c h1 h2=>I.ok.inj y z c (pq B I.ok h1).1 (pq B I.ok h2).1
 has:=fun y hy=>by
   have hy:(relabel sc X.env).names.lookup y=some .cell\/(relabel sc X.env).names.lookup y=some .free:=hy;have:(y,NameKind.free)∈sc.names:=by
     rcases hy with hy | hy
     . obtain⟨k',h1,h2⟩:=dw hy
       rcases h2 with h2 | h2
       . subst h2;exact absurd rfl (B.pk _ h1)
       . subst h2;exact h1
     . obtain⟨k',h1,h2⟩:=dw hy
       rcases h2 with h2 | h2 <;> subst h2 <;> exact h1
   exact gd _ _ (.inl this)
 JU:=fun y c h=>by cases h
 hd:=I.ok.hd
 frames:=I.ok.frames
 Ke:=.inl rfl
 Dj:=fun b hb=>⟨V9 (V4 (b5 b hb) hC),fun y c h=>(hf b hb).2.2.2.2.1 y c (pq B I.ok h).1⟩
 bs:=I.bs
 xc:=We I.ok.xc I.sz
 t7:=fun b o e hb=>by
   rcases (hf b hb).2.2.2.1 with z | z
   . exact I.ok.t7 b o e z
   . exact absurd (V4 (VI e) (We I.ok.xc z)) (WK _)
 t8:=fun b hb z=>by
   rcases Wh.mp (I.oS b z) with z | z
   . exact(hf b hb).2.1 z
   . exact(hf b hb).2.2.1 z
 l7:=I.stack
 FA:=I.n9
theorem yQ (B:gf X N ix x sc)(I:L2.Inv X pins st H s)(hf:∀ b∈fp,gT X pins H b)(b5:∀ b∈fp,b < s.heap.objs.size)(hC:C=s.heap.objs.size+1)(k:∀ b o,s.heap.get? b=some o->h1.get? b=some o)(hn:h1.Ns C fun _=>none)(hD:h1.get? s.heap.objs.size=some { cls:=.type "list",data:=.seq ([]:List Value).toArray 0}){t':Nat}:L2.Inv (aO X N sc C fp s H) [] (none::frees ix st) (upd H s.heap.objs.size (.lst [])) { s with heap:=h1,toks:=t'}:=by
 have FQ:s.heap.objs.size<=C:=by rw[hC];exact WU _
 have fr:∀ a,s.heap.objs.size<=a->H a=none:=fun a ha=>I.aK.fresh ha
 have ok:=sh B I FQ hf b5;have vA:∀ y c,(g8 sc X.env).lookup y=some c->H c=none/\c < s.heap.objs.size/\∃ v,s.heap.IsCell c v:=fun y c h=>by
   have h:=(pq B I.ok h).1;obtain⟨v,q⟩:=I.cell y c h;exact⟨I.kH y c h,q.lt,v,q⟩
 refine⟨ok,rfl,I.bare,Un.laid k (O0 _) (fr _ (O0 _)),⟨_,hn,fun i y v e1 e2 e3=>?_⟩,fun y c h=>?_,?_,fun y c h=>?_,fun p hp=>absurd (show p∈([]:List (Addr×Obj)) from hp) (by simp),?_,?_⟩
 . have e1:N[i]?=some y:=e1
   cases i with
   | zero=>cases e2
   | succ i=>
     rw[B.nm,Wx,VB] at e1;rw[Wx] at e2;unfold frees at e2;rw[VB] at e2;cases q:ix[i]? with
     | none=>rw[q] at e1;cases e1
     | some j=>
       rw[q] at e1 e2;obtain⟨y',C7,AI⟩:=B.Lc j (WW q);have DT:=PySem.mem_of_lookup AI;have ey:y=y':=by
         have e1:X.N.getD j ""=y:=Option.some.inj e1;rw[Sl,C7] at e1;exact e1.symm
       subst ey;have e2:(st[j]?).join=some v:=Option.some.inj e2;have FR:st[j]?=some (some v):=by
         cases q2:st[j]? with
         | none=>rw[q2] at e2;cases e2
         | some z=>rw[q2] at e2;rw[show z=some v from e2]
       have kd:=B.fr _ DT rfl;have Ld:qI X.env.scope y:=by
         rcases kd with z | z
         . exact .inr (.inl z)
         . exact .inr (.inr z)
       obtain⟨m,_,hl⟩:=I.loc;obtain⟨u,r,l⟩:=hl j y v C7 FR Ld;refine⟨u,r,.inr ?_⟩;rcases l with⟨z,_⟩ | ⟨_,c,hc,ic⟩
       . rcases kd with z' | z' <;> rw[z] at z' <;> cases z'
       . obtain⟨c',vB⟩:=gd (cells:=X.env.cells) sc.names [] (.inl DT)
         have:=(pq B I.ok vB).1;rw[hc] at this;cases this;obtain⟨oc,xh,hd⟩:=ic;refine⟨?_,c,vB,oc,k _ _ xh,hd⟩;rcases e3 with e3 | e3 | e3
         . have e3:(relabel sc X.env).names.lookup y=some .local:=e3
           rcases iX (env:=X.env) AI with z | z
           . exact absurd (e3.symm.trans z) (by decide)
           . exact absurd (e3.symm.trans z) (by decide)
         . exact .inl e3
         . exact .inr e3
 . obtain⟨_,_,v,oc,xh,hd⟩:=vA y c h
   exact⟨v,oc,k _ _ xh,hd⟩
 . show upd H s.heap.objs.size (.lst []) C=none
   rw[ag (by rw[hC];exact Xc _)];exact fr _ FQ
 . show upd H s.heap.objs.size (.lst []) c=none
   obtain⟨q1,q2,_⟩:=vA y c h;rw[ag (V9 q2)];exact q1
 . exact I.aK.laid k (O0 _) ⟨Wr _,[],0,.nil,hD⟩
 . show(none::frees ix st).length=N.length
   rw[B.nm];unfold frees;simp
def HM (te:TE)(fs:L2.St)(J:It)(D:Addr)(Q:List V->Hp->Prop)(H:Hp):Prop:=
 ∃ W:Nat->Nat->List V->Hp->Prop,(∃ m,W 0 m [] (upd H D (.lst [])))/\∀ i m ys H1,W i m ys H1 ->
   (J.stop i H1/\Q ys H1)\/(J.go i H1/\ys.length < sizeLine/\∀ v H2,J.z8 i H1 v H2->te (some v::fs) H2 fun y H3=>H3 D=some (.lst ys)/\∃ m',m' < m/\W (i+1) m' (ys ++ [y]) (upd H3 D (.lst (ys ++ [y]))))
theorem DU {elt iter:Expr}{px pos:Pos}{te:TE}{J:It}{it:Addr}{tn:Nat->Heap->Prop}{Q:Addr->List V->Hp->Prop}{RR:Value->Addr->Result->Shared->Prop}{E:Value->Shared->Prop}(hc:X.calm=true)(B:gf X N ix x sc)(iu:∀ C fp s H,PE (aO X N sc C fp s H) elt te)(I:L2.Inv X pins st H s)(T:Turn X.prog X.w X.K (.Name x px) J fp it tn)(h0:tn 0 s.heap)(hf:∀ b∈fp,gT X pins H b)(hq:∀ D,H D=none->HM te (frees ix st) J D (Q D) H)(Lf:∀ D C ys H' s',L2.Inv X pins st H' s'->(∃ m,s'.heap.Ns C m)->gT X pins H' C->Q D ys H'->RR (.ref D) C (.ok .next) s'):wpAny (model X.prog X.w) X.A (newList []) (fun acc s3=>wpAny (model X.prog X.w) X.A (newFunctionEnv sc X.env.globals (g8 sc X.env) [] X.env.qual none .none (some X.env)) (fun uC s4=>codeAny (model X.prog X.w) X.A (.compStart (.ListComp elt [⟨.Name x px,iter,[],0⟩] sc pos) 0 (.ref it) acc { uC with scope:=relabel sc X.env}) (RR acc uC.locals) s4) E s3) E s:=by
 have b5:∀ b∈fp,b < s.heap.objs.size:=fun b hb=>by
   obtain⟨o,e,_⟩:=T.obj _ _ h0 b hb;exact VI e
 refine wpAny_newObj_type (wpAny_newFunctionEnv B.pk (fun y hy=>absurd hy (by simp)) (fun h1 zO yR=>?_) B.kind);dsimp only at zO yR ⊢;generalize hG:s.heap.push { cls:=.type "list",dict:=none,data:=.seq ([]:List Value).toArray}=g at zO yR ⊢;have hC:g.objs.size=s.heap.objs.size+1:=by rw[<- hG,WS]
 have Ni:s.heap.objs.size≠g.objs.size:=by rw[hC];exact V9 (WV _)
 have old:∀ b o,s.heap.get? b=some o->h1.get? b=some o:=fun b o e=>
   yR.extBut b o (by rw[hC];exact V9 (Xk (VI e))) (Te _ (hG ▸ Te _ e))
 have AJ:h1.get? s.heap.objs.size=some { cls:=.type "list",data:=.seq ([]:List Value).toArray 0}:=yR.extBut _ _ Ni (Te _ (hG ▸ VJ _ rfl));have hD:H s.heap.objs.size=none:=I.aK.fresh (O0 _);obtain⟨W,⟨m0,w0⟩,turn⟩:=hq _ hD;have I0:=yQ (t':=s.toks+([]:List (Str×Value)).length) B I hf b5 hC old (by simpa using zO) AJ;have FT:tn 0 h1:=T.keep _ _ _ h0 fun b _ o e=>old b o e
 have jB:s.heap.objs.size<=g.objs.size:=by rw[hC];exact WU _
 have kR:∀ {H':Hp},(∀ b∈fp,H' b=none)->∀ b∈fp,gT (aO X N sc g.objs.size fp s H) [] H' b:=fun {H'} hn b hb=>
   ⟨hn b hb,((sh B I jB hf b5).Dj b hb).1,(sh B I jB hf b5).t8 b hb,.inl hb,((sh B I jB hf b5).Dj b hb).2,fun p hp=>absurd (show p∈([]:List (Addr×Obj)) from hp) (by simp)⟩
 have hN:(aO X N sc g.objs.size fp s H).N[0]?=some x:=by
   show N[0]?=some x;rw[B.nm];rfl
 have C8:(aO X N sc g.objs.size fp s H).env.scope.names.lookup x=some .local:=lookup_relabel_local B.hx;have loop:∀ s3:Shared,s3={ s with heap:=h1,toks:=s.toks+([]:List (Str×Value)).length} ->
     codeAny (model X.prog X.w) X.A (.compLoop (.ListComp elt [⟨.Name x px,iter,[],0⟩] sc pos) 0 (.ref it) (.ref s.heap.objs.size) (compEnvC sc (g8 sc X.env) g.objs.size X.env)) (RR (.ref s.heap.objs.size) g.objs.size) s3:=by
   rintro s3 rfl
   refine DR (fun n s'=>∃ i ys σ H',L2.Inv (aO X N sc g.objs.size fp s H) [] (σ::frees ix st) H' s'/\tn i s'.heap/\(∀ b∈fp,H' b=none)/\W i n ys H') ?_ m0
     ⟨0,[],none,_,I0,FT,fun b hb=>?_,w0⟩
   . rintro n s5 ⟨i,ys,σ,H5,I5,zN,C3,w5⟩
     rcases turn i n ys H5 w5 with⟨stop,qn⟩ | ⟨go,hz,step⟩
     . refine bF (T.done (aO X N sc g.objs.size fp s H) rfl rfl rfl hc i [] s5 _ H5 qw I5 (kR C3) zN stop) fun r s6 ⟨hr,I6⟩=>?_
       subst hr;refine Lf _ _ ys H5 s6 ?_ ?_ (I.nG jB I6.free) qn
       . exact I.z6 I6.os I6.base I6.aK I6.bare fun b hb=>⟨(hf b hb).2.2.2.1,(hf b hb).2.1,(hf b hb).2.2.2.2.1,(hf b hb).2.2.2.2.2⟩
       . obtain⟨m,hm,_⟩:=I6.loc
         exact⟨m,hm⟩
     . refine bF (T.item (aO X N sc g.objs.size fp s H) rfl rfl rfl hc i [] s5 _ H5 qw I5 (kR C3) zN go) fun r s6 ⟨u,hr,h6⟩=>?_
       subst hr;refine bF h6 fun _ s7 ⟨v,H7,I7,r7,y7,AK,Lg⟩=>?_
       have Lh:=I7.pinned (kR Lg) (T.obj _ _ AK);refine bF (bh (X:=aO X N sc g.objs.size fp s H) (pos:=px) B.nd hN (.inl C8) (.inr C8) _ s7 _ H7 v u (fun σ' H'=>σ'=some v::frees ix st/\H'=H7) Lh r7 ⟨rfl,rfl⟩) fun _ s8 h8=>?_
       obtain⟨σ8,H8,I8,rfl,rfl⟩:=h8;refine bF (iu g.objs.size fp s H _ s8 _ H8 _ I8 (step v H8 y7)) fun z s9 ⟨y,H9,I9,r9,Li,m',hm,w9⟩=>?_
       refine bF (jW _ s9 _ H9 (.ref s.heap.objs.size) [y] (.ref s.heap.objs.size) [z] (fun _ H'=>H'=upd H9 s.heap.objs.size (.lst (ys ++ [y]))) I9 rfl (.cons r9 .nil) ⟨_,ys,y,rfl,rfl,Li,hz,rfl⟩) fun _ QM Lj=>?_
       obtain⟨_,QN,AL,_,rfl⟩:=Lj;refine⟨m',hm,i+1,ys ++ [y],some v,_,AL.f9 (pins:=[]),T.keep _ _ _ AK fun b hb o e=>(AL.pin (b,o) (Wa _ (Wa _ (du hb e)))).1,fun b hb=>?_,w9⟩;obtain⟨o,e,d⟩:=T.obj _ _ AK b hb;exact(AL.pin (b,o) (Wa _ (Wa _ (du hb e)))).2.1
   . rw[ag (V9 (b5 b hb))]
     exact(hf b hb).1
 exact codeAny_compStart_list (loop _ rfl) (T.self _ 0 _ _ _ FT (loop _ rfl))
end
def Nj (K:PySem.W.Frag)(G:Gr)(dl:List Slot)(o:Own):TE:=fun st H Q=>∃ Hf,cL K G st Hf H dl/\∀ p aA H',aN Hf H aA H'->H p=none->aA p=none->dZ K aA H' p o->Q (.ref p) H'
abbrev EO (X:Cx)(G:Gr)(dl:List Slot)(e:Expr)(o:Own):Prop:=PE X e (Nj X.K G dl o)
noncomputable def J2:Own->Dt
 | .lst ds=>.lst ds
 | .b6 k=>.b6 k
 | .obj C fs=>.obj C fs
 | .vZ _ C fs=>.obj C fs
 | .nK C fs gs nm n=>.ql C fs gs nm n
 | .uB _ C fs gs nm n=>.ql C fs gs nm n
 | .ir k=>.ir k
section
variable {K:W.Frag}{G:Gr}{st:L2.St}{Hf H aA H':Hp}{dl:List Slot}{p:Addr}{w:Own}{u:HO}
theorem AM (g:aN Hf H aA H')(n:H p=none)(n':aA p=none)(e:H' p=some u):aN Hf H (upd aA p u) H':=
 ⟨g.big,g.aY.trans (bj n'),fun b o h=>by
   by_cases hb:b=p
   . subst hb;rw[ah] at h;cases h;exact e
   . rw[ag hb] at h;exact g.sub _ _ h,fun a o h=>by
   by_cases hb:a=p
   . subst hb;exact .inr (.inl n)
   . rw[ag hb] at h;exact g.new a o h⟩
theorem xy (r:dZ K Hf H p w)(n:Hf p=none):∃ u,H p=some u/\Rep K (upd Hf p u) (.ref p) (J2 w):=by
 cases w with
 | lst ds=>obtain⟨vs,h,r⟩:=r;exact⟨_,h,.lst ah (r.mono (bj n))⟩
 | b6 ds=>obtain⟨vs,h,r⟩:=r;exact⟨_,h,.b6 ah (r.mono (bj n))⟩
 | obj C ds=>obtain⟨dx,fs,h,r⟩:=r;exact⟨_,h,.obj (.of ah) (r.mono (bj n))⟩
 | vZ x C ds=>obtain⟨_,dx,fs,h,r⟩:=r;exact⟨_,h,.obj (.of ah) (r.mono (bj n))⟩
 | nK C ds gs nm k=>obtain⟨dx,fs,b,ls,q,h,r⟩:=r;exact⟨_,h,.ql q (.of ah) (r.mono (bj n))⟩
 | uB x C ds gs nm k=>obtain⟨_,dx,fs,b,ls,q,h,r⟩:=r;exact⟨_,h,.ql q (.of ah) (r.mono (bj n))⟩
 | ir ks=>exact⟨_,r,.ir ah⟩
theorem cL.HN (S:cL K G st Hf H dl)(g:aN Hf H aA H'){i:Nat}(n:H p=none)(n':aA p=none)(r:dZ K aA H' p w):cL K G (st.set i (some (.ref p))) aA H' (dl.set i (.own w)):=by
 have ln:=S.len;have S':=S.grow g;have pn:∀ (j:Nat) (o':Own) (a:Addr),dl[j]?=some (Slot.own o')->st[j]?=some (some (V.ref a))->a≠p:=fun j o' a h1 h2=>by
   obtain⟨b,q1,_,_,q4⟩:=S.own j o' h1;rw[h2] at q1;cases q1;obtain⟨u,hu⟩:=q4.some;exact ar hu n
 refine⟨S'.gr,by simp[S.len],fun j x h=>?_,fun j o' h=>?_,fun j k o1 o2 a h1 h2 h3 h4=>?_⟩
 . by_cases e:i=j
   . subst e
     by_cases hl:i < dl.length
     . rw[VH hl] at h;cases h
     . rw[Wm (by simp;omega)] at h;cases h
   . rw[VE e] at h ⊢;exact S'.val j x h
 . by_cases e:i=j
   . subst e
     by_cases hl:i < dl.length
     . rw[VH hl] at h;cases h
       exact⟨p,VH (by omega),n',S.gr.big.free n,r⟩
     . rw[Wm (by simp;omega)] at h;cases h
   . rw[VE e] at h ⊢
     exact S'.own j o' h
 . by_cases ej:i=j
   . by_cases ek:i=k
     . omega
     . subst ej
       rw[VE ek] at h2 h4;by_cases hl:i < st.length
       . rw[VH hl] at h3;cases h3
         exact absurd rfl (pn k o2 _ h2 h4)
       . rw[Wm (by simp;omega)] at h3;cases h3
   . rw[VE ej] at h1 h3
     by_cases ek:i=k
     . subst ek
       by_cases hl:i < st.length
       . rw[VH hl] at h4;cases h4
         exact absurd rfl (pn j o1 _ h1 h3)
       . rw[Wm (by simp;omega)] at h4;cases h4
     . rw[VE ek] at h2 h4
       exact S.C5 j k o1 o2 a h1 h2 h3 h4
theorem cL.aY (S:cL K G st Hf H dl){i:Nat}(hd:dl[i]?=some (.own w)):∃ aA,ay Hf aA/\cL K G st aA H (dl.set i (.val (J2 w))):=by
 have ln:=S.len;obtain⟨p,h1,h2,h3,h4⟩:=S.own i w hd;obtain⟨u,hu,rp⟩:=xy h4 h2;have hl:i < dl.length:=(Vx.mp hd).1;have sm:ay Hf (upd Hf p u):=bj h2;refine⟨upd Hf p u,sm,⟨S.gr.big,S.gr.aY.trans sm,fun b o h=>?_,fun a o h=>?_⟩,by simp[S.len],fun j x h=>?_,fun j o' h=>?_,fun j k o1 o2 a q1 q2 q3 q4=>?_⟩
 . by_cases hb:b=p
   . subst hb;rw[ah] at h;cases h;exact hu
   . rw[ag hb] at h;exact S.gr.sub _ _ h
 . by_cases hb:a=p
   . subst hb;exact .inr (.inl h3)
   . rw[ag hb] at h;exact S.gr.new a o h
 . by_cases e:i=j
   . subst e
     rw[VH hl] at h;cases h;exact⟨_,h1,rp⟩
   . rw[VE e] at h
     obtain⟨v,z1,z2⟩:=S.val j x h;exact⟨v,z1,z2.mono sm⟩
 . by_cases e:i=j
   . subst e;rw[VH hl] at h;cases h
   . rw[VE e] at h
     obtain⟨a,z1,z2,z3,z4⟩:=S.own j o' h;have ne:a≠p:=fun q=>by subst q;exact e (S.C5 i j _ _ _ hd h h1 z1)
     exact⟨a,z1,by rw[ag ne];exact z2,z3,z4.grow rfl sm⟩
 . have tr:∀ (j:Nat) o',(dl.set i (.val (J2 w)))[j]?=some (.own o')->dl[j]?=some (.own o'):=fun j o' h=>by
     by_cases e:i=j
     . subst e;rw[VH hl] at h;cases h
     . rw[VE e] at h;exact h
   exact S.C5 j k _ _ a (tr _ _ q1) (tr _ _ q2) q3 q4
end
section
variable {X:Cx}{G:Gr}{E:XK}{dl:List Slot}{a e:Expr}{i:Int}{ds:List Dt}{pos p:Pos}{o:Out}{x:Str}{u:Bool}{sts:List Stmt}{C:Addr}{w:Own}{fs:List (Str×Dt)}
theorem AN (h:EO X G dl e w):EE X G dl e (J2 w):=fG h fun st H Q zq=>xa zq fun Hf S k=>fun p aA H' g n n' r=>by
 obtain⟨u,hu,rp⟩:=xy r n';exact k _ _ H' (AM g n n' hu) rp
theorem lD (h:EO X G dl e (.lst ds)):EE X G dl e (.lst ds):=AN h
theorem AO (h:EO X G dl e (.obj C fs)):EE X G dl e (.obj C fs):=AN h
theorem xA {w':Own}(h:EO X G dl e w)(q:w=w'):EO X G dl e w':=by subst q;exact h
theorem j4 (n:Nat){x:Str}{pos':Pos}(hN:X.N.Nodup)(he:EO X G dl e w)(hi:autoParam (X.N[n]?=some x) jp)(hx:autoParam (Loc X.env.scope x) zD)(hs:autoParam (swapsWith e (some (.Name x pos')) pos.line X.env=pure false) jp)(hf:autoParam (X.fn x=true\/X.env.scope.names.lookup x=some .local) jR):ES X G E dl (.Assign [.Name x pos'] e pos) (.nx (dl.set n (.own w))):=
 qT (vI hN hi hx he hs hf) fun D st H zq=>xa zq fun Hf S k=>fun p Hf1 H1 g1 n1 n2 r1=>k _ Hf1 H1 g1.aY (S.HN g1 n1 n2 r1)
theorem hZ (h:EO X G dl e w):ES X G E dl (.Return (some e) pos) (.ro w):=qT (vH h) fun D st H zq=>xa zq fun Hf S k=>fun p Hf1 H1 g1 n1 n2 r1=>k p Hf1 H1 (S.gr.trans g1) (S.gr.big.free n1) n2 r1
theorem xB (n:Nat)(hd:autoParam (dl[n]?=some (.own w)) jp)(hN:autoParam (X.N[n]?=some x) jp)(hv:autoParam (qI X.env.scope x) jN)(hb:autoParam ((x == ("__debug__":Str))=false) jM)(il:autoParam ((x == ("__classdict__":Str))=false) jM):ES X G E dl (.Return (some (.Name x p)) pos) (.ro w):=
 qT (vH (ik hN hv hb il)) fun D st H zq=>Nf zq fun Hf zq=>have S:=zq.1;have k:=zq.2;by
   obtain⟨q,h1,h2,h3,h4⟩:=S.own n w hd;exact⟨_,h1,k q Hf H S.gr h3 h2 h4⟩
theorem pv (i:Nat)(h:iV X G E (dl.set i (.val (J2 w))) sts o)(hd:autoParam (dl[i]?=some (.own w)) jp):iV X G E dl sts o:=v3 h fun D st H zq=>Nf zq fun Hf zq=>have S:=zq.1;have k:=zq.2;by
 obtain⟨aA,sm,S'⟩:=S.aY hd;exact⟨aA,S',k.mono sm⟩
def SI (K:W.Frag)(G:Gr)(dl:List Slot)(n:Nat)(w:Own):TE:=fun st H Q=>∃ Hf a,cL K G st Hf H dl/\st[n]?=some (some (.ref a))/\Hf a=none/\dZ K Hf H a w/\Q (.ref a) H
theorem pz (n:Nat)(hd:dl[n]?=some (.own w))(hN:X.N[n]?=some x)(hv:qI X.env.scope x)(hb:(x == ("__debug__":Str))=false)(il:(x == ("__classdict__":Str))=false):PE X (.Name x p) (SI X.K G dl n w):=
 fG (ik hN hv hb il) fun st H Q ⟨Hf,a,S,h1,_,_,q⟩=>⟨_,h1,q⟩
end
section
variable {X:Cx}{G:Gr}{E:XK}{dl:List Slot}{a b e:Expr}{es:List Expr}{i j:Int}{d:Dt}{ds:List Dt}{pos p apos a7:Pos}{x:Str}
theorem wa (h:EA X G dl es ds)(hl:autoParam (ds.length<=sizeLine) jM):EO X G dl (.List es pos) (.lst ds):=
 fG (vR h) fun st H Q zq=>xa zq fun Hf S k=>fun vs Hf1 H1 g1 r1=>⟨by rw[r1.length];exact hl,fun p hp=>k p Hf1 _ (g1.trans (.cB g1.sub hp)) (g1.big.free hp) (g1.sub.free hp) ⟨vs,ah,r1⟩⟩
theorem si (hm:X.mg "list"=none)(ha:EE X G dl a (.lst ds))(hg:autoParam (Gl X "list") jp)(he:autoParam (starEach [a] X.env=[(false,eval a X.env)]) jp):EO X G dl (.Call (.Name "list" p) [a] [] pos) (.lst ds):=
 fG (fM rS hg hm boot_list (ae ha ak he) (he:=he)) fun st H Q zq=>xa zq fun Hf S k=>fun vs Hf1 H1 g1 r1=>by
   cases r1 with
   | cons r t=>cases t;cases r with
     | @lst q vs _ z r=>exact⟨q,vs,rfl,.inl (.of (g1.sub _ _ z)),fun l hl=>k l Hf1 _ (g1.trans (.cB g1.sub hl)) (g1.big.free hl) (g1.sub.free hl) ⟨vs,ah,r⟩⟩
theorem yS:bootBuiltins "min"=some (.builtin "min"):=by decide +kernel
theorem AQ (hm:X.mg "min"=none)(hc:X.calm=true)(ha:EA X G dl [a,b] [.int i,.int j])(hg:autoParam (Gl X "min") jp)(he:autoParam (starEach [a,b] X.env=(false,eval a X.env)::starEach [b] X.env) jp)(jn:autoParam ((backTo pos (starEach [b] X.env)).any (·.1)=false) jp) :
   EE X G dl (.Call (.Name "min" p) [a,b] [] pos) (.int (if j < i then j else i)):=
 fG (e9 (yB hc) hg hm yS ha (by decide) (by decide) he jn) fun st H Q zq=>xa zq fun Hf S k=>fun vs Hf1 H1 g1 r1=>by
   cases r1 with
   | cons r1 t1=>cases t1 with
     | cons r2 t2=>cases t2;cases r1;cases r2;exact⟨i,j,rfl,k _ Hf1 H1 g1 (.int _)⟩
theorem mx (n:Nat){pn:Pos}(he:EE X G dl e d)(hl:ds.length < sizeLine)(hd:autoParam (dl[n]?=some (.own (.lst ds))) jp)(hN:autoParam (X.N[n]?=some x) jp)(hv:autoParam (qI X.env.scope x) jN)
   (hU:autoParam ((x == ("__debug__":Str))=false) jM) (il:autoParam ((x == ("__classdict__":Str))=false) jM)
   (gb:autoParam (attributeBase (.Name x pn) "append" X.env (eval (.Name x pn) X.env)=eval (.Name x pn) X.env) jp)
   (oV:autoParam (((backTo a7 (starEach [e] X.env)).all (fun x=>!x.1) && (backToKw a7 (keywordEach [] X.env)).all (fun x=>x.1.isSome) && decide ([e].length+([]:List Keyword).length+(if ([]:List Keyword).isEmpty then 0 else 1) < 30))=true) jp)
   (gc:autoParam ((apos.endLine == a7.line)=true) jp) (jf:autoParam (starEach [e] X.env=(false,eval e X.env)::starEach [] X.env) jp) (hs:autoParam (swapsWith (.Call (.Attribute (.Name x pn) "append" apos) [e] [] a7) none pos.line X.env=pure false) jp) :
   ES X G E dl (.Expr (.Call (.Attribute (.Name x pn) "append" apos) [e] [] a7) pos) (.nx (dl.set n (.own (.lst (ds ++ [d]))))):=
 qT (jT (qQ PySem.F.plainAttrs_list PySem.F.slot_list_append PySem.F.type_list_append jW (pz (p:=pn) n hd hN hv hU il) (ae he ak jf) gb oV gc jf rfl) hs) fun D st H zq=>Nf zq fun Hf zq=>have S:=zq.1;have k:=zq.2;by
   obtain⟨q,z1,z2,z3,vs,hq,rp⟩:=S.own n _ hd;refine⟨Hf,q,S,z1,z2,⟨vs,hq,rp⟩,.inl ⟨rfl,vs,.of hq⟩,Hf,S,fun us Hf1 H1 g1 r1=>?_⟩;cases r1 with
   | cons r1 t1=>
     cases t1;refine⟨q,vs,_,rfl,rfl,g1.big _ _ hq,by rw[rp.length];exact hl,?_⟩;exact k st Hf1 _ g1.aY ((S.grow g1).Aw hd z1 ⟨_,ah,(rp.mono g1.aY).append (.cons r1 .nil)⟩)
theorem j5 {K:W.Frag}{H:Hp}:∀ {vs:List V} {xs:List Str},bu K H vs (xs.map Dt.str)->vs=xs.map V.str
 | _,[],.nil=>rfl
 | _,x::xs,.cons r t=>by cases r;rw[j5 t];rfl
end
noncomputable def uD:Option Slot->Slot
 | some (.val d)=>.val d
 | _=>.cz
theorem qX {o:Option Slot}{w:Own}(h:uD o=.own w):False:=by
 unfold uD at h
 split at h <;> cases h
theorem qY {o:Option Slot}{d:Dt}(h:uD o=.val d):o=some (.val d):=by
 unfold uD at h
 split at h
 . cases h;rfl
 . cases h
noncomputable def fJ (dl:List Slot)(ix:List Nat):List Slot:=ix.map fun j=>uD dl[j]?
section
variable {K:W.Frag}{G:Gr}{st:L2.St}{Hf H Hf1 H1:Hp}{dl:List Slot}{ix:List Nat}
theorem DV (S:cL K G st Hf H dl)(s1:ay Hf Hf1)(sb:ay Hf1 H1){v:V}{d:Dt}(r:Rep K Hf1 v d):cL K ⟨Hf1,H1⟩ (some v::frees ix st) Hf1 H1 (.val d::fJ dl ix):=by
 have no:∀ (i:Nat) o,(Slot.val d::fJ dl ix)[i]?≠some (.own o):=fun i o h=>by
   cases i with
   | zero=>cases h
   | succ i=>
     rw[Wx] at h;unfold fJ at h;rw[VB] at h;cases q:ix[i]? with
     | none=>rw[q] at h;cases h
     | some j=>
       rw[q] at h;exact qX (Option.some.inj h)
 refine⟨.refl sb,by simp[frees,fJ],fun i x h=>?_,fun i o h=>absurd h (no i o),fun i j o o' a h=>absurd h (no i o)⟩;cases i with
 | zero=>cases h;exact⟨v,rfl,r⟩
 | succ i=>
   rw[Wx] at h ⊢;unfold fJ at h;unfold frees;rw[VB] at h ⊢;cases q:ix[i]? with
   | none=>rw[q] at h;cases h
   | some j=>
     rw[q] at h;have hd:=qY (Option.some.inj h);obtain⟨v',z1,z2⟩:=S.val j x hd;exact⟨v',by rw[Option.map_some,z1];rfl,z2.mono s1⟩
end
section
variable {X:Cx}{G:Gr}{E:XK}{dl:List Slot}{a b elt iter:Expr}{i:Int}{ys:List Dt}{zs:Nat->Dt}{pos p px py qx:Pos}{o:Out}{x y:Str}{N:List Str}{ix:List Nat}{sc:Scope}{n:Nat}
def FU (X:Cx)(N:List Str)(sc:Scope)(dl:List Slot)(ix:List Nat)(elt:Expr)(n:Nat)(zs:Nat->Dt)(ys:List Dt):Prop:=
 ∀ k,k < n->∀ C fp s H G',EE (aO X N sc C fp s H) G' (.val (zs k)::fJ dl ix) elt (ys.getD k .b0)
def HP (K:W.Frag)(dl:List Slot)(ix:List Nat)(n:Nat)(zs:Nat->Dt)(ys:List Dt):TE:=fun st H Q=>∃ k G',k < n/\tD K G' (.val (zs k)::fJ dl ix) (ys.getD k .b0) st H Q
theorem HQ (h:FU X N sc dl ix elt n zs ys):∀ C fp s H,PE (aO X N sc C fp s H) elt (HP X.K dl ix n zs ys):=fun C fp s H pins s' st H' Q I ⟨k,G',hk,q⟩=>h k hk C fp s H G' pins s' st H' Q I q
theorem AS {st:L2.St}{Hf H:Hp}{J:It}{Q:VK}(S:cL X.K G st Hf H dl)(Nk:ys.length=n)(hn:n<=sizeLine)(go:∀ Hf1 H1,aN Hf H Hf1 H1->∀ i,(i < n->J.go i H1/\∀ v H2,J.z8 i H1 v H2->H2=H1/\Rep X.K Hf1 v (zs i))/\(i=n->J.stop i H1))(k:∀ p aA H',aN Hf H aA H'->H p=none->aA p=none->dZ X.K aA H' p (.lst ys)->Q (.ref p) H'):∀ D,H D=none->HM (HP X.K dl ix n zs ys) (frees ix st) J D (fun _ H'=>Q (.ref D) H') H:=by
 intro D hD;refine⟨fun i m vs H1=>m=n - i/\i<=n/\∃ Hf1,aN Hf H Hf1 H1/\Hf1 D=none/\H1 D=some (.lst vs)/\bu X.K Hf1 vs (ys.take i),⟨n,rfl,Wr _,Hf,.cB S.sub hD,S.sub.free hD,ah,.nil⟩,?_⟩
 rintro i m vs H1 ⟨rfl,hi,Hf1,g1,Lk,J3,rp⟩
 have hlen:=rp.length;rw[Wc] at hlen;by_cases b5:i < n
 . obtain⟨Ll,hy⟩:=(go Hf1 H1 g1 i).1 b5
   refine .inr ⟨Ll,by omega,fun v H2 y=>?_⟩;obtain⟨e,rv⟩:=hy v H2 y;subst e;refine⟨i,⟨Hf1,H2⟩,b5,Hf1,DV S g1.aY g1.sub rv,fun z bw H3 g2 r2=>?_⟩;have SJ:H3 D=some (.lst vs):=g2.big _ _ J3;have QO:bw D=none:=by
     cases q:bw D with
     | none=>rfl
     | some u=>
       obtain⟨o,z⟩:=g2.rW J3 (fun z=>z) q;rw[Lk] at z;cases z
   have g:=g1.trans g2;refine⟨SJ,n - (i+1),by omega,rfl,b5,bw,⟨fun a o h=>?_,g.aY,fun a o h=>?_,g.new⟩,QO,ah,?_⟩
   . rw[ag (ar h hD)];exact g.big _ _ h
   . rw[ag (ar h QO)];exact g2.sub _ _ h
   . have:ys.take (i+1)=ys.take i ++ [ys.getD i .b0]:=by
       rw[WX,Sl,Bn (by omega)];rfl
     rw[this];exact(rp.mono g2.aY).append (.cons r2 .nil)
 . have e:i=n:=by omega
   subst e;refine .inl ⟨(go Hf1 H1 g1 i).2 rfl,k D Hf1 H1 g1 hD Lk ⟨vs,J3,?_⟩⟩;rw[WJ (by omega)] at rp;exact rp
def QP (wi:TI)(ix:List Nat)(te:TE):TE:=fun st H Q=>wi st H fun J H1=>∀ D,H1 D=none->HM te (frees ix st) J D (fun _ H'=>Q (.ref D) H') H1
theorem Lm {wi:TI}{te:TE}{nN:Nat}(hc:X.calm=true)(B:gf X N ix x sc)(hi:PI X (.Name x px) iter wi)(iu:∀ C fp s H,PE (aO X N sc C fp s H) elt te)(hs:∀ z,foldedSetIterable iter X.env z=pure z)(HR:swapsWith (.ListComp elt [⟨.Name x px,iter,[],0⟩] sc pos) (some (.Name y py)) qx.line X.env=pure true)(hN:X.N.Nodup)(hy:X.N[nN]?=some y)(hl:Loc X.env.scope y)(hf:X.fn y=true\/X.env.scope.names.lookup y=some .local):PS X (.Assign [.Name y py] (.ListComp elt [⟨.Name x px,iter,[],0⟩] sc pos) qx) (fun D st H=>QP wi ix te st H fun v H'=>D.nx (st.set nN (some v)) H'):=by
 intro pins s st H D0 I h;rw[exec_Assign_Name_used _ _ _ _ HR];refine wpAny_bind (wpAny_standAt (wpAny_bind ?_));show wpAny _ X.A (do let _ <- comprehension (.ListComp elt [⟨.Name x px,iter,[],0⟩] sc pos) sc X.env _ (newList []) false (eval iter X.env) (some (assign (.Name y py) X.env))) _ _ s;refine wpAny_bind (wpAny_mono (wpAny_comprehension_free (use:=some (assign (.Name y py) X.env)) (Q:=fun _ s'=>SP X pins D0 .next s') rfl hs (HL B I.ok) B.kind B.names (bF (hi pins s st H _ I h) fun v s1 h1=>bF h1 fun JW s2 h2=>?_)) (fun _ s' hq=>wpAny_pure (wpAny_pure hq)) fun _ _ z=>z);obtain⟨it,fp,tn,J,H2,e,I2,T,C1,f2,hq⟩:=h2;subst e;refine DU (RR:=fun acc C=>compPost (model X.prog X.w) X.A X.xe (some (assign (.Name y py) X.env)) (fun _ s'=>SP X pins D0 .next s') acc C) hc B iu I2 T C1 f2 hq ?_;intro D C ws H' s' I' ⟨m,hn⟩ my q;refine wpAny_assign_Name (l8 I' hN hy hl (v:=.ref D) rfl (fun Hh OG ⟨ad,yR,ha⟩=>?_) hf);have ne:C≠ad:=by
   rcases ha with z | z
   . rw[z];exact my.2.1
   . exact Ne.symm (my.2.2.2.2.1 _ _ z)
 exact⟨m,hn.sameBut yR ne,fun h' HS=>⟨_,H',OG.turned (t':=Hh.toks) (it:=C) (fun b o hb e=>(HS.2 b hb).trans e) my.1 my.2.1 my.2.2.2.1 my.2.2.2.2.1 my.2.2.2.2.2,q⟩⟩
def HU (X:Cx)(G:Gr)(dl:List Slot)(n:Nat)(zs:Nat->Dt)(wi:TI):Prop:=∀ st H (R:It->Hp->Prop),(∃ Hf,cL X.K G st Hf H dl/\∀ J AU H0,aN Hf H AU H0 ->
 (∀ Hf1 H1,aN AU H0 Hf1 H1->∀ i,(i < n->J.go i H1/\∀ v H2,J.z8 i H1 v H2->H2=H1/\Rep X.K Hf1 v (zs i))/\(i=n->J.stop i H1))->R J H0)->wi st H R
theorem AV {wi:TI}(hs:HU X G dl n zs wi)(Nk:ys.length=n)(hn:n<=sizeLine):∀ st H Q,Nj X.K G dl (.lst ys) st H Q->QP wi ix (HP X.K dl ix n zs ys) st H Q:=fun st H Q zq=>Nf zq fun Hf zq=>have S:=zq.1;have k:=zq.2;
 hs st H _ ⟨Hf,S,fun J AU H0 g0 src=>AS (S.grow g0) Nk hn src fun p aA H' g n1 n2 r=>k p aA H' (g0.trans g) (g0.big.free n1) n2 r⟩
theorem Ln (nN:Nat){wi:TI}(hc:X.calm=true)(hN:X.N.Nodup)(B:gf X N ix x sc)(hi:PI X (.Name x px) iter wi)(sj:HU X G dl n zs wi)(iu:FU X N sc dl ix elt n zs ys)(Nk:ys.length=n)(hn:n<=sizeLine)(hs:autoParam (∀ z,foldedSetIterable iter X.env z=pure z) xz)(HR:autoParam (swapsWith (.ListComp elt [⟨.Name x px,iter,[],0⟩] sc pos) (some (.Name y py)) qx.line X.env=pure true) jp)(hy:autoParam (X.N[nN]?=some y) jp)(hl:autoParam (Loc X.env.scope y) zD)(hf:autoParam (X.fn y=true\/X.env.scope.names.lookup y=some .local) jR):ES X G E dl (.Assign [.Name y py] (.ListComp elt [⟨.Name x px,iter,[],0⟩] sc pos) qx) (.nx (dl.set nN (.own (.lst ys)))):=
 qT (Lm hc B hi (HQ iu) hs HR hN hy hl hf) fun D st H zq=>Nf zq fun Hf zq=>have S:=zq.1;have k:=zq.2;AV sj Nk hn st H _ ⟨Hf,S,fun p aA H' g n1 n2 r=>k _ aA H' g.aY (S.HN g n1 n2 r)⟩
end
structure wb (K:W.Frag)(x qual:Str)(st:Stmt)(f:Addr)(fd:FuncData):Prop where
 ex:∃ (oc:Value) (od:Option Addr) (dV kV doc pm:Value) (an:Option Addr) (a6 ct:Value) (oU:Array (Option Value)),
   fd=W.fnOf x qual (cy st) (ax st) (af st) dV kV doc pm an a6 ct/\K.lookup f=some ⟨oc,od,.func fd,oU⟩/\W.codeIn K a6 qual=true
theorem xC {K:W.Frag}{x qual:Str}{st:Stmt}{f:Addr}{oc:Value}{od an:Option Addr}{oU:Array (Option Value)}{dV kV doc pm a6 ct:Value}(l:K.lookup f=some ⟨oc,od,.func (W.fnOf x qual (cy st) (ax st) (af st) dV kV doc pm an a6 ct),oU⟩)(c:W.codeIn K a6 qual=true):wb K x qual st f (W.fnOf x qual (cy st) (ax st) (af st) dV kV doc pm an a6 ct):=⟨⟨oc,od,dV,kV,doc,pm,an,a6,ct,oU,rfl,l,c⟩⟩
section
variable {P:Program}{w:World}{K:W.Frag}{mg:Str->Option Value}{base:Heap}{CX:kT}{x qual:Str}{st:Stmt}{f:Addr}{fd:FuncData}{N ps:List Str}{k n:Nat}
theorem SK {R:List Dt->Res->Prop}(F:wb K x qual st f fd)(S:au N ps (af st))(hn:ps.length=n)(jx:∀ (a6:Value) (A:Around) (outer:List Env) (s:Shared) (H:Hp) (E:XK) (G:Gr) (ds:List Dt) (r:Res),cA k (A.deeper (envOfC qual (af st) s.heap.objs.size f a6))->ds.length=n->R ds r->∃ o,Comes o r/\iV (mh CX P w K mg base N qual (af st) f a6 A outer s H E) G E (slots N ds) (ax st) o):gu P w K mg base CX (k+1) f fd ps (AB K n R):=by
 obtain⟨oc,od,dV,kV,doc,pm,an,a6,ct,oU,rfl,lk,il⟩:=F.ex;refine xk lk il S (fun vs H Q E ⟨Hf,ds,r,s,rp,hl,_⟩=>by rw[rp.length,hl,hn]) fun A outer s H vs Q E hr ⟨Hf,ds,r,sm,rp,hl,hR,hk⟩=>?_
 obtain⟨o,hc,hb⟩:=jx a6 A outer s H E ⟨Hf,H⟩ ds r hr hl hR;exact⟨_,hb,Hf,qV sm rp,hc.ends hk⟩
def OH (K:W.Frag)(C:Addr)(Hf H:Hp)(x:Addr)(Q:VK)(E:XK):Res->Prop
 | .own w=>((∃ fs,w=.obj C fs)\/∃ fs gs nm n,w=.nK C fs gs nm n)/\∀ aA H',aN Hf H aA H'->aA x=none->dZ K aA H' x w->Q .b0 H'
 | .exc c fs=>∀ od aA H',aN Hf H aA H'->ExcAt K aA od fs->E c od H'
 | .ret _=>False
def QQ (K:W.Frag)(C:Addr)(n:Nat)(R:List Dt->Res->Prop):Sp:=fun vs H Q E=>∃ Hf H1 x dx args ds r,vs=.ref x::args/\H=upd H1 x (.ins C dx [])/\H1 x=none/\ay Hf H1/\bu K Hf args ds/\ds.length+1=n/\R ds r/\OH K C Hf H1 x Q E r
inductive sk (C x:Addr):Out->Res->Prop
 | nx {dl:List Slot} {fs:List (Str×Dt)} (h:dl[0]?=some (.own (.vZ x C fs))):sk C x (.nx dl) (.own (.obj C fs))
 | ex (c:Value) (fs:List (Str×Dt)):sk C x (.ex c fs) (.exc c fs)
 | QR {dl:List Slot} {fs:List (Str×Dt)} {gs:List (Nat->List (Key×FD))} {nm:List Str} {n:Nat} (h:dl[0]?=some (.own (.uB x C fs gs nm n))):sk C x (.nx dl) (.own (.nK C fs gs nm n))
noncomputable def mz (N:List Str)(x C:Addr)(ds:List Dt):List Slot:=.own (.vZ x C [])::(ds.map Slot.val ++ Wg (N.length - (ds.length+1)) .cz)
theorem wc {Hf H:Hp}{vs:List V}{ds:List Dt}{x dx C:Addr}(s:ay Hf H)(n:H x=none)(r:bu K Hf vs ds):cL K ⟨Hf,H⟩ (start N (.ref x::vs)) Hf (upd H x (.ins C dx [])) (mz N x C ds):=by
 have hl:=r.length;have es:start N (V.ref x::vs)=some (.ref x)::(vs.map some ++ Wg (N.length - (vs.length+1)) none):=by
   unfold L2.start;simp
 have l6:∀ (i:Nat) o,(mz N x C ds)[i+1]?≠some (.own o):=fun i o h=>by
   unfold mz at h;rw[Wx] at h;by_cases hi:i < ds.length
   . rw[Wf (by simpa using hi),VB] at h
     cases e:ds[i]? with
     | none=>rw[e] at h;cases h
     | some a=>rw[e] at h;cases h
   . rw[Wd (by simpa using hi),Ww] at h
     split at h <;> cases h
 rw[es];refine⟨.cB s n,?_,fun i d h=>?_,fun i o h=>?_,fun i j o o' a h h' _ _=>?_⟩
 . unfold mz
   simp[hl]
 . cases i with
   | zero=>cases h
   | succ i=>
     unfold mz at h;rw[Wx] at h ⊢;by_cases hi:i < ds.length
     . rw[Wf (by simpa using hi),VB] at h
       cases e:ds[i]? with
       | none=>rw[e] at h;cases h
       | some a=>
         rw[e] at h;cases h;obtain⟨v,h1,h2⟩:=r.get e;refine⟨v,?_,h2⟩;rw[Wf (by simp;omega),VB,h1];rfl
     . rw[Wd (by simpa using hi),Ww] at h
       split at h <;> cases h
 . cases i with
   | zero=>
     cases h;exact⟨x,rfl,s.free n,n,rfl,dx,[],ah,.nil⟩
   | succ i=>exact absurd h (l6 i o)
 . cases i with
   | zero=>cases j with
     | zero=>rfl
     | succ j=>exact absurd h' (l6 j _)
   | succ i=>exact absurd h (l6 i _)
theorem QS {C:Addr}{R:List Dt->Res->Prop}(F:wb K x qual st f fd)(S:au N ps (af st))(hn:ps.length=n)(jx:∀ (a6:Value) (A:Around) (outer:List Env) (s:Shared) (H:Hp) (E:XK) (G:Gr) (z:Addr) (ds:List Dt) (r:Res),cA k (A.deeper (envOfC qual (af st) s.heap.objs.size f a6))->ds.length+1=n->R ds r->∃ o,sk C z o r/\iV (mh CX P w K mg base N qual (af st) f a6 A outer s H E) G E (mz N z C ds) (ax st) o):gu P w K mg base CX (k+1) f fd ps (QQ K C n R):=by
 obtain⟨oc,od,dV,kV,doc,pm,an,a6,ct,oU,rfl,lk,il⟩:=F.ex;refine xk lk il S (fun vs H Q E ⟨Hf,H1,z,dx,args,ds,r,e,_,_,_,rp,hl,_⟩=>by rw[e,Ws,rp.length,hl,hn]) fun A outer s H vs Q E hr ⟨Hf,H1,z,dx,args,ds,r,e1,e2,hz,sm,rp,hl,hR,hk⟩=>?_
 subst e1 e2;obtain⟨o,hc,hb⟩:=jx a6 A outer s _ E ⟨Hf,H1⟩ z ds r hr hl hR;refine⟨_,hb,Hf,wc sm hz rp,?_⟩;cases hc with
 | nx h=>
   obtain⟨_,kk⟩:=hk;intro fL aA H' s' S';obtain⟨a,_,q2,_,q4⟩:=S'.own 0 _ h;obtain⟨rfl,SM,NY,q5,q6⟩:=q4;exact kk aA H' S'.gr q2 ⟨SM,NY,q5,q6⟩
 | QR h=>
   obtain⟨_,kk⟩:=hk;intro fL aA H' s' S';obtain⟨a,_,q2,_,q4⟩:=S'.own 0 _ h;obtain⟨rfl,q5⟩:=q4;exact kk aA H' S'.gr q2 q5
 | ex c fs=>exact hk
end
noncomputable def putD (f:Str)(v:Dt):List (Str×Dt)->List (Str×Dt)
 | []=>[(f,v)]
 | (g,x)::r=>if g=f then (g,v)::r else (g,x)::putD f v r
theorem aU.put {K:W.Frag}{H:Hp}{f:Str}{v:V}{d:Dt}(q:Rep K H v d):∀ {vs:List (Str×V)} {ds:List (Str×Dt)},aU K H vs ds->aU K H (dC f v vs) (putD f d ds)
 | _,_,.nil=>.cons q .nil
 | (k,x)::vs,(_,y)::ds,.cons h r=>by
   unfold dC putD;by_cases e:k=f
   . rw[if_pos e,if_pos e];exact .cons q r
   . rw[if_neg e,if_neg e];exact .cons h (aU.put q r)
section
variable {X:Cx}{G:Gr}{E:XK}{dl:List Slot}{e c:Expr}{es:List Expr}{d:Dt}{ds:List Dt}{pos p apos:Pos}{x m:Str}{C z:Addr}{fs:List (Str×Dt)}{CX:kT}{k k' n:Nat}{R:List Dt->Res->Prop}{ob:Expr}{wo:Own}{dvs:List Dt}{body:List Stmt}
theorem we {fn:Str}{pn:Pos}(he:EE X G dl e d)(cl:qp X.K C)(na:cO X.K C fn)(hd:autoParam (dl[0]?=some (.own (.vZ z C fs))) jp)(hl:autoParam (Nat.ble fs.length 999=true) jp)(hN:autoParam (X.N[0]?=some x) jp)(hv:autoParam (qI X.env.scope x) jN)(hU:autoParam ((x == ("__debug__":Str))=false) jM)(il:autoParam ((x == ("__classdict__":Str))=false) jM)(hs:autoParam (swapsWith e (some (.Attribute (.Name x pn) fn apos)) pos.line X.env=pure false) jp):ES X G E dl (.Assign [.Attribute (.Name x pn) fn apos] e pos) (.nx (dl.set 0 (.own (.vZ z C (putD fn d fs))))):=
 qT (rK (pz (p:=pn) 0 hd hN hv hU il) he hs) fun D st H zq=>xa zq fun Hf S k=>fun v Hf1 H1 g1 r1=>by
   have S1:=S.grow g1;obtain⟨a,q1,q2,q3,q4⟩:=S1.own 0 _ hd;obtain⟨e1,dx,fv,q5,q6⟩:=id q4;refine⟨Hf1,a,S1,q1,q2,q4,a,C,dx,fv,rfl,q5,cl,na,by rw[q6.length];exact Nat.lt_succ_of_le (Wy hl),?_⟩;exact k st Hf1 _ g1.aY (S1.Aw hd q1 ⟨e1,dx,_,ah,q6.put r1⟩)
structure Nl (P:Program)(w:World)(K:W.Frag)(mg:Str->Option Value)(base:Heap)(CX:kT)(k:Nat)(x:Str)(C:Addr)(n:Nat)(R:List Dt->Res->Prop):Prop where
 ex:∃ f fd ps,gu P w K mg base CX k f fd ps (QQ K C n R)/\L2.Mk K C f/\mg x=some (.ref C)/\Binds K fd ps []
theorem sq (F:Nl X.prog X.w X.K X.mg X.base CX k x C n R)(nx:v8 CX)(hr:cA k' X.A)(ha:EA X G dl (e::es) ds)(h:R ds (.own (.obj C fs)))(qW:autoParam (k+1<=k') jM)(hl:autoParam (ds.length+1=n) jp)(hg:autoParam (Gl X x) jp)(hU:autoParam ((x == ("__debug__":Str))=false) jM)(he:autoParam (starEach (e::es) X.env=(false,eval e X.env)::starEach es X.env) jp)(jn:autoParam ((backTo pos (starEach es X.env)).any (·.1)=false) jp):EO X G dl (.Call (.Name x p) (e::es) [] pos) (.obj C fs):=by
 obtain⟨f,fd,ps,Fo,M,hm,hb⟩:=F.ex;refine fG (xj (E:=E0) M Fo (hr.mono qW) hg hm hb .nil nx.passes ha hU he jn) fun st H Q zq=>xa zq fun Hf S kk=>fun vs Hf1 H1 g1 r1 y dx hy Lo ne=>?_
 have KU:(upd H1 dx (.own y)) y=none:=by rw[ag (Ne.symm ne)];exact hy
 have g2:aN Hf1 H1 Hf1 (upd H1 dx (.own y)):=.cB g1.sub Lo;refine⟨Hf1,upd H1 dx (.own y),y,dx,vs ++ [],ds,.own (.obj C fs),rfl,rfl,KU,g2.sub,by rw[Wq];exact r1,hl,h,.inl ⟨fs,rfl⟩,fun aA H' g n1 r=>⟨rfl,?_⟩⟩;exact kk y aA H' ((g1.trans g2).trans g) (g1.big.free hy) n1 r
theorem pA {gs:List (Nat->List (Key×FD))}{nm:List Str}{j:Nat}(F:Nl X.prog X.w X.K X.mg X.base CX k x C n R)(nx:v8 CX)(hr:cA k' X.A)(ha:EA X G dl (e::es) ds)(h:R ds (.own (.nK C fs gs nm j)))(qW:autoParam (k+1<=k') jM)(hl:autoParam (ds.length+1=n) jp)(hg:autoParam (Gl X x) jp)(hU:autoParam ((x == ("__debug__":Str))=false) jM)(he:autoParam (starEach (e::es) X.env=(false,eval e X.env)::starEach es X.env) jp)(jn:autoParam ((backTo pos (starEach es X.env)).any (·.1)=false) jp):EO X G dl (.Call (.Name x p) (e::es) [] pos) (.nK C fs gs nm j):=by
 obtain⟨f,fd,ps,Fo,M,hm,hb⟩:=F.ex;refine fG (xj (E:=E0) M Fo (hr.mono qW) hg hm hb .nil nx.passes ha hU he jn) fun st H Q zq=>xa zq fun Hf S kk=>fun vs Hf1 H1 g1 r1 y dx hy Lo ne=>?_
 have KU:(upd H1 dx (.own y)) y=none:=by rw[ag (Ne.symm ne)];exact hy
 have g2:aN Hf1 H1 Hf1 (upd H1 dx (.own y)):=.cB g1.sub Lo;refine⟨Hf1,upd H1 dx (.own y),y,dx,vs ++ [],ds,.own (.nK C fs gs nm j),rfl,rfl,KU,g2.sub,by rw[Wq];exact r1,hl,h,.inr ⟨fs,gs,nm,j,rfl⟩,fun aA H' g n1 r=>⟨rfl,?_⟩⟩;exact kk y aA H' ((g1.trans g2).trans g) (g1.big.free hy) n1 r
theorem lE (F:GF X.prog X.w X.K X.mg X.base CX k x n R)(nx:v8 CX)(hr:cA k' X.A)(ha:EA X G dl (e::es) ds)(h:R ds (.own wo))(qW:autoParam (k<=k') jM)(hl:autoParam (ds.length=n) jp)(hg:autoParam (Gl X x) jp)(hU:autoParam ((x == ("__debug__":Str))=false) jM)(he:autoParam (starEach (e::es) X.env=(false,eval e X.env)::starEach es X.env) jp)(jn:autoParam ((backTo pos (starEach es X.env)).any (·.1)=false) jp):EO X G dl (.Call (.Name x p) (e::es) [] pos) wo:=by
 obtain⟨f,fd,ps,F,hm,hk,hb⟩:=F.ex;exact fG (rL (E:=E0) F (hr.mono qW) hg hm hk hb .nil nx.passes ha hU he jn) fun st H Q zq=>xa zq fun Hf S k=>fun vs Hf1 H1 g1 r1=>⟨Hf1,ds,.own wo,g1.sub,by rw[Wq];exact r1,hl,h,fun p bw H2 g2 n1 n2 r2=>k p bw H2 (g1.trans g2) (g1.big.free n1) n2 r2⟩
structure Nm (P:Program)(w:World)(K:W.Frag)(mg:Str->Option Value)(base:Heap)(CX:kT)(k:Nat)(C:Addr)(m:Str)(n:Nat)(dvs:List Dt)(R:List Dt->Res->Prop):Prop where
 cl:qp K C
 ex:∃ f fd ps AD vds,gu P w K mg base CX k f fd ps (AB K n R)/\Meth K C m f/\Binds K fd ps AD/\Vals vds AD/\∀ H,bu K H vds dvs
theorem uE {P:Program}{w:World}{K:W.Frag}{mg:Str->Option Value}{base:Heap}(F:MF P w K mg base CX k C m n R):Nm P w K mg base CX k C m n [] R:=by
 obtain⟨f,fd,ps,Fo,hm,hb⟩:=F.ex;exact⟨F.cl,f,fd,ps,[],[],Fo,hm,hb,.nil,fun _=>.nil⟩
theorem nz {pl:Sem Bool}(he:EE X G dl ob (.obj C fs))(F:Nm X.prog X.w X.K X.mg X.base CX k C m n dvs R)(nx:v8 CX)(hr:cA k' X.A)(ha:EA X G dl (e::es) ds)(h:R (.obj C fs::(ds ++ dvs)) (.own wo))(qW:autoParam (k<=k') jM)(hl:autoParam ((Dt.obj C fs::(ds ++ dvs)).length=n) jp)(qm:autoParam (fs.lookup m=none) jp)
   (jf:autoParam (starEach (e::es) X.env=(false,eval e X.env)::starEach es X.env) jp) (jn:autoParam ((backTo pos (starEach es X.env)).any (·.1)=false) jp)
   (ht:autoParam (eval (.Call (.Attribute ob m apos) (e::es) [] pos) X.env=(do
     let ov <- eval ob X.env
     standAt apos.atName
     let (f,first) <- holding [ov] (getMethod ov m pl)
     callWith pos f first (backTo pos (starEach (e::es) X.env)) (backToKw pos (keywordEach [] X.env)))) jp):EO X G dl (.Call (.Attribute ob m apos) (e::es) [] pos) wo:=by
 obtain⟨f,fd,ps,AD,vds,Fo,hm,hb,hd,AE⟩:=F.ex;exact fG (xi (pl:=pl) (E:=E0) he F.cl hm Fo (hr.mono qW) hb hd nx.passes ha jf jn ht) fun st H Q zq=>xa zq fun Hf S k=>fun v Hf1 H1 g1 r1=>by
   cases r1 with
   | @obj a _ dx fv _ q r=>
     exact⟨a,dx,fv,rfl,d8 g1.sub q,r.none_of qm,Hf1,S.grow g1,fun vs bw H2 g2 r2=>⟨bw,_,.own wo,g2.sub,.cons (.obj (d8 g2.aY q) (r.mono g2.aY)) (r2.append (AE _)),hl,h,fun p fH H3 g3 n1 n2 r3=>k p fH H3 ((g1.trans g2).trans g3) ((g1.trans g2).big.free n1) n2 r3⟩⟩
theorem AW {pl:Sem Bool}(he:EE X G dl ob (.obj C fs))(F:Nm X.prog X.w X.K X.mg X.base CX k C m n dvs R)(nx:v8 CX)(hr:cA k' X.A)(ha:EA X G dl (e::es) ds)(h:R (.obj C fs::(ds ++ dvs)) (.ret d))(qW:autoParam (k<=k') jM)(hl:autoParam ((Dt.obj C fs::(ds ++ dvs)).length=n) jp)(qm:autoParam (fs.lookup m=none) jp)
   (jf:autoParam (starEach (e::es) X.env=(false,eval e X.env)::starEach es X.env) jp) (jn:autoParam ((backTo pos (starEach es X.env)).any (·.1)=false) jp)
   (ht:autoParam (eval (.Call (.Attribute ob m apos) (e::es) [] pos) X.env=(do
     let ov <- eval ob X.env
     standAt apos.atName
     let (f,first) <- holding [ov] (getMethod ov m pl)
     callWith pos f first (backTo pos (starEach (e::es) X.env)) (backToKw pos (keywordEach [] X.env)))) jp):EE X G dl (.Call (.Attribute ob m apos) (e::es) [] pos) d:=by
 obtain⟨f,fd,ps,AD,vds,Fo,hm,hb,hd,AE⟩:=F.ex;exact xv (pl:=pl) he F.cl hm Fo nx (hr.mono qW) hb hd AE ha hl h qm jf jn ht
def Lp (X:Cx)(G:Gr)(c:Expr):TT:=fun st H Q=>∃ dl b,EB X G dl c b/\K6 X.K G dl b st H Q
theorem DW:PT X c (Lp X G c):=fun pins s st H Q I ⟨dl,b,h,q⟩=>h pins s st H Q I q
theorem AX (S:Nat->List Slot)(n:Nat)(hp:PassesOwn (model X.prog X.w) X.A X.env X.xe)(h0:Le (S 0) dl)(hc:∀ k,k < n->EB X G (S k) c true)(hn:EB X G (S n) c false)(hb:∀ k,k < n->Goes X G E body (S k) (S (k+1))):ES X G E dl (.While c body [] pos) (.nx (S n)):=by
 refine qT (uf hp (DW (G:=G)) (o7 (G:=G) (E:=E))) fun D st H ⟨Hf,S0,k⟩=>?_
 refine⟨fun m st H=>∃ i,m=n - i/\i<=n/\∃ Hf1,ay Hf Hf1/\cL X.K G st Hf1 H (S i),⟨n,0,rfl,Wr _,Hf,ay.refl _,S0.weak h0⟩,?_⟩
 rintro m qo H1 ⟨i,rfl,hi,Hf1,s1,S1⟩
 by_cases b5:i < n
 . refine⟨S i,true,hc i b5,Hf1,S1,fun bw H2 g2=>vW ⟨fun fL H'=>∃ fH,ay Hf fH/\cL X.K G fL fH H' (S (i+1)),fun fL H' h'=>⟨n - (i+1),by omega,i+1,rfl,b5,h'⟩,?_⟩⟩
   exact mn (hb i b5) (S1.grow g2) (fun M5 fH H3 s3 S3=>⟨fH,(s1.trans g2.aY).trans s3,S3⟩) (fun M5 fH H3 s3 S3=>⟨fH,(s1.trans g2.aY).trans s3,S3⟩)
 . have e:i=n:=by omega
   subst e;exact⟨S i,false,hn,Hf1,S1,fun bw H2 g2=>vV (k _ bw H2 (s1.trans g2.aY) (S1.grow g2))⟩
end
noncomputable def wg (sc uF:Scope)(XN N:List Str)(ix:List Nat)(x:Str):Bool:=
 decide N.Nodup && (decide (N=x::ix.map (fun j=>XN.getD j "")) && (decide (sc.kind=.function) && (sc.names.all (fun y=>decide (y.2≠.cell)) && (sc.names.all (fun y=>decide (y.2=.local->sc.names.lookup y.1=some .local)) && (decide (sc.names.lookup x=some .local) &&
   (sc.names.all (fun y=>decide (y.2=.free->uF.names.lookup y.1=some .cell\/uF.names.lookup y.1=some .free)) && ix.all (fun j=>decide (sc.names.lookup (XN.getD j "")=some .free) && decide (j < XN.length))))))))
theorem HV {X:Cx}{sc uF:Scope}{XN N:List Str}{ix:List Nat}{x:Str}(h:wg sc uF XN N ix x=true)(e1:autoParam (X.env.scope=uF) jp)(e2:autoParam (X.N=XN) jp):gf X N ix x sc:=by
 subst e1 e2;unfold wg at h;simp only[Wn,Xp,decide_eq_true_eq] at h;obtain⟨h1,h2,h3,h4,h5,h6,h7,h8⟩:=h;refine⟨h1,h2,h3,h4,h5,h6,h7,fun j hj=>?_⟩;obtain⟨q1,q2⟩:=h8 j hj;refine⟨X.N.getD j "",?_,q1⟩;rw[Sl,Bn q2];rfl
noncomputable def QT:Expr->Scope
 | .ListComp _ _ sc _=>sc
 | .Call _ (.ListComp _ _ sc _::_) _ _=>sc
 | _=>{ kind:=.function,names:=[],isGenerator:=false,isCoroutine:=false}
noncomputable def QU:Stmt->Scope
 | .Assign _ e _=>QT e
 | .Return (some e) _=>QT e
 | _=>{ kind:=.function,names:=[],isGenerator:=false,isCoroutine:=false}
theorem pB (k:Str):∀ xs:List Str,KP (.str k) (xs.map V.str)=decide (k∈xs)
 | []=>by simp[KP]
 | x::xs=>by
   have ih:=pB k xs;unfold KP at ih ⊢;rw[V7,Xg,ih];by_cases e:x=k
   . subst e;simp[C4]
   . have:¬ (k=x):=fun z=>e z.symm
     simp[C4,e,this]
theorem qZ (xs:List Str):(xs.map V.str).all lx=true:=by
 induction xs with
 | nil=>rfl
 | cons x xs ih=>rw[V7,Xq,ih];rfl
section
variable {X:Cx}{G:Gr}{dl:List Slot}{a b:Expr}{pos:Pos}{k:Str}{xs:List Str}
theorem Lq {neg:Bool}:xr X.K (M8 X.K neg) (.str k) (.tup (xs.map .str)) (.bl (if neg then !decide (k∈xs) else decide (k∈xs))):=fun v w Hf H Q s r1 r2 kk=>by
 cases r1;cases r2 with
 | @tup q vs _ hq rp=>
   have ev:=j5 rp;subst ev;refine⟨q,_,rfl,.inr (dv s hq),rfl,qZ xs,?_⟩;rw[pB];exact kk _ Hf H (.refl s) (.bl _)
theorem HW (ha:EE X G dl a (.str k))(hb:EE X G dl b (.tup (xs.map .str)))(hm:autoParam (behindInMarks .In b=false) jp):EB X G dl (.Compare a [.In] [b] pos) (decide (k∈xs)):=iW qP (Lq (neg:=false)) hm ha hb
end
theorem uG {P:Program}{w:World}{A:Around}{R:Result->Shared->Prop}{s:Shared}{elt tg iter:Expr}{ifs:List Expr}{sc:Scope}{pos:Pos}{it acc:Value}{env:Env}(J:Nat->Shared->Prop)
   (turn:∀ n s,J n s->wpAny (model P w) A (pyNext it) (fun r s1=>match r with
     | none=>R (.ok .next) s1
     | some v=>wpAny (model P w) A (letOwnedTupleGo tg it v) (fun _ s2=>wpAny (model P w) A (assign tg env v) (fun _ s3=>
         wpAny (model P w) A (forIn ifs true fun c r=>if r=true then do let ok <- isTrue c env (eval c env);pure (ForInStep.yield ok) else pure (ForInStep.yield r)) (fun ok OI=>
         if ok=true then wpAny (model P w) A (eval elt env) (fun x s4=>wpAny (model P w) A (call (.builtin "list.append") [acc,x]) (fun _ s5=>∃ m,m < n/\J m s5) qw s4) qw OI
         else ∃ m,m < n/\J m OI) qw s3) qw s2) qw s1) qw s)
   (n:Nat) (h:J n s):codeAny (model P w) A (.compLoop (.ListComp elt [⟨tg,iter,ifs,0⟩] sc pos) 0 it acc env) R s:=by
 have off:∀ {B:Value->Shared->Prop} (x:Value) (s':Shared),qw x s'->B x s':=fun _ _ z=>z.elim
 refine codeAny_loop rfl J (fun n s hJ=>?_) n h;show wpAny _ A ((compTurn (.ListComp elt [⟨tg,iter,ifs,0⟩] sc pos) 0 it acc env).onRaise (fun x=>(do noteFrame x env;theTreesLotGoes x))) _ _ s;refine wpAny_noted ?_;rw[compTurn_list];refine wpAny_bind (wpAny_standAt (wpAny_bind (wpAny_mono (turn n s hJ) (fun r s1 h1=>?_) off)));cases r with
 | none=>exact wpAny_pure h1
 | some v=>
   refine wpAny_bind (wpAny_mono h1 (fun _ s2 h2=>wpAny_bind (wpAny_mono h2 (fun _ s3 h3=>wpAny_bind (wpAny_mono h3 (fun ok OI QV=>?_) off)) off)) off);cases ok with
   | false=>exact wpAny_pure ⟨rfl,QV⟩
   | true=>exact wpAny_bind (wpAny_bind (wpAny_mono QV (fun x s4 h4=>wpAny_bind (wpAny_mono h4 (fun _ s5 h5=>wpAny_pure (wpAny_pure ⟨rfl,h5⟩)) off)) off))
structure nL (X:Cx)(N tn:List Str)(ix:List Nat)(sc:Scope):Prop where
 nd:N.Nodup
 nm:N=tn ++ ix.map (fun j=>X.N.getD j "")
 kind:sc.kind=.function
 pk:∀ y∈sc.names,y.2≠.cell
 names:∀ y∈sc.names,y.2=.local->sc.names.lookup y.1=some .local
 hx:∀ x∈tn,sc.names.lookup x=some .local
 fr:∀ y∈sc.names,y.2=.free->X.env.kindOf y.1=some .cell\/X.env.kindOf y.1=some .free
 Lc:∀ j∈ix,∃ y,X.N[j]?=some y/\sc.names.lookup y=some .free
section
variable {X:Cx}{N tn:List Str}{ix:List Nat}{sc:Scope}{pins:List (Addr×Obj)}{st:L2.St}{H H':Hp}{s s':Shared}{C D:Addr}{fp:List Addr}{h1:Heap}
theorem xD (B:nL X N tn ix sc)(ok:X.Ok):closureFor sc X.env=pure (g8 sc X.env):=se fun y hy hk=>ok.has y.1 (B.fr y hy hk)
theorem lF (B:nL X N tn ix sc)(ok:X.Ok){y:Str}{c:Addr}(h:(g8 sc X.env).lookup y=some c):X.env.cells.lookup y=some c/\(y,NameKind.free)∈sc.names:=by
 rcases lC _ _ h with⟨h1,h2⟩ | h1
 . obtain⟨c',h3⟩:=ok.has y (B.fr _ h1 rfl)
   rw[h3] at h2;cases h2;exact⟨h3,h1⟩
 . cases h1
theorem om (B:nL X N tn ix sc)(I:L2.Inv X pins st H s)(hC:s.heap.objs.size<=C)(hf:∀ b∈fp,gT X pins H b)(b5:∀ b∈fp,b < s.heap.objs.size):(aO X N sc C fp s H).Ok where
 mod:=I.ok.mod
 kind:=B.kind
 glob:=I.ok.glob
 blt:=I.ok.blt
 above:=hC
 inj:=fun y z c h1 h2=>I.ok.inj y z c (lF B I.ok h1).1 (lF B I.ok h2).1
 has:=fun y hy=>by
   have hy:(relabel sc X.env).names.lookup y=some .cell\/(relabel sc X.env).names.lookup y=some .free:=hy;have:(y,NameKind.free)∈sc.names:=by
     rcases hy with hy | hy
     . obtain⟨k',h1,h2⟩:=dw hy
       rcases h2 with h2 | h2
       . subst h2;exact absurd rfl (B.pk _ h1)
       . subst h2;exact h1
     . obtain⟨k',h1,h2⟩:=dw hy
       rcases h2 with h2 | h2 <;> subst h2 <;> exact h1
   exact gd _ _ (.inl this)
 JU:=fun y c h=>by cases h
 hd:=I.ok.hd
 frames:=I.ok.frames
 Ke:=.inl rfl
 Dj:=fun b hb=>⟨V9 (V4 (b5 b hb) hC),fun y c h=>(hf b hb).2.2.2.2.1 y c (lF B I.ok h).1⟩
 bs:=I.bs
 xc:=We I.ok.xc I.sz
 t7:=fun b o e hb=>by
   rcases (hf b hb).2.2.2.1 with z | z
   . exact I.ok.t7 b o e z
   . exact absurd (V4 (VI e) (We I.ok.xc z)) (WK _)
 t8:=fun b hb z=>by
   rcases Wh.mp (I.oS b z) with z | z
   . exact(hf b hb).2.1 z
   . exact(hf b hb).2.2.1 z
 l7:=I.stack
 FA:=I.n9
theorem wj (B:nL X N tn ix sc)(I:L2.Inv X pins st H s)(hf:∀ b∈fp,gT X pins H b)(b5:∀ b∈fp,b < s.heap.objs.size)(hC:C=s.heap.objs.size+1)(k:∀ b o,s.heap.get? b=some o->h1.get? b=some o)(hn:h1.Ns C fun _=>none)(hD:h1.get? s.heap.objs.size=some { cls:=.type "list",data:=.seq ([]:List Value).toArray 0}){t':Nat}:L2.Inv (aO X N sc C fp s H) [] (Wg tn.length none ++ frees ix st) (upd H s.heap.objs.size (.lst [])) { s with heap:=h1,toks:=t'}:=by
 have FQ:s.heap.objs.size<=C:=by rw[hC];exact WU _
 have fr:∀ a,s.heap.objs.size<=a->H a=none:=fun a ha=>I.aK.fresh ha
 have ok:=om B I FQ hf b5;have vA:∀ y c,(g8 sc X.env).lookup y=some c->H c=none/\c < s.heap.objs.size/\∃ v,s.heap.IsCell c v:=fun y c h=>by
   have h:=(lF B I.ok h).1;obtain⟨v,q⟩:=I.cell y c h;exact⟨I.kH y c h,q.lt,v,q⟩
 refine⟨ok,rfl,I.bare,Un.laid k (O0 _) (fr _ (O0 _)),⟨_,hn,fun i y v e1 e2 e3=>?_⟩,fun y c h=>?_,?_,fun y c h=>?_,fun p hp=>absurd (show p∈([]:List (Addr×Obj)) from hp) (by simp),?_,?_⟩
 . have e1:N[i]?=some y:=e1
   by_cases hi:i < tn.length
   . rw[Wf (by simpa using hi),Ww,if_pos hi] at e2
     cases e2
   . have hi:tn.length<=i:=Xo hi
     rw[B.nm,Wd hi,VB] at e1;rw[Wd (by simpa using hi),List.length_replicate] at e2;unfold frees at e2;rw[VB] at e2;cases q:ix[i - tn.length]? with
     | none=>rw[q] at e1;cases e1
     | some j=>
       rw[q] at e1 e2;obtain⟨y',C7,AI⟩:=B.Lc j (WW q);have DT:=PySem.mem_of_lookup AI;have ey:y=y':=by
         have e1:X.N.getD j ""=y:=Option.some.inj e1;rw[Sl,C7] at e1;exact e1.symm
       subst ey;have e2:(st[j]?).join=some v:=Option.some.inj e2;have FR:st[j]?=some (some v):=by
         cases q2:st[j]? with
         | none=>rw[q2] at e2;cases e2
         | some z=>rw[q2] at e2;rw[show z=some v from e2]
       have kd:=B.fr _ DT rfl;have Ld:qI X.env.scope y:=by
         rcases kd with z | z
         . exact .inr (.inl z)
         . exact .inr (.inr z)
       obtain⟨m,_,hl⟩:=I.loc;obtain⟨u,r,l⟩:=hl j y v C7 FR Ld;refine⟨u,r,.inr ?_⟩;rcases l with⟨z,_⟩ | ⟨_,c,hc,ic⟩
       . rcases kd with z' | z' <;> rw[z] at z' <;> cases z'
       . obtain⟨c',vB⟩:=gd (cells:=X.env.cells) sc.names [] (.inl DT)
         have:=(lF B I.ok vB).1;rw[hc] at this;cases this;obtain⟨oc,xh,hd⟩:=ic;refine⟨?_,c,vB,oc,k _ _ xh,hd⟩;rcases e3 with e3 | e3 | e3
         . have e3:(relabel sc X.env).names.lookup y=some .local:=e3
           rcases iX (env:=X.env) AI with z | z
           . exact absurd (e3.symm.trans z) (by decide)
           . exact absurd (e3.symm.trans z) (by decide)
         . exact .inl e3
         . exact .inr e3
 . obtain⟨_,_,v,oc,xh,hd⟩:=vA y c h
   exact⟨v,oc,k _ _ xh,hd⟩
 . show upd H s.heap.objs.size (.lst []) C=none
   rw[ag (by rw[hC];exact Xc _)];exact fr _ FQ
 . show upd H s.heap.objs.size (.lst []) c=none
   obtain⟨q1,q2,_⟩:=vA y c h;rw[ag (V9 q2)];exact q1
 . exact I.aK.laid k (O0 _) ⟨Wr _,[],0,.nil,hD⟩
 . show(Wg tn.length none ++ frees ix st).length=N.length
   rw[B.nm];unfold frees;simp
def FV (X:Cx)(ifs:List Expr)(tt:TT):Prop:=∀ (pins:List (Addr×Obj)) (s:Shared) (st:L2.St) (H:Hp) (Q:Bool->Hp->Prop),L2.Inv X pins st H s->tt st H Q ->
 wpAny (model X.prog X.w) X.A (forIn ifs true fun c r=>if r=true then do let ok <- isTrue c X.env (eval c X.env);pure (ForInStep.yield ok) else pure (ForInStep.yield r)) (fun b s'=>∃ H',L2.Inv X pins st H' s'/\Q b H') X.xe s
theorem xE {c:Expr}{tt:TT}(h:PT X c tt):FV X [c] tt:=fun pins s st H Q I q=>wpAny_tests_one (bF (h pins s st H _ I q) fun b s' z=>z)
def xF (nt:Nat)(g:TG)(tt:TT)(te:TE)(fs:L2.St)(J:It)(D:Addr)(Q:List V->Hp->Prop)(H:Hp):Prop:=
 ∃ W:Nat->Nat->List V->Hp->Prop,(∃ m,W 0 m [] (upd H D (.lst [])))/\∀ i m ys H1,W i m ys H1 ->
   (J.stop i H1/\Q ys H1)\/(J.go i H1/\ys.length < sizeLine/\∀ σ:L2.St,σ.length=nt->∀ v H2,J.z8 i H1 v H2->g v (σ ++ fs) H2 fun σ2 H3=>∃ σ':L2.St,σ2=σ' ++ fs/\σ'.length=nt /\
     tt σ2 H3 fun b H4=>if b=true then te σ2 H4 fun y H5=>H5 D=some (.lst ys)/\∃ m',m' < m/\W (i+1) m' (ys ++ [y]) (upd H5 D (.lst (ys ++ [y]))) else ∃ m',m' < m/\W (i+1) m' ys H4)
theorem uH {elt iter tg:Expr}{ifs:List Expr}{pos:Pos}{g:TG}{tt:TT}{te:TE}{J:It}{it:Addr}{tj:Nat->Heap->Prop}{Q:Addr->List V->Hp->Prop}{RR:Value->Addr->Result->Shared->Prop}{E:Value->Shared->Prop}(hc:X.calm=true)(B:nL X N tn ix sc)(hg:∀ C fp s H,PG (aO X N sc C fp s H) tg g)(ht:∀ C fp s H,FV (aO X N sc C fp s H) ifs tt)(iu:∀ C fp s H,PE (aO X N sc C fp s H) elt te)(I:L2.Inv X pins st H s)(T:Turn X.prog X.w X.K tg J fp it tj)(h0:tj 0 s.heap)(hf:∀ b∈fp,gT X pins H b)(hq:∀ D,H D=none->xF tn.length g tt te (frees ix st) J D (Q D) H)(Lf:∀ D C ys H' s',L2.Inv X pins st H' s'->(∃ m,s'.heap.Ns C m)->gT X pins H' C->Q D ys H'->RR (.ref D) C (.ok .next) s'):wpAny (model X.prog X.w) X.A (newList []) (fun acc s3=>wpAny (model X.prog X.w) X.A (newFunctionEnv sc X.env.globals (g8 sc X.env) [] X.env.qual none .none (some X.env)) (fun uC s4=>codeAny (model X.prog X.w) X.A (.compStart (.ListComp elt [⟨tg,iter,ifs,0⟩] sc pos) 0 (.ref it) acc { uC with scope:=relabel sc X.env}) (RR acc uC.locals) s4) E s3) E s:=by
 have b5:∀ b∈fp,b < s.heap.objs.size:=fun b hb=>by
   obtain⟨o,e,_⟩:=T.obj _ _ h0 b hb;exact VI e
 refine wpAny_newObj_type (wpAny_newFunctionEnv B.pk (fun y hy=>absurd hy (by simp)) (fun h1 zO yR=>?_) B.kind);dsimp only at zO yR ⊢;generalize hG:s.heap.push { cls:=.type "list",dict:=none,data:=.seq ([]:List Value).toArray}=g' at zO yR ⊢;have hC:g'.objs.size=s.heap.objs.size+1:=by rw[<- hG,WS]
 have Ni:s.heap.objs.size≠g'.objs.size:=by rw[hC];exact V9 (WV _)
 have old:∀ b o,s.heap.get? b=some o->h1.get? b=some o:=fun b o e=>
   yR.extBut b o (by rw[hC];exact V9 (Xk (VI e))) (Te _ (hG ▸ Te _ e))
 have AJ:h1.get? s.heap.objs.size=some { cls:=.type "list",data:=.seq ([]:List Value).toArray 0}:=yR.extBut _ _ Ni (Te _ (hG ▸ VJ _ rfl));have hD:H s.heap.objs.size=none:=I.aK.fresh (O0 _);obtain⟨W,⟨m0,w0⟩,turn⟩:=hq _ hD;have I0:=wj (t':=s.toks+([]:List (Str×Value)).length) B I hf b5 hC old (by simpa using zO) AJ;have FT:tj 0 h1:=T.keep _ _ _ h0 fun b _ o e=>old b o e
 have jB:s.heap.objs.size<=g'.objs.size:=by rw[hC];exact WU _
 have kR:∀ {H':Hp},(∀ b∈fp,H' b=none)->∀ b∈fp,gT (aO X N sc g'.objs.size fp s H) [] H' b:=fun {H'} hn b hb=>
   ⟨hn b hb,((om B I jB hf b5).Dj b hb).1,(om B I jB hf b5).t8 b hb,.inl hb,((om B I jB hf b5).Dj b hb).2,fun p hp=>absurd (show p∈([]:List (Addr×Obj)) from hp) (by simp)⟩
 have loop:∀ s3:Shared,s3={ s with heap:=h1,toks:=s.toks+([]:List (Str×Value)).length} ->
     codeAny (model X.prog X.w) X.A (.compLoop (.ListComp elt [⟨tg,iter,ifs,0⟩] sc pos) 0 (.ref it) (.ref s.heap.objs.size) (compEnvC sc (g8 sc X.env) g'.objs.size X.env)) (RR (.ref s.heap.objs.size) g'.objs.size) s3:=by
   rintro s3 rfl
   refine uG (fun n s'=>∃ i ys σ H',σ.length=tn.length/\L2.Inv (aO X N sc g'.objs.size fp s H) [] (σ ++ frees ix st) H' s'/\tj i s'.heap/\(∀ b∈fp,H' b=none)/\W i n ys H') ?_ m0
     ⟨0,[],Wg tn.length none,_,by simp,I0,FT,fun b hb=>?_,w0⟩
   . rintro n s5 ⟨i,ys,σ,H5,hσ,I5,zN,C3,w5⟩
     rcases turn i n ys H5 w5 with⟨stop,qn⟩ | ⟨go,hz,step⟩
     . refine bF (T.done (aO X N sc g'.objs.size fp s H) rfl rfl rfl hc i [] s5 _ H5 qw I5 (kR C3) zN stop) fun r s6 ⟨hr,I6⟩=>?_
       subst hr;refine Lf _ _ ys H5 s6 ?_ ?_ (I.nG jB I6.free) qn
       . exact I.z6 I6.os I6.base I6.aK I6.bare fun b hb=>⟨(hf b hb).2.2.2.1,(hf b hb).2.1,(hf b hb).2.2.2.2.1,(hf b hb).2.2.2.2.2⟩
       . obtain⟨m,hm,_⟩:=I6.loc
         exact⟨m,hm⟩
     . refine bF (T.item (aO X N sc g'.objs.size fp s H) rfl rfl rfl hc i [] s5 _ H5 qw I5 (kR C3) zN go) fun r s6 ⟨u,hr,h6⟩=>?_
       subst hr;refine bF h6 fun _ s7 ⟨v,H7,I7,r7,y7,AK,Lg⟩=>?_
       have Lh:=I7.pinned (kR Lg) (T.obj _ _ AK);refine bF (hg g'.objs.size fp s H _ s7 _ H7 v u _ Lh r7 (step σ hσ v H7 y7)) fun _ s8 h8=>?_
       obtain⟨σ8,H8,I8,σ',e8,Lr,h8⟩:=h8;subst e8;have pinned:∀ {σ9:L2.St} {H9:Hp} {s9:Shared},L2.Inv (aO X N sc g'.objs.size fp s H) ([] ++ md fp s7.heap) σ9 H9 s9->tj (i+1) s9.heap/\∀ b∈fp,H9 b=none:=fun {σ9 H9 s9} I9=>by
         refine⟨T.keep _ _ _ AK fun b hb o e=>(I9.pin (b,o) (Wa _ (Wa _ (du hb e)))).1,fun b hb=>?_⟩;obtain⟨o,e,d⟩:=T.obj _ _ AK b hb;exact(I9.pin (b,o) (Wa _ (Wa _ (du hb e)))).2.1
       refine bF (ht g'.objs.size fp s H _ s8 _ H8 _ I8 h8) fun ok OJ DX=>?_
       obtain⟨OK,DY,DX⟩:=DX;cases ok with
       | false=>
         obtain⟨m',hm,w8⟩:=DX;exact⟨m',hm,i+1,ys,σ',_,Lr,DY.f9 (pins:=[]),(pinned DY).1,(pinned DY).2,w8⟩
       | true=>
         refine bF (iu g'.objs.size fp s H _ OJ _ OK _ DY DX) fun z s9 ⟨y,H9,I9,r9,Li,m',hm,w9⟩=>?_
         refine bF (jW _ s9 _ H9 (.ref s.heap.objs.size) [y] (.ref s.heap.objs.size) [z] (fun _ H'=>H'=upd H9 s.heap.objs.size (.lst (ys ++ [y]))) I9 rfl (.cons r9 .nil) ⟨_,ys,y,rfl,rfl,Li,hz,rfl⟩) fun _ QM Lj=>?_
         obtain⟨_,QN,AL,_,rfl⟩:=Lj;exact⟨m',hm,i+1,ys ++ [y],σ',_,Lr,AL.f9 (pins:=[]),(pinned AL).1,(pinned AL).2,w9⟩
   . rw[ag (V9 (b5 b hb))]
     exact(hf b hb).1
 exact codeAny_compStart_list (loop _ rfl) (T.self _ 0 _ _ _ FT (loop _ rfl))
end
section
variable {K:W.Frag}{G:Gr}{st:L2.St}{Hf H Hf1 H1:Hp}{dl:List Slot}{ix:List Nat}
structure Lu (K:W.Frag)(Hf:Hp)(σ:L2.St)(sl:List Slot):Prop where
 len:σ.length=sl.length
 val:∀ (i:Nat) d,sl[i]?=some (.val d)->∃ v,σ[i]?=some (some v)/\Rep K Hf v d
 no:∀ (i:Nat) o,sl[i]?≠some (.own o)
theorem Lu.mono {σ:L2.St}{sl:List Slot}(h:Lu K Hf σ sl)(s:ay Hf Hf1):Lu K Hf1 σ sl:=⟨h.len,fun i d e=>let ⟨v,h1,h2⟩:=h.val i d e;⟨v,h1,h2.mono s⟩,h.no⟩
theorem uI {σ:L2.St}{sl:List Slot}(S:cL K G st Hf H dl)(s1:ay Hf Hf1)(sb:ay Hf1 H1)(r:Lu K Hf1 σ sl):cL K ⟨Hf1,H1⟩ (σ ++ frees ix st) Hf1 H1 (sl ++ fJ dl ix):=by
 have no:∀ (i:Nat) o,(sl ++ fJ dl ix)[i]?≠some (.own o):=fun i o h=>by
   by_cases hi:i < sl.length
   . rw[Wf hi] at h
     exact r.no i o h
   . rw[Wd (Xo hi)] at h
     unfold fJ at h;rw[VB] at h;cases q:ix[i - sl.length]? with
     | none=>rw[q] at h;cases h
     | some j=>
       rw[q] at h;exact qX (Option.some.inj h)
 refine⟨.refl sb,by simp[frees,fJ,r.len],fun i x h=>?_,fun i o h=>absurd h (no i o),fun i j o o' a h=>absurd h (no i o)⟩;by_cases hi:i < sl.length
 . rw[Wf hi] at h
   rw[Wf (by rw[r.len];exact hi)];exact r.val i x h
 . have hi:=Xo hi
   rw[Wd hi] at h;rw[Wd (by rw[r.len];exact hi),r.len];unfold fJ at h;unfold frees;rw[VB] at h ⊢;cases q:ix[i - sl.length]? with
   | none=>rw[q] at h;cases h
   | some j=>
     rw[q] at h;have hd:=qY (Option.some.inj h);obtain⟨v',z1,z2⟩:=S.val j x hd;exact⟨v',by rw[Option.map_some,z1];rfl,z2.mono s1⟩
def HX (K:W.Frag)(nt:Nat)(g:TG)(z:Dt)(sl:List Slot):Prop:=∀ (σ fs:L2.St) (Hf H:Hp) (v:V) (Q:L2.St->Hp->Prop),σ.length=nt->ay Hf H->Rep K Hf v z ->
 (∀ σ':L2.St,σ'.length=nt->Lu K Hf σ' sl->Q (σ' ++ fs) H)->g v (σ ++ fs) H Q
theorem ck {z:Dt}:HX K 1 (kI 0) z [.val z]:=fun σ fs Hf H v Q hl s r k=>by
 cases σ with
 | nil=>cases hl
 | cons a σ=>
   have:σ=[]:=List.eq_nil_of_length_eq_zero (by simpa using hl);subst this;refine k [some v] rfl ⟨rfl,fun i d h=>?_,fun i o h=>?_⟩
   . cases i with
     | zero=>cases h;exact⟨v,rfl,r⟩
     | succ i=>cases h
   . cases i with
     | zero=>cases h
     | succ i=>cases h
abbrev FW (K:W.Frag):TG:=GV K 2 (ue (kI 0) (ue (kI 1) GU))
theorem xG {a b:Dt}:HX K 2 (FW K) (.tup [a,b]) [.val a,.val b]:=fun σ fs Hf H v Q hl s r k=>by
 cases σ with
 | nil=>cases hl
 | cons x σ=>cases σ with
   | nil=>cases hl
   | cons y σ=>
     have:σ=[]:=List.eq_nil_of_length_eq_zero (by simpa using hl);subst this;cases r with
     | @tup q vs _ hq rp=>
       cases rp with
       | cons r1 t1=>cases t1 with
         | cons r2 t2=>
           cases t2;refine⟨q,_,rfl,dv s hq,rfl,_,_,rfl,_,_,rfl,rfl,k [some _,some _] rfl ⟨rfl,fun i d h=>?_,fun i o h=>?_⟩⟩
           . cases i with
             | zero=>cases h;exact⟨_,rfl,r1⟩
             | succ i=>cases i with
               | zero=>cases h;exact⟨_,rfl,r2⟩
               | succ i=>cases h
           . cases i with
             | zero=>cases h
             | succ i=>cases i with
               | zero=>cases h
               | succ i=>cases h
end
section
variable {X:Cx}{G:Gr}{E:XK}{dl:List Slot}{a b c elt iter tg:Expr}{ifs:List Expr}{i:Int}{pos p px py qx:Pos}{o:Out}{x y:Str}{N tn:List Str}{ix:List Nat}{sc:Scope}{n:Nat}
def lG (X:Cx)(G:Gr)(dl:List Slot)(zs:List Dt)(wi:TI):Prop:=∀ st H (R:It->Hp->Prop),(∃ Hf,cL X.K G st Hf H dl/\∀ J AU H0,aN Hf H AU H0 ->
 (∀ Hf1 H1,ay AU Hf1->ay Hf1 H1->∀ i,(∀ z,zs[i]?=some z->J.go i H1/\∀ v H2,J.z8 i H1 v H2->∃ bw,aN Hf1 H1 bw H2/\Rep X.K bw v z)/\(i=zs.length->J.stop i H1))->R J H0)->wi st H R
theorem eZ {xs:List Dt}:lG X G dl xs (z9 X.K (tD X.K G dl (.lst xs))):=fun st H R zq=>xa zq fun Hf S k=>fun v Hf1 H1 g1 r1=>by
 cases r1 with
 | @lst q vs _ hq rp=>
   have hl:=rp.length;refine⟨q,rfl,⟨vs,.of (g1.sub _ _ hq)⟩,k _ Hf1 H1 g1 fun bw H2 s1 s2 i=>⟨fun z hz=>?_,fun hi=>⟨vs,.of (s2 _ _ (s1 _ _ hq)),by omega⟩⟩⟩;obtain⟨u,z1,z2⟩:=rp.get hz;have hs:jm X.K H2 q vs:=.of (s2 _ _ (s1 _ _ hq));refine⟨⟨vs,u,hs,z1⟩,fun v H3 hy=>?_⟩;obtain⟨e1,e2⟩:=hy;have e2:=e2 vs hs;rw[z1] at e2;cases e2;subst e1;exact⟨bw,.refl s2,z2.mono s1⟩
variable {α:Type}{as:List α}{z f:α->Dt}{sl:α->List Slot}{keep:α->Bool}{g:TG}{wi:TI}
def DZ (K:W.Frag)(dl:List Slot)(ix:List Nat)(as:List α)(sl:α->List Slot)(keep:α->Bool):TT:=fun st H Q=>∃ a G',a∈as/\K6 K G' (sl a ++ fJ dl ix) (keep a) st H Q
def D1 (K:W.Frag)(dl:List Slot)(ix:List Nat)(as:List α)(sl:α->List Slot)(keep:α->Bool)(f:α->Dt):TE:=fun st H Q=>∃ a G',a∈as/\keep a=true/\tD K G' (sl a ++ fJ dl ix) (f a) st H Q
inductive uJ (X:Cx)(N:List Str)(sc:Scope)(dl:List Slot)(ix:List Nat)(as:List α)(sl:α->List Slot)(keep:α->Bool):List Expr->Prop
 | nil:(∀ a∈as,keep a=true)->uJ X N sc dl ix as sl keep []
 | one {c:Expr}:(∀ a∈as,∀ C fp s H G',EB (aO X N sc C fp s H) G' (sl a ++ fJ dl ix) c (keep a))->uJ X N sc dl ix as sl keep [c]
theorem AY (h:uJ X N sc dl ix as sl keep ifs):∀ C fp s H,FV (aO X N sc C fp s H) ifs (DZ X.K dl ix as sl keep):=fun C fp s H=>by
 cases h with
 | nil h=>exact fun pins s' st H' Q I ⟨a,G',ha,Hf,S,k⟩=>wpAny_tests_nil ⟨H',I,by have:=k Hf H' (.refl S.sub);rw[h a ha] at this;exact this⟩
 | one h=>exact xE fun pins s' st H' Q I ⟨a,G',ha,q⟩=>h a ha C fp s H G' pins s' st H' Q I q
def HY (X:Cx)(N:List Str)(sc:Scope)(dl:List Slot)(ix:List Nat)(as:List α)(sl:α->List Slot)(keep:α->Bool)(f:α->Dt)(elt:Expr):Prop:=∀ a∈as,keep a=true->∀ C fp s H G',EE (aO X N sc C fp s H) G' (sl a ++ fJ dl ix) elt (f a)
theorem AZ (h:HY X N sc dl ix as sl keep f elt):∀ C fp s H,PE (aO X N sc C fp s H) elt (D1 X.K dl ix as sl keep f):=fun C fp s H pins s' st H' Q I ⟨a,G',ha,hk,q⟩=>h a ha hk C fp s H G' pins s' st H' Q I q
theorem yT {nt:Nat}{st:L2.St}{Hf H:Hp}{J:It}{Q:VK}(S:cL X.K G st Hf H dl)(hn:as.length<=sizeLine)(A0:∀ a∈as,HX X.K nt g (z a) (sl a))(go:∀ Hf1 H1,aN Hf H Hf1 H1->∀ i,(∀ y,(as.map z)[i]?=some y->J.go i H1/\∀ v H2,J.z8 i H1 v H2->∃ bw,aN Hf1 H1 bw H2/\Rep X.K bw v y)/\(i=(as.map z).length->J.stop i H1))(k:∀ p aA H',aN Hf H aA H'->H p=none->aA p=none->dZ X.K aA H' p (.lst ((as.filter keep).map f))->Q (.ref p) H'):∀ D,H D=none->xF nt g (DZ X.K dl ix as sl keep) (D1 X.K dl ix as sl keep f) (frees ix st) J D (fun _ H'=>Q (.ref D) H') H:=by
 intro D hD;refine⟨fun i m vs H1=>m=as.length - i/\i<=as.length/\∃ Hf1,aN Hf H Hf1 H1/\Hf1 D=none/\H1 D=some (.lst vs)/\bu X.K Hf1 vs (((as.take i).filter keep).map f),⟨as.length,rfl,Wr _,Hf,.cB S.sub hD,S.sub.free hD,ah,.nil⟩,?_⟩
 rintro i m vs H1 ⟨rfl,hi,Hf1,g1,Lk,J3,rp⟩
 have hlen:=rp.length;rw[ou] at hlen;have OL:((as.take i).filter keep).length<=i:=We (List.length_filter_le _ _) (by rw[Wc];omega);have wk:∀ {OM Ha Nn Hb:Hp},aN OM Ha Nn Hb->OM D=none->Ha D=some (.lst vs)->Nn D=none/\Hb D=some (.lst vs):=fun {OM Ha Nn Hb} gg e1 e2=>by
   refine⟨?_,gg.big _ _ e2⟩;cases q:Nn D with
   | none=>rfl
   | some u=>
     obtain⟨o,z⟩:=gg.rW e2 (fun z=>z) q;rw[e1] at z;cases z
 by_cases b5:i < as.length
 . have yU:as[i]∈as:=Wu b5
   have et:as.take (i+1)=as.take i ++ [as[i]]:=by rw[WX,Bn b5];rfl
   obtain⟨Ll,hy⟩:=(go Hf1 H1 g1 i).1 (z as[i]) (by rw[VB,Bn b5];rfl);refine .inr ⟨Ll,by omega,fun σ hσ v H2 y=>?_⟩;obtain⟨bw,g2,rv⟩:=hy v H2 y;obtain⟨d2,SN⟩:=wk g2 Lk J3;refine A0 as[i] yU σ _ bw H2 v _ hσ g2.sub rv fun σ' SO tv=>⟨σ',rfl,SO,as[i],⟨bw,H2⟩,yU,bw,uI S (g1.aY.trans g2.aY) g2.sub tv,fun fH H3 g3=>?_⟩
   obtain⟨d3,QW⟩:=wk g3 d2 SN;cases hk:keep as[i] with
   | false=>
     refine⟨as.length - (i+1),by omega,rfl,b5,fH,(g1.trans g2).trans g3,d3,QW,?_⟩;rw[et,WN,Xi (by simp[hk]),List.filter_nil,Wq];exact rp.mono (g2.aY.trans g3.aY)
   | true=>
     refine⟨as[i],⟨fH,H3⟩,yU,hk,fH,uI S ((g1.aY.trans g2.aY).trans g3.aY) g3.sub (tv.mono g3.aY),fun y C9 H4 g4 r4=>?_⟩;obtain⟨d4,SQ⟩:=wk g4 d3 QW;have gg:=((g1.trans g2).trans g3).trans g4;refine⟨SQ,as.length - (i+1),by omega,rfl,b5,C9,⟨fun a o h=>?_,gg.aY,fun a o h=>?_,gg.new⟩,d4,ah,?_⟩
     . rw[ag (ar h hD)];exact gg.big _ _ h
     . rw[ag (ar h d4)];exact g4.sub _ _ h
     . rw[et,WN,Xj (by simpa using hk),List.filter_nil,WM]
       exact(rp.mono ((g2.aY.trans g3.aY).trans g4.aY)).append (.cons r4 .nil)
 . have e:i=as.length:=by omega
   subst e;refine .inl ⟨(go Hf1 H1 g1 _).2 (by simp),k D Hf1 H1 g1 hD Lk ⟨vs,J3,?_⟩⟩;rw[W0] at rp;exact rp
def D2 (wi:TI)(nt:Nat)(ix:List Nat)(g:TG)(tt:TT)(te:TE):TE:=fun st H Q=>wi st H fun J H1=>∀ D,H1 D=none->xF nt g tt te (frees ix st) J D (fun _ H'=>Q (.ref D) H') H1
theorem HZ {tt:TT}{te:TE}(hc:X.calm=true)(B:nL X N tn ix sc)(hi:PI X tg iter wi)(hg:∀ C fp s H,PG (aO X N sc C fp s H) tg g)(ht:∀ C fp s H,FV (aO X N sc C fp s H) ifs tt)(iu:∀ C fp s H,PE (aO X N sc C fp s H) elt te)(hs:∀ z,foldedSetIterable iter X.env z=pure z):PE X (.ListComp elt [⟨tg,iter,ifs,0⟩] sc pos) (D2 wi tn.length ix g tt te):=by
 intro pins s st H Q I h;rw[eval_ListComp];refine wpAny_comprehension_free (use:=none) rfl hs (xD B I.ok) B.kind B.names (bF (hi pins s st H _ I h) fun v s1 h1=>bF h1 fun JW s2 h2=>?_);obtain⟨it,fp,tj,J,H2,e,I2,T,C1,f2,hq⟩:=h2;subst e;refine uH (RR:=fun acc C=>compPost (model X.prog X.w) X.A X.xe none (EP X pins st Q) acc C) hc B hg ht iu I2 T C1 f2 hq ?_;intro D C ws H' s' I' ⟨m,hn⟩ my q;exact⟨m,hn,fun h' HS=>⟨.ref D,H',I'.turned (t':=s'.toks) (it:=C) (fun b o hb e=>(HS.2 b hb).trans e) my.1 my.2.1 my.2.2.2.1 my.2.2.2.2.1 my.2.2.2.2.2,rfl,q⟩⟩
theorem Ia {tt:TT}{te:TE}{nN:Nat}(hc:X.calm=true)(B:nL X N tn ix sc)(hi:PI X tg iter wi)(hg:∀ C fp s H,PG (aO X N sc C fp s H) tg g)(ht:∀ C fp s H,FV (aO X N sc C fp s H) ifs tt)(iu:∀ C fp s H,PE (aO X N sc C fp s H) elt te)(hs:∀ z,foldedSetIterable iter X.env z=pure z)(HR:swapsWith (.ListComp elt [⟨tg,iter,ifs,0⟩] sc pos) (some (.Name y py)) qx.line X.env=pure true)(hN:X.N.Nodup)(hy:X.N[nN]?=some y)(hl:Loc X.env.scope y)(hf:X.fn y=true\/X.env.scope.names.lookup y=some .local):PS X (.Assign [.Name y py] (.ListComp elt [⟨tg,iter,ifs,0⟩] sc pos) qx) (fun D st H=>D2 wi tn.length ix g tt te st H fun v H'=>D.nx (st.set nN (some v)) H'):=by
 intro pins s st H D0 I h;rw[exec_Assign_Name_used _ _ _ _ HR];refine wpAny_bind (wpAny_standAt (wpAny_bind ?_));show wpAny _ X.A (do let _ <- comprehension (.ListComp elt [⟨tg,iter,ifs,0⟩] sc pos) sc X.env _ (newList []) false (eval iter X.env) (some (assign (.Name y py) X.env))) _ _ s;refine wpAny_bind (wpAny_mono (wpAny_comprehension_free (use:=some (assign (.Name y py) X.env)) (Q:=fun _ s'=>SP X pins D0 .next s') rfl hs (xD B I.ok) B.kind B.names (bF (hi pins s st H _ I h) fun v s1 h1=>bF h1 fun JW s2 h2=>?_)) (fun _ s' hq=>wpAny_pure (wpAny_pure hq)) fun _ _ z=>z);obtain⟨it,fp,tj,J,H2,e,I2,T,C1,f2,hq⟩:=h2;subst e;refine uH (RR:=fun acc C=>compPost (model X.prog X.w) X.A X.xe (some (assign (.Name y py) X.env)) (fun _ s'=>SP X pins D0 .next s') acc C) hc B hg ht iu I2 T C1 f2 hq ?_;intro D C ws H' s' I' ⟨m,hn⟩ my q;refine wpAny_assign_Name (l8 I' hN hy hl (v:=.ref D) rfl (fun Hh OG ⟨ad,yR,ha⟩=>?_) hf);have ne:C≠ad:=by
   rcases ha with z | z
   . rw[z];exact my.2.1
   . exact Ne.symm (my.2.2.2.2.1 _ _ z)
 exact⟨m,hn.sameBut yR ne,fun h' HS=>⟨_,H',OG.turned (t':=Hh.toks) (it:=C) (fun b o hb e=>(HS.2 b hb).trans e) my.1 my.2.1 my.2.2.2.1 my.2.2.2.2.1 my.2.2.2.2.2,q⟩⟩
theorem mB (hs:lG X G dl (as.map z) wi)(A0:∀ a∈as,HX X.K n g (z a) (sl a))(hn:as.length<=sizeLine):∀ st H Q,Nj X.K G dl (.lst ((as.filter keep).map f)) st H Q->D2 wi n ix g (DZ X.K dl ix as sl keep) (D1 X.K dl ix as sl keep f) st H Q:=fun st H Q zq=>Nf zq fun Hf zq=>have S:=zq.1;have k:=zq.2;
 hs st H _ ⟨Hf,S,fun J AU H0 g0 src=>yT (S.grow g0) hn A0 (fun Hf1 H1 g1 i=>src Hf1 H1 g1.aY g1.sub i) fun p aA H' g n1 n2 r=>k p aA H' (g0.trans g) (g0.big.free n1) n2 r⟩
theorem eW (as:List α)(z f:α->Dt)(sl:α->List Slot)(keep:α->Bool)(hc:X.calm=true)(B:nL X N tn ix sc)(hi:PI X tg iter wi)(hg:∀ C fp s H,PG (aO X N sc C fp s H) tg g)(sj:lG X G dl (as.map z) wi)(A0:∀ a∈as,HX X.K tn.length g (z a) (sl a))(A1:uJ X N sc dl ix as sl keep ifs)(iu:HY X N sc dl ix as sl keep f elt)(hn:as.length<=sizeLine)(hs:autoParam (∀ z,foldedSetIterable iter X.env z=pure z) xz):EO X G dl (.ListComp elt [⟨tg,iter,ifs,0⟩] sc pos) (.lst ((as.filter keep).map f)):=fG (HZ hc B hi hg (AY A1) (AZ iu) hs) (mB sj A0 hn)
theorem A2 (nN:Nat)(as:List α)(z f:α->Dt)(sl:α->List Slot)(keep:α->Bool)(hc:X.calm=true)(hN:X.N.Nodup)(B:nL X N tn ix sc)(hi:PI X tg iter wi)(hg:∀ C fp s H,PG (aO X N sc C fp s H) tg g)(sj:lG X G dl (as.map z) wi)(A0:∀ a∈as,HX X.K tn.length g (z a) (sl a))(A1:uJ X N sc dl ix as sl keep ifs)(iu:HY X N sc dl ix as sl keep f elt)(hn:as.length<=sizeLine)(hs:autoParam (∀ z,foldedSetIterable iter X.env z=pure z) xz)(HR:autoParam (swapsWith (.ListComp elt [⟨tg,iter,ifs,0⟩] sc pos) (some (.Name y py)) qx.line X.env=pure true) jp)(hy:autoParam (X.N[nN]?=some y) jp)(hl:autoParam (Loc X.env.scope y) zD)(hf:autoParam (X.fn y=true\/X.env.scope.names.lookup y=some .local) jR):ES X G E dl (.Assign [.Name y py] (.ListComp elt [⟨tg,iter,ifs,0⟩] sc pos) qx) (.nx (dl.set nN (.own (.lst ((as.filter keep).map f))))):=
 qT (Ia hc B hi hg (AY A1) (AZ iu) hs HR hN hy hl hf) fun D st H zq=>Nf zq fun Hf zq=>have S:=zq.1;have k:=zq.2;mB sj A0 hn st H _ ⟨Hf,S,fun p aA H' g n1 n2 r=>k _ aA H' g.aY (S.HN g n1 n2 r)⟩
def ON (K:W.Frag)(g:TG)(z:Dt)(up:List Slot->List Slot):Prop:=∀ (G:Gr) (st:L2.St) (Hf H:Hp) (v:V) (dl:List Slot) (Q:L2.St->Hp->Prop),cL K G st Hf H dl->Rep K Hf v z->(∀ fL,cL K G fL Hf H (up dl)->Q fL H)->g v st H Q
theorem su {K:W.Frag}{n:Nat}{z:Dt}:ON K (kI n) z (fun dl=>dl.set n (.val z)):=fun G st Hf H v dl Q S r k=>k _ (S.set r)
theorem oo {K:W.Frag}{n m:Nat}{z1 z2:Dt}:ON K (GV K 2 (ue (kI n) (ue (kI m) GU))) (.tup [z1,z2]) (fun dl=>(dl.set n (.val z1)).set m (.val z2)):=fun G st Hf H v dl Q S r k=>by
 cases r with
 | @tup q vs _ hq rp=>
   cases rp with
   | cons r1 t1=>cases t1 with
     | cons r2 t2=>
       cases t2;exact⟨q,_,rfl,dv S.sub hq,rfl,_,_,rfl,_,_,rfl,rfl,k _ ((S.set r1).set r2)⟩
theorem iY {body:List Stmt}{m:Nat}(as:List α)(z:α->Dt)(up:α->List Slot->List Slot)(S:Nat->List Slot)(o8:X.calm=true)(hp:PassesOwn (model X.prog X.w) X.A X.env X.xe)(hI:PI X tg iter wi)(sj:lG X G dl (as.map z) wi)(hg:PG X tg g)(A0:∀ a∈as,ON X.K g (z a) (up a))(h0:Le (S 0) dl)(OD:m<=as.length)(hb:∀ (k:Nat) (a:α),k < m->as[k]?=some a->Goes X G E body (up a (S k)) (S (k+1)))(he:lB X G E body S (fun k=>(as[k]?).elim (S k) fun a=>up a (S k)) as.length m o)(hs:autoParam (∀ z,foldedSetIterable iter X.env z=pure z) xz):ES X G E dl (.For tg iter body [] pos) o:=by
 refine qT (vK hp o8 hI hg (o7 (G:=G) (E:=E)) hs) fun D st H ⟨Hf,S0,k⟩=>sj st H _ ⟨Hf,S0,fun J AU H0 g0 src=>?_⟩
 refine⟨fun i q st H=>q=as.length - i/\i<=m/\∃ Hf1,ay AU Hf1/\cL X.K G st Hf1 H (S i),⟨as.length,rfl,Wr _,AU,ay.refl _,(S0.grow g0).weak h0⟩,?_⟩
 rintro i q qo H1 ⟨rfl,VF,Hf1,s1,S1⟩
 have sr:=src Hf1 H1 s1 S1.sub i;by_cases b5:i < as.length
 . have hz:as[i]?=some as[i]:=Bn b5
   obtain⟨Ll,hy⟩:=sr.1 (z as[i]) (by rw[VB,hz];rfl);refine .inr ⟨Ll,fun fL H'=>i < m/\∃ bw,ay AU bw/\cL X.K G fL bw H' (S (i+1)),fun fL H' ⟨h1,h2⟩=>⟨as.length - (i+1),by omega,rfl,by omega,h2⟩,fun x H' y=>?_⟩;obtain⟨bw,g2,rv⟩:=hy x H' y;refine A0 as[i] (Wu b5) G qo bw H' x (S i) _ (S1.grow g2) rv fun C1 S2=>?_
   by_cases Ib:i < m
   . exact mn (hb i as[i] Ib hz) S2 (fun st fH H s3 S'=>⟨Ib,fH,(s1.trans g2.aY).trans s3,S'⟩) (fun st fH H s3 S'=>⟨Ib,fH,(s1.trans g2.aY).trans s3,S'⟩)
   . have e:i=m:=by omega
     subst e;refine qU he b5 ?_ (k.mono ((g0.aY.trans s1).trans g2.aY)) rfl rfl;show cL _ _ _ _ _ ((as[i]?).elim (S i) fun a=>up a (S i));rw[hz];exact S2
 . have e:i=as.length:=by omega
   subst e;have e2:m=as.length:=by omega
   subst e2;refine .inl ⟨sr.2 (by simp),?_⟩;cases he with
   | all _=>exact k qo Hf1 H1 (g0.aY.trans s1) S1
   | rt h _=>omega
   | ro h _=>omega
   | bk h _=>omega
   | ex h _=>omega
theorem bV (B:nL X N tn ix sc)(h:tn=[x]):∀ C fp s H,PG (aO X N sc C fp s H) (.Name x px) (kI 0):=fun C fp s H=>by
 have hN:(aO X N sc C fp s H).N[0]?=some x:=by
   show N[0]?=some x;rw[B.nm,h];rfl
 have C8:(aO X N sc C fp s H).env.scope.names.lookup x=some .local:=lookup_relabel_local (B.hx x (by rw[h];simp));exact bh (X:=aO X N sc C fp s H) B.nd hN (.inl C8) (.inr C8)
theorem uK {k:Nat}(hc:X.calm=true)(B:nL X N tn ix sc)(h:tn=[x,y]):∀ C fp s H,PG (aO X N sc C fp s H) (.Tuple [.Name x px,.Name y py] k p) (FW X.K):=fun C fp s H=>by
 have h0:(aO X N sc C fp s H).N[0]?=some x:=by
   show N[0]?=some x;rw[B.nm,h];rfl
 have h1:(aO X N sc C fp s H).N[1]?=some y:=by
   show N[1]?=some y;rw[B.nm,h];rfl
 have C8:(aO X N sc C fp s H).env.scope.names.lookup x=some .local:=lookup_relabel_local (B.hx x (by rw[h];simp));have AI:(aO X N sc C fp s H).env.scope.names.lookup y=some .local:=lookup_relabel_local (B.hx y (by rw[h];simp));exact ma (X:=aO X N sc C fp s H) hc (cj (bh B.nd h0 (.inl C8) (.inr C8)) (cj (bh B.nd h1 (.inl AI) (.inr AI)) jU rfl) rfl) rfl rfl
end
noncomputable def fK (sc uF:Scope)(XN N tn:List Str)(ix:List Nat):Bool:=
 decide N.Nodup && (decide (N=tn ++ ix.map (fun j=>XN.getD j "")) && (decide (sc.kind=.function) && (sc.names.all (fun y=>decide (y.2≠.cell)) && (sc.names.all (fun y=>decide (y.2=.local->sc.names.lookup y.1=some .local)) && (tn.all (fun x=>decide (sc.names.lookup x=some .local)) &&
   (sc.names.all (fun y=>decide (y.2=.free->uF.names.lookup y.1=some .cell\/uF.names.lookup y.1=some .free)) && ix.all (fun j=>decide (sc.names.lookup (XN.getD j "")=some .free) && decide (j < XN.length))))))))
theorem bI {X:Cx}{sc uF:Scope}{XN N tn:List Str}{ix:List Nat}(h:fK sc uF XN N tn ix=true)(e1:autoParam (X.env.scope=uF) jp)(e2:autoParam (X.N=XN) jp):nL X N tn ix sc:=by
 subst e1 e2;unfold fK at h;simp only[Wn,Xp,decide_eq_true_eq] at h;obtain⟨h1,h2,h3,h4,h5,h6,h7,h8⟩:=h;refine⟨h1,h2,h3,h4,h5,h6,h7,fun j hj=>?_⟩;obtain⟨q1,q2⟩:=h8 j hj;refine⟨X.N.getD j "",?_,q1⟩;rw[Sl,Bn q2];rfl
section
variable {X:Cx}{G:Gr}{dl:List Slot}{a e:Expr}{w:Own}{u:Bool}
theorem Lv {Hf H Hf1 aA H':Hp}(s:ay Hf H)(g:aN Hf1 H aA H'):aN Hf H Hf H':=⟨g.big,ay.refl _,s.trans g.big,fun a o h=>.inl ⟨o,h⟩⟩
theorem D3 (n:Nat)(h:EB X G (dl.set n (.val (J2 w))) e u)(hd:autoParam (dl[n]?=some (.own w)) jp):EB X G dl e u:=K7 h fun st H Q zq=>Nf zq fun Hf zq=>have S:=zq.1;have k:=zq.2;by
 obtain⟨Hf1,_,S1⟩:=S.aY hd;exact⟨Hf1,S1,fun aA H' g=>k Hf H' (Lv S.sub g)⟩
end
section
variable {X:Cx}{pins:List (Addr×Obj)}{σ:List (Option V)}{H:Hp}{s:Shared}{h':Heap}
theorem uL {ch:List Addr}{a:Addr}{o:HO}{t':Nat}(I:L2.Inv X pins σ H s)(tU:∀ b∈ch,gT X pins H b)(k:∀ b u,b ∉ ch->s.heap.get? b=some u->h'.get? b=some u)(hp:s.heap.objs.size<=a)(new:aD X.prog X.w (upd H a o) h' a o):L2.Inv X pins σ (upd H a o) { s with heap:=h',toks:=t'}:=by
 have hn:=I.aK.fresh hp;have Kh:∀ b u,H b=some u->b ∉ ch:=fun b u e z=>by rw[(tU b z).1] at e;cases e
 have SR:∀ b o,s.heap.get? b=some o->b≠a:=fun b o e=>V9 (V4 (VI e) hp)
 refine I.step (g':=s.gens) (d':=s.drawn) (ch:=ch) (fun b hb=>⟨(tU b hb).2.2.2.1,(tU b hb).2.1,(tU b hb).2.2.2.2.1,(tU b hb).2.2.2.2.2⟩) (fun b o _ _ hc e _=>k b o hc e) (fun b o _ _ hc e _=>⟨o.slots,k b o hc e⟩) (fun b o _ e n=>by rw[ag (SR b o e)];exact n)
   (fun b o hc e=>⟨o,k b o hc e⟩) (fun b xs e=>by rw[ag (ar e hn)];exact e) (fun b o u e=>by rw[ag (ar e hn)];exact e) (fun b ps e=>⟨#[],by rw[ag (ar e hn),e];simp⟩) (fun m hm=>?_) (fun b u e=>?_) I.bare
 . obtain⟨o,es,ep,ho,r⟩:=hm
   exact⟨o,es,ep,k _ o (fun z=>(tU _ z).2.1 rfl) ho,r⟩
 . by_cases hb:b=a
   . subst hb;rw[ah] at e;cases e;exact new
   . rw[ag hb] at e
     refine(I.aK b u e).tZ (fun c v hc q=>k c v ?_ q) (fun c q=>by rw[ag (ar q hn)];exact q) (fun c xs q=>by rw[ag (ar q hn)];exact q) (.of fun c u q=>by rw[ag (ar q hn)];exact q);rcases hc with z | z | z
     . rw[z];exact Kh b u e
     . exact Kh c _ z
     . exact fun z'=>by rw[(tU c z').1] at z;exact z
end
noncomputable def QX (K:PySem.W.Frag)(a:Addr):It:=
 ⟨fun i H=>∃ xs x,jm K H a xs/\xs[i]?=some x,fun i H v H'=>∃ p x,v=.ref p/\H p=none/\H'=upd H p (.tup [.int i,x])/\∀ xs,jm K H a xs->xs[i]?=some x,fun i H=>∃ xs,jm K H a xs/\xs.length<=i⟩
theorem yV {P:Program}{w:World}{K:W.Frag}{elts:List Expr}{kt:Nat}{rH:Pos}(a e it:Addr)(J4:e≠it):Turn P w K (.Tuple elts kt rH) (QX K a) [e,it] e (fun i h=>(∃ old,IsEnum h e it i old)/\h.IsListIter it a i) where
 mem:=by simp
 obj:=fun i h st b hb=>by
   obtain⟨⟨old,he⟩,o,e2,c,d⟩:=st;rcases Wh.mp hb with rfl | hb
   . exact⟨_,he,fun v z=>by cases z⟩
   . have:b=it:=by simpa using hb
     subst this;exact⟨o,e2,fun v z=>by rw[d] at z;cases z⟩
 keep:=fun i h h' st k=>by
   obtain⟨⟨old,he⟩,hit⟩:=st;exact⟨⟨old,k e (by simp) _ he⟩,hit.at fun o x=>k it (by simp) o x⟩
 item:=by
   intro X hP hw hK hc i pins s σ H E I hf st hg;subst hP hw hK;obtain⟨xs,x,hq,hx⟩:=hg;obtain⟨aE,rv,p,hz⟩:=I.list hq;obtain⟨u,hu,ru⟩:=rv.get hx;obtain⟨⟨old,he⟩,hit⟩:=st;have Lw:e < s.heap.objs.size:=VI he;have Np:it < s.heap.objs.size:=by obtain⟨_,z,_⟩:=hit;exact VI z
   refine wpAny_pyNext_enum_item he hit p.isList (x:=u) (by simpa using hu) J4 fun h1 ho Ic hT hsz hk=>?_
   refine⟨_,rfl,wpAny_letOwnedTupleGo_enum ho fun h2 HF uh=>?_⟩;have OO:h2.get? s.heap.objs.size=some { cls:=.type "tuple",data:=.seq #[.int i s.toks,u]}:=(uh.2 _ (Xb Lw)).trans hT;have k2:∀ b o,b ∉ [e,it]->s.heap.get? b=some o->h2.get? b=some o:=fun b o hb q=>(uh.2 b fun z=>hb (by simp[z])).trans (hk b o (fun z=>hb (by simp[z])) (fun z=>hb (by simp[z])) q)
   have hp:H s.heap.objs.size=none:=I.aK.fresh (O0 _);have I2:L2.Inv X pins σ (upd H s.heap.objs.size (.tup [.int i,x])) { s with heap:=h2,toks:=s.toks+1}:=uL I hf k2 (O0 _) ⟨Wy rfl,[.int i s.toks,u],.cons ⟨_,rfl⟩ (.cons ru .nil),_,OO,rfl,_,rfl⟩;refine⟨.ref s.heap.objs.size,_,I2,rfl,⟨_,x,rfl,hp,rfl,fun ys hy=>by rw[I.ub hy hq];exact hx⟩,⟨⟨u,by simpa using HF⟩,Ic.at fun o z=>(uh.2 it (Ne.symm J4)).trans z⟩,fun b hb=>?_⟩;have:b≠s.heap.objs.size:=by
     rcases Wh.mp hb with rfl | hb
     . exact V9 Lw
     . have:b=it:=by simpa using hb
       subst this;exact V9 Np
   rw[ag this];exact(hf b hb).1
 done:=by
   intro X hP hw hK hc i pins s σ H E I hf st hg;subst hP hw hK;obtain⟨xs,hq,hx⟩:=hg;obtain⟨aE,rv,p,hz⟩:=I.list hq;obtain⟨⟨old,he⟩,hit⟩:=st;obtain⟨f0,f1,f2,f3,f4,f5⟩:=hf it (by simp);have hl:=rv.length;exact wpAny_pyNext_enum_end (I.ok.hd hc) he hit p.isList (by simp;omega) fun h' eb=>⟨rfl,I.turned (t':=s.toks) (fun b o hb q=>eb b o hb q) f0 f1 f3 f4 f5⟩
 self:=fun _ i s Q E st h=>by
   obtain⟨⟨old,he⟩,_⟩:=st;exact wpAny_pyIter_enum he h
theorem boot_enumerate:bootBuiltins "enumerate"=some (.type "enumerate"):=by decide +kernel
section
variable {X:Cx}{G:Gr}{dl:List Slot}{a:Expr}{xs:List Dt}{p pos:Pos}
def FX (K:W.Frag)(ta:TA):TI:=fun σ H R=>ta σ H fun vs H1=>∃ a,vs=[.ref a]/\(∃ xs,jm K H1 a xs)/\R (QX K a) H1
theorem xH {elts:List Expr}{kt:Nat}{rH:Pos}{ta:TA}(hg:Gl X "enumerate")(hm:X.mg "enumerate"=none)(ha:PA X [a] ta)(hs:autoParam (starEach [a] X.env=[(false,eval a X.env)]) jp):PI X (.Tuple elts kt rH) (.Call (.Name "enumerate" p) [a] [] pos) (FX X.K ta):=by
 intro pins s σ H R I h;refine Call_ (ju I hg hm boot_enumerate (PyProof.Rows.callWith_type1 (bF (ha pos pins s σ H _ I h) fun us s1 ⟨vs,H1,I1,r1,q1⟩=>?_) hs rfl));obtain⟨l,e,⟨xs,hq⟩,q⟩:=q1;subst e;cases r1 with
 | cons r rr=>
   cases rr;cases r;obtain⟨aE,rv,pl,hz⟩:=I1.list hq;refine call_enumerate_list pl.isList fun h' he hit hsz k=>wpAny_pyIter_enum he ?_
   have I2:L2.Inv X pins σ H1 { s1 with heap:=h'}:=I1.kept (t':=s1.toks) k;refine⟨s1.heap.objs.size+1,[s1.heap.objs.size+1,s1.heap.objs.size],_,_,H1,rfl,I2,yV l _ s1.heap.objs.size (Xc _),⟨⟨_,he⟩,hit⟩,fun b hb=>?_,q⟩;have DP:s1.heap.objs.size<=b:=by
     rcases Wh.mp hb with rfl | hb
     . exact WU _
     . have:b=s1.heap.objs.size:=by simpa using hb
       rw[this];exact O0 _
   exact I1.nG DP (I1.aK.fresh DP)
noncomputable def nA (xs:List Dt):List Dt:=(Wi xs.length).map fun(k:Nat)=>.tup [.int k,xs.getD k .b0]
theorem q8:lG X G dl (nA xs) (FX X.K (Nc X.K G dl [.lst xs])):=fun st H R zq=>xa zq fun Hf S k=>fun vs Hf1 H1 g1 r1=>by
 cases r1 with
 | cons r t=>
   cases t;cases r with
   | @lst q vs _ hq rp=>
     have hl:=rp.length;refine⟨q,rfl,⟨vs,.of (g1.sub _ _ hq)⟩,k _ Hf1 H1 g1 fun bw H2 s1 s2 i=>⟨fun z hz=>?_,fun hi=>⟨vs,.of (s2 _ _ (s1 _ _ hq)),by unfold nA at hi;rw[ou,Wo] at hi;omega⟩⟩⟩;have hi:i < xs.length:=by
       have:=(Vx.mp hz).1;unfold nA at this;simpa using this
     unfold nA at hz;rw[VB,WE hi] at hz;cases hz;have hx:xs[i]?=some (xs.getD i .b0):=by rw[Sl,Bn hi];rfl
     obtain⟨u,z1,z2⟩:=rp.get hx;have hs:jm X.K H2 q vs:=.of (s2 _ _ (s1 _ _ hq));refine⟨⟨vs,u,hs,z1⟩,fun v H3 hy=>?_⟩;obtain⟨pt,x,rfl,hn,rfl,e2⟩:=hy;have e2:=e2 vs hs;rw[z1] at e2;cases e2;have g3:aN bw H2 (upd bw pt (.tup [.int i,u])) (upd H2 pt (.tup [.int i,u])):=.alloc s2 hn;exact⟨_,g3,.tup (.inl ah) (.cons (.int _) (.cons ((z2.mono s1).mono g3.aY) .nil))⟩
end
section
noncomputable def noOwn:List Slot->Bool
 | []=>true
 | .own _::_=>false
 | _::r=>noOwn r
theorem bo:∀ {dl:List Slot},noOwn dl=true->∀ (j:Nat) o,dl[j]?≠some (.own o)
 | [],_,j,o,h=>by simp at h
 | .val d::r,q,0,o,h=>by simp at h
 | .cz::r,q,0,o,h=>by simp at h
 | .val d::r,q,j+1,o,h=>bo (dl:=r) q j o (by simpa using h)
 | .cz::r,q,j+1,o,h=>bo (dl:=r) q j o (by simpa using h)
end
section
variable {X:Cx}{G:Gr}{dl:List Slot}{e:Expr}{x:Str}{i j:Int}{pos p2:Pos}{lo hi:Option Expr}{l u:Option Int}
theorem Ie:Oj X (fun x lo hi H Q=>∃ z:Str,x=.str z/\z.length<=sizeLine/\Q (.str (Txt.slice z lo hi)) H):=by
 intro pins s σ H x v vl vu lo hi sl Q I rx hs pl pu h;obtain⟨z,rfl,hz,q⟩:=h;obtain⟨t,rfl⟩:=(show ∃ t,v=Value.str z t from rx)
 obtain⟨o,h1,h2,h3⟩:=hs;refine⟨"str",_,F.slot_str_getitem.lookup,typeIs_str _ _ _,?_⟩;cases pl with
 | none=>
   cases pu with
   | none=>exact wpAny_getItem_str_slice (l:=none) (u:=none) (st:=none) ⟨o,h1,h2,h3⟩ rfl (post_val_or_str ⟨We (Txt.slice_le z _ _) hz,fun t' k=>⟨.str (Txt.slice z _ _),H,I.tok _,⟨t',rfl⟩,q⟩⟩)
   | int j uj=>exact wpAny_getItem_str_slice (l:=none) (u:=some (j,uj)) (st:=none) ⟨o,h1,h2,h3⟩ rfl (post_val_or_str ⟨We (Txt.slice_le z _ _) hz,fun t' k=>⟨.str (Txt.slice z _ _),H,I.tok _,⟨t',rfl⟩,q⟩⟩)
 | int i ui=>
   cases pu with
   | none=>exact wpAny_getItem_str_slice (l:=some (i,ui)) (u:=none) (st:=none) ⟨o,h1,h2,h3⟩ rfl (post_val_or_str ⟨We (Txt.slice_le z _ _) hz,fun t' k=>⟨.str (Txt.slice z _ _),H,I.tok _,⟨t',rfl⟩,q⟩⟩)
   | int j uj=>exact wpAny_getItem_str_slice (l:=some (i,ui)) (u:=some (j,uj)) (st:=none) ⟨o,h1,h2,h3⟩ rfl (post_val_or_str ⟨We (Txt.slice_le z _ _) hz,fun t' k=>⟨.str (Txt.slice z _ _),H,I.tok _,⟨t',rfl⟩,q⟩⟩)
def OP (K:W.Frag)(G:Gr)(dl:List Slot)(o:Option Int):TO:=fun st H Q=>∃ Hf,cL K G st Hf H dl/\∀ aA H',aN Hf H aA H'->Q o H'
abbrev Nq (X:Cx)(G:Gr)(dl:List Slot)(e:Option Expr)(o:Option Int):Prop:=PO X e (OP X.K G dl o)
theorem QY {e:Option Expr}{t t':TO}(h:PO X e t)(i:∀ st H Q,t' st H Q->t st H Q):PO X e t':=fun pins s st H Q I q=>h pins s st H Q I (i st H Q q)
theorem A3:Nq X G dl none none:=QY rM fun st H Q zq=>Nf zq fun Hf zq=>have S:=zq.1;have k:=zq.2;k Hf H (.refl S.sub)
theorem xI (h:EE X G dl e (.int i)):Nq X G dl (some e) (some i):=QY (lr h) fun st H Q zq=>xa zq fun Hf S k=>fun v Hf1 H1 g1 r1=>by cases r1;exact⟨i,rfl,k Hf1 H1 g1⟩
theorem A4 (he:EE X G dl e (.str x))(hl:Nq X G dl lo l)(hu:Nq X G dl hi u)(hx:x.length<=sizeLine):EE X G dl (.Subscript e (.Slice lo hi none p2) pos) (.str (Txt.slice x l u)):=
 fG (lu Ie he hl hu) fun st H Q zq=>xa zq fun Hf S k=>fun v Hf1 H1 g1 r1=>⟨Hf1,S.grow g1,fun bw H2 g2=>⟨bw,(S.grow g1).grow g2,fun fH H3 g3=>by
   cases r1;exact⟨x,rfl,hx,k _ fH H3 ((g1.trans g2).trans g3) (.str _)⟩⟩⟩
end
noncomputable def QZ (x:Str):It:=⟨fun i H=>∃ c,x.cps[i]?=some c,fun i H v H'=>H'=H/\∃ c,x.cps[i]?=some c/\v=.str ⟨#[c]⟩,fun i H=>x.cps[i]?=none⟩
theorem A5 {P:Program}{w:World}{K:W.Frag}{tg:Expr}(x:Str)(t:Tok)(it:Addr):Turn P w K tg (QZ x) [it] it (fun i h=>h.IsStrIter it "str_ascii_iterator" x t i) where
 mem:=by simp
 obj:=fun i h st b hb=>by
   have e:b=it:=by simpa using hb
   subst e;obtain⟨o,e,c,d⟩:=st;exact⟨o,e,fun v z=>by rw[d] at z;cases z⟩
 keep:=fun i h h' st k=>let ⟨o,e,c,d⟩:=st;⟨o,k it (by simp) o e,c,d⟩
 item:=by
   intro X hP hw hK hc i pins s σ H E I hf st hg;subst hP hw hK;obtain⟨c,hx⟩:=hg;obtain⟨f0,f1,f2,f3,f4,f5⟩:=hf it (by simp);refine wpAny_pyNext_ascii_item st hx fun h' fL sb=>?_
   have I1:L2.Inv X pins σ H { s with heap:=h',toks:=s.toks+1}:=I.turned (t':=s.toks+1) (fun b o hb e=>(sb.2 b hb).trans e) f0 f1 f3 f4 f5;obtain⟨o,e,cc,d⟩:=id fL;exact⟨_,rfl,qJ (s:={ s with heap:=h',toks:=s.toks+1}) e cc d (by decide) ⟨.str ⟨#[c]⟩,H,I1,⟨_,rfl⟩,⟨rfl,c,hx,rfl⟩,fL,fun b hb=>(hf b hb).1⟩⟩
 done:=by
   intro X hP hw hK hc i pins s σ H E I hf st hg;subst hP hw hK;obtain⟨f0,f1,f2,f3,f4,f5⟩:=hf it (by simp);exact wpAny_pyNext_ascii_end (I.ok.hd hc) st hg fun h' eb=>⟨rfl,I.turned (t':=s.toks) (fun b o hb e=>eb b o hb e) f0 f1 f3 f4 f5⟩
 self:=fun _ _ _ _ _ st h=>wpAny_pyIter_striter_ascii st h
noncomputable def gv (x:Str):Bool:=x.cps.all (· < 128)
noncomputable def signs (x:Str):List Dt:=x.cps.toList.map fun c=>.str ⟨#[c]⟩
section
variable {X:Cx}{G:Gr}{dl:List Slot}{a b c e:Expr}{x y z:Str}{pos:Pos}{i j k:Int}{u v:Bool}
def Lx (ta:TE):TI:=fun σ H R=>ta σ H fun v H1=>∃ x,v=.str x/\gv x=true/\R (QZ x) H1
theorem gw {tg:Expr}{ta:TE}(ha:PE X a ta):PI X tg a (Lx ta):=by
 intro pins s σ H R I h;refine bF (ha pins s σ H _ I h) fun v s1 ⟨w,H1,I1,r1,q1⟩=>?_
 obtain⟨x,e,hx,q⟩:=q1;subst e;obtain⟨t,rfl⟩:=(show ∃ t,v=Value.str x t from r1)
 refine wpAny_pyIter_ascii hx ?_;refine⟨s1.heap.objs.size,[s1.heap.objs.size],_,_,H1,rfl,I1.kept (t':=s1.toks) fun b o e=>Te _ e,A5 x t _,⟨_,VJ _ rfl,rfl,rfl⟩,fun b hb=>?_,q⟩;have e:b=s1.heap.objs.size:=by simpa using hb
 subst e;exact I1.nG (O0 _) (I1.aK.fresh (O0 _))
theorem signs_get (x:Str)(i:Nat):(signs x)[i]?=(x.cps[i]?).map fun c=>.str ⟨#[c]⟩:=by
 unfold signs;rw[VB,Xn]
theorem j6 (x:Str):(signs x).length=x.length:=by
 unfold signs;rw[ou,W4];rfl
theorem c7 (hx:gv x=true):lG X G dl (signs x) (Lx (tD X.K G dl (.str x))):=fun st H R zq=>xa zq fun Hf S k=>fun v Hf1 H1 g1 r1=>by
 cases r1;refine⟨x,rfl,hx,k _ Hf1 H1 g1 fun bw H2 s1 s2 i=>⟨fun z hz=>?_,fun hi=>?_⟩⟩
 . rw[signs_get] at hz
   cases q:x.cps[i]? with
   | none=>rw[q] at hz;cases hz
   | some c=>
     rw[q] at hz;cases hz;refine⟨⟨c,q⟩,fun v H3 ⟨e1,c',e2,e3⟩=>?_⟩;rw[q] at e2;cases e2;subst e1 e3;exact⟨bw,.refl s2,.str _⟩
 . show x.cps[i]?=none
   rw[hi,j6];exact Array.getElem?_size_le (O0 _)
theorem q9:kS X (compareOp .LtE) (fun x y H Q=>∃ i j,x=.str i/\y=.str j/\Q (.bl (!decide (j.cps.toList < i.cps.toList))) H):=by
 intro pins s σ H x y v u Q I rx ry h;obtain⟨i,j,rfl,rfl,q⟩:=h;obtain⟨t,rfl⟩:=rx;obtain⟨t',rfl⟩:=ry;exact P.le_str (dS I q rfl)
noncomputable def Ig (x y:Str):Bool:=!decide (y.cps.toList < x.cps.toList)
theorem A6 {K:W.Frag}:xr K (fun x y H Q=>∃ i j,x=.str i/\y=.str j/\Q (.bl (!decide (j.cps.toList < i.cps.toList))) H) (.str x) (.str y) (.bl (Ig x y)):=fun v w Hf H Q s r1 r2 k=>by
 cases r1;cases r2;exact⟨x,y,rfl,rfl,k _ Hf H (.refl s) (.bl _)⟩
variable {d1 d2 d3:Dt}
theorem uM {op Hc:CmpOp}{r r':R2}(ho:kS X (compareOp op) r)(zX:kS X (compareOp Hc) r')(h1:xr X.K r d1 d2 (.bl u))(h2:xr X.K r' d2 d3 (.bl v))(ha:EE X G dl a d1)(hb:EE X G dl b d2)(hc:EE X G dl c d3)(hm:autoParam (lastMarks [op,Hc] [b,c]=false) x5):EE X G dl (.Compare a [op,Hc] [b,c] pos) (.bl (u && v)):=
 fG (Ae ho zX ha hb hc hm) fun st H Q zq=>xa zq fun Hf S k=>fun x Hf1 H1 g1 r1=>⟨Hf1,S.grow g1,fun y bw H2 g2 r2=>h1 x y bw H2 _ g2.sub (r1.mono g2.aY) r2 fun z fH H3 g3 r3=>by
   cases r3;refine⟨u,rfl,?_⟩;cases u with
   | false=>exact vV (k _ fH H3 ((g1.trans g2).trans g3) (.bl _))
   | true=>exact vW ⟨fH,((S.grow g1).grow g2).grow g3,fun w C9 H4 g4 r4=>h2 y w C9 H4 Q g4.sub (r2.mono (g3.aY.trans g4.aY)) r4 fun q vE H5 g5 r5=>k q vE H5 ((((g1.trans g2).trans g3).trans g4).trans g5) r5⟩⟩
theorem A7 (ha:EE X G dl a (.str x))(hb:EE X G dl b (.str y))(hc:EE X G dl c (.str z))(hm:autoParam (lastMarks [.LtE,.LtE] [b,c]=false) x5):EE X G dl (.Compare a [.LtE,.LtE] [b,c] pos) (.bl (Ig x y && Ig y z)):=uM q9 q9 A6 A6 ha hb hc hm
theorem A8 (ha:EE X G dl a (.int i))(hb:EE X G dl b (.int j))(hc:EE X G dl c (.int k))(hm:autoParam (lastMarks [.LtE,.LtE] [b,c]=false) x5):EE X G dl (.Compare a [.LtE,.LtE] [b,c] pos) (.bl (decide (i<=j) && decide (j<=k))):=
 uM Ad Ad (nu (g':=fun i j=>.bl (decide (i<=j))) fun _ _ _ _=>.bl _) (nu (g':=fun i j=>.bl (decide (i<=j))) fun _ _ _ _=>.bl _) ha hb hc hm
end
section
variable {X:Cx}{G:Gr}{dl:List Slot}{a b e:Expr}{pos p apos a7:Pos}{k x:Str}{xs:List Str}{bs:List Bool}{ns:List Int}{hi:Option Expr}{l u:Option Int}
theorem A9 {neg:Bool}:xr X.K (M8 X.K neg) (.str k) (.lst (xs.map .str)) (.bl (if neg then !decide (k∈xs) else decide (k∈xs))):=fun v w Hf H Q s r1 r2 kk=>by
 cases r1;cases r2 with
 | @lst q vs _ hq rp=>
   have ev:=j5 rp;subst ev;refine⟨q,_,rfl,.inl (.of (s _ _ hq)),rfl,qZ xs,?_⟩;rw[pB];exact kk _ Hf H (.refl s) (.bl _)
theorem Ih (ha:EE X G dl a (.str k))(hb:EE X G dl b (.lst (xs.map .str)))(hm:autoParam (behindInMarks .In b=false) jp):EE X G dl (.Compare a [.In] [b] pos) (.bl (decide (k∈xs))):=rX qP (A9 (neg:=false)) hm ha hb
theorem D4 (ha:EE X G dl a (.str k))(hb:EE X G dl b (.lst (xs.map .str)))(hm:autoParam (behindInMarks .NotIn b=false) jp):EE X G dl (.Compare a [.NotIn] [b] pos) (.bl (!decide (k∈xs))):=rX rQ (A9 (neg:=true)) hm ha hb
theorem range_all (bs:List Bool):(Wi bs.length).all (fun i=>bs.getD i true)=bs.all id:=by
 induction bs with
 | nil=>rfl
 | cons b r ih=>
   rw[Ws,List.range_succ_eq_map,Xq,List.all_map,Xq];show(b && (Wi r.length).all (fun i=>r.getD i true))=(b && r.all id);rw[ih]
theorem yW (hc:X.calm=true):gD X (.builtin "all") (fun xs H Q=>∃ (p:Addr) (bs:List Bool),xs=[.ref p]/\jm X.K H p (bs.map V.bl)/\Q (.bl (bs.all id)) H):=by
 intro pins s σ H xs us Q I r h;obtain⟨p,bs,rfl,hq,q⟩:=h;obtain⟨u,rfl,rx⟩:=vals1 r;cases rx;obtain⟨aE,rv,pl,hz⟩:=I.list hq;have hlen:=rv.length;rw[ou] at hlen;obtain⟨o,n,ho,_⟩:=id pl;have hp:p < s.heap.objs.size:=VI ho;refine call_all_walk (wpAny_pyIter_list pl.isList ?_);refine⟨s.heap.objs.size,_,_,_,_,_,fun i=>bs.getD i true,rfl,Walks.list (A:=X.A.in1) (I.ok.hd hc) s.heap.objs.size p (V9 hp) aE.toArray,⟨⟨_,VJ _ rfl,rfl,rfl⟩,?_⟩,fun i v s' Q' E' hv hQ=>?_,fun h' tk hk=>?_⟩
 . exact pl.isList.at fun o e=>Te _ e
 . have hv:aE[i]?=some v:=by simpa using hv
   have hi:i < aE.length:=(Vx.mp hv).1;have Ly:i < bs.length:=by omega
   obtain⟨u',h1,h2⟩:=rv.get (i:=i) (x:=V.bl bs[i]) (by rw[VB,Bn Ly];rfl);rw[hv] at h1;cases h1;cases h2;have e:bs.getD i true=bs[i]:=by rw[Sl,Bn Ly];rfl
   have hQ:Q' (bs.getD i true) s':=hQ;rw[e] at hQ;exact wpAny_truthy_bool hQ
 . have ea:(Wi aE.toArray.size).all (fun i=>bs.getD i true)=bs.all id:=by rw[V6,<- hlen];exact range_all bs
   rw[ea];refine⟨.bl _,H,I.kept (t':=tk) fun b o e=>hk b o (fun hm=>?_) (Te _ e),rfl,q⟩;have:b=s.heap.objs.size:=by simpa using hm
   subst this;exact WK _ (VI e)
theorem boot_all:bootBuiltins "all"=some (.builtin "all"):=by decide +kernel
theorem uN {K:W.Frag}{H:Hp}:∀ {bs:List Bool} {vs:List V},bu K H vs (bs.map Dt.bl)->vs=bs.map V.bl
 | [],_,.nil=>rfl
 | b::r,_,.cons h t=>by cases h;rw[uN t];rfl
theorem Ii (hm:X.mg "all"=none)(hc:X.calm=true)(ha:EE X G dl a (.lst (bs.map .bl)))(hg:autoParam (Gl X "all") jp)(he:autoParam (starEach [a] X.env=[(false,eval a X.env)]) jp):EE X G dl (.Call (.Name "all" p) [a] [] pos) (.bl (bs.all id)):=
 fG (e9 (yW hc) hg hm boot_all (ae ha ak he) (by decide) (by decide) he rfl) fun st H Q zq=>xa zq fun Hf S k=>fun vs Hf1 H1 g1 r1=>by
   cases r1 with
   | cons r t=>cases t;cases r with
     | @lst q vs _ z r=>
       have ev:=uN r;subst ev;exact⟨q,bs,rfl,.of (g1.sub _ _ z),k _ Hf1 H1 g1 (.bl _)⟩
theorem mC (ns:List Int):∀ k,k<=ns.length->preSum (fun i=>ns.getD i 0) k=(ns.take k).sum
 | 0,_=>by simp[preSum]
 | k+1,h=>by
   have hk:k < ns.length:=h;rw[preSum,mC ns k (WL hk),WX,Bn hk,List.sum_append,Sl,Bn hk];simp
theorem yX (hc:X.calm=true):gD X (.builtin "sum") (fun xs H Q=>∃ (p:Addr) (ns:List Int),xs=[.ref p]/\jm X.K H p (ns.map V.int)/\Q (.int ns.sum) H):=by
 intro pins s σ H xs us Q I r h;obtain⟨p,ns,rfl,hq,q⟩:=h;obtain⟨u,rfl,rx⟩:=vals1 r;cases rx;obtain⟨aE,rv,pl,hz⟩:=I.list hq;have hlen:=rv.length;rw[ou] at hlen;obtain⟨o,n,ho,_⟩:=id pl;have hp:p < s.heap.objs.size:=VI ho;refine call_sum_walkAnyS (wpAny_pyIter_list pl.isList ?_);refine⟨s.heap.objs.size,_,_,_,_,_,_,fun i=>ns.getD i 0,rfl,(Walks.list (A:=X.A.in1) (I.ok.hd hc) s.heap.objs.size p (V9 hp) aE.toArray).toS,⟨⟨_,VJ _ rfl,rfl,rfl⟩,?_⟩,fun b hb=>?_,fun i v hv=>?_,fun s' t' hm=>?_⟩
 . exact pl.isList.at fun o e=>Te _ e
 . have hsz:(s.heap.push { cls:=.type "list_iterator",data:=.fields #[.ref p,.int 0 0]}).objs.size=s.heap.objs.size+1:=WS ..
   show b < (s.heap.push { cls:=.type "list_iterator",data:=.fields #[.ref p,.int 0 0]}).objs.size;rw[hsz];rcases Wh.mp hb with e | hb
   . rw[e];exact WV _
   . have:b=p:=by simpa using hb
     rw[this];exact Xk hp
 . have hv:aE[i]?=some v:=by simpa using hv
   have hi:i < aE.length:=(Vx.mp hv).1;have Ly:i < ns.length:=by omega
   obtain⟨u',h1,h2⟩:=rv.get (i:=i) (x:=V.int ns[i]) (by rw[VB,Bn Ly];rfl);rw[hv] at h1;cases h1;obtain⟨t,rfl⟩:=h2;refine⟨t,?_⟩;show _=Value.int (ns.getD i 0) t;rw[Sl,Bn Ly];rfl
 . have ea:preSum (fun i=>ns.getD i 0) aE.toArray.size=ns.sum:=by
     rw[V6,<- hlen,mC ns _ (O0 _),W0]
   rw[ea];refine⟨.int _,H,?_,⟨t',rfl⟩,q⟩;obtain⟨h',g',d',tk,Oh⟩:=s';have e1:g'=s.gens:=hm.gens;have e2:d'=s.drawn:=hm.drawn;have e3:Oh=s.os:=hm.os;subst e1 e2 e3;refine I.kept (t':=tk) fun b o e=>hm.heap b o (fun z=>?_) (Te _ e)
   have:b=s.heap.objs.size:=by simpa using z
   subst this;exact WK _ (VI e)
theorem boot_sum:bootBuiltins "sum"=some (.builtin "sum"):=by decide +kernel
theorem pC {K:W.Frag}{H:Hp}:∀ {ns:List Int} {vs:List V},bu K H vs (ns.map Dt.int)->vs=ns.map V.int
 | [],_,.nil=>rfl
 | b::r,_,.cons h t=>by cases h;rw[pC t];rfl
theorem sv (hm:X.mg "sum"=none)(hc:X.calm=true)(ha:EE X G dl a (.lst (ns.map .int)))(hg:autoParam (Gl X "sum") jp)(he:autoParam (starEach [a] X.env=[(false,eval a X.env)]) jp):EE X G dl (.Call (.Name "sum" p) [a] [] pos) (.int ns.sum):=
 fG (e9 (yX hc) hg hm boot_sum (ae ha ak he) (by decide) (by decide) he rfl) fun st H Q zq=>xa zq fun Hf S k=>fun vs Hf1 H1 g1 r1=>by
   cases r1 with
   | cons r t=>cases t;cases r with
     | @lst q vs _ z r=>
       have ev:=pC r;subst ev;exact⟨q,ns,rfl,.of (g1.sub _ _ z),k _ Hf1 H1 g1 (.int _)⟩
theorem rb:∀ {xs:List Str} {us:List Value},Vals (xs.map V.str) us->∃ l:List (Str×Tok),us=strValues l/\l.map (·.1)=xs
 | [],_,.nil=>⟨[],rfl,rfl⟩
 | x::r,_,.cons h t=>by
   obtain⟨tk,rfl⟩:=h;obtain⟨l,rfl,e⟩:=rb t;exact⟨(x,tk)::l,rfl,by rw[V7,e]⟩
theorem D5:JZ X "str.join" (fun x xs H Q=>∃ (z:Str) (p:Addr) (ys:List Str),x=.str z/\xs=[.ref p]/\jm X.K H p (ys.map V.str)/\JoinOk z ys=true/\Q (.str (Txt.join z ys)) H):=by
 intro pins s σ H x xs v us Q I rx rv ⟨z,p,ys,e1,e2,hq,aK,q⟩;subst e1 e2;obtain⟨t,rfl⟩:=(show ∃ t,v=Value.str z t from rx)
 obtain⟨u,rfl,ru⟩:=vals1 rv;cases ru;obtain⟨aE,r,pl,hz⟩:=I.list hq;obtain⟨l,rfl,el⟩:=rb r;exact SC.join pl.isList el aK fun t' k=>⟨.str (Txt.join z ys),H,I.tok _,⟨t',rfl⟩,q⟩
theorem D6 (ha:EE X G dl a (.str x))(he:EE X G dl e (.lst (xs.map .str)))(aK:JoinOk x xs=true)(gb:autoParam (attributeBase a "join" X.env (eval a X.env)=eval a X.env) jp)
   (oV:autoParam (((backTo a7 (starEach [e] X.env)).all (fun x=>!x.1) && (backToKw a7 (keywordEach [] X.env)).all (fun x=>x.1.isSome) && decide ([e].length+([]:List Keyword).length+(if ([]:List Keyword).isEmpty then 0 else 1) < 30))=true) jp)
   (gc:autoParam ((apos.endLine == a7.line)=true) jp) (jf:autoParam (starEach [e] X.env=(false,eval e X.env)::starEach [] X.env) jp):EE X G dl (.Call (.Attribute a "join" apos) [e] [] a7) (.str (Txt.join x xs)):=
 fG (qQ PySem.F.plainAttrs_str PySem.F.slot_str_join PySem.F.type_str_join D5 ha (ae he ak jf) gb oV gc jf rfl) fun st H Q zq=>xa zq fun Hf S k=>fun v Hf1 H1 g1 r1=>by
   cases r1;refine⟨rfl,Hf1,S.grow g1,fun us bw H2 g2 r2=>?_⟩;cases r2 with
   | cons r2 t2=>cases t2;cases r2 with
     | @lst q vs _ hq rp=>
       have ev:=j5 rp;subst ev;exact⟨x,q,xs,rfl,rfl,.of (g2.sub _ _ hq),aK,k _ bw H2 (g1.trans g2) (.str _)⟩
end
noncomputable def iw (kds:List (Key×Dt))(k:Key):Option Dt:=(kds.find? fun kv=>decide (kv.1=k)).map (·.2)
theorem lH {p:Key×Dt}{r:List (Key×Dt)}{k:Key}(e:p.1=k):iw (p::r) k=some p.2:=by simp[iw,WZ,e]
theorem jC {p:Key×Dt}{r:List (Key×Dt)}{k:Key}(e:¬ p.1=k):iw (p::r) k=iw r k:=by simp[iw,WZ,e]
theorem bH.val {K:W.Frag}{H:Hp}{k:Key}:∀ {kvs:List (Key×V)} {kds:List (Key×Dt)} {d:Dt},bH K H kvs kds->iw kds k=some d->∃ v,jo kvs k=some v/\Rep K H v d
 | _,_,_,.nil,e=>by cases e
 | (k1,v1)::r,(_,d1)::s,d,.cons h t,e=>by
   by_cases q:k1=k
   . rw[lH (p:=(k1,d1)) q] at e;cases e
     exact⟨v1,jz (p:=(k1,v1)) q,h⟩
   . rw[jC (p:=(k1,d1)) q] at e
     obtain⟨v,z1,z2⟩:=bH.val t e;exact⟨v,by rw[iC (p:=(k1,v1)) q];exact z1,z2⟩
theorem bH.uO {K:W.Frag}{H:Hp}{k:Key}:∀ {kvs:List (Key×V)} {kds:List (Key×Dt)},bH K H kvs kds->(jo kvs k).isSome=(iw kds k).isSome
 | _,_,.nil=>rfl
 | (k1,v1)::r,(_,d1)::s,.cons h t=>by
   by_cases q:k1=k
   . rw[jz (p:=(k1,v1)) q,lH (p:=(k1,d1)) q];rfl
   . rw[iC (p:=(k1,v1)) q,jC (p:=(k1,d1)) q]
     exact bH.uO t
theorem bH.snoc {K:W.Frag}{H:Hp}{k:Key}{v:V}{d:Dt}(q:Rep K H v d):∀ {kvs:List (Key×V)} {kds:List (Key×Dt)},bH K H kvs kds->bH K H (kvs ++ [(k,v)]) (kds ++ [(k,d)])
 | _,_,.nil=>.cons q .nil
 | _,_,.cons h t=>.cons h (bH.snoc q t)
theorem xJ {kvs:List (Key×V)}{k:Key}{v:V}(h:(jo kvs k).isSome=false):putK kvs k v=kvs ++ [(k,v)]:=by
 unfold putK;rw[lA,h];exact if_neg (by simp)
section
variable {X:Cx}{G:Gr}{E:XK}{dl:List Slot}{a b e i o:Expr}{d:Dt}{pos p:Pos}{k x:Str}{kds:List (Key×Dt)}
theorem D7 (hu:X.A.units+1 < cLine)(ho:EE X G dl o (.b6 kds))(hi:EE X G dl i (.str k))(h:iw kds (.inr k)=some d)(hs:Aq i):EE X G dl (.Subscript o i pos) d:=
 fG (rV hu ho hi hs) fun st H Q zq=>xa zq fun Hf S kk=>fun v Hf1 H1 g1 r1=>⟨Hf1,S.grow g1,fun w bw H2 g2 r2=>by
   cases r2;cases r1 with
   | @b6 q kvs _ hq rp=>
     obtain⟨y,z1,z2⟩:=rp.val h;have e:=mj.k (H:=H2) (k:=.inr k) (g2.big _ _ (g1.sub _ _ hq));rw[z1] at e;exact⟨q,y,rfl,e,kk y bw H2 (g1.trans g2) (z2.mono g2.aY)⟩⟩
theorem OQ {neg:Bool}:∀ st H Q,tD X.K G dl (.bl (if neg then !(iw kds (.inr k)).isSome else (iw kds (.inr k)).isSome)) st H Q->(if neg then xn (tD X.K G dl (.str k)) (tD X.K G dl (.b6 kds)) else Ow (tD X.K G dl (.str k)) (tD X.K G dl (.b6 kds))) st H Q:=fun st H Q zq=>Nf zq fun Hf zq=>have S:=zq.1;have kk:=zq.2;by
 cases neg with
 | false=>exact⟨Hf,S,fun v Hf1 H1 g1 r1=>⟨Hf1,S.grow g1,fun w bw H2 g2 r2=>by
     cases r1;cases r2 with
     | @b6 q kvs _ hq rp=>exact⟨q,_,rfl,mj.k (k:=.inr k) (g2.sub _ _ hq),by rw[rp.uO];exact kk _ bw H2 (g1.trans g2) (.bl _)⟩⟩⟩
 | true=>exact⟨Hf,S,fun v Hf1 H1 g1 r1=>⟨Hf1,S.grow g1,fun w bw H2 g2 r2=>by
     cases r1;cases r2 with
     | @b6 q kvs _ hq rp=>exact⟨q,_,rfl,mj.k (k:=.inr k) (g2.sub _ _ hq),by rw[rp.uO];exact kk _ bw H2 (g1.trans g2) (.bl _)⟩⟩⟩
theorem xK (hu:X.A.units+1 < cLine)(hi:EE X G dl i (.str k))(ho:EE X G dl o (.b6 kds))(hm:autoParam (behindInMarks .NotIn o=false) jp):EB X G dl (.Compare i [.NotIn] [o] pos) (!(iw kds (.inr k)).isSome):=
 K7 (GN (yK hu hi ho) hm) fun st H Q zq=>Nf zq fun Hf zq=>have S:=zq.1;have kk:=zq.2;OQ (neg:=true) st H _ ⟨Hf,S,fun v aA H' g r=>by cases r;exact⟨_,rfl,kk aA H' g⟩⟩
theorem uP:bootBuiltins "tuple"=some (.type "tuple"):=by decide +kernel
theorem D8 {ds:List Dt}(hm:X.mg "tuple"=none)(ha:EE X G dl a (.tup ds))(hg:autoParam (Gl X "tuple") jp)(he:autoParam (starEach [a] X.env=[(false,eval a X.env)]) jp):EE X G dl (.Call (.Name "tuple" p) [a] [] pos) (.tup ds):=
 fG (fM uu hg hm uP (ae ha ak he) (he:=he)) fun st H Q zq=>xa zq fun Hf S k=>fun vs Hf1 H1 g1 r1=>by
   cases r1 with
   | cons r t=>cases t;cases r with
     | @tup q vs _ z r=>exact⟨q,vs,rfl,dv g1.sub z,k _ Hf1 H1 g1 (.tup z r)⟩
theorem D9:EO X G dl (.Dict [] [] pos) (.b6 []):=fG uy fun st H Q zq=>Nf zq fun Hf zq=>have S:=zq.1;have k:=zq.2;fun p hp=>k p Hf _ (.cB S.sub hp) hp (S.sub.free hp) ⟨[],ah,.nil⟩
noncomputable def jD (kds:List (Key×Dt))(k:Key)(v:Dt):List (Key×Dt):=
 if (iw kds k).isSome=true then kds.map (fun kv=>if kv.1=k then (kv.1,v) else kv) else kds ++ [(k,v)]
theorem bH.map_put {K:W.Frag}{H:Hp}{k:Key}{v:V}{d:Dt}(q:Rep K H v d):∀ {kvs:List (Key×V)} {kds:List (Key×Dt)},bH K H kvs kds ->
   bH K H (kvs.map fun kv=>if kv.1=k then (kv.1,v) else kv) (kds.map fun kv=>if kv.1=k then (kv.1,d) else kv)
 | _,_,.nil=>.nil
 | (k1,v1)::r,(_,d1)::s,.cons h t=>by
   rw[V7,V7];by_cases e:k1=k
   . rw[if_pos e,if_pos e];exact .cons q (bH.map_put q t)
   . rw[if_neg e,if_neg e];exact .cons h (bH.map_put q t)
theorem bH.put {K:W.Frag}{H:Hp}{k:Key}{v:V}{d:Dt}{kvs:List (Key×V)}{kds:List (Key×Dt)}(q:Rep K H v d)(r:bH K H kvs kds):bH K H (putK kvs k v) (jD kds k d):=by
 unfold putK jD;rw[lA,r.uO];by_cases h:(iw kds k).isSome=true
 . rw[if_pos h,if_pos h];exact bH.map_put q r
 . rw[if_neg h,if_neg h];exact bH.snoc q r
theorem xM (n:Nat){ps pn:Pos}(hu:X.A.units+1 < cLine)(he:EE X G dl e d)(hb:EE X G dl b (.str k))(hl:kds.length < sizeLine)(hd:autoParam (dl[n]?=some (.own (.b6 kds))) jp)(hN:autoParam (X.N[n]?=some x) jp)(hv:autoParam (qI X.env.scope x) jN)(hU:autoParam ((x == ("__debug__":Str))=false) jM)(il:autoParam ((x == ("__classdict__":Str))=false) jM)(hs:autoParam (swapsWith e (some (.Subscript (.Name x pn) b ps)) pos.line X.env=pure false) jp):ES X G E dl (.Assign [.Subscript (.Name x pn) b ps] e pos) (.nx (dl.set n (.own (.b6 (jD kds (.inr k) d))))):=
 qT (xp hu (pz (p:=pn) n hd hN hv hU il) hb he hs) fun D st H zq=>xa zq fun Hf S kk=>fun v Hf1 H1 g1 r1=>by
   have S1:=S.grow g1;obtain⟨q,z1,z2,z3,z4⟩:=S1.own n _ hd;refine⟨Hf1,q,S1,z1,z2,z4,Hf1,S1,fun iv bw H2 g2 r2=>?_⟩;cases r2;have S2:=S1.grow g2;obtain⟨q',y1,y2,y3,kvs,y4,y5⟩:=S2.own n _ hd;rw[z1] at y1;cases y1;have SS:kvs.length < sizeLine:=by rw[y5.length];exact hl
   exact⟨q,_,rfl,yH.k (k:=.inr k) y4 SS,kk st bw _ (g1.aY.trans g2.aY) (S2.Aw hd z1 ⟨_,ah,y5.put (r1.mono g2.aY)⟩)⟩
noncomputable def kJ (rows:List (Str×List Dt)):List (Key×Dt):=rows.map fun r=>(.inr r.1,.tup (.str r.1::r.2))
noncomputable def pD (r:Str×List Dt):Dt:=.tup (.str r.1::r.2)
theorem mD {k:Key}:∀ {kds:List (Key×Dt)},(∀ kv∈kds,kv.1≠k)->iw kds k=none
 | [],_=>rfl
 | kv::r,h=>by
   rw[jC (h kv (WG ..))];exact mD fun z hz=>h z (Wk _ hz)
theorem Ba {rows:List (Str×List Dt)}(nd:(rows.map (·.1)).Nodup){j:Nat}(hj:j < rows.length):iw (kJ (rows.take j)) (.inr rows[j].1)=none:=by
 refine mD fun kv J5=>?_
 obtain⟨r,hr,rfl⟩:=Wj.mp J5;intro z;have z:r.1=rows[j].1:=Sum.inr.inj z;obtain⟨i,hi,e⟩:=WQ.mp hr;have Hv:i < j:=by
   rw[Wc] at hi;omega
 rw[W8] at e;have SU:i < rows.length:=by omega
 have h:=WB.mp nd i j (by rw[ou];exact SU) (by rw[ou];exact hj) Hv;rw[Wv,Wv] at h;exact h (by rw[e];exact z)
theorem wq (rows:List (Str×List Dt)){j:Nat}(hj:j < rows.length):kJ (rows.take (j+1))=kJ (rows.take j) ++ [(.inr rows[j].1,pD rows[j])]:=by
 unfold kJ;rw[WX,Bn hj,WM];rfl
theorem aN.iE {Hf H aA H':Hp}{a:Addr}{u:HO}(g:aN Hf H aA H')(n:Hf a=none)(h:H a=some u)(nk:¬ Kept u:=by exact fun z=>z):aA a=none:=by
 cases q:aA a with
 | none=>rfl
 | some o=>
   obtain⟨o',z⟩:=g.rW h nk q;rw[n] at z;cases z
theorem lI {K:W.Frag}{st:L2.St}{Hf H:Hp}{dlu:List Slot}{p:Addr}{o:HO}(S:cL K G st Hf H dlu)(qm:noOwn dlu=true)(fp:Hf p=none)(gp:G.H p=none):cL K G st Hf (upd H p o) dlu:=
 ⟨⟨fun b u e=>by rw[ag (ar e gp)];exact S.gr.big _ _ e,S.gr.aY,fun b u e=>by rw[ag (ar e fp)];exact S.sub _ _ e,S.gr.new⟩,S.len,S.val,fun j o h=>absurd h (bo qm j o),fun j _ o _ _ h=>absurd h (bo qm j o)⟩
theorem Bb (nR nN:Nat){C z:Addr}{fs:List (Str×Dt)}{rows:List (Str×List Dt)}{f self rw_ rn:Str}{px pr pa pn p1 p3 p4 p5 p6 pi:Pos}{ie ve:Expr}{dlu:List Slot}(hu:X.A.units+1 < cLine)(hN:X.N.Nodup)(o8:X.calm=true)(hp:PassesOwn (model X.prog X.w) X.A X.env X.xe)(cl:qp X.K C)(na:cO X.K C f)(hd:dl[0]?=some (.own (.vZ z C fs)))(SV:dl.set 0 .cz=dlu)(qm:noOwn dlu=true)(hr:dlu[nR]?=some (.val (.lst (rows.map pD))))(OR:nN≠0)(VG:nN≠nR)(SW:dlu[nN]?=some .cz)(nd:(rows.map (·.1)).Nodup)(hlen:rows.length < sizeLine)(hi:∀ r:Str×List Dt,EE X G (dlu.set nN (.val (pD r))) ie (.str r.1))(hv:∀ r:Str×List Dt,EE X G (dlu.set nN (.val (pD r))) ve (pD r))(hl:autoParam (Nat.ble fs.length 999=true) jp)(Nr:autoParam (X.N[0]?=some self) jp)(SY:autoParam (X.N[nR]?=some rn) jp)(OS:autoParam (X.N[nN]?=some rw_) jp)(S5:autoParam (qI X.env.scope self) jN)(S6:autoParam (qI X.env.scope rn) jN)(hU:autoParam ((self == ("__debug__":Str))=false) jM)(il:autoParam ((self == ("__classdict__":Str))=false) jM)(OT:autoParam ((rn == ("__debug__":Str))=false) jM)(OU:autoParam ((rn == ("__classdict__":Str))=false) jM)(hx:autoParam (Loc X.env.scope rw_) zD)(hf:autoParam (X.fn rw_=true\/X.env.scope.names.lookup rw_=some .local) jR)(FO:autoParam (swapsWith (.Dict [] [] p1) (some (.Attribute (.Name self pn) f pa)) pos.line X.env=pure false) jp)(uh:autoParam (swapsWith ve (some (.Subscript (.Attribute (.Name self p3) f p4) ie p5)) p6.line X.env=pure false) jp)(hb:autoParam (attributeBase (.Name self p3) f X.env (eval (.Name self p3) X.env)=eval (.Name self p3) X.env) jp)(S9:autoParam (∀ z,foldedSetIterable (.Name rn pr) X.env z=pure z) xz):iV X G E dl [.Assign [.Attribute (.Name self pn) f pa] (.Dict [] [] p1) pos,.For (.Name rw_ px) (.Name rn pr) [.Assign [.Subscript (.Attribute (.Name self p3) f p4) ie p5] ve p6] [] pi] (.nx (dlu.set 0 (.own (.vZ z C (putD f (.b6 (kJ rows)) fs))))):=by
 have FY:∀ {p:Pos},PE X (.Name self p) fun st H Q=>∃ v,st[0]?=some (some v)/\Q v H:=fun {p}=>ik Nr S5 hU il
 have jx:=lq (xp (pos:=p6) (pos':=p5) hu (rJ (pos:=p4) (FY (p:=p3)) hb) (fun pins s st H Q I (q:∃ r,tD X.K G (dlu.set nN (.val (pD r))) (.str r.1) st H Q)=>let ⟨r,q⟩:=q;hi r pins s st H Q I q) (fun pins s st H Q I (q:∃ r,tD X.K G (dlu.set nN (.val (pD r))) (pD r) st H Q)=>let ⟨r,q⟩:=q;hv r pins s st H Q I q) uh);refine v3 (jv (rK (pos:=pos) (pos':=pa) (FY (p:=pn)) uy FO) (lq (vK hp o8 (fS (ik (pos:=pr) SY S6 OT OU)) (bh hN OS hx hf) jx S9))) fun D st H zq=>Nf zq fun Hf zq=>have S:=zq.1;have k:=zq.2;?_
 obtain⟨a,sa,fa,ga,ea,dx,fv,ha,rf⟩:=S.own 0 _ hd;intro p xN;have Ij:a≠p:=ar ha xN;have fp:Hf p=none:=S.sub.free xN;have gp:G.H p=none:=S.gr.big.free xN;have Nt:(upd H p (.dK [])) a=some (.ins C dx fv):=by rw[ag Ij];exact ha
 refine⟨.ref a,sa,a,C,dx,fv,rfl,Nt,cl,na,by rw[rf.length];exact Nat.lt_succ_of_le (Wy hl),?_⟩;have S0:cL X.K G st Hf H dlu:=by
   subst SV;refine⟨S.gr,by simp[S.len],fun j d h=>?_,fun j o h=>absurd h (bo qm j o),fun j _ o _ _ h=>absurd h (bo qm j o)⟩;by_cases e:0=j
   . subst e
     by_cases Nu:0 < dl.length
     . rw[VH Nu] at h;cases h
     . exact absurd (Vx.mp hd).1 Nu
   . rw[VE e] at h;exact S.val j d h
 have Su:cL X.K G st Hf (upd (upd H p (.dK [])) a (.ins C dx (dC f (.ref p) fv))) dlu:=lI (lI S0 qm fp gp) qm fa ga;obtain⟨lv,FZ,KR⟩:=Su.val nR _ hr;cases KR with
 | @lst la vs _ hq rp=>
   have Ta:vs.length=rows.length:=by rw[rp.length,ou]
   refine⟨.ref la,FZ,la,rfl,⟨vs,.of (Su.sub _ _ hq)⟩,Ab (xs:=vs) (fun j fL H'=>∃ aA kvs,cL X.K G fL aA H' dlu/\ay Hf aA/\fL[0]?=some (some (.ref a))/\aA a=none/\aA p=none/\H' a=some (.ins C dx (dC f (.ref p) fv))/\H' p=some (.dK kvs)/\bH X.K aA kvs (kJ (rows.take j)))
     ⟨Hf,[],Su,ay.refl _,sa,fa,fp,ah,by rw[ag (Ne.symm Ij)];exact ah,by rw[List.take_zero];exact .nil⟩ ?_ ?_ ?_⟩
   . rintro j fL H' _ ⟨aA,kvs,S',sm,_⟩
     exact .of (S'.sub _ _ (sm _ _ hq))
   . rintro j v fL H' M7 ⟨aA,kvs,S',sm,s0,OV,OW,Lz,Nv,rk⟩
     obtain⟨dz,hz,rz⟩:=rp.get' M7;have hj:j < rows.length:=by
       have:=(Vx.mp M7).1;omega
     rw[VB,Bn hj] at hz;cases hz;have Sp:cL X.K G (fL.set nN (some v)) aA H' (dlu.set nN (.val (pD rows[j]))):=S'.set (rz.mono sm);have Q0:(fL.set nN (some v))[0]?=some (some (.ref a)):=by rw[VE OR];exact s0
     refine⟨rows[j],aA,Sp,fun w Hf1 H1 g1 r1=>⟨.ref a,Q0,a,C,dx,_,.ref p,rfl,.of (g1.big _ _ Lz),cl,na,by rw[jw,if_pos rfl],rows[j],Hf1,Sp.grow g1,fun y bw H2 g2 r2=>?_⟩⟩;cases r2;have g:=g1.trans g2;have oW:H2 p=some (.dK kvs):=g.big _ _ Nv;have Bc:H2 a=some (.ins C dx (dC f (.ref p) fv)):=g.big _ _ Lz;have Nw:bw p=none:=g.iE OW Nv;have Tb:bw a=none:=g.iE OV Lz;have LA:=rk.mono g.aY;have OX:kvs.length < sizeLine:=by
       rw[rk.length];unfold kJ;rw[ou,Wc];omega
     have Ea:(jo kvs (.inr rows[j].1)).isSome=false:=by rw[rk.uO,Ba nd hj];rfl
     have Sw:cL X.K G (fL.set nN (some v)) bw H2 dlu:=(Sp.grow g).weak ⟨by simp,fun i s e n=>by
       by_cases hi:nN=i
       . subst hi;rw[SW] at e;cases e;exact absurd rfl n
       . rw[VE hi];exact e⟩
     refine⟨p,_,rfl,yH.k (k:=.inr rows[j].1) oW OX,bw,_,lI Sw qm Nw gp,sm.trans g.aY,Q0,Tb,Nw,by rw[ag Ij];exact Bc,ah,?_⟩;rw[xJ Ea,wq rows hj];exact LA.snoc (r1.mono g2.aY)
   . rintro fL H' ⟨aA,kvs,S',sm,s0,OV,OW,Lz,Nv,rk⟩
     rw[Ta,W0] at rk;have LB:ay aA (upd aA p (.dK kvs)):=bj OW;have l0:0 < dlu.length:=by
       rw[<- S'.len];exact(Vx.mp s0).1
     refine k fL (upd aA p (.dK kvs)) H' (sm.trans LB) ⟨⟨S'.gr.big,S'.gr.aY.trans LB,fun b u e=>?_,fun b u e=>?_⟩,by simp[S'.len],fun j d h=>?_,fun j o h=>?_,fun i j o o' q h1 h2 h3 h4=>?_⟩
     . by_cases hb:b=p
       . subst hb;rw[ah] at e;cases e;exact Nv
       . rw[ag hb] at e;exact S'.sub _ _ e
     . by_cases hb:b=p
       . subst hb;exact .inr (.inl gp)
       . rw[ag hb] at e;exact S'.gr.new b u e
     . by_cases e:0=j
       . subst e;rw[VH l0] at h;cases h
       . rw[VE e] at h
         obtain⟨v,z1,z2⟩:=S'.val j d h;exact⟨v,z1,z2.mono LB⟩
     . by_cases e:0=j
       . subst e
         rw[VH l0] at h;cases h;exact⟨a,s0,by rw[ag Ij];exact OV,ga,ea,dx,_,Lz,(rf.mono (sm.trans LB)).put (.b6 ah (rk.mono LB))⟩
       . rw[VE e] at h;exact absurd h (bo qm j o)
     . have z:∀ (i:Nat) o,(dlu.set 0 (.own (.vZ z C (putD f (.b6 (kJ rows)) fs))))[i]?=some (.own o)->0=i:=fun i o h=>by
         by_cases e:0=i
         . exact e
         . rw[VE e] at h;exact absurd h (bo qm i o)
       rw[<- z i o h1,<- z j o' h2]
end
theorem xO:∀ {xs:List V} {us:List Value},xs.length=us.length->(∀ (j:Nat) x u,xs[j]?=some x->us[j]?=some u->RelV x u)->Vals xs us
 | [],[],_,_=>.nil
 | [],_::_,h,_=>by cases h
 | _::_,[],h,_=>by cases h
 | x::xs,u::us,h,f=>.cons (f 0 x u rfl rfl) (xO (Nat.succ.inj h) fun j a b h1 h2=>f (j+1) a b (by simpa using h1) (by simpa using h2))
theorem wt:∀ {kvs:List (Key×V)} {vs:List (Key×Value)},KV kvs vs->∀ {j:Nat} {q:Key×Value},vs[j]?=some q->∃ p,kvs[j]?=some p/\p.1=q.1/\RelV p.2 q.2
 | _,_,.nil,j,q,h=>by simp at h
 | _,_,.cons r t,0,q,h=>by simp at h;subst h;exact⟨_,rfl,r⟩
 | _,_,.cons r t,j+1,q,h=>by
   obtain⟨p,h1,h2⟩:=wt t (j:=j) (q:=q) (by simpa using h);exact⟨p,by simpa using h1,h2⟩
theorem kX:∀ {kvs:List (Key×V)} {vs:List (Key×Value)},KV kvs vs->kvs.length=vs.length
 | _,_,.nil=>rfl
 | _,_,.cons r t=>congrArg (·+1) (kX t)
section
variable {X:Cx}{G:Gr}{dl:List Slot}{a o:Expr}{kds:List (Key×Dt)}{pos p:Pos}
theorem pE (hc:X.calm=true):gD X (.type "list") (fun xs H Q=>∃ (d:Addr) (kvs:List (Key×V)),xs=[.ref d]/\H d=some (.dK kvs)/\∀ l,H l=none->Q (.ref l) (upd H l (.lst (kvs.map fun kv=>kV kv.1)))):=by
 intro pins s σ H xs us Q I r h;obtain⟨d,kvs,rfl,hq,q⟩:=h;obtain⟨u,rfl,rx⟩:=vals1 r;cases rx;obtain⟨hz,lo,vs,kv,o,es,ep,ho,hr⟩:=I.aK d _ hq;have hl:=kX kv;refine W.kdl_call (W.kdl_dict (knd:=aG X.prog X.w) (kvs:=vs) (ep:=ep) lo) (I.ok.hd hc) ⟨o,es,ho,hr⟩ (by omega) fun h' tk LC c' kp e it=>?_
 refine⟨.ref s.heap.objs.size,_,I.laid (t':=tk) kp (O0 _) (show aD X.prog X.w _ h' _ (.lst _) from⟨by rw[ou];exact hz,LC.toList,c',xO ?_ fun j x u h1 h2=>?_,e⟩),rfl,q _ (I.aK.fresh (O0 _))⟩
 . have e1:LC.toList.length=vs.length:=by rw[W4];exact it.1
   rw[ou,e1,hl]
 . rw[Xn] at h2
   obtain⟨k,y,z1,z2⟩:=it.2 j u h2;obtain⟨p,z3,z4,_⟩:=wt kv z1;rw[VB,z3] at h1;cases h1;have z4:p.1=k:=z4;show RelV (kV p.1) u;rw[z4];rcases bE z2 with⟨i,t,rfl,rfl⟩ | ⟨i,t,rfl,rfl⟩
   . exact⟨t,rfl⟩
   . exact⟨t,rfl⟩
noncomputable def kD:Key->Dt
 | .inl i=>.int i
 | .inr x=>.str x
theorem j7 {K:W.Frag}{H:Hp}:∀ {kvs:List (Key×V)} {kds:List (Key×Dt)},bH K H kvs kds->bu K H (kvs.map fun kv=>kV kv.1) (kds.map fun kd=>kD kd.1)
 | _,_,.nil=>.nil
 | (.inl i,_)::_,_,.cons _ t=>.cons (.int i) (j7 t)
 | (.inr i,_)::_,_,.cons _ t=>.cons (.str i) (j7 t)
theorem Bd (hm:X.mg "list"=none)(hc:X.calm=true)(ha:EE X G dl a (.b6 kds))(hg:autoParam (Gl X "list") jp)(he:autoParam (starEach [a] X.env=[(false,eval a X.env)]) jp):EO X G dl (.Call (.Name "list" p) [a] [] pos) (.lst (kds.map fun kd=>kD kd.1)):=
 fG (fM (pE hc) hg hm boot_list (ae ha ak he) (he:=he)) fun st H Q zq=>xa zq fun Hf S k=>fun vs Hf1 H1 g1 r1=>by
   cases r1 with
   | cons r t=>cases t;cases r with
     | @b6 q kvs _ z r=>exact⟨q,kvs,rfl,g1.sub _ _ z,fun l hl=>k l Hf1 _ (g1.trans (.cB g1.sub hl)) (g1.big.free hl) (g1.sub.free hl) ⟨_,ah,j7 r⟩⟩
end
noncomputable def LD (x:Str):It:=
 ⟨fun i H=>∃ c,x.cps[i]?=some c,fun i H v H'=>∃ p c,v=.ref p/\H p=none/\H'=upd H p (.tup [.int i,.str ⟨#[c]⟩])/\x.cps[i]?=some c,fun i H=>i=x.cps.size⟩
theorem wu {P:Program}{w:World}{K:W.Frag}{elts:List Expr}{kt:Nat}{rH:Pos}(x:Str)(t:Tok)(e it:Addr)(J4:e≠it):Turn P w K (.Tuple elts kt rH) (LD x) [e,it] e (fun i h=>(∃ old,IsEnum h e it i old)/\h.IsStrIter it "str_ascii_iterator" x t i) where
 mem:=by simp
 obj:=fun i h st b hb=>by
   obtain⟨⟨old,he⟩,o,e2,c,d⟩:=st;rcases Wh.mp hb with rfl | hb
   . exact⟨_,he,fun v z=>by cases z⟩
   . have:b=it:=by simpa using hb
     subst this;exact⟨o,e2,fun v z=>by rw[d] at z;cases z⟩
 keep:=fun i h h' st k=>by
   obtain⟨⟨old,he⟩,o,e2,r⟩:=st;exact⟨⟨old,k e (by simp) _ he⟩,o,k it (by simp) o e2,r⟩
 item:=by
   intro X hP hw hK hc i pins s σ H E I hf st hg;subst hP hw hK;obtain⟨c,hx⟩:=hg;obtain⟨⟨old,he⟩,hit⟩:=st;have Lw:e < s.heap.objs.size:=VI he;have Np:it < s.heap.objs.size:=by obtain⟨_,z,_⟩:=hit;exact VI z
   have b5:i < x.cps.size:=(Array.getElem?_eq_some_iff.mp hx).1;refine wpAny_pyNext_enum_itemD (Draws.strAscii (A:=X.A.in1) (I.ok.hd hc) it x t) he hit b5 J4 (by simpa using J4) fun u h1 tk hP ho Ic hT hsz hk=>?_
   obtain⟨c',u',vB,rfl⟩:=hP;rw[hx] at vB;cases vB;refine⟨_,rfl,wpAny_letOwnedTupleGo_enum ho fun h2 HF uh=>?_⟩;have OO:h2.get? s.heap.objs.size=some { cls:=.type "tuple",data:=.seq #[.int i tk,.str ⟨#[c]⟩ u']}:=(uh.2 _ (Xb Lw)).trans hT;have k2:∀ b o,b ∉ [e,it]->s.heap.get? b=some o->h2.get? b=some o:=fun b o hb q=>(uh.2 b fun z=>hb (by simp[z])).trans (hk b o (fun z=>hb (by simp[z])) (fun z=>hb (by simp[z])) q)
   have hp:H s.heap.objs.size=none:=I.aK.fresh (O0 _);have I2:L2.Inv X pins σ (upd H s.heap.objs.size (.tup [.int i,.str ⟨#[c]⟩])) { s with heap:=h2,toks:=tk+1}:=uL I hf k2 (O0 _) ⟨Wy rfl,[.int i tk,.str ⟨#[c]⟩ u'],.cons ⟨_,rfl⟩ (.cons ⟨_,rfl⟩ .nil),_,OO,rfl,_,rfl⟩;refine⟨.ref s.heap.objs.size,_,I2,rfl,⟨_,c,rfl,hp,rfl,hx⟩,⟨⟨_,by simpa using HF⟩,let ⟨o,z1,z2⟩:=Ic;⟨o,(uh.2 it (Ne.symm J4)).trans z1,z2⟩⟩,fun b hb=>?_⟩;have:b≠s.heap.objs.size:=by
     rcases Wh.mp hb with rfl | hb
     . exact V9 Lw
     . have:b=it:=by simpa using hb
       subst this;exact V9 Np
   rw[ag this];exact(hf b hb).1
 done:=by
   intro X hP hw hK hc i pins s σ H E I hf st hg;subst hP hw hK;have hg:i=x.cps.size:=hg;subst hg;obtain⟨⟨old,he⟩,hit⟩:=st;obtain⟨f0,f1,f2,f3,f4,f5⟩:=hf it (by simp);exact wpAny_pyNext_enum_endD (Draws.strAscii (A:=X.A.in1) (I.ok.hd hc) it x t) he hit fun h' eb=>⟨rfl,I.turned (t':=s.toks) (fun b o hb q=>eb b o hb q) f0 f1 f3 f4 f5⟩
 self:=fun _ i s Q E st h=>by
   obtain⟨⟨old,he⟩,_⟩:=st;exact wpAny_pyIter_enum he h
section
variable {X:Cx}{G:Gr}{dl:List Slot}{a:Expr}{x:Str}{p pos:Pos}
def Be (ta:TA):TI:=fun σ H R=>ta σ H fun vs H1=>∃ x,vs=[.str x]/\gv x=true/\R (LD x) H1
theorem Bf {elts:List Expr}{kt:Nat}{rH:Pos}{ta:TA}(hg:Gl X "enumerate")(hm:X.mg "enumerate"=none)(ha:PA X [a] ta)(hs:autoParam (starEach [a] X.env=[(false,eval a X.env)]) jp):PI X (.Tuple elts kt rH) (.Call (.Name "enumerate" p) [a] [] pos) (Be ta):=by
 intro pins s σ H R I h;refine Call_ (ju I hg hm boot_enumerate (PyProof.Rows.callWith_type1 (bF (ha pos pins s σ H _ I h) fun us s1 ⟨vs,H1,I1,r1,q1⟩=>?_) hs rfl));obtain⟨x,e,Il,q⟩:=q1;subst e;cases r1 with
 | cons r rr=>
   cases rr;obtain⟨t,rfl⟩:=r;refine call_enumerate_str fun h' he hit hsz k=>wpAny_pyIter_enum he ?_
   have KQ:strIterType x="str_ascii_iterator":=by unfold strIterType;rw[show x.cps.all (· < 128)=true from Il];rfl
   rw[KQ] at hit;have I2:L2.Inv X pins σ H1 { s1 with heap:=h'}:=I1.kept (t':=s1.toks) k;refine⟨s1.heap.objs.size+1,[s1.heap.objs.size+1,s1.heap.objs.size],_,_,H1,rfl,I2,wu x t _ s1.heap.objs.size (Xc _),⟨⟨_,he⟩,hit⟩,fun b hb=>?_,q⟩;have DP:s1.heap.objs.size<=b:=by
     rcases Wh.mp hb with rfl | hb
     . exact WU _
     . have:b=s1.heap.objs.size:=by simpa using hb
       rw[this];exact O0 _
   exact I1.nG DP (I1.aK.fresh DP)
theorem wx (hx:gv x=true):lG X G dl (nA (Sg.signs x)) (Be (Nc X.K G dl [.str x])):=fun st H R zq=>Nf zq fun Hf zq=>have S:=zq.1;have k:=zq.2;⟨Hf,S,fun vs Hf1 H1 g1 r1=>by
 cases r1 with
 | cons r t=>
   cases t;cases r;refine⟨x,rfl,hx,k _ Hf1 H1 g1 fun bw H2 s1 s2 i=>⟨fun z hz=>?_,fun hi=>?_⟩⟩
   . have hi:i < (Sg.signs x).length:=by
       have:=(Vx.mp hz).1;unfold nA at this;simpa using this
     unfold nA at hz;rw[VB,WE hi] at hz;cases hz;have zP:(Sg.signs x)[i]?=some ((Sg.signs x).getD i .b0):=by rw[Sl,Bn hi];rfl
     rw[signs_get] at zP;cases q:x.cps[i]? with
     | none=>rw[q] at zP;cases zP
     | some c=>
       rw[q] at zP;have zP:Dt.str ⟨#[c]⟩=(Sg.signs x).getD i .b0:=Option.some.inj zP;refine⟨⟨c,q⟩,fun v H3 ⟨p,c',e1,e2,e3,e4⟩=>?_⟩;rw[q] at e4;cases e4;subst e1 e3;show ∃ fH,aN bw H2 fH _/\Rep X.K fH (V.ref p) (Dt.tup [Dt.int i,(Sg.signs x).getD i Dt.b0]);rw[<- zP];exact⟨upd bw p (.tup [.int i,.str ⟨#[c]⟩]),.alloc s2 e2,.tup (.of ah) (.cons (.int _) (.cons (.str _) .nil))⟩
   . show i=x.cps.size
     unfold nA at hi;rw[ou,Wo,j6] at hi;exact hi⟩
end
theorem Im {us:List Value}{d:Value}(h:(us ++ [d]).length=3):∃ a b,us=[a,b]:=by
 rw[V5] at h;have h:us.length=2:=Nat.succ.inj h
 match us,h with
 | [a,b],_=>exact⟨a,b,rfl⟩
end Sg
namespace Sg
open PySem PySem.Spec PyProof.Rows L2
open Sem (wp)
structure OY (z tI tO j1 j2:Addr)(f1 f2:List Addr):Prop where
 tz:tI≠z
 oz:tO≠z
 az:j1≠z
 bz:j2≠z
 to:tI≠tO
 ta:tI≠j1
 tb:tI≠j2
 oa:tO≠j1
 ob:tO≠j2
 ab:j1≠j2
 z1:z ∉ f1
 o1:tO ∉ f1
 b1:j2 ∉ f1
 z2:z ∉ f2
 o2:tO ∉ f2
 a2:j1 ∉ f2
inductive ZS where
 | txt (x:Str) (t:Tok)
 | lst (l:Addr)
noncomputable def ZS.val:ZS->Value
 | .txt x t=>.str x t
 | .lst l=>.ref l
noncomputable def ZS.obj:ZS->Obj
 | .txt x t=>{ cls:=.type (strIterType x),data:=.fields #[.str x t,.int 0 0]}
 | .lst l=>{ cls:=.type "list_iterator",data:=.fields #[.ref l,.int 0 0]}
def ZS.ok (h:Heap):ZS->Prop
 | .txt x _=>gv x=true
 | .lst l=>∃ xs,h.IsList l xs
def ZS.at (it:Addr)(i:Nat)(h:Heap):ZS->Prop
 | .txt x t=>h.IsStrIter it "str_ascii_iterator" x t i
 | .lst l=>h.IsListIter it l i
noncomputable def ZS.v:ZS->V
 | .txt x _=>.str x
 | .lst l=>.ref l
section
inductive ZD:Dt->List Dt->Prop
 | lst (xs:List Dt):ZD (.lst xs) xs
 | str (x:Str):gv x=true->ZD (.str x) (Sg.signs x)
end
noncomputable def Q2 (d:Addr)(ob:Obj)(kvs:List (Key×V)):It:=
 ⟨fun i H=>H d=some (.aY ob (.dK kvs))/\i < kvs.length,fun i H v H'=>H'=H/\∃ kv,kvs[i]?=some kv/\v=kV kv.1,fun i H=>H d=some (.aY ob (.dK kvs))/\i=kvs.length⟩
theorem xP {X:Cx}{pins:List (Addr×Obj)}{σ:List (Option V)}{H:Hp}{s:Shared}{d:Addr}{ob:Obj}{kvs:List (Key×V)}{es:Array DictEntry}{ep:Nat}(I:L2.Inv X pins σ H s)(hq:H d=some (.aY ob (.dK kvs)))(he:ob.data=.dict es ep):(d == sysModules)=false/\∃ vs,KV kvs vs/\s.heap.DictAt (aG X.prog X.w) d vs ep:=by
 obtain⟨e,hz,lo,vs,kv,o,zY,Kg,ho,hr⟩:=(show aD X.prog X.w H s.heap d (.aY ob (.dK kvs)) from I.aK d _ hq)
 rw[e] at ho;cases ho;obtain⟨hc,wz,hr⟩:=hr;have wz:ob.data=.dict zY Kg:=wz;rw[he] at wz;cases wz;exact⟨lo,vs,kv,ob,es,e,hc,he,hr⟩
theorem yY {P:Program}{w:World}{K:W.Frag}{tg:Expr}(d it:Addr)(ob:Obj)(kvs:List (Key×V)){es:Array DictEntry}{ep:Nat}(he:ob.data=.dict es ep):Turn P w K tg (Q2 d ob kvs) [it] it (fun i h=>h.IsKeyIter it d i kvs.length ep) where
 mem:=by simp
 obj:=fun i h st b hb=>by
   have e:b=it:=by simpa using hb
   subst e;obtain⟨o,e,c,d⟩:=st;exact⟨o,e,fun v z=>by rw[d] at z;cases z⟩
 keep:=fun i h h' st k=>let ⟨o,e,c,d⟩:=st;⟨o,k it (by simp) o e,c,d⟩
 item:=by
   intro X hP hw hK hc i pins s σ H E I hf st hg;subst hP hw hK;obtain⟨hq,hi⟩:=hg;obtain⟨lo,vs,kv,D⟩:=xP I hq he;have hl:=kX kv;have Hv:i < vs.length:=by omega
   obtain⟨f0,f1,f2,f3,f4,f5⟩:=hf it (by simp);have fL:s.heap.IsKeyIter it d i vs.length ep:=by rw[<- hl];exact st
   refine wpAny_pyNext_dict_item (k:=vs[i].1) (v:=vs[i].2) fL D (Bn Hv) fun key h' hk OZ sb=>?_
   have I1:L2.Inv X pins σ H { s with heap:=h'}:=I.turned (t':=s.toks) (fun b o hb e=>(sb.2 b hb).trans e) f0 f1 f3 f4 f5;rw[<- hl] at OZ;obtain⟨o,e,c,dd⟩:=id OZ;obtain⟨p,hp,Io,_⟩:=wt kv (Bn Hv);refine⟨key,rfl,qJ (s:={ s with heap:=h'}) e c dd (by decide) ⟨kV p.1,H,I1,?_,⟨rfl,p,hp,rfl⟩,OZ,fun b hb=>(hf b hb).1⟩⟩;rw[Io];rcases bE hk with⟨j,t,e1,rfl⟩ | ⟨j,t,e1,rfl⟩
   . rw[e1];exact⟨t,rfl⟩
   . rw[e1];exact⟨t,rfl⟩
 done:=by
   intro X hP hw hK hc i pins s σ H E I hf st hg;subst hP hw hK;obtain⟨hq,hi⟩:=hg;obtain⟨lo,vs,kv,D⟩:=xP I hq he;have hl:=kX kv;obtain⟨f0,f1,f2,f3,f4,f5⟩:=hf it (by simp);have fL:s.heap.IsKeyIter it d i vs.length ep:=by rw[<- hl];exact st
   exact wpAny_pyNext_dict_end (I.ok.hd hc) fL D (Wm (by omega)) fun h' eb=>⟨rfl,I.turned (t':=s.toks) (fun b o hb e=>eb b o hb e) f0 f1 f3 f4 f5⟩
 self:=fun A i s Q E st h=>by
   have hT:s.TypeIs (.ref it) "dict_keyiterator":=st.typeIs;refine wpAny_pyIter_slot hT F.slot_dict_keyiterator_iter (wpAny_call_entry F.slot_dict_keyiterator_iter hT F.entry_dict_keyiterator_iter ?_ (F.args_dict_keyiterator_iter_1 _));show wpAny _ _ (ret (.ref it)) _ _ s;exact wpAny_pure ⟨_,rfl,"dict_keyiterator",_,hT,F.slot_dict_keyiterator_next.lookup,h⟩
section
variable {X:Cx}{G:Gr}{dl:List Slot}{a b e i o:Expr}{d:Dt}{pos:Pos}{k x:Str}{kds:List (Key×Dt)}
def Bg (ta:TE):TI:=fun σ H R=>ta σ H fun v H1=>∃ d ob kvs,v=.ref d/\H1 d=some (.aY ob (.dK kvs))/\R (Q2 d ob kvs) H1
theorem Bh {tg:Expr}{ta:TE}(ha:PE X a ta):PI X tg a (Bg ta):=by
 intro pins s σ H R I h;refine bF (ha pins s σ H _ I h) fun v s1 ⟨w,H1,I1,r1,q1⟩=>?_
 obtain⟨d,ob,kvs,rfl,hq,q⟩:=q1;cases r1;obtain⟨e,hz,lo,vs,kv,o,es,ep,ho,hr⟩:=(show aD X.prog X.w H1 s1.heap d (.aY ob (.dK kvs)) from I1.aK d _ hq)
 rw[e] at ho;cases ho;have he:ob.data=.dict es ep:=hr.2.1;have hl:=kX kv;refine wpAny_pyIter_dict (knd:=aG X.prog X.w) (kvs:=vs) (ep:=ep) lo ⟨ob,es,e,hr⟩ ?_;refine⟨s1.heap.objs.size,[s1.heap.objs.size],_,_,H1,rfl,I1.kept (t':=s1.toks) fun b o e=>Te _ e,yY d _ ob kvs he,?_,fun b hb=>?_,q⟩
 . exact⟨_,VJ _ rfl,rfl,by rw[hl];rfl⟩
 . have eb:b=s1.heap.objs.size:=by simpa using hb
   rw[eb];exact I1.nG (O0 _) (I1.aK.fresh (O0 _))
theorem uQ {K:W.Frag}{H:Hp}:∀ {kvs:List (Key×V)} {kds:List (Key×Dt)} {i:Nat} {kd:Key×Dt},bH K H kvs kds->kds[i]?=some kd->∃ kv,kvs[i]?=some kv/\kv.1=kd.1
 | _,_,_,_,.nil,h=>by simp at h
 | _,_,0,_,.cons _ _,h=>by simp at h;subst h;exact⟨_,rfl,rfl⟩
 | _,_,i+1,_,.cons _ t,h=>by
   obtain⟨kv,h1,h2⟩:=uQ (i:=i) t (by simpa using h);exact⟨kv,by simpa using h1,h2⟩
theorem Ip {K:W.Frag}{H:Hp}:∀ (k:Key),Rep K H (kV k) (kD k)
 | .inl i=>.int i
 | .inr x=>.str x
theorem wA:lG X G dl (kds.map fun kd=>kD kd.1) (Bg (tD X.K G dl (.eV kds))):=fun st H R zq=>xa zq fun Hf S k=>fun v Hf1 H1 g1 r1=>by
 cases r1 with
 | @eV q ob kvs _ hq rp=>
   have hl:=rp.length;refine⟨q,ob,kvs,rfl,g1.sub _ _ hq,k _ Hf1 H1 g1 fun bw H2 s1 s2 i=>⟨fun z hz=>?_,fun hi=>⟨s2 _ _ (s1 _ _ hq),by rw[ou] at hi;omega⟩⟩⟩;have hi:i < kds.length:=by
     have:=(Vx.mp hz).1;simpa using this
   rw[VB,Bn hi] at hz;cases hz;obtain⟨kv,h1,h2⟩:=uQ rp (Bn hi);refine⟨⟨s2 _ _ (s1 _ _ hq),by omega⟩,fun v H3 ⟨e1,Q3,e2,e3⟩=>?_⟩;subst e1 e3;rw[h1] at e2;cases e2;refine⟨bw,.refl s2,?_⟩;rw[h2];exact Ip _
theorem Bi (hu:X.A.units+1 < cLine)(ho:EE X G dl o (.eV kds))(hi:EE X G dl i (.str k))(h:iw kds (.inr k)=some d)(hs:Aq i):EE X G dl (.Subscript o i pos) d:=
 fG (rV hu ho hi hs) fun st H Q zq=>xa zq fun Hf S kk=>fun v Hf1 H1 g1 r1=>⟨Hf1,S.grow g1,fun w bw H2 g2 r2=>by
   cases r2;cases r1 with
   | @eV q ob kvs _ hq rp=>
     obtain⟨y,z1,z2⟩:=rp.val h;have e:mj H2 q (kV (.inr k)) (jo kvs (.inr k)):=.inl ⟨kvs,.inr k,.inr (.inl ⟨ob,g2.big _ _ (g1.sub _ _ hq)⟩),rfl,rfl⟩;rw[z1] at e;exact⟨q,y,rfl,e,kk y bw H2 (g1.trans g2) (z2.mono g2.aY)⟩⟩
end
noncomputable def Tc (C t:Addr)(od:Option Addr):Obj:={ cls:=.ref C,dict:=od,data:=.fields #[.ref t,.none,.none,.none,.bool false,.none]}
def Td (h:Heap)(e C:Addr)(od:Option Addr):Prop:=∃ t:Addr,h.get? e=some (Tc C t od)
section
variable {C:Addr}
structure VL (K:W.Frag)(C:Addr)(f:Str):Prop where
 sa:W.findIn K (.ref C) "__setattr__"=some (some (.builtin "object.__setattr__"))
 na:W.findIn K (.ref C) f=some none
 ob:W.mroIn K C (.type "object")=some true
 mr:∃ G,(W.clsIn K C).map (·.mro)=some [.ref C,.ref G,.type "ValueError",.type "Exception",.type "BaseException",.type "object"]
 hd:(W.clsIn K C).map (·.hasDict)=some true
end
noncomputable def Iq (K:PySem.W.Frag)(C:Addr)(Q4:List Value)(nw:String)(fI:Addr):Bool:=match K.lookup C with
 | some ⟨.type "type",_,.cls cd,sl⟩=>(match cd.mro,sl.toList with
   | .ref D::tl,[_,_,_,_,some (.builtin n),_]=>D == C && (n == nw && (!cd.hasDel && (PySem.W.tailIn K Q4 tl && (PySem.W.nsOkIn K cd.ns && (PySem.W.nsIn K cd.ns "__init__" == some (some (.ref fI)))))))
   | _,_=>false)
 | _=>false
structure Tf (K:W.Frag)(C fI:Addr):Prop where
 ex:Iq K C QL "ValueError.__new__" fI=true
 fn:W.typeIn K (.ref fI)=some (.type "function")
 kp:W.keepIn K (.ref C)=true
structure VM (K:W.Frag)(G:Addr):Prop where
 sp:W.specialIn K (.ref G) "__getattribute__"=some (some (.builtin "type.__getattribute__"))
 rd:W.readsIn K G (.type "type")=true
 fc:W.findCls K (.ref G) (.type "type") "__init__"=some (.val (.builtin "ValueError.__init__"))
noncomputable abbrev xT (z C:Addr)(od:Option Addr):HO:=.ext fun h=>Td h z C od
def Tg (K:W.Frag)(C:Addr)(f:Str)(ok:Dt->Prop):Sp:=fun vs H Q E=>∃ Hf H1 z v d,vs=[.ref z,v]/\H=upd H1 z (xT z C none)/\H1 z=none/\ay Hf H1/\Rep K Hf v d/\ok d /\
 ∀ bw H2 dx,aN Hf H bw H2->H2 dx=none->dx≠z->Q .b0 (upd (upd H2 dx (.xd [(f,v)])) z (xT z C (some dx)))
structure XF (P:Program)(w:World)(K:W.Frag)(mg:Str->Option Value)(base:Heap)(CX:kT)(k:Nat)(x:Str)(C:Addr)(f:Str)(ok:Dt->Prop):Prop where
 ex:∃ fI fd ps,gu P w K mg base CX k fI fd ps (Tg K C f ok)/\Tf K C fI/\mg x=some (.ref C)/\Binds K fd ps []
section
variable {K:W.Frag}{x qual:Str}{st:Stmt}{f:Addr}{fd:FuncData}
theorem LF (F:Ht K x qual st f fd):wb K x qual st f fd:=by
 obtain⟨oc,od,kV,doc,pm,an,a6,ct,oU,e,lk,il⟩:=F.ex;exact⟨oc,od,_,kV,doc,pm,an,a6,ct,oU,e,lk,il⟩
end
section
variable {X:Cx}{G:Gr}{E:XK}{dl:List Slot}{e:Expr}{p pos apos a7:Pos}{x:Str}{ds Dc:List Dt}
theorem yZ (n:Nat){pn:Pos}(he:EE X G dl e (.lst Dc))(hl:ds.length+Dc.length<=sizeLine)(hd:autoParam (dl[n]?=some (.own (.lst ds))) jp)(hN:autoParam (X.N[n]?=some x) jp)(hv:autoParam (qI X.env.scope x) jN)
   (hU:autoParam ((x == ("__debug__":Str))=false) jM) (il:autoParam ((x == ("__classdict__":Str))=false) jM)
   (gb:autoParam (attributeBase (.Name x pn) "extend" X.env (eval (.Name x pn) X.env)=eval (.Name x pn) X.env) jp)
   (oV:autoParam (((backTo a7 (starEach [e] X.env)).all (fun x=>!x.1) && (backToKw a7 (keywordEach [] X.env)).all (fun x=>x.1.isSome) && decide ([e].length+([]:List Keyword).length+(if ([]:List Keyword).isEmpty then 0 else 1) < 30))=true) jp)
   (gc:autoParam ((apos.endLine == a7.line)=true) jp) (jf:autoParam (starEach [e] X.env=(false,eval e X.env)::starEach [] X.env) jp) (hs:autoParam (swapsWith (.Call (.Attribute (.Name x pn) "extend" apos) [e] [] a7) none pos.line X.env=pure false) jp) :
   ES X G E dl (.Expr (.Call (.Attribute (.Name x pn) "extend" apos) [e] [] a7) pos) (.nx (dl.set n (.own (.lst (ds ++ Dc))))):=
 qT (jT (qQ PySem.F.plainAttrs_list PySem.F.slot_list_extend PySem.F.type_list_extend yG (pz (p:=pn) n hd hN hv hU il) (ae he ak jf) gb oV gc jf rfl) hs) fun D st H zq=>Nf zq fun Hf zq=>have S:=zq.1;have k:=zq.2;by
   obtain⟨q,z1,z2,z3,vs,hq,rp⟩:=S.own n _ hd;refine⟨Hf,q,S,z1,z2,⟨vs,hq,rp⟩,.inl ⟨rfl,vs,.of hq⟩,Hf,S,fun us Hf1 H1 g1 r1=>?_⟩;cases r1 with
   | cons r1 t1=>
     cases t1;cases r1 with
     | @lst b zs _ hb rz=>
       refine⟨q,b,vs,zs,rfl,rfl,g1.big _ _ hq,g1.sub _ _ hb,by rw[rp.length,rz.length];exact hl,?_⟩;exact k st Hf1 _ g1.aY ((S.grow g1).Aw hd z1 ⟨_,ah,(rp.mono g1.aY).append rz⟩)
end
noncomputable def zb (lo:Int)(n:Nat):It:=⟨fun i _=>i < n,fun i H x H'=>H'=H/\x=.int (lo - i),fun i _=>n<=i⟩
theorem uR {P:Program}{w:World}{K:PySem.W.Frag}{tg:Expr}(it:Addr)(lo:Int)(n:Nat):Turn P w K tg (zb lo n) [it] it (fun i h=>IsRangeIter h it (lo+(i:Nat) * (-1)) ((n:Int) - (i:Nat)) (-1)) where
 mem:=by simp
 obj:=fun i h st b hb=>by
   have e:b=it:=by simpa using hb
   subst e;exact⟨_,st,fun v z=>by
     have z':Data.fields _=Data.cell v:=z;cases z'⟩
 keep:=fun i h h' st k=>k it (by simp) _ st
 item:=by
   intro X hP hw hK hc i pins s σ H E I hf st hg;subst hP hw hK;obtain⟨f0,f1,f2,f3,f4,f5⟩:=hf it (by simp);have W:=Walks.range (prog:=X.prog) (w:=X.w) (I.ok.hd hc) it lo (-1) n;refine W.item i s _ _ hg st fun v h' tk hv fL kk=>?_
   obtain⟨t,rfl⟩:=hv;have I1:Inv X pins σ H { s with heap:=h',toks:=tk}:=I.turned (fun b o hb e=>kk b o (by simpa using hb) e) f0 f1 f3 f4 f5;refine⟨_,rfl,qJ (s:={ s with heap:=h',toks:=tk}) (n:="range_iterator") fL rfl rfl (by decide) ⟨.int (lo - i),H,I1,⟨t,?_⟩,⟨rfl,rfl⟩,fL,fun b hb=>(hf b hb).1⟩⟩;rw[show lo+(i:Int) * (-1)=lo - i by omega]
 done:=by
   intro X hP hw hK hc i pins s σ H E I hf st hg;subst hP hw hK;obtain⟨f0,f1,f2,f3,f4,f5⟩:=hf it (by simp);exact wpAny_pyNext_range_end (I.ok.hd hc) st (by have:n<=i:=hg;omega) fun h' eb=>⟨rfl,I.turned (t':=s.toks) (fun b o hb e=>eb b o hb e) f0 f1 f3 f4 f5⟩
 self:=fun _ _ _ _ _ st h=>wpAny_pyIter_rangeiter st h
section
variable {X:Cx}{e:Expr}{i:Int}
theorem zc {lo:Int}{n:Nat}{Hf1 H1 bw H2:Hp}(s2:ay bw H2)(i:Nat):(∀ z,((Wi n).map fun(k:Nat)=>Dt.int (lo - k))[i]?=some z->(zb lo n).go i H2/\∀ v H3,(zb lo n).z8 i H2 v H3->∃ fH,aN bw H2 fH H3/\Rep X.K fH v z)/\(i=((Wi n).map fun(k:Nat)=>Dt.int (lo - k)).length->(zb lo n).stop i H2):=by
 refine⟨fun z hz=>?_,fun e=>Nat.le_of_eq (show i=n by simpa using e).symm⟩;have hi:i < n:=by
   have:=(Vx.mp hz).1;simpa using this
 rw[VB,WE hi] at hz;cases hz;refine⟨hi,fun v H3 hy=>?_⟩;obtain⟨e1,e2⟩:=hy;subst e1 e2;exact⟨bw,.refl s2,.int _⟩
end
noncomputable def LG (H:Hp)(q:Addr):Hp:=fun a=>if a=q then none else H a
theorem Bj {H:Hp}{q a:Addr}(h:a≠q):LG H q a=H a:=if_neg h
mutual
noncomputable def O2:Dt->Bool
 | .lst _=>false
 | .jq _=>false
 | .tup ds=>LH ds
 | .b6 kds=>LI kds
 | .obj _ fs=>LJ fs
 | .eV _=>false
 | .xo _=>false
 | .vD _ _=>false
 | .cK _=>false
 | .memo _ _ _ _=>false
 | .cM _ _ _ _=>false
 | .qu _ _ _=>false
 | .ql _ _ _ _ _=>false
 | .ir _=>false
 | _=>true
noncomputable def LH:List Dt->Bool
 | []=>true
 | d::r=>O2 d && LH r
noncomputable def LI:List (Key×Dt)->Bool
 | []=>true
 | (_,d)::r=>O2 d && LI r
noncomputable def LJ:List (Str×Dt)->Bool
 | []=>true
 | (_,d)::r=>O2 d && LJ r
end
structure LK (k:Nat)(A:Around):Prop where
 dp:A.depth+3 * k+5 < recursionLimit
 un:A.units+16 * k+200 < cLine
structure LL (P:Program)(w:World)(K:W.Frag)(mg:Str->Option Value)(base:Heap)(CX:kT)(k:Nat)(f:Addr)(fd:FuncData)(ps:List Str)(sp:Sp):Prop where
 len:∀ vs H Q E,sp vs H Q E->vs.length=ps.length
 run:∀ (A:Around) (outer:List Env) (s:Shared) (H:Hp) (args:Args) (us:List Value) (vs:List V) (Q:VK) (E:XK),LK k A->uk P w K mg base A outer s H->BindsTo s fd args (ps.zip us)->Vals vs us->sp vs H Q E ->
   codeAny (model P w) A (.call (.ref f) args) (CR CX outer P w H s Q E) s
structure VN (P:Program)(w:World)(K:W.Frag)(mg:Str->Option Value)(base:Heap)(CX:kT)(k:Nat)(x:Str)(n:Nat)(R:List Dt->Res->Prop):Prop where
 ex:∃ f fd ps,LL P w K mg base CX k f fd ps (AB K n R)/\mg x=some (.ref f)/\W.keepIn K (.ref f)=true/\Binds K fd ps []
theorem pF:typeLookup (.type "list") "keys"=pure none:=am_miss_of_fast (by decide +kernel)
theorem zd {prog:Program}{w:World}{A:Around}{E:Value->Shared->Prop}{s:Shared}{a:Addr}{o:Obj}{xs:Array Value}{k:Nat}{Q:Option Value->Shared->Prop}(hx:s.heap.get? a=some o)(hc:o.cls=.type "list")(wz:o.data=.seq xs k)(hd:o.dict=none)(hA:A.handled=none)(h:∀ h' tk,(∀ b u,s.heap.get? b=some u->h'.get? b=some u)->Q none { s with heap:=h',toks:=tk}):wpAny (model prog w) A (getAttr? (.ref a) "keys") Q E s:=by
 obtain⟨c,VO,dat,sl⟩:=o;simp only at hc wz hd;subst hc wz hd;obtain⟨hp,g,d,tk,os⟩:=s;have hT:∀ Q5,(⟨hp,g,d,Q5,os⟩:Shared).TypeIs (.ref a) "list":=fun _=>⟨_,hx,rfl⟩
 have f1:=sub_AttributeError;have f3:=F.slot_list_getattribute.lookup;have f4:=F.slot_list_getattribute.bind (.ref a);have f5:=am_list_getattr_none;unfold getAttr? getAttrBy? getAttrBy
 repeat (any_goals (first | assumption | exact hT _ | ((with_reducible show wpAny _ _ (call (Value.builtin "list.__getattribute__") _ _) _ _ _);refine call_meets F.slot_list_getattribute (hT _) am_entry_list_getattribute (F.args_list_getattribute_2 _ _) (meets_getattribute_miss_list a xs k sl "keys" _ pF (by decide +kernel)) ⟨hx,hA,fun h' Q5 e zP=>?_⟩) | wp_step))
 obtain⟨t',u',he⟩:=zP.there;show wpAny _ _ (getattributeRaised _ _ _ _ _ _ _) _ _ _;unfold getattributeRaised
 repeat (any_goals (first | assumption | wp_step))
 exact h _ _ zP.keeps
theorem fU:plainId "dict.update.loop"=true:=by decide +kernel
theorem kK:entryFor table "dict.update.loop"=some Builtin.«dict.update.loop»:=entryFor_of_fast (by kernel_rfl)
inductive zQ (K:W.Frag)(H:Hp):List V->List (Key×V)->Prop
 | nil:zQ K H [] []
 | cons {t:Addr} {k:Key} {v:V} {xs:List V} {kvs:List (Key×V)}:vC K H t [kV k,v]->zQ K H xs kvs->zQ K H (.ref t::xs) ((k,v)::kvs)
theorem zQ.length {K:W.Frag}{H:Hp}:∀ {xs:List V} {kvs:List (Key×V)},zQ K H xs kvs->xs.length=kvs.length
 | _,_,.nil=>rfl
 | _,_,.cons _ r=>congrArg (·+1) (zQ.length r)
theorem zQ.get {K:W.Frag}{H:Hp}:∀ {xs:List V} {kvs:List (Key×V)} {i:Nat} {kv:Key×V},zQ K H xs kvs->kvs[i]?=some kv->∃ t,xs[i]?=some (.ref t)/\vC K H t [kV kv.1,kv.2]
 | _,_,_,_,.nil,e=>by simp at e
 | _,_,0,_,.cons h _,e=>by simp at e;subst e;exact⟨_,rfl,h⟩
 | _,_,i+1,_,.cons _ r,e=>by
   obtain⟨t,h1,h2⟩:=zQ.get (i:=i) r (by simpa using e);exact⟨t,by simpa using h1,h2⟩
theorem uS {kvs:List (Key×V)}{k:Key}(h:k ∉ kvs.map (·.1)):(jo kvs k).isSome=false:=by
 induction kvs with
 | nil=>rfl
 | cons p r ih=>
   have h1:¬ p.1=k:=fun e=>h (by simp[e])
   rw[iC h1];exact ih fun z=>h (by simp at z ⊢;exact .inr z)
section
variable {X:Cx}{pins:List (Addr×Obj)}{σ:L2.St}{H:Hp}{A:Around}{R:Result->Shared->Prop}{L d it:Addr}{xs:List V}{kvs:List (Key×V)}
theorem Bk (hA:A.handled=none)(hL:jm X.K H L xs)(hp:zQ X.K H xs kvs)(nd:(kvs.map (·.1)).Nodup)(hd:H d=none)(hf:gT X pins H it)(O3:d≠it)(hz:kvs.length<=sizeLine)(hR:∀ s',L2.Inv X pins σ (upd H d (.dK kvs)) s'->R (.ok (.ret .none)) s'):∀ (k i:Nat) (s:Shared) (tk:Tok),kvs.length - i=k->i<=kvs.length->L2.Inv X pins σ (upd H d (.dK (kvs.take i))) s->s.heap.IsListIter it L i->codeAny (model X.prog X.w) A (.builtin "dict.update.loop" ⟨[.ref d,.ref it,.int i tk,.none],[]⟩) R s:=by
 have hlen:=hp.length;have sm:∀ o,ay H (upd H d o):=fun o=>bj hd
 obtain⟨f0,f1,f2,f3,f4,f5⟩:=hf;intro k
 induction k with
 | zero=>
   intro i s tk hk hi I st;have Ir:i=kvs.length:=by omega
   subst Ir;obtain⟨aE,rv,p,Q6⟩:=I.list ((sm _).seq hL);have hl:=rv.length;refine codeAny_builtin kK ?_;rw[Around.under_plainId fU _];show wpAny _ A.in1 (pyNext (.ref it) >>= _) _ _ s;refine wpAny_bind (wpAny_pyNext_list_end (show A.in1.handled=none from hA) st p.isList (by simp;omega) fun h' eb=>?_);have I1:L2.Inv X pins σ (upd H d (.dK (kvs.take kvs.length))) { s with heap:=h'}:=I.turned (t':=s.toks) (fun b o hb e=>eb b o hb e) (by rw[ag (Ne.symm O3)];exact f0) f1 f3 f4 f5;rw[W0] at I1;show wpAny _ A.in1 (Builtin.Dict.addKeywords d [] >>= _) _ _ _;exact wpAny_bind (wpAny_pure (wpAny_pure (hR _ I1)))
 | succ k ih=>
   intro i s tk hk hi I st;have b5:i < kvs.length:=by omega
   obtain⟨t,Th,Ti⟩:=hp.get (Bn b5);obtain⟨aE,rv,p,Q6⟩:=I.list ((sm _).seq hL);obtain⟨u,hu,ru⟩:=rv.get Th;cases (show u=Value.ref t from ru);refine codeAny_builtin kK ?_;rw[Around.under_plainId fU _];show wpAny _ A.in1 (pyNext (.ref it) >>= _) _ _ s;refine wpAny_bind (wpAny_pyNext_list_item st p.isList (x:=.ref t) (by simpa using hu) fun h' fL sb=>?_);have I1:L2.Inv X pins σ (upd H d (.dK (kvs.take i))) { s with heap:=h'}:=I.turned (t':=s.toks) (fun b o hb e=>(sb.2 b hb).trans e) (by rw[ag (Ne.symm O3)];exact f0) f1 f3 f4 f5;obtain⟨VP,rp,pt,VQ⟩:=I1.tuple (dv (sm _) Ti);cases rp with
   | cons rk rp=>cases rp with
     | cons Tj rp=>
       cases rp;rename_i ku vu;obtain⟨ot,eo,O4,nn,Tn⟩:=pt;refine wpAny_bind (wpAny_holding (wpAny_bind (wpAny_tryCatch ?_)));unfold Builtin.Dict.pairItems;refine wpAny_bind (wpAny_typeOf (T:="tuple") ⟨_,eo,O4⟩ ?_);simp only[show((Value.type "tuple" == Value.type "list") || (Value.type "tuple" == Value.type "tuple"))=true by decide,if_true];refine wpAny_bind (wpAny_seqItems eo Tn (wpAny_pure ?_));show wpAny _ A.in1 (holding [ku,vu] (dictSet d ku vu)) _ _ _;refine wpAny_holding ?_;have ed:(upd H d (HO.dK (kvs.take i))) d=some (.dK (kvs.take i)):=ah;obtain⟨z,To,vs,rel,dd⟩:=FJ I1.aK ed;have Tp:vs.length<=sizeLine:=by rw[<- rel.length];exact z
       have LM:putK (kvs.take i) kvs[i].1 kvs[i].2=kvs.take (i+1):=by
         rw[xJ (uS ?_),List.take_succ,Bn b5];rfl;rw[Xw];intro hm;obtain⟨j,hj,e⟩:=WQ.mp hm;rw[Wc,ou] at hj;rw[W8,Wv] at e;have:=WB.mp nd j i (by rw[ou];omega) (by rw[ou];omega) (by omega);rw[Wv,Wv] at this;exact this e
       refine wpAny_dictSet_pairs (hsz:=Tp) (uv rk) dd fun h2 Hq hs=>?_
       have he:∃ q,h2.get? d=some q:=let ⟨q,_,_,hq,_⟩:=Hq;⟨q,hq⟩;have I2:L2.Inv X pins σ (upd (upd H d (.dK (kvs.take i))) d (.dK (putK (kvs.take i) kvs[i].1 kvs[i].2))) { s with heap:=h2,toks:=s.toks+1}:=jX (s:={ s with heap:=h'}) (t':=s.toks+1) I1 (by rw[ed];exact True.intro) hs he (Ap (by rw[LM,Wc];omega) To (rel.put _ Tj) Hq);rw[n8,LM] at I2;exact wpAny_pure ⟨plainId_quiet fU _,ih (i+1) _ _ (by omega) (by omega) I2 (fL.at fun o e=>(hs.2 it (Ne.symm O3)).trans e)⟩
theorem sx (hc:X.calm=true):gD X (.type "dict") (fun xs H Q=>∃ L ys kvs,xs=[.ref L]/\H L=some (.lst ys)/\zQ X.K H ys kvs/\(kvs.map (·.1)).Nodup/\kvs.length<=sizeLine/\∀ l,H l=none->Q (.ref l) (upd H l (.dK kvs))):=by
 intro pins s σ H xs us Q I r h;obtain⟨L,ys,kvs,rfl,hL,hp,nd,hz,q⟩:=h;obtain⟨u,rfl,rx⟩:=vals1 r;cases rx;refine callType_codes (Q₁:=fun obj s₁=>obj=.ref s.heap.objs.size/\s₁={ s with heap:=s.heap.push { cls:=.type "dict",data:=.dict #[]}}) F.kt_called_dict (F.kt_typeCall_dict_1 _) F.entry_dict_init (kt_code_dict_new _ ⟨rfl,rfl⟩) ?_
 rintro obj s₁ ⟨rfl,rfl⟩
 have Ea:(s.heap.push { cls:=.type "dict",data:=.dict #[]}).DictOf (aG X.prog X.w) s.heap.objs.size []:=Heap.DictOf.new s.heap;have hn:=I.aK.fresh (O0 _);have I1:L2.Inv X pins σ (upd H s.heap.objs.size (.dK [])) { s with heap:=s.heap.push { cls:=.type "dict",data:=.dict #[]}}:=I.laid (a:=s.heap.objs.size) (o:=.dK []) (t':=s.toks) (fun _ _ q=>Te _ q) (O0 _) (ux s.heap I.big);refine⟨Ea.typeIs,F.args_dict_init_2 _ _,?_⟩;unfold Builtin.«dict.__init__»;refine wpAny_bind ?_;unfold Builtin.Dict.selfAndRest;refine wpAny_bind (wpAny_notOrdered_dict Ea.typeIs ?_);show wpAny _ _ (pure (s.heap.objs.size,[Value.ref L])) _ _ _;refine wpAny_pure ?_;show wpAny _ _ (Builtin.Dict.updateFrom "dict.__init__" s.heap.objs.size (.ref L) [] .none) _ _ _;unfold Builtin.Dict.updateFrom;have Tq:s.heap.objs.size≠L:=fun e=>by rw[<- e,hn] at hL;cases hL
 have Tr:(upd H s.heap.objs.size (HO.dK [])) L=some (.lst ys):=by rw[ag (Ne.symm Tq)];exact hL
 obtain⟨Q6,aE,n,rv,eL⟩:=(show aD X.prog X.w _ _ L (.lst ys) from I1.aK L _ Tr)
 have hA:X.A.handled=none:=I.ok.hd hc;refine wpAny_bind (wpAny_typeOf (T:="list") ⟨_,eL,rfl⟩ ?_);rw[if_pos (by decide)];refine wpAny_bind (zd eL rfl rfl rfl (by exact hA) fun h1 LN Q7=>?_);rw[if_pos (by rfl)];have I2:L2.Inv X pins σ (upd H s.heap.objs.size (.dK [])) { s with heap:=h1,toks:=LN}:=I1.kept (t':=LN) Q7;have Ts:h1.get? L=some { cls:=.type "list",data:=.seq aE.toArray n}:=Q7 _ _ eL;refine wpAny_bind (wpAny_rule (wpAny_bind (wpAny_pyIter_list (s:={ s with heap:=h1,toks:=LN}) (items:=aE.toArray) ⟨_,Ts,rfl,n,rfl⟩ ?_)));have I3:L2.Inv X pins σ (upd H s.heap.objs.size (.dK [])) { s with heap:=h1.push { cls:=.type "list_iterator",data:=.fields #[.ref L,.int 0 0]},toks:=LN}:=I2.kept (t':=LN) fun b o e=>Te _ e
 have hsz:s.heap.objs.size < h1.objs.size:=I2.aK.lt ah;have Sx:s.heap.objs.size<=h1.objs.size:=WL hsz;have O5:H h1.objs.size=none:=by
   have:=I2.aK.fresh (O0 h1.objs.size);rw[ag (Xb hsz)] at this;exact this
 refine wpAny_pure ⟨plainId_quiet fU _,Bk (kvs:=kvs) (by exact hA) (.of hL) hp nd hn (I2.nG (b:=h1.objs.size) (O0 _) O5) (V9 hsz) hz (fun s' I'=>⟨rfl,.ref _,_,I',rfl,q _ hn⟩) kvs.length 0 _ _ (by omega) (by omega) I3 ⟨_,VJ _ rfl,rfl,rfl⟩⟩
end
section
variable {X:Cx}{G:Gr}{dl:List Slot}{a:Expr}{pos p:Pos}{kds:List (Key×Dt)}
noncomputable def Dd (kd:Key×Dt):Dt:=.tup [kD kd.1,kd.2]
theorem Bl {K:W.Frag}{Hf H:Hp}(sm:ay Hf H):∀ {ys:List V} {kds:List (Key×Dt)},bu K Hf ys (kds.map Dd)->∃ kvs,zQ K H ys kvs/\bH K Hf kvs kds
 | _,[],.nil=>⟨[],.nil,.nil⟩
 | _,(k,d)::kds,.cons r t=>by
   obtain⟨kvs,h1,h2⟩:=Bl sm t;cases r with
   | @tup a vs _ hs rp=>
     cases rp with
     | @cons v1 _ _ _ r1 r2=>cases r2 with
       | @cons v2 _ _ _ r2 r3=>
         cases r3;have e1:v1=kV k:=by
           cases k with
           | inl i=>cases r1;rfl
           | inr x=>cases r1;rfl
         subst e1;exact⟨(k,v2)::kvs,.cons (dv sm hs) h1,.cons r2 h2⟩
theorem bH.keys {K:W.Frag}{H:Hp}:∀ {v:List (Key×V)} {d:List (Key×Dt)},bH K H v d->v.map (·.1)=d.map (·.1)
 | _,_,.nil=>rfl
 | _,_,.cons _ r=>by rw[V7,V7,bH.keys r]
theorem iF (hm:X.mg "dict"=none)(hc:X.calm=true)(ha:EE X G dl a (.lst (kds.map Dd)))(nd:(kds.map (·.1)).Nodup)(hz:kds.length<=sizeLine)(hg:autoParam (Gl X "dict") jp)(he:autoParam (starEach [a] X.env=[(false,eval a X.env)]) jp):EO X G dl (.Call (.Name "dict" p) [a] [] pos) (.b6 kds):=
 fG (fM (sx hc) hg hm boot_dict (ae ha ak he) (he:=he)) fun st H Q zq=>xa zq fun Hf S k=>fun vs Hf1 H1 g1 r1=>by
   cases r1 with
   | cons r t=>cases t;cases r with
     | @lst q vs _ z r=>
       obtain⟨kvs,h1,h2⟩:=Bl g1.sub r;exact⟨q,vs,kvs,rfl,g1.sub _ _ z,h1,by rw[h2.keys];exact nd,by rw[h2.length];exact hz,fun l hl=>k l Hf1 _ (g1.trans (.cB g1.sub hl)) (g1.big.free hl) (g1.sub.free hl) ⟨kvs,ah,h2⟩⟩
theorem ze:JZ X "str.count" (fun x vs H Q=>∃ z y:Str,x=.str z/\vs=[.str y]/\Q (.int (Txt.count z y)) H):=by
 intro pins s σ H x vs v us Q I rx rv ⟨z,y,e1,e2,q⟩;subst e1 e2;obtain⟨t,rfl⟩:=(show ∃ t,v=Value.str z t from rx)
 obtain⟨u,rfl,ru⟩:=vals1 rv;obtain⟨t',rfl⟩:=(show ∃ t,u=Value.str y t from ru)
 exact PySem.SC.count ⟨.int (Txt.count z y),H,I.tok _,⟨_,rfl⟩,q⟩
end
section
variable {prog:Program}{w:World}{A:Around}{E:Value->Shared->Prop}{s:Shared}
inductive iG:List (Key×Value)->List (Key×Value)->Prop
 | nil:iG [] []
 | cons {k:Key} {i:Int} {t u:Tok} {xs ys:List (Key×Value)}:iG xs ys->iG ((k,.int i t)::xs) ((k,.int i u)::ys)
theorem iG.length:∀ {xs ys:List (Key×Value)},iG xs ys->xs.length=ys.length
 | _,_,.nil=>rfl
 | _,_,.cons r=>congrArg (·+1) (iG.length r)
theorem iG.get:∀ {xs ys:List (Key×Value)} {j:Nat} {kv:Key×Value},iG xs ys->xs[j]?=some kv->∃ k i t u,kv=(k,.int i t)/\ys[j]?=some (k,.int i u)
 | _,_,_,_,.nil,e=>by simp at e
 | _,_,0,_,.cons _,e=>by simp at e;subst e;exact⟨_,_,_,_,rfl,rfl⟩
 | _,_,j+1,_,.cons r,e=>by
   obtain⟨k,i,t,u,h1,h2⟩:=iG.get (j:=j) r (by simpa using e);exact⟨k,i,t,u,h1,by simpa using h2⟩
theorem jE {nm:String}{a b:Addr}{xs ys:List (Key×Value)}{Q:Bool->Shared->Prop}(ha:(a == sysModules)=false)(hb:(b == sysModules)=false)(da:s.heap.DictOf (aG prog w) a xs)(db:s.heap.DictOf (aG prog w) b ys)(hs:iG xs ys)(hQ:Q true s):wpAny (model prog w) A (Builtin.Dict.samePairs nm a b) Q E s:=by
 obtain⟨oa,ea,pa,J6,VR,Nx,Tt,Ij,VS⟩:=id da;obtain⟨ob,eb,pb,O6,VT,hU,Tu,O7,Tv⟩:=id db;have Tw:ea.size=xs.length:=by rw[<- Ij.length];simp
 have Tx:eb.size=ys.length:=by rw[<- O7.length];simp
 have hl:=hs.length;unfold Builtin.Dict.samePairs;unfold Builtin.Dict.showsAll;rw[if_neg (by rw[ha];exact V8),if_neg (by rw[hb];exact V8)];refine wpAny_bind (wpAny_pure (wpAny_bind (wpAny_pure ?_)));refine wpAny_bind (wpAny_dictEntries J6 Nx ?_);refine wpAny_bind (wpAny_dictEntries O6 hU ?_);rw[if_neg (by rw[Tw,Tx,hl];simp)];refine wpAny_bind (wpAny_dictEpoch J6 Nx ?_);refine wpAny_bind ?_;rw[Std.Legacy.Range.forIn_eq_forIn_range'];simp only[Std.Legacy.Range.size,Nat.sub_zero,Nat.add_sub_cancel,Nat.div_one];refine wpAny_forIn_list _ (fun rest b s'=>b=(none,())/\s'=s/\∃ i,rest=Xa i (ea.size - i)/\i<=ea.size) _ ?_ ?_ _ _ ⟨rfl,rfl,0,by simp,Wr _⟩
 . rintro x rest b' s' ⟨rfl,rfl,i,hr,hi⟩
   have b5:i < ea.size:=by
     rcases Nat.lt_or_ge i ea.size with h | h
     . exact h
     . rw[Nat.sub_eq_zero_of_le h] at hr;simp at hr
   obtain⟨rfl,LO⟩:x=i/\rest=Xa (i+1) (ea.size - (i+1)):=by
     have e:ea.size - i=(ea.size - (i+1))+1:=by omega
     rw[e,List.range'_succ] at hr;injection hr with h1 h2
     exact⟨h1,h2⟩
   refine wpAny_bind (wpAny_dictEntries J6 Nx ?_);rw[W2 b5];obtain⟨kv,J5⟩:∃ kv,xs[x]?=some kv:=⟨xs[x]'(by omega),Bn _⟩
   obtain⟨k,z,t,u,rfl,hy⟩:=hs.get J5;obtain⟨Dv,O8⟩:=Ij.get? (e:=ea[x]) (by simp[b5]) J5;obtain⟨k',LP,LQ⟩:=Tt ea[x] (Array.getElem_mem b5);obtain rfl:k'=k:=(aG prog w).inj _ _ _ LP Dv;have LR:x < eb.size:=by omega
   obtain⟨Q8,LU⟩:=O7.get? (e:=eb[x]) (by simp[LR]) hy;have LV:(eb.findIdx? fun e=>(aG prog w).is k' e.key)=some x:=by
     have h1:(eb.findIdx? fun e=>(aG prog w).is k' e.key)=ys.findIdx? fun kv=>decide (kv.1=k'):=by
       rw[<- O7.findIdx k'];obtain⟨l⟩:=eb;simp
     rw[h1,List.findIdx?_eq_some_iff_getElem];refine⟨by omega,?_,fun j hj=>?_⟩
     . have:=(Vx.mp hy).2
       rw[this];simp
     . have Tz:=(Vx.mp hy).2
       have:=WB.mp Tv j x (by rw[ou];omega) (by rw[ou];omega) hj;rw[Wv,Wv,Tz] at this;simpa using this
   show wpAny _ _ (holding [ea[x].key,ea[x].val] _ >>= _) _ _ _;refine wpAny_bind (wpAny_holding ?_);rw[LQ];refine wpAny_bind (wpAny_dictFind_of Dv O6 hU Tu ?_);rw[LV];refine wpAny_bind (wpAny_dictEntries O6 hU ?_);rw[W2 LR];show wpAny _ _ (holding [eb[x].val] (eqBool ea[x].val eb[x].val)) _ _ _;rw[O8,LU];refine wpAny_holding (wpAny_eqBool_int ?_);rw[show(!(z == z))=false by simp];show wpAny _ _ (dictEpoch a >>= _) _ _ _;refine wpAny_bind (wpAny_dictEpoch J6 Nx ?_);rw[if_neg (by simp)];exact wpAny_pure ⟨rfl,rfl,x+1,LO,b5⟩
 . rintro⟨b1,b2⟩ s' ⟨DP,rfl,i,hz,hR⟩
   cases DP;exact wpAny_pure hQ
end
theorem pG {H:Hp}{q:Addr}{o:HO}(h:H q=some o):upd H q o=H:=by
 funext b
 by_cases e:b=q
 . subst e;rw[ah,h]
 . rw[ag e]
section
variable {X:Cx}{G:Gr}{dl:List Slot}{e a b:Expr}{x:Str}{apos a7:Pos}{kds:List (Key×Dt)}
def Eb (kvs:List (Key×V)):Prop:=∀ kv∈kvs,∃ i,kv.2=.int i
theorem pH:∀ {kvs:List (Key×V)} {us vs:List (Key×Value)},Eb kvs->KV kvs us->KV kvs vs->iG us vs
 | [],_,_,_,.nil,.nil=>.nil
 | (k,v)::kvs,(k1,w1)::_,(k2,w2)::_,h,.cons p1 q1,.cons p2 q2=>by
   obtain⟨i,e⟩:=h (k,v) (by simp);simp only at e;subst e;obtain⟨e1,t,Q9⟩:=p1;obtain⟨e2,u,FR⟩:=p2;simp only at e1 Q9 e2 FR;subst e1 e2 Q9 FR;exact .cons (pH (fun kv hk=>h kv (by simp[hk])) q1 q2)
theorem Bm {prog:Program}{w:World}{A:Around}{a b:Addr}{us vs:List (Key×Value)}{R:Result->Shared->Prop}{s:Shared}(h1:(a == sysModules)=false)(h2:(b == sysModules)=false)(d1:s.heap.DictOf (aG prog w) a us)(d2:s.heap.DictOf (aG prog w) b vs)(hs:iG us vs)(k:R (.ok (.ret (.bool true))) s):wpAny (model prog w) A.in1 (Builtin.«dict.__eq__» ⟨[.ref a,.ref b],[]⟩) (fun fin s'=>∃ v,fin=.done (.ret v)/\R (.ok (.ret v)) s') (fun e s'=>R (.error e) s') s:=by
 have Iu:=isSubtype_dict_dict;show wpAny _ _ (do
   let (self,other) <- Builtin.Dict.dictSlotArgs "__eq__" ⟨[.ref a,.ref b],[]⟩
   if !(<- isInstance other (.type "dict")) then rule s!"dict.{"__eq__"}.not-a-dict";return <- ret .notImplemented
   ret (.bool ((<- Builtin.Dict.samePairs s!"dict.{"__eq__"}" (<- Builtin.Dict.addrOf self) (<- Builtin.Dict.addrOf other)) == true))) _ _ _
 unfold Builtin.Dict.dictSlotArgs;refine wpAny_bind (wpAny_bind (wpAny_notOrdered_dict d1.typeIs ?_));show wpAny _ _ (pure (Value.ref a,Value.ref b)) _ _ _;refine wpAny_pure ?_;refine wpAny_bind (wpAny_isInstance d2.typeIs Iu ?_);simp only[Bool.not_true,WH,if_false];refine wpAny_bind (wpAny_pure (wpAny_bind (wpAny_pure (wpAny_bind (jE h1 h2 d1 d2 hs ?_)))));exact wpAny_pure ⟨_,rfl,k⟩
theorem Bo {prog:Program}{w:World}{A:Around}{a b:Addr}{us vs:List (Key×Value)}{R:Result->Shared->Prop}{s:Shared}(h1:(a == sysModules)=false)(h2:(b == sysModules)=false)(d1:s.heap.DictOf (aG prog w) a us)(d2:s.heap.DictOf (aG prog w) b vs)(hs:iG us vs)(k:R (.ok (.ret (.bool false))) s):wpAny (model prog w) A.in1 (Builtin.«dict.__ne__» ⟨[.ref a,.ref b],[]⟩) (fun fin s'=>∃ v,fin=.done (.ret v)/\R (.ok (.ret v)) s') (fun e s'=>R (.error e) s') s:=by
 have Iu:=isSubtype_dict_dict;show wpAny _ _ (do
   let (self,other) <- Builtin.Dict.dictSlotArgs "__ne__" ⟨[.ref a,.ref b],[]⟩
   if !(<- isInstance other (.type "dict")) then rule s!"dict.{"__ne__"}.not-a-dict";return <- ret .notImplemented
   ret (.bool ((<- Builtin.Dict.samePairs s!"dict.{"__ne__"}" (<- Builtin.Dict.addrOf self) (<- Builtin.Dict.addrOf other)) == false))) _ _ _
 unfold Builtin.Dict.dictSlotArgs;refine wpAny_bind (wpAny_bind (wpAny_notOrdered_dict d1.typeIs ?_));show wpAny _ _ (pure (Value.ref a,Value.ref b)) _ _ _;refine wpAny_pure ?_;refine wpAny_bind (wpAny_isInstance d2.typeIs Iu ?_);simp only[Bool.not_true,WH,if_false];refine wpAny_bind (wpAny_pure (wpAny_bind (wpAny_pure (wpAny_bind (jE h1 h2 d1 d2 hs ?_)))));exact wpAny_pure ⟨_,rfl,k⟩
noncomputable def dI (kds:List (Key×Int)):List (Key×Dt):=kds.map fun kd=>(kd.1,Dt.int kd.2)
theorem uT {K:W.Frag}{H:Hp}:∀ {kds:List (Key×Int)} {kvs:List (Key×V)},bH K H kvs (dI kds)->kvs=kds.map fun kd=>(kd.1,V.int kd.2)
 | [],_,.nil=>rfl
 | (k,i)::kds,_,.cons r t=>by
   cases r;rw[uT (kds:=kds) t];rfl
theorem allI (kds:List (Key×Int)):Eb (kds.map fun kd=>(kd.1,V.int kd.2)):=fun kv h=>by
 obtain⟨kd,_,rfl⟩:=Wj.mp h;exact⟨_,rfl⟩
theorem zf {z w:Str}(ha:EE X G dl a (.str z))(hb:EE X G dl b (.str w))(gb:autoParam (attributeBase a "count" X.env (eval a X.env)=eval a X.env) jp)
   (oV:autoParam (((backTo a7 (starEach [b] X.env)).all (fun x=>!x.1) && (backToKw a7 (keywordEach [] X.env)).all (fun x=>x.1.isSome) && decide ([b].length+([]:List Keyword).length+(if ([]:List Keyword).isEmpty then 0 else 1) < 30))=true) jp)
   (gc:autoParam ((apos.endLine == a7.line)=true) jp) (jf:autoParam (starEach [b] X.env=(false,eval b X.env)::starEach [] X.env) jp):EE X G dl (.Call (.Attribute a "count" apos) [b] [] a7) (.int (Txt.count z w)):=
 fG (qQ PySem.F.plainAttrs_str PySem.F.slot_str_count PySem.F.type_str_count ze ha (ae hb ak jf) gb oV gc jf rfl) fun st H Q zq=>xa zq fun Hf S k=>fun v Hf1 H1 g1 r1=>by
   cases r1;exact⟨rfl,Hf1,S.grow g1,fun vs bw H2 g2 r2=>by
     cases r2 with
     | cons r t=>cases t;cases r;exact⟨z,w,rfl,rfl,k _ bw H2 (g1.trans g2) (.int _)⟩⟩
end
structure sy (X:Cx)(N:List Str)(xt:Str)(ix:List Nat)(sc:Scope):Prop where
 nd:N.Nodup
 nm:N=xt::ix.map (fun j=>X.N.getD j "")
 kind:sc.kind=.function
 one:sc.names.filter (fun y=>y.2 == .cell)=[(xt,.cell)]
 names:∀ y∈sc.names,y.2=.local->sc.names.lookup y.1=some .local
 hx:sc.names.lookup xt=some .cell
 GJ:∀ y∈sc.names,y.2=.free->y.1≠xt
 fr:∀ y∈sc.names,y.2=.free->X.env.kindOf y.1=some .cell\/X.env.kindOf y.1=some .free
 Lc:∀ j∈ix,∃ y,X.N[j]?=some y/\sc.names.lookup y=some .free
noncomputable def g9 (X:Cx)(N:List Str)(sc:Scope)(xt:Str)(c C:Addr)(fp:List Addr)(s:Shared)(H:Hp):Cx:=
 { X with N:=N,s₀:=s,H₀:=H,env:=compEnvC sc ((xt,c)::g8 sc X.env) C X.env,outer:=X.stack,stack:=X.stack,ex:=fp,fn:=fun y=>y == xt,pn:=[],xe:=qw}
theorem xQ:∀ {names:List (Str×NameKind)} {acc:List (Str×Addr)} {n:Nat} {h:Heap},names.filter (fun y=>y.2 == .cell)=[]->cellsFrom n names acc=acc/\pushCells h names=h
 | [],_,_,_,_=>⟨rfl,rfl⟩
 | (y,k)::r,acc,n,h,e=>by
   by_cases hk:(k == NameKind.cell)=true
   . rw[Xj (by exact hk)] at e;cases e
   . rw[Xi (by exact hk)] at e
     unfold cellsFrom pushCells;rw[if_neg hk,if_neg hk];exact xQ e
theorem uU {x:Str}:∀ {names:List (Str×NameKind)} {acc:List (Str×Addr)} {n:Nat} {h:Heap},names.filter (fun y=>y.2 == .cell)=[(x,.cell)]->cellsFrom n names acc=(x,n)::acc/\pushCells h names=h.push { cls:=.type "cell",data:=.cell none}
 | [],_,_,_,e=>by cases e
 | (y,k)::r,acc,n,h,e=>by
   by_cases hk:(k == NameKind.cell)=true
   . rw[Xj (by exact hk)] at e
     injection e with e1 e2
     cases e1;unfold cellsFrom pushCells;rw[if_pos hk,if_pos hk];exact xQ e2
   . rw[Xi (by exact hk)] at e
     unfold cellsFrom pushCells;rw[if_neg hk,if_neg hk];exact uU e
theorem Ec {M:Model}{A:Around}{E:Value->Shared->Prop}{s:Shared}{sc:Scope}{globals:Addr}{cl:List (Str×Addr)}{qual:Str}{around:Env}{x:Str}{Q:Env->Shared->Prop}(h1:sc.names.filter (fun y=>y.2 == .cell)=[(x,.cell)])(hQ:Q { scope:=sc,locals:=s.heap.objs.size,globals:=globals,cells:=(x,s.heap.objs.size+1)::cl,qual:=qual,func:=none,code:=around.code,frame:=around.frame,builtins:=around.builtins} { s with heap:=(s.heap.push { cls:=.type "dict",data:=.dict #[]}).push { cls:=.type "cell",data:=.cell none}}):wpAny M A (newFunctionEnv sc globals cl [] qual none .none (some around)) Q E s:=by
 simp only[newFunctionEnv,Option.isSome_some,if_true];refine wpAny_bind (wpAny_alloc ?_);refine wpAny_bind (wpAny_layCells _ (fun name kind cells=>by cases TB:kind == NameKind.cell <;> simp[TB]) _ _ _ _ ?_);obtain⟨e1,e2⟩:=uU (acc:=cl) (n:=(s.heap.push { cls:=.type "dict",data:=.dict #[]}).objs.size) (h:=s.heap.push { cls:=.type "dict",data:=.dict #[]}) h1;show wpAny M A (forIn [] PUnit.unit _ >>= _) Q E _;rw[List.forIn_nil];refine wpAny_bind (wpAny_pure (wpAny_pure ?_));dsimp only;rw[e1,e2,WS];exact hQ
section
variable {X:Cx}{N:List Str}{xt:Str}{ix:List Nat}{sc:Scope}{pins:List (Addr×Obj)}{st:L2.St}{H H':Hp}{s s':Shared}{c C D:Addr}{fp:List Addr}{h1:Heap}
theorem Ed (B:sy X N xt ix sc)(ok:X.Ok):closureFor sc X.env=pure (g8 sc X.env):=se fun y hy hk=>ok.has y.1 (B.fr y hy hk)
theorem j8 (B:sy X N xt ix sc)(ok:X.Ok){y:Str}{c:Addr}(h:(g8 sc X.env).lookup y=some c):X.env.cells.lookup y=some c/\(y,NameKind.free)∈sc.names:=by
 rcases lC _ _ h with⟨h1,h2⟩ | h1
 . obtain⟨c',h3⟩:=ok.has y (B.fr _ h1 rfl)
   rw[h3] at h2;cases h2;exact⟨h3,h1⟩
 . cases h1
theorem fN {y xt:Str}{c d:Addr}{cl:List (Str×Addr)}(h:((xt,c)::cl).lookup y=some d):(y=xt/\d=c)\/(y≠xt/\cl.lookup y=some d):=by
 rw[Wt] at h;cases q:(y == xt) with
 | true=>rw[q] at h;exact .inl ⟨by simpa using q,(Option.some.inj h).symm⟩
 | false=>rw[q] at h;exact .inr ⟨by simpa using q,h⟩
theorem ow (B:sy X N xt ix sc)(I:L2.Inv X pins st H s)(hC:s.heap.objs.size<=C)(hc:s.heap.objs.size<=c)(hf:∀ b∈fp,gT X pins H b)(b5:∀ b∈fp,b < s.heap.objs.size):(g9 X N sc xt c C fp s H).Ok where
 mod:=I.ok.mod
 kind:=B.kind
 glob:=I.ok.glob
 blt:=I.ok.blt
 above:=hC
 inj:=fun y z d h1 h2=>by
   have old:∀ {y:Str},(g8 sc X.env).lookup y=some c->False:=fun {y} h=>by
     obtain⟨v,q⟩:=I.cell y c (j8 B I.ok h).1;exact absurd (V4 q.lt hc) (WK _)
   rcases fN h1 with⟨e1,e2⟩ | ⟨e1,e2⟩ <;> rcases fN h2 with⟨e3,e4⟩ | ⟨e3,e4⟩
   . rw[e1,e3]
   . rw[e2] at e4;exact(old e4).elim
   . rw[e4] at e2;exact(old e2).elim
   . exact I.ok.inj y z d (j8 B I.ok e2).1 (j8 B I.ok e4).1
 has:=fun y hy=>by
   have hy:(relabel sc X.env).names.lookup y=some .cell\/(relabel sc X.env).names.lookup y=some .free:=hy;show ∃ d,((xt,c)::g8 sc X.env).lookup y=some d;by_cases e:y=xt
   . subst e;exact⟨c,by simp[Wt]⟩
   . have nc:(y,NameKind.cell) ∉ sc.names:=fun hm=>by
       have:(y,NameKind.cell)∈sc.names.filter (fun y=>y.2 == .cell):=List.mem_filter.mpr ⟨hm,rfl⟩;rw[B.one] at this;have:=List.mem_singleton.mp this;exact e (congrArg Prod.fst this)
     have:(y,NameKind.free)∈sc.names:=by
       rcases hy with hy | hy
       . obtain⟨k',h1,h2⟩:=dw hy
         rcases h2 with h2 | h2
         . subst h2;exact absurd h1 nc
         . subst h2;exact h1
       . obtain⟨k',h1,h2⟩:=dw hy
         rcases h2 with h2 | h2 <;> subst h2 <;> exact h1
     obtain⟨d,hd⟩:=gd (cells:=X.env.cells) sc.names [] (.inl this);refine⟨d,?_⟩;rw[Wt,show(y == xt)=false by simpa using e];exact hd
 JU:=fun y d h1 h2=>by
   rcases fN h2 with⟨_,e⟩ | ⟨e,_⟩
   . rw[e];exact hc
   . exact absurd (by have h1:(y == xt)=true:=h1;simpa using h1) e
 hd:=I.ok.hd
 frames:=I.ok.frames
 Ke:=.inl rfl
 Dj:=fun b hb=>⟨V9 (V4 (b5 b hb) hC),fun y d h=>by
   rcases fN h with⟨_,e⟩ | ⟨_,e⟩
   . rw[e];exact Xb (V4 (b5 b hb) hc)
   . exact(hf b hb).2.2.2.2.1 y d (j8 B I.ok e).1⟩
 bs:=I.bs
 xc:=We I.ok.xc I.sz
 t7:=fun b o e hb=>by
   rcases (hf b hb).2.2.2.1 with z | z
   . exact I.ok.t7 b o e z
   . exact absurd (V4 (VI e) (We I.ok.xc z)) (WK _)
 t8:=fun b hb z=>by
   rcases Wh.mp (I.oS b z) with z | z
   . exact(hf b hb).2.1 z
   . exact(hf b hb).2.2.1 z
 l7:=I.stack
 FA:=I.n9
theorem wD (B:sy X N xt ix sc)(I:L2.Inv X pins st H s)(hf:∀ b∈fp,gT X pins H b)(b5:∀ b∈fp,b < s.heap.objs.size)(hC:C=s.heap.objs.size+1)(Ki:c=s.heap.objs.size+2)(k:∀ b o,s.heap.get? b=some o->h1.get? b=some o)(hn:h1.Ns C fun _=>none)(O9:h1.IsCell c none)(hD:h1.get? s.heap.objs.size=some { cls:=.type "list",data:=.seq ([]:List Value).toArray 0}){t':Nat}:L2.Inv (g9 X N sc xt c C fp s H) [] (Wg 1 none ++ frees ix st) (upd H s.heap.objs.size (.lst [])) { s with heap:=h1,toks:=t'}:=by
 have FQ:s.heap.objs.size<=C:=by rw[hC];exact WU _
 have vB:s.heap.objs.size<=c:=by rw[Ki];exact Xd _ _
 have fr:∀ a,s.heap.objs.size<=a->H a=none:=fun a ha=>I.aK.fresh ha
 have ok:=ow (c:=c) B I FQ vB hf b5;have vA:∀ y c,(g8 sc X.env).lookup y=some c->H c=none/\c < s.heap.objs.size/\∃ v,s.heap.IsCell c v:=fun y c h=>by
   have h:=(j8 B I.ok h).1;obtain⟨v,q⟩:=I.cell y c h;exact⟨I.kH y c h,q.lt,v,q⟩
 refine⟨ok,rfl,I.bare,Un.laid k (O0 _) (fr _ (O0 _)),⟨_,hn,fun i y v e1 e2 e3=>?_⟩,fun y d h=>?_,?_,fun y d h=>?_,fun p hp=>absurd (show p∈([]:List (Addr×Obj)) from hp) (by simp),?_,?_⟩
 . have e1:N[i]?=some y:=e1
   cases i with
   | zero=>cases e2
   | succ i=>
     rw[B.nm,Wx,VB] at e1;have e2:(frees ix st)[i]?=some (some v):=e2;unfold frees at e2;rw[VB] at e2;cases q:ix[i]? with
     | none=>rw[q] at e1;cases e1
     | some j=>
       rw[q] at e1 e2;obtain⟨y',C7,AI⟩:=B.Lc j (WW q);have DT:=PySem.mem_of_lookup AI;have ey:y=y':=by
         have e1:X.N.getD j ""=y:=Option.some.inj e1;rw[Sl,C7] at e1;exact e1.symm
       subst ey;have e2:(st[j]?).join=some v:=Option.some.inj e2;have FR:st[j]?=some (some v):=by
         cases q2:st[j]? with
         | none=>rw[q2] at e2;cases e2
         | some z=>rw[q2] at e2;rw[show z=some v from e2]
       have kd:=B.fr _ DT rfl;have nx:y≠xt:=B.GJ _ DT rfl;have Ld:qI X.env.scope y:=by
         rcases kd with z | z
         . exact .inr (.inl z)
         . exact .inr (.inr z)
       obtain⟨m,_,hl⟩:=I.loc;obtain⟨u,r,l⟩:=hl j y v C7 FR Ld;refine⟨u,r,.inr ?_⟩;rcases l with⟨z,_⟩ | ⟨_,d,hd,ic⟩
       . rcases kd with z' | z' <;> rw[z] at z' <;> cases z'
       . obtain⟨d',JV⟩:=gd (cells:=X.env.cells) sc.names [] (.inl DT)
         have:=(j8 B I.ok JV).1;rw[hd] at this;cases this;obtain⟨oc,xh,AE⟩:=ic;refine⟨?_,d,?_,oc,k _ _ xh,AE⟩
         . rcases e3 with e3 | e3 | e3
           . have e3:(relabel sc X.env).names.lookup y=some .local:=e3
             rcases iX (env:=X.env) AI with z | z
             . exact absurd (e3.symm.trans z) (by decide)
             . exact absurd (e3.symm.trans z) (by decide)
           . exact .inl e3
           . exact .inr e3
         . show((xt,c)::g8 sc X.env).lookup y=some d
           rw[Wt,show(y == xt)=false by simpa using nx];exact JV
 . rcases fN h with⟨_,e⟩ | ⟨_,e⟩
   . rw[e];exact⟨none,O9⟩
   . obtain⟨_,_,v,oc,xh,hd⟩:=vA y d e
     exact⟨v,oc,k _ _ xh,hd⟩
 . show upd H s.heap.objs.size (.lst []) C=none
   rw[ag (by rw[hC];exact Xc _)];exact fr _ FQ
 . show upd H s.heap.objs.size (.lst []) d=none
   rcases fN h with⟨_,e⟩ | ⟨_,e⟩
   . rw[e,ag (by rw[Ki];exact Xb (Nat.lt_add_of_pos_right (by decide)))]
     exact fr _ vB
   . obtain⟨q1,q2,_⟩:=vA y d e
     rw[ag (V9 q2)];exact q1
 . exact I.aK.laid k (O0 _) ⟨Wr _,[],0,.nil,hD⟩
 . show(Wg 1 none ++ frees ix st).length=N.length
   rw[B.nm];unfold frees;simp
theorem Bp {elt iter tg:Expr}{ifs:List Expr}{pos:Pos}{g:TG}{tt:TT}{te:TE}{J:It}{it:Addr}{tj:Nat->Heap->Prop}{Q:Addr->List V->Hp->Prop}{RR:Value->Addr->Result->Shared->Prop}{E:Value->Shared->Prop}(hc:X.calm=true)(B:sy X N xt ix sc)(hg:∀ c C fp s H,PG (g9 X N sc xt c C fp s H) tg g)(ht:∀ c C fp s H,FV (g9 X N sc xt c C fp s H) ifs tt)(iu:∀ c C fp s H,PE (g9 X N sc xt c C fp s H) elt te)(I:L2.Inv X pins st H s)(T:Turn X.prog X.w X.K tg J fp it tj)(h0:tj 0 s.heap)(hf:∀ b∈fp,gT X pins H b)(hq:∀ D,H D=none->xF 1 g tt te (frees ix st) J D (Q D) H)(Lf:∀ D C ys H' s',L2.Inv X pins st H' s'->(∃ m,s'.heap.Ns C m)->gT X pins H' C->Q D ys H'->RR (.ref D) C (.ok .next) s'):wpAny (model X.prog X.w) X.A (newList []) (fun acc s3=>wpAny (model X.prog X.w) X.A (newFunctionEnv sc X.env.globals (g8 sc X.env) [] X.env.qual none .none (some X.env)) (fun uC s4=>codeAny (model X.prog X.w) X.A (.compStart (.ListComp elt [⟨tg,iter,ifs,0⟩] sc pos) 0 (.ref it) acc { uC with scope:=relabel sc X.env}) (RR acc uC.locals) s4) E s3) E s:=by
 have b5:∀ b∈fp,b < s.heap.objs.size:=fun b hb=>by
   obtain⟨o,e,_⟩:=T.obj _ _ h0 b hb;exact VI e
 refine wpAny_newObj_type (Ec B.one ?_);dsimp only;generalize hG:s.heap.push { cls:=.type "list",dict:=none,data:=.seq ([]:List Value).toArray}=g';generalize Ny:(g'.push { cls:=.type "dict",data:=.dict #[]}).push { cls:=.type "cell",data:=.cell none}=h1;have hC:g'.objs.size=s.heap.objs.size+1:=by rw[<- hG,WS]
 have Ni:s.heap.objs.size≠g'.objs.size:=by rw[hC];exact V9 (WV _)
 have old:∀ b o,s.heap.get? b=some o->h1.get? b=some o:=fun b o e=>by
   rw[<- Ny,<- hG];exact Te _ (Te _ (Te _ e))
 have AJ:h1.get? s.heap.objs.size=some { cls:=.type "list",data:=.seq ([]:List Value).toArray 0}:=by
   rw[<- Ny,<- hG];exact Te _ (Te _ (VJ _ rfl))
 have zO:h1.Ns g'.objs.size fun _=>none:=by
   rw[<- Ny];exact(Heap.Ns.new g' (.type "dict")).keeps fun b o e=>Te _ e
 have O9:h1.IsCell (g'.objs.size+1) none:=by
   rw[<- Ny];have e:g'.objs.size+1=(g'.push { cls:=.type "dict",data:=.dict #[]}).objs.size:=by rw[WS]
   rw[e];exact⟨_,VJ _ rfl,rfl⟩
 have hD:H s.heap.objs.size=none:=I.aK.fresh (O0 _);obtain⟨W,⟨m0,w0⟩,turn⟩:=hq _ hD;have I0:=wD (t':=s.toks) B I hf b5 hC (show g'.objs.size+1=s.heap.objs.size+2 by rw[hC]) old zO O9 AJ;have FT:tj 0 h1:=T.keep _ _ _ h0 fun b _ o e=>old b o e
 have jB:s.heap.objs.size<=g'.objs.size:=by rw[hC];exact WU _
 have kR:∀ {H':Hp},(∀ b∈fp,H' b=none)->∀ b∈fp,gT (g9 X N sc xt (g'.objs.size+1) g'.objs.size fp s H) [] H' b:=fun {H'} hn b hb=>
   ⟨hn b hb,((ow B I jB (We jB (WU _)) hf b5).Dj b hb).1,(ow B I jB (We jB (WU _)) hf b5).t8 b hb,.inl hb,((ow B I jB (We jB (WU _)) hf b5).Dj b hb).2,fun p hp=>absurd (show p∈([]:List (Addr×Obj)) from hp) (by simp)⟩
 have loop:∀ s3:Shared,s3={ s with heap:=h1} ->
     codeAny (model X.prog X.w) X.A (.compLoop (.ListComp elt [⟨tg,iter,ifs,0⟩] sc pos) 0 (.ref it) (.ref s.heap.objs.size) (compEnvC sc ((xt,g'.objs.size+1)::g8 sc X.env) g'.objs.size X.env)) (RR (.ref s.heap.objs.size) g'.objs.size) s3:=by
   rintro s3 rfl
   refine uG (fun n s'=>∃ i ys σ H',σ.length=1/\L2.Inv (g9 X N sc xt (g'.objs.size+1) g'.objs.size fp s H) [] (σ ++ frees ix st) H' s'/\tj i s'.heap/\(∀ b∈fp,H' b=none)/\W i n ys H') ?_ m0
     ⟨0,[],Wg 1 none,_,by simp,I0,FT,fun b hb=>?_,w0⟩
   . rintro n s5 ⟨i,ys,σ,H5,hσ,I5,zN,C3,w5⟩
     rcases turn i n ys H5 w5 with⟨stop,qn⟩ | ⟨go,hz,step⟩
     . refine bF (T.done (g9 X N sc xt (g'.objs.size+1) g'.objs.size fp s H) rfl rfl rfl hc i [] s5 _ H5 qw I5 (kR C3) zN stop) fun r s6 ⟨hr,I6⟩=>?_
       subst hr;refine Lf _ _ ys H5 s6 ?_ ?_ (I.nG jB I6.free) qn
       . exact I.z6 I6.os I6.base I6.aK I6.bare fun b hb=>⟨(hf b hb).2.2.2.1,(hf b hb).2.1,(hf b hb).2.2.2.2.1,(hf b hb).2.2.2.2.2⟩
       . obtain⟨m,hm,_⟩:=I6.loc
         exact⟨m,hm⟩
     . refine bF (T.item (g9 X N sc xt (g'.objs.size+1) g'.objs.size fp s H) rfl rfl rfl hc i [] s5 _ H5 qw I5 (kR C3) zN go) fun r s6 ⟨u,hr,h6⟩=>?_
       subst hr;refine bF h6 fun _ s7 ⟨v,H7,I7,r7,y7,AK,Lg⟩=>?_
       have Lh:=I7.pinned (kR Lg) (T.obj _ _ AK);refine bF (hg (g'.objs.size+1) g'.objs.size fp s H _ s7 _ H7 v u _ Lh r7 (step σ hσ v H7 y7)) fun _ s8 h8=>?_
       obtain⟨σ8,H8,I8,σ',e8,Lr,h8⟩:=h8;subst e8;have pinned:∀ {σ9:L2.St} {H9:Hp} {s9:Shared},L2.Inv (g9 X N sc xt (g'.objs.size+1) g'.objs.size fp s H) ([] ++ md fp s7.heap) σ9 H9 s9->tj (i+1) s9.heap/\∀ b∈fp,H9 b=none:=fun {σ9 H9 s9} I9=>by
         refine⟨T.keep _ _ _ AK fun b hb o e=>(I9.pin (b,o) (Wa _ (Wa _ (du hb e)))).1,fun b hb=>?_⟩;obtain⟨o,e,d⟩:=T.obj _ _ AK b hb;exact(I9.pin (b,o) (Wa _ (Wa _ (du hb e)))).2.1
       refine bF (ht (g'.objs.size+1) g'.objs.size fp s H _ s8 _ H8 _ I8 h8) fun ok OJ DX=>?_
       obtain⟨OK,DY,DX⟩:=DX;cases ok with
       | false=>
         obtain⟨m',hm,w8⟩:=DX;exact⟨m',hm,i+1,ys,σ',_,Lr,DY.f9 (pins:=[]),(pinned DY).1,(pinned DY).2,w8⟩
       | true=>
         refine bF (iu (g'.objs.size+1) g'.objs.size fp s H _ OJ _ OK _ DY DX) fun z s9 ⟨y,H9,I9,r9,Li,m',hm,w9⟩=>?_
         refine bF (jW _ s9 _ H9 (.ref s.heap.objs.size) [y] (.ref s.heap.objs.size) [z] (fun _ H'=>H'=upd H9 s.heap.objs.size (.lst (ys ++ [y]))) I9 rfl (.cons r9 .nil) ⟨_,ys,y,rfl,rfl,Li,hz,rfl⟩) fun _ QM Lj=>?_
         obtain⟨_,QN,AL,_,rfl⟩:=Lj;exact⟨m',hm,i+1,ys ++ [y],σ',_,Lr,AL.f9 (pins:=[]),(pinned AL).1,(pinned AL).2,w9⟩
   . rw[ag (V9 (b5 b hb))]
     exact(hf b hb).1
 exact codeAny_compStart_list (loop _ rfl) (T.self _ 0 _ _ _ FT (loop _ rfl))
theorem pI {env:Env}{y:Str}:∀ {names:List (Str×NameKind)},names.lookup y=some .cell->(names.map fun(n,k)=>if (k == NameKind.free && env.scope.kind == .function && env.kindOf n == some .cell) then (n,NameKind.cell) else (n,k)).lookup y=some .cell
 | [],h=>by simp at h
 | (n,kk)::r,h=>by
   rw[V7,Wt];rw[Wt] at h;cases q:(y == n) with
   | true=>
     rw[q] at h;have:kk=.cell:=Option.some.inj h;subst this;simp[q]
   | false=>
     rw[q] at h;have ih:=pI (env:=env) h;by_cases hc:(kk == NameKind.free && env.scope.kind == .function && env.kindOf n == some .cell)=true
     . simp only[hc,if_true,q];exact ih
     . simp only[hc,WH,if_false,q];exact ih
end
section
variable {X:Cx}{G:Gr}{dl:List Slot}{a b elt iter tg:Expr}{ifs:List Expr}{pos px:Pos}{o:Out}{xt:Str}{N:List Str}{ix:List Nat}{sc:Scope}
variable {α:Type}{as:List α}{z f:α->Dt}{sl:α->List Slot}{keep:α->Bool}{g:TG}{wi:TI}
inductive sA (X:Cx)(N:List Str)(xt:Str)(sc:Scope)(dl:List Slot)(ix:List Nat)(as:List α)(sl:α->List Slot)(keep:α->Bool):List Expr->Prop
 | nil:(∀ a∈as,keep a=true)->sA X N xt sc dl ix as sl keep []
 | one {ce:Expr}:(∀ a∈as,∀ c C fp s H G',EB (g9 X N sc xt c C fp s H) G' (sl a ++ fJ dl ix) ce (keep a))->sA X N xt sc dl ix as sl keep [ce]
theorem Ee (h:sA X N xt sc dl ix as sl keep ifs):∀ c C fp s H,FV (g9 X N sc xt c C fp s H) ifs (DZ X.K dl ix as sl keep):=fun c C fp s H=>by
 cases h with
 | nil h=>exact fun pins s' st H' Q I ⟨a,G',ha,Hf,S,k⟩=>wpAny_tests_nil ⟨H',I,by have:=k Hf H' (.refl S.sub);rw[h a ha] at this;exact this⟩
 | one h=>exact xE fun pins s' st H' Q I ⟨a,G',ha,q⟩=>h a ha c C fp s H G' pins s' st H' Q I q
def LW (X:Cx)(N:List Str)(xt:Str)(sc:Scope)(dl:List Slot)(ix:List Nat)(as:List α)(sl:α->List Slot)(keep:α->Bool)(f:α->Dt)(elt:Expr):Prop:=∀ a∈as,keep a=true->∀ c C fp s H G',EE (g9 X N sc xt c C fp s H) G' (sl a ++ fJ dl ix) elt (f a)
theorem Iv (h:LW X N xt sc dl ix as sl keep f elt):∀ c C fp s H,PE (g9 X N sc xt c C fp s H) elt (D1 X.K dl ix as sl keep f):=fun c C fp s H pins s' st H' Q I ⟨a,G',ha,hk,q⟩=>h a ha hk c C fp s H G' pins s' st H' Q I q
theorem Iw {tt:TT}{te:TE}(hc:X.calm=true)(B:sy X N xt ix sc)(hi:PI X tg iter wi)(hg:∀ c C fp s H,PG (g9 X N sc xt c C fp s H) tg g)(ht:∀ c C fp s H,FV (g9 X N sc xt c C fp s H) ifs tt)(iu:∀ c C fp s H,PE (g9 X N sc xt c C fp s H) elt te)(hs:∀ z,foldedSetIterable iter X.env z=pure z):PE X (.ListComp elt [⟨tg,iter,ifs,0⟩] sc pos) (D2 wi 1 ix g tt te):=by
 intro pins s st H Q I h;rw[eval_ListComp];refine wpAny_comprehension_free (use:=none) rfl hs (Ed B I.ok) B.kind B.names (bF (hi pins s st H _ I h) fun v s1 h1=>bF h1 fun JW s2 h2=>?_);obtain⟨it,fp,tj,J,H2,e,I2,T,C1,f2,hq⟩:=h2;subst e;refine Bp (RR:=fun acc C=>compPost (model X.prog X.w) X.A X.xe none (EP X pins st Q) acc C) hc B hg ht iu I2 T C1 f2 hq ?_;intro D C ws H' s' I' ⟨m,hn⟩ my q;exact⟨m,hn,fun h' HS=>⟨.ref D,H',I'.turned (t':=s'.toks) (it:=C) (fun b o hb e=>(HS.2 b hb).trans e) my.1 my.2.1 my.2.2.2.1 my.2.2.2.2.1 my.2.2.2.2.2,rfl,q⟩⟩
theorem Bq (as:List α)(z f:α->Dt)(sl:α->List Slot)(keep:α->Bool)(hc:X.calm=true)(B:sy X N xt ix sc)(hi:PI X tg iter wi)(hg:∀ c C fp s H,PG (g9 X N sc xt c C fp s H) tg g)(sj:lG X G dl (as.map z) wi)(A0:∀ a∈as,HX X.K 1 g (z a) (sl a))(A1:sA X N xt sc dl ix as sl keep ifs)(iu:LW X N xt sc dl ix as sl keep f elt)(hn:as.length<=sizeLine)(hs:autoParam (∀ z,foldedSetIterable iter X.env z=pure z) xz):EO X G dl (.ListComp elt [⟨tg,iter,ifs,0⟩] sc pos) (.lst ((as.filter keep).map f)):=fG (Iw hc B hi hg (Ee A1) (Iv iu) hs) (mB sj A0 hn)
theorem uV {px:Pos}(B:sy X N xt ix sc):∀ c C fp s H,PG (g9 X N sc xt c C fp s H) (.Name xt px) (kI 0):=fun c C fp s H=>by
 have hN:(g9 X N sc xt c C fp s H).N[0]?=some xt:=by
   show N[0]?=some xt;rw[B.nm];rfl
 have C8:(g9 X N sc xt c C fp s H).env.scope.names.lookup xt=some .cell:=pI B.hx;exact bh (X:=g9 X N sc xt c C fp s H) B.nd hN (.inr C8) (.inl (by show(xt == xt)=true;simp))
end
noncomputable def Br (sc uF:Scope)(XN N:List Str)(xt:Str)(ix:List Nat):Bool:=
 decide N.Nodup && (decide (N=xt::ix.map (fun j=>XN.getD j "")) && (decide (sc.kind=.function) && (decide (sc.names.filter (fun y=>y.2 == .cell)=[(xt,.cell)]) && (sc.names.all (fun y=>decide (y.2=.local->sc.names.lookup y.1=some .local)) && (decide (sc.names.lookup xt=some .cell) && (sc.names.all (fun y=>decide (y.2=.free->y.1≠xt)) &&
   (sc.names.all (fun y=>decide (y.2=.free->uF.names.lookup y.1=some .cell\/uF.names.lookup y.1=some .free)) && ix.all (fun j=>decide (sc.names.lookup (XN.getD j "")=some .free) && decide (j < XN.length)))))))))
theorem xR {X:Cx}{sc uF:Scope}{XN N:List Str}{xt:Str}{ix:List Nat}(h:Br sc uF XN N xt ix=true)(e1:autoParam (X.env.scope=uF) jp)(e2:autoParam (X.N=XN) jp):sy X N xt ix sc:=by
 subst e1 e2;unfold Br at h;simp only[Wn,Xp,decide_eq_true_eq] at h;obtain⟨h1,h2,h3,h4,h5,h6,TC,h7,h8⟩:=h;refine⟨h1,h2,h3,h4,h5,h6,TC,h7,fun j hj=>?_⟩;obtain⟨q1,q2⟩:=h8 j hj;refine⟨X.N.getD j "",?_,q1⟩;rw[Sl,Bn q2];rfl
noncomputable def mk:HO->Bool
 | .memo _=>true
 | .bD _ _=>true
 | _=>false
theorem Rd.ex {H:Hp}{a C dx:Addr}{fs:List (Str×V)}(h:Rd H a (.ins C dx fs)):∃ o,H a=some o/\mk o=false/\(∀ x,o≠.dK x)/\∀ H':Hp,H' a=some o->Rd H' a (.ins C dx fs):=by
 rcases h with h | ⟨o,h⟩ | ⟨tg,o,kvs,h,z⟩ | ⟨o,h⟩
 . exact⟨_,h,rfl,(fun _ z=>nomatch z),fun H' e=>.inl e⟩
 . exact⟨_,h,rfl,(fun _ z=>nomatch z),fun H' e=>.inr (.inl ⟨o,e⟩)⟩
 . cases z
 . exact⟨_,h,rfl,(fun _ z=>nomatch z),fun H' e=>.inr (.inr (.inr ⟨o,e⟩))⟩
theorem br.Ra {H:Hp}{a:Addr}{ls:iB}(h:br H a ls):∃ o,H a=some o/\mk o=true:=by
 rcases h with h | ⟨ns,h⟩
 . exact⟨_,h,rfl⟩
 . exact⟨_,h,rfl⟩
theorem br.inj {H:Hp}{a:Addr}{ls F0:iB}(h:br H a ls)(h':br H a F0):ls=F0:=by
 rcases h with h | ⟨ns,h⟩ <;> rcases h' with h' | ⟨TF,h'⟩ <;> rw[h] at h' <;> cases h' <;> rfl
section
variable {K:W.Frag}{Hf H:Hp}{a:Addr}{ls:iB}{u:HO}
theorem Ef (hm:br Hf a ls){b:Addr}{o:HO}(h:Hf b=some o)(n:mk o=false):b≠a:=fun e=>by
 obtain⟨o',h1,h2⟩:=hm.Ra;rw[e,h1] at h;cases h;rw[h2] at n;cases n
theorem aL (hm:br Hf a ls){b:Addr}{o:HO}(h:Hf b=some o)(n:mk o=false):(upd Hf a u) b=some o:=by rw[ag (Ef hm h n)];exact h
theorem lJ (hm:br Hf a ls)(hu:mk u=true):Kp Hf (upd Hf a u):=⟨fun b o e kq=>aL hm e (by cases o <;> first | rfl | exact(show False from kq).elim),fun b e=>by
 by_cases q:b=a
 . rw[q,ah]
   cases u <;> first | trivial | cases hu
 . rw[ag q];exact e,fun b x e=>aL hm e rfl⟩
def iH (ls:iB)(u:HO):Prop:=u=.memo ls\/∃ ns,u=.bD ls ns
theorem iH.mk {ls:iB}{u:HO}(h:iH ls u):mk u=true:=by rcases h with rfl | ⟨ns,rfl⟩ <;> rfl
theorem zg (hm:br Hf a ls)(hu:iH ls u){b:Addr}{F0:iB}(h:br Hf b F0):br (upd Hf a u) b F0:=by
 by_cases e:b=a
 . subst e
   rw[h.inj hm];rcases hu with rfl | ⟨ns,rfl⟩
   . exact .inl ah
   . exact .inr ⟨ns,ah⟩
 . rcases h with h | ⟨ns,h⟩
   . exact .inl (by rw[ag e];exact h)
   . exact .inr ⟨ns,by rw[ag e];exact h⟩
theorem iZ (hm:br Hf a ls)(hu:iH ls u){p:Addr}{f:Nat->List (Key×FD)}{n:Nat}(h:Known Hf p f n):Known (upd Hf a u) p f n:=fun i hi=>let ⟨q,o,kvs,h1,h2⟩:=h i hi;⟨q,o,kvs,aL hm h1 rfl,h2.kp (lJ hm hu.mk)⟩
theorem Iy (hm:br Hf a ls){b:Addr}{vs:List V}(s:vC K Hf b vs):vC K (upd Hf a u) b vs:=by
 rcases s with s | s
 . exact .inl (aL hm s rfl)
 . exact .inr s
theorem Bs (hm:br Hf a ls){b C dx:Addr}{fs:List (Str×V)}(s:Rd Hf b (.ins C dx fs)):Rd (upd Hf a u) b (.ins C dx fs):=by
 rcases s with s | ⟨o,s⟩ | ⟨_,_,_,_,s⟩ | ⟨o,s⟩
 . exact .inl (aL hm s rfl)
 . exact .inr (.inl ⟨o,aL hm s rfl⟩)
 . cases s
 . exact .inr (.inr (.inr ⟨o,aL hm s rfl⟩))
theorem Iz (hm:br Hf a ls){b:Addr}{vs:List V}(s:jm K Hf b vs):jm K (upd Hf a u) b vs:=by
 rcases s with(s | ⟨o,s⟩ | ⟨_,_,_,_,s⟩ | ⟨o,s⟩) | s
 . exact .inl (.inl (aL hm s rfl))
 . exact .inl (.inr (.inl ⟨o,aL hm s rfl⟩))
 . cases s
 . exact .inl (.inr (.inr (.inr ⟨o,aL hm s rfl⟩)))
 . exact .inr s
mutual
noncomputable def sC (a:Addr):Dt->Bool
 | .tup ds=>Bt a ds
 | .lst ds=>Bt a ds
 | .b6 kds=>sE a kds
 | .eV kds=>sE a kds
 | .cK kds=>sE a kds
 | .obj _ fs=>hE a fs
 | .vD _ fs=>hE a fs
 | .memo b _ _ _=>decide (b≠a)
 | .ql _ _ _ _ _=>false
 | _=>true
noncomputable def Bt (a:Addr):List Dt->Bool
 | []=>true
 | d::r=>sC a d && Bt a r
noncomputable def sE (a:Addr):List (Key×Dt)->Bool
 | []=>true
 | (_,d)::r=>sC a d && sE a r
noncomputable def hE (a:Addr):List (Str×Dt)->Bool
 | []=>true
 | (_,d)::r=>sC a d && hE a r
end
mutual
theorem gh (hm:br Hf a ls)(hu:iH ls u):∀ {v:V} {d:Dt},sC a d=true->Rep K Hf v d->Rep K (upd Hf a u) v d
 | _,_,_,.b0=>.b0
 | _,_,_,.bl b=>.bl b
 | _,_,_,.int i=>.int i
 | _,_,_,.str x=>.str x
 | _,.tup ds,h,.tup s r=>.tup (Iy hm s) (mE hm hu (by rw[sC] at h;exact h) r)
 | _,.lst ds,h,.lst s r=>.lst (aL hm s rfl) (mE hm hu (by rw[sC] at h;exact h) r)
 | _,_,_,.jq s=>.jq (Iz hm s)
 | _,.b6 _,h,.b6 s r=>.b6 (aL hm s rfl) (j9 hm hu (by rw[sC] at h;exact h) r)
 | _,.obj _ _,h,.obj s r=>.obj (Bs hm s) (fO hm hu (by rw[sC] at h;exact h) r)
 | _,_,_,.ty n=>.ty n
 | _,_,_,.cls C=>.cls C
 | _,_,_,.xo s r=>.xo (aL hm s rfl) r
 | _,.eV _,h,.eV s r=>.eV (aL hm s rfl) (j9 hm hu (by rw[sC] at h;exact h) r)
 | _,.vD _ _,h,.vD s q g r=>.vD (aL hm s rfl) q (aL hm g rfl) (fO hm hu (by rw[sC] at h;exact h) r)
 | _,.cK _,h,.cK s r=>.cK (aL hm s rfl) (j9 hm hu (by rw[sC] at h;exact h) r)
 | _,.memo b _ _ _,h,.memo h1 h2 h3 h4=>.memo h1 (by rw[sC] at h;rw[ag (of_decide_eq_true h)];exact h2) (h3.imp id fun z=>aL hm z rfl) (iZ hm hu h4)
 | _,_,_,.cM h1 h2 h3 h4=>.cM h1 (zg hm hu h2) (h3.imp id fun z=>aL hm z rfl) (iZ hm hu h4)
 | _,_,_,.qu h=>.qu fun j p f z=>iZ hm hu (h j p f z)
 | _,.ql _ _ _ _ _,h,.ql _ _ _=>by rw[sC] at h;cases h
 | _,_,_,.ml s=>.ml (s.st (lJ hm hu.mk).st)
 | _,_,_,.ir s=>.ir (aL hm s rfl)
theorem mE (hm:br Hf a ls)(hu:iH ls u):∀ {v:List V} {d:List Dt},Bt a d=true->bu K Hf v d->bu K (upd Hf a u) v d
 | _,_,_,.nil=>.nil
 | _,d::ds,h,.cons r t=>by
   rw[Bt,Wn] at h;exact .cons (gh hm hu h.1 r) (mE hm hu h.2 t)
theorem j9 (hm:br Hf a ls)(hu:iH ls u):∀ {v:List (Key×V)} {d:List (Key×Dt)},sE a d=true->bH K Hf v d->bH K (upd Hf a u) v d
 | _,_,_,.nil=>.nil
 | _,(k,d)::ds,h,.cons r t=>by
   rw[sE,Wn] at h;exact .cons (gh hm hu h.1 r) (j9 hm hu h.2 t)
theorem fO (hm:br Hf a ls)(hu:iH ls u):∀ {v:List (Str×V)} {d:List (Str×Dt)},hE a d=true->aU K Hf v d->aU K (upd Hf a u) v d
 | _,_,_,.nil=>.nil
 | _,(k,d)::ds,h,.cons r t=>by
   rw[hE,Wn] at h;exact .cons (gh hm hu h.1 r) (fO hm hu h.2 t)
end
noncomputable def gx (Hf H:Hp):Hp:=fun b=>match H b with
 | some (.kd tg o kvs)=>some (.kd tg o kvs)
 | some (.kx o u)=>some (.kx o u)
 | some (.tup xs)=>some (.tup xs)
 | _=>Hf b
theorem sF {b:Addr}{u:HO}(h:H b=some u)(k:Kept u):gx Hf H b=some u:=by
 unfold gx;rw[h];cases u <;> first | rfl | exact(show False from k).elim
theorem xS {b:Addr}{tg:Option (Addr×Nat)}{o:Obj}{kvs:List (Key×V)}(h:H b=some (.kd tg o kvs)):gx Hf H b=some (.kd tg o kvs):=by unfold gx;rw[h]
theorem lK (b:Addr):(∃ u,H b=some u/\Kept u/\gx Hf H b=some u)\/gx Hf H b=Hf b:=by
 unfold gx;cases h:H b with
 | none=>exact .inr rfl
 | some u=>cases u <;> first | exact .inr rfl | exact .inl ⟨_,rfl,trivial,rfl⟩
theorem e6 (s:ay Hf H):ay Hf (gx Hf H):=fun b u e=>by
 rcases lK (Hf:=Hf) (H:=H) b with⟨u',h1,_,h3⟩ | h
 . rw[s _ _ e] at h1;cases h1;exact h3
 . rw[h];exact e
theorem lL (s:ay Hf H):ay (gx Hf H) H:=fun b u e=>by
 rcases lK (Hf:=Hf) (H:=H) b with⟨u',h1,_,h3⟩ | h
 . rw[h3] at e;cases e;exact h1
 . rw[h] at e;exact s _ _ e
theorem ka (s:ay Hf H):aN Hf H (gx Hf H) H:=⟨ay.refl _,e6 s,lL s,fun b u e=>by
 rcases lK (Hf:=Hf) (H:=H) b with⟨u',h1,h2,h3⟩ | h
 . rw[h3] at e;cases e;exact .inr (.inr h2)
 . rw[h] at e;exact .inl ⟨u,e⟩⟩
end
noncomputable def Nz:FD->Dt
 | .int i=>.int i
 | .b6 kds=>.cK (dI kds)
 | d=>.ml d
noncomputable def mF (fd:List (Key×FD)):List (Key×Dt):=fd.map fun kd=>(kd.1,Nz kd.2)
theorem rg {K:W.Frag}{H:Hp}:∀ (kds:List (Key×Int)),bH K H (kds.map fun kd=>(kd.1,V.int kd.2)) (dI kds)
 | []=>.nil
 | (k,i)::r=>.cons (.int i) (rg r)
theorem IA {K:W.Frag}{H:Hp}:∀ {v:V} {d:FD},Fz H v d->Rep K H v (Nz d)
 | _,_,.int i=>.int i
 | _,_,.b6 e=>.cK e (rg _)
 | _,_,.lst e=>.ml (.lst e)
 | _,_,.tup e=>.ml (.tup e)
 | _,_,.obj e f=>.ml (.obj e f)
theorem oy {K:W.Frag}{H:Hp}:∀ {kvs:List (Key×V)} {fd:List (Key×FD)},oQ H kvs fd->bH K H kvs (mF fd)
 | _,_,.nil=>.nil
 | _,_,.cons h t=>.cons (IA h) (oy t)
theorem F1 {K:W.Frag}{H:Hp}:∀ {v:V} {d:FD},Rep K H v (Nz d)->Fz H v d
 | _,.int i,r=>by cases r;exact .int i
 | _,.lst ns,r=>by cases r with | ml h=>exact h
 | _,.tup K ns,r=>by cases r with | ml h=>exact h
 | _,.obj C fs,r=>by cases r with | ml h=>exact h
 | _,.b6 kds,r=>by
   cases r with
   | @cK a tg ob kvs _ h r=>
     rw[uT r] at h;exact .b6 h
theorem pJ {K:W.Frag}{H:Hp}:∀ {kvs:List (Key×V)} {fd:List (Key×FD)},bH K H kvs (mF fd)->oQ H kvs fd
 | _,[],.nil=>.nil
 | _,(k,d)::fd,.cons h t=>.cons (F1 h) (pJ t)
theorem IB {H H':Hp}(k:∀ b u,H b=some u->Kept u->H' b=some u){v:V}{d:FD}(h:Fz H v d):Fz H' v d:=h.st k
theorem fV {H H':Hp}(k:∀ b u,H b=some u->Kept u->H' b=some u):∀ {kvs:List (Key×V)} {kds:List (Key×FD)},oQ H kvs kds->oQ H' kvs kds
 | _,_,.nil=>.nil
 | _,_,.cons h t=>.cons (IB k h) (fV k t)
section
variable {X:Cx}{G:Gr}{dl:List Slot}{a b e i:Expr}{pos p:Pos}{ls:iB}{j n:Nat}{l:Addr}{f:Nat->List (Key×FD)}{ns:List Nat}
theorem Eg:JY X (fun x y H Q=>∃ (p:Addr) (k:Nat) (q:Addr) (o:Obj) (kvs:List (Key×V)),x=.ref p/\y=.int (k:Int)/\H q=some (.kd (some (p,k)) o kvs)/\k < 10000/\Q (.ref q) H):=by
 intro value slice pins s σ H x y v u Q I rx ry h hs;obtain⟨p,k,q,o,kvs,rfl,rfl,hq,hk,kk⟩:=h;cases rx;obtain⟨t,rfl⟩:=ry;obtain⟨_,_,hm⟩:=(show aD X.prog X.w H s.heap q (.kd (some (p,k)) o kvs) from I.aK q _ hq)
 obtain⟨_,aE,c,e1,e2⟩:=hm p k rfl;have hn:=iU;exact item_listR (items:=aE.toArray) ⟨_,e1,rfl,c,rfl⟩ (by omega) (by omega) (by rw[WT];simpa using e2) ⟨.ref q,H,I,rfl,kk⟩ hs
theorem pK {k:Nat}(hb:EE X G dl b (.memo l ls j n))(hi:EE X G dl i (.int (k:Int)))(hf:(ls.map (·.2))[j]?=some f)(hk:k < n)(hn:n<=1000)(hs:autoParam (hW i) xL):EE X G dl (.Subscript b i pos) (.cK (mF (f k))):=
 fG (qO Eg hb hi hs) fun st H Q zq=>xa zq fun Hf S kk=>fun v Hf1 H1 g1 r1=>⟨Hf1,S.grow g1,fun w bw H2 g2 r2=>by
   cases r2;cases r1 with
   | @memo _ p _ _ _ f' h1 h2 h3 h4=>
     have e:f'=f:=by
       rw[VB,h1] at hf;exact Option.some.inj hf
     subst e;obtain⟨q,o,kvs,q1,q2⟩:=h4 k hk;exact⟨p,k,q,o,kvs,rfl,rfl,g2.big _ _ (g1.sub _ _ q1),by omega,kk _ bw H2 (g1.trans g2) (.cK (g2.aY _ _ q1) (oy (q2.kp (.of g2.aY))))⟩⟩
theorem Bu:JY X (fun x y H Q=>∃ (a:Addr) (ls:iB) (ns:List Nat) (j:Nat) (p:Addr) (f:Nat->List (Key×FD)) (N:Nat),x=.ref p/\y=.int (-1)/\H a=some (.bD ls ns)/\ls[j]?=some (p,f)/\ns[j]?=some N/\0 < N/\∀ q o kvs,H q=some (.kd (some (p,N - 1)) o kvs)->oQ H kvs (f (N - 1))->Q (.ref q) H):=by
 intro value slice pins s σ H x y v u Q I rx ry h hs;obtain⟨a,ls,ns,j,p,f,N,rfl,rfl,ha,hj,hN,h0,kk⟩:=h;cases rx;obtain⟨t,rfl⟩:=ry;obtain⟨_,_,_,_,_,h5,h6⟩:=(show aD X.prog X.w H s.heap a (.bD ls ns) from I.aK a _ ha)
 obtain⟨aE,c,e1,e2,e3⟩:=h6 j p f N hj hN;obtain⟨q,o,kvs,q1,q2,q3⟩:=e3 (N - 1) (by omega);have hn:=iU;have TH:=h5 N (WW hN);have hl:Heap.IsList s.heap p aE.toArray:=⟨_,e1,rfl,c,rfl⟩
 exact subscriptTail_builtinR (x:=.ref q) hl.typeIs slot_list_getitem.lookup
     (wpAny_getItem_list_neg (Q:=fun r s'=>r=.ref q/\EP X pins σ Q r s') hl (by omega) (by rw[V6] <;> omega) (by omega) (by rw[V6,e2,show((-1:Int)+(N:Nat)).toNat=N - 1 by omega];simpa using q1) ⟨rfl,.ref q,H,I,rfl,kk q o kvs q2 q3⟩) hs
theorem Bv {N:Nat}(hx:G.Hf l=some (.bD ls ns))(hb:EE X G dl b (.cM l ls j n))(hi:EE X G dl i (.int (-1)))(hf:(ls.map (·.2))[j]?=some f)(hN:ns[j]?=some N)(h0:0 < N)(hs:autoParam (hW i) xL):EE X G dl (.Subscript b i pos) (.cK (mF (f (N - 1)))):=
 fG (qO Bu hb hi hs) fun st H Q zq=>xa zq fun Hf S kk=>fun v Hf1 H1 g1 r1=>⟨Hf1,S.grow g1,fun w bw H2 g2 r2=>by
   cases r2;cases r1 with
   | @cM _ p _ _ _ f' h1 h2 h3 h4=>
     have e:f'=f:=by
       rw[VB,h1] at hf;exact Option.some.inj hf
     subst e;have g:=g1.trans g2;refine⟨l,ls,ns,j,p,f',N,rfl,rfl,g.sub _ _ (g.aY _ _ (S.gr.aY _ _ hx)),h1,hN,h0,fun q o kvs q1 q2=>?_⟩;have ga:=ka g2.sub;exact kk _ _ H2 (g.trans ga) (.cK (xS q1) (oy (fV (fun b u e kq=>sF e kq) q2)))⟩
theorem zh:gD X (.builtin "len") (fun xs H Q=>∃ (a:Addr) (ls:iB) (ns:List Nat) (j:Nat) (p:Addr) (f:Nat->List (Key×FD)) (N:Nat),xs=[.ref p]/\H a=some (.bD ls ns)/\ls[j]?=some (p,f)/\ns[j]?=some N/\Q (.int (N:Nat)) H):=by
 intro pins s σ H xs us Q I r h;obtain⟨a,ls,ns,j,p,f,N,rfl,ha,hj,hN,q⟩:=h;obtain⟨u,rfl,rx⟩:=vals1 r;cases rx;obtain⟨_,_,_,_,_,h5,h6⟩:=(show aD X.prog X.w H s.heap a (.bD ls ns) from I.aK a _ ha)
 obtain⟨aE,c,e1,e2,e3⟩:=h6 j p f N hj hN;have hn:=iU;have TH:=h5 N (WW hN);have hl:Heap.IsList s.heap p aE.toArray:=⟨_,e1,rfl,c,rfl⟩
 exact Calls.call_len_list hl (by simp only[V6] <;> omega) ⟨.int (N:Nat),H,I.tok _,⟨s.toks+1,by rw[V6,e2]⟩,q⟩
theorem Eh {N:Nat}(hm:X.mg "len"=none)(hx:G.Hf l=some (.bD ls ns))(hb:EE X G dl b (.cM l ls j n))(hN:ns[j]?=some N)(hg:autoParam (Gl X "len") jp)(he:autoParam (starEach [b] X.env=[(false,eval b X.env)]) jp):EE X G dl (.Call (.Name "len" p) [b] [] pos) (.int (N:Nat)):=
 fG (e9 zh hg hm PySem.boot_len (ae hb ak he) (he:=he)) fun st H Q zq=>xa zq fun Hf S kk=>fun vs Hf1 H1 g1 r1=>by
   cases r1 with
   | cons r t=>cases t;cases r with
     | @cM _ p _ _ _ f' h1 h2 h3 h4=>exact⟨l,ls,ns,j,p,f',N,rfl,g1.sub _ _ (g1.aY _ _ (S.gr.aY _ _ hx)),h1,hN,kk _ Hf1 H1 g1 (.int _)⟩
theorem fh {d:Dt}{k:Str}{kds:List (Key×Dt)}(hu:X.A.units+1 < cLine)(ho:EE X G dl b (.cK kds))(hi:EE X G dl i (.str k))(h:iw kds (.inr k)=some d)(hs:Aq i):EE X G dl (.Subscript b i pos) d:=
 fG (rV hu ho hi hs) fun st H Q zq=>xa zq fun Hf S kk=>fun v Hf1 H1 g1 r1=>⟨Hf1,S.grow g1,fun w bw H2 g2 r2=>by
   cases r2;cases r1 with
   | @cK q tg ob kvs _ hq rp=>
     obtain⟨y,z1,z2⟩:=rp.val h;have e:mj H2 q (kV (.inr k)) (jo kvs (.inr k)):=.inl ⟨kvs,.inr k,.inr (.inr (.inl ⟨tg,ob,kvs,g2.big _ _ (g1.sub _ _ hq),rfl⟩)),rfl,rfl⟩;rw[z1] at e;exact⟨q,y,rfl,e,kk y bw H2 (g1.trans g2) (z2.mono g2.aY)⟩⟩
theorem F2 {kds:List (Key×Dt)}(h:EO X G dl e (.b6 kds)):EE X G dl e (.cK kds):=by
 intro pins s st H Q I ⟨Hf,S,kk⟩;refine bF (h pins s st H (fun v H'=>∃ p aA,v=.ref p/\aN Hf H aA H'/\H p=none/\aA p=none/\dZ X.K aA H' p (.b6 kds)) I ⟨Hf,S,fun p aA H' g n n' r=>⟨p,aA,rfl,g,n,n',r⟩⟩) fun u s1 ⟨v,H',I1,rv,q,aA,ev,g,n,n',kvs,hq,rp⟩=>?_
 subst ev;obtain⟨hz,lo,vs,kv,ob,es,ep,ho,hr⟩:=(show aD X.prog X.w H' s1.heap q (.dK kvs) from I1.aK q _ hq)
 have I2:L2.Inv X pins st (upd H' q (.kd none ob kvs)) s1:=jX (h':=s1.heap) (t':=s1.toks) I1 (by rw[hq];trivial) ⟨rfl,fun _ _=>rfl⟩ ⟨ob,ho⟩ ⟨ho,⟨hz,lo,vs,kv,ob,es,ep,ho,hr⟩,fun p i z=>by cases z⟩;have sm:ay aA (upd aA q (.kd none ob kvs)):=bj n';refine⟨.ref q,_,I2,rv,kk _ (upd aA q (.kd none ob kvs)) _ ⟨fun b o hb=>?_,g.aY.trans sm,c8 g.sub,fun b o hb=>?_⟩ (.cK ah (rp.mono sm))⟩
 . rw[ag (ar hb n)];exact g.big _ _ hb
 . by_cases e:b=q
   . subst e;exact .inr (.inl n)
   . rw[ag e] at hb;exact g.new b o hb
theorem wF:JZ X "dict.values" (fun x xs H Q=>∃ (d:Addr) (kvs:List (Key×V)),x=.ref d/\xs=[]/\Rd H d (.dK kvs)/\∀ l,H l=none->Q (.ref l) (upd H l (.ext fun h=>h.IsValuesView l d))):=by
 intro pins s σ H x xs v us Q I rx rv ⟨d,kvs,e1,e2,hq,q⟩;subst e1 e2;cases rx;cases rv;obtain⟨hz,lo,vs,kv,hD⟩:=iD I.aK hq;refine call_meetsIn PySem.F.slot_dict_values hD.typeIs PySem.F.entry_dict_values (PySem.F.args_dict_values_1 _) (meets_dict_values (aG X.prog X.w) d lo) ⟨⟨vs,hD⟩,?_⟩;refine⟨.ref s.heap.objs.size,_,I.laid (a:=s.heap.objs.size) (t':=s.toks) (o:=.ext fun h=>h.IsValuesView s.heap.objs.size d) (fun b o e=>Te _ e) (O0 _) ?_,rfl,q _ (I.aK.fresh (O0 _))⟩;exact⟨⟨_,VJ _ rfl,rfl,rfl⟩,⟨_,VJ _ rfl⟩,fun h1 h2 ⟨ox,z1,z2⟩ kk=>⟨ox,kk _ z1,z2⟩⟩
theorem Bw:∀ {kds:List (Key×Int)} {vs:List (Key×Value)} {i:Nat} {k:Key} {v:Value},KV (kds.map fun kd=>(kd.1,V.int kd.2)) vs->vs[i]?=some (k,v)->∃ t,v=.int ((kds.map (·.2)).getD i 0) t
 | [],_,_,_,_,.nil,e=>by simp at e
 | (k0,z)::kds,_,0,_,_,.cons r _,e=>by
   simp at e;subst e;obtain⟨_,t,q⟩:=r;exact⟨t,q⟩
 | (k0,z)::kds,_,i+1,_,_,.cons _ t,e=>by
   obtain⟨t',q⟩:=Bw (i:=i) t (by simpa using e);exact⟨t',by simpa using q⟩
theorem zi (hc:X.calm=true):gD X (.builtin "sum") (fun xs H Q=>∃ (v d:Addr) (φ:Heap->Prop) (kds:List (Key×Int)),xs=[.ref v]/\H v=some (.ext φ)/\(∀ h,φ h->h.IsValuesView v d)/\Rd H d (.dK (kds.map fun kd=>(kd.1,V.int kd.2)))/\Q (.int (kds.map (·.2)).sum) H):=by
 intro pins s σ H xs us Q I r h;obtain⟨v,d,φ,kds,rfl,hv,hφ,hq,q⟩:=h;obtain⟨u,rfl,rx⟩:=vals1 r;cases rx;obtain⟨hz,lo,vs,kv,o,es,ep,ho,hr⟩:=iD I.aK hq;have TJ:=hφ _ (I.aK v _ hv).1;have hl:=kX kv;rw[ou] at hl;have hA:X.A.handled=none:=I.ok.hd hc;refine call_sum_walkAnyS ?_;have Ks:=PySem.W.kdl_values (prog:=X.prog) (w:=X.w) (knd:=aG X.prog X.w) (r:=v) (d:=d) (kvs:=vs) (ep:=ep);have aK:s.heap.IsValuesView v d/\s.heap.DictAt (aG X.prog X.w) d vs ep:=⟨TJ,o,es,ho,hr⟩
 obtain⟨oI,St,hit,W,st⟩:=Ks.iter X.A.in1 s hA aK;refine hit _ _ ⟨s.heap.objs.size,_,_,_,vs.length,_,_,fun i=>(kds.map (·.2)).getD i 0,rfl,W.toS,st,fun b hb=>?_,fun i w ⟨k,hk⟩=>Bw kv hk,fun s' t' hm=>?_⟩
 . show b < (s.heap.push oI).objs.size
   rw[WS];rcases Wh.mp hb with e | hb
   . rw[e];exact WV _
   . rw[List.mem_singleton.mp hb];exact Xk (Ks.there _ aK).2
 . have hk:∀ b o,s.heap.get? b=some o->s'.heap.get? b=some o:=fun b o e=>
     hm.heap b o (fun hI=>absurd (VI e) (by rw[List.mem_singleton.mp hI];exact WK _)) (Te _ e)
   have es:preSum (fun i=>(kds.map (·.2)).getD i 0) vs.length=(kds.map (·.2)).sum:=by
     rw[mC _ _ (by rw[ou];omega),WJ (by rw[ou];omega)]
   rw[es,Moved.eq_with hm];exact⟨.int _,H,I.kept (t':=s'.toks) hk,⟨t',rfl⟩,q⟩
def intsOf (d:Dt)(kds:List (Key×Int)):Prop:=d=.cK (dI kds)\/d=.b6 (dI kds)
theorem Ej {kds:List (Key×Int)}{d:Dt}{apos a7:Pos}(hm:X.mg "sum"=none)(hc:X.calm=true)(ha:EE X G dl a d)(hd:intsOf d kds)(hg:autoParam (Gl X "sum") jp)(gb:autoParam (attributeBase a "values" X.env (eval a X.env)=eval a X.env) jp)(gc:autoParam ((apos.endLine == a7.line)=true) jp)(he:autoParam (starEach [.Call (.Attribute a "values" apos) [] [] a7] X.env=[(false,eval (.Call (.Attribute a "values" apos) [] [] a7) X.env)]) jp):EE X G dl (.Call (.Name "sum" p) [.Call (.Attribute a "values" apos) [] [] a7] [] pos) (.int (kds.map (·.2)).sum):=
 fG (e9 (zi hc) hg hm boot_sum (fT (Am PySem.F.plainAttrs_dict PySem.F.slot_dict_values PySem.F.type_dict_values wF ha gb gc) iq he) (he:=he)) fun st H Q zq=>Nf zq fun Hf zq=>have S:=zq.1;have k:=zq.2;⟨Hf,S,fun v Hf1 H1 g1 r1=>by
   have key:∃ q,v=.ref q/\Rd H1 q (.dK (kds.map fun kd=>(kd.1,V.int kd.2)))/\M9 X.K "dict" v H1:=by
     rcases hd with rfl | rfl
     . cases r1 with
       | @cK q tg ob kvs _ hq rp=>
         rw[uT rp] at hq;exact⟨q,rfl,.inr (.inr (.inl ⟨tg,ob,_,g1.sub _ _ hq,rfl⟩)),.inr (.inr (.inl ⟨rfl,.inr (.inr ⟨tg,ob,_,g1.sub _ _ hq⟩)⟩))⟩
     . cases r1 with
       | @b6 q kvs _ hq rp=>
         rw[uT rp] at hq;exact⟨q,rfl,.inl (g1.sub _ _ hq),.inr (.inr (.inl ⟨rfl,.inl ⟨_,g1.sub _ _ hq⟩⟩))⟩
   obtain⟨q,rfl,hq,ty⟩:=key;refine⟨ty,q,_,rfl,rfl,hq,fun v hv=>⟨v,q,_,kds,rfl,ah,fun h x=>x,?_,k _ Hf1 _ (g1.trans (.cB g1.sub hv)) (.int _)⟩⟩;exact d8 (bj hv) hq⟩
variable {pins:List (Addr×Obj)}{σ:L2.St}{H:Hp}{s:Shared}
theorem Inv.flip {u:HO}(I:L2.Inv X pins σ H s)(hm:br H l ls)(hu:iH ls u)(new:aD X.prog X.w (upd H l u) s.heap l u):L2.Inv X pins σ (upd H l u) s:=by
 refine I.un (h':=s.heap) (t':=s.toks) ⟨fun b o e _ _ _=>e,fun b o e _ _ _=>⟨o.slots,e⟩,fun b o e n _=>?_,fun b o e _=>⟨o,e⟩,fun b xs e=>aL hm e rfl,fun b o u e=>aL hm e rfl,fun b ps e=>⟨#[],by rw[aL hm e rfl];simp⟩⟩ fun b o e=>?_
 . rw[ag (fun z=>by obtain⟨o',h1,_⟩:=hm.Ra;rw[z,h1] at n;cases n)];exact n
 . by_cases eb:b=l
   . subst eb;rw[ah] at e;cases e;exact new
   . rw[ag eb] at e
     exact(I.aK b o e).tZ (fun _ _ _ q=>q) (fun c q=>aL hm q rfl) (fun c xs q=>aL hm q rfl) (lJ hm hu.mk)
theorem Inv.exact(I:L2.Inv X pins σ H s)(hm:H l=some (.memo ls)):∃ n,0 < n/\n<=10000/\L2.Inv X pins σ (upd H l (.bD ls (Wg ls.length n))) s:=by
 obtain⟨ho,n,hn,q⟩:=(show aD X.prog X.w H s.heap l (.memo ls) from I.aK l _ hm)
 have hl:0 < ls.length:=by
   obtain⟨⟨f,hf⟩,_⟩:=q;exact(Vx.mp hf).1
 have h5:n<=10000:=q.2.2.2.2.1 n (by rw[List.mem_replicate];exact⟨by omega,rfl⟩);exact⟨n,hn,h5,Inv.flip I (.inl hm) (.inr ⟨_,rfl⟩) ⟨ho,q.kp (lJ (.inl hm) rfl) fun _ _ _ e=>e⟩⟩
theorem Inv.pack {n:Nat}(I:L2.Inv X pins σ H s)(hm:H l=some (.bD ls (Wg ls.length n)))(hn:0 < n):L2.Inv X pins σ (upd H l (.memo ls)) s:=by
 obtain⟨ho,q⟩:=(show aD X.prog X.w H s.heap l (.bD ls _) from I.aK l _ hm)
 exact Inv.flip I (.inr ⟨_,hm⟩) (.inl rfl) ⟨ho,n,hn,q.kp (lJ (.inr ⟨_,hm⟩) rfl) fun _ _ _ e=>e⟩
theorem pL:JZ X "list.append" (fun x vs H Q=>∃ (a:Addr) (ls:iB) (ns:List Nat) (j:Nat) (p:Addr) (f:Nat->List (Key×FD)) (N:Nat) (q:Addr) (kvs:List (Key×V)),x=.ref p/\vs=[.ref q]/\H a=some (.bD ls ns)/\ls[j]?=some (p,f)/\ns[j]?=some N/\N < 9000/\H q=some (.dK kvs)/\oQ H kvs (f N)/\∀ o,Q .b0 (upd (upd H a (.bD ls (ns.set j (N+1)))) q (.kd (some (p,N)) o kvs))):=by
 intro pins s σ H x vs v us Q I rx rv ⟨a,ls,ns,j,p,f,N,q,kvs,e1,e2,ha,hj,hN,VU,hq,TK,kk⟩;subst e1 e2;cases (show v=Value.ref p from rx);obtain⟨u,rfl,ru⟩:=vals1 rv;cases (show u=Value.ref q from ru);obtain⟨⟨oa,J6⟩,⟨f0,h1⟩,h2,h3,h4,h5,h6⟩:=(show aD X.prog X.w H s.heap a (.bD ls ns) from I.aK a _ ha)
 obtain⟨aE,c,e,hlen,hit⟩:=h6 j p f N hj hN;obtain⟨hz,lo,vs,kv,oq,es,ep,TL,hr⟩:=(show aD X.prog X.w H s.heap q (.dK kvs) from I.aK q _ hq)
 have zR:ij (H p):=by
   rcases h3 j p f hj with z | z
   . rw[z,ha];trivial
   . rw[z];trivial
 have TM:p≠q:=fun z=>by rw[z,hq] at zR;exact zR
 have TN:a≠q:=fun z=>by rw[z,hq] at ha;cases ha
 have QK:=iU;refine call_meets PySem.F.slot_list_append ⟨_,e,rfl⟩ PySem.F.entry_list_append (PySem.F.args_list_append_2 _ _) (PySem.list_append p aE.toArray c (.ref q) (by rw[V6];exact We (show aE.length<=10000 by omega) (by decide))) ⟨e,?_⟩;have e':=PySem.IsL.update e (fun x=>x.push (Value.ref q));rw[show aE.toArray.push (Value.ref q)=(aE ++ [Value.ref q]).toArray by simp] at e';generalize TQ:s.heap.update p (Obj.mapSeq fun x=>x.push (Value.ref q))=h' at e';have Bx:∀ b o,b≠p->s.heap.get? b=some o->h'.get? b=some o:=fun b o hb z=>by rw[<- TQ];exact(Heap.get?_update_other s.heap _ (Ne.symm hb)).trans z
 let H':Hp:=upd (upd H a (.bD ls (ns.set j (N+1)))) q (.kd (some (p,N)) oq kvs);have vF:∀ b o,H b=some o->b≠a->b≠q->H' b=some o:=fun b o z n1 n2=>by show(upd (upd H a _) q _) b=_;rw[ag n2,ag n1];exact z
 have nk:∀ b o,H b=some o->mk o=false->b≠a:=fun b o z n z'=>by rw[z',ha] at z;cases z;cases n
 have nq:∀ b o,H b=some o->(∀ x,o≠.dK x)->b≠q:=fun b o z n z'=>by rw[z',hq] at z;exact n _ (Option.some.inj z).symm
 have kp:Kp H H':=⟨fun b o z kq=>vF b _ z (nk b _ z (by cases o <;> first | rfl | exact(show False from kq).elim)) (nq b _ z fun x y=>by subst y;exact kq),fun b z=>by
   by_cases ba:b=a
   . rw[ba];show ij ((upd (upd H a _) q _) a);rw[ag TN,ah];trivial
   . have bq:b≠q:=fun z'=>by rw[z',hq] at z;exact z
     show ij ((upd (upd H a _) q _) b);rw[ag bq,ag ba];exact z,fun b x z=>vF b _ z (nk b _ z rfl) (nq b _ z fun x y=>by cases y)⟩
 have hl:∀ p' i c',ij (H p')->Kb s.heap p' i c'->Kb h' p' i c':=fun p' i c' _ ⟨its',n',z1,z2⟩=>by
   by_cases pp:p'=p
   . subst pp
     rw[e] at z1;have z3:its'=aE:=by
       have:=congrArg (fun o:Option Obj=>o.map (·.data)) z1;simp at this;exact this.1.symm
     subst z3;exact⟨_,_,e',by rw[Wf (Vx.mp z2).1];exact z2⟩
   . exact⟨its',n',Bx _ _ pp z1,z2⟩
 have FZ:Kb h' p N q:=⟨_,_,e',by rw[Wd (by omega),hlen,Nat.sub_self];rfl⟩
 have TR:oQ H' kvs (f N):=TK.kp kp;have Rb:h'.get? q=some oq:=Bx _ _ (Ne.symm TM) TL;have LX:∀ b,H b=none->H' b=none:=fun b n=>by
   have n1:b≠a:=fun z=>by rw[z,ha] at n;cases n
   have n2:b≠q:=fun z=>by rw[z,hq] at n;cases n
   show(upd (upd H a _) q _) b=none;rw[ag n2,ag n1];exact n
 have Rc:∀ b,H b=none->b≠p:=fun b n z=>by rw[<- z,n] at zR;exact zR
 have Rf:∀ b o,s.heap.get? b=some o->∃ o',h'.get? b=some o':=fun b o z=>by
   by_cases bp:b=p
   . rw[bp];exact⟨_,e'⟩
   . exact⟨o,Bx _ _ bp z⟩
 refine⟨.b0,H',I.un (h':=h') (t':=s.toks) ⟨fun b o z n _ _=>Bx b o (Rc b n) z,fun b o z n _ _=>⟨o.slots,Bx b o (Rc b n) z⟩,fun b o _ n _=>LX b n,fun b o z _=>Rf b o z,fun b xs z=>vF b _ z (nk b _ z rfl) (nq b _ z fun x y=>by cases y),
   fun b o u z=>vF b _ z (nk b _ z rfl) (nq b _ z fun x y=>by cases y),fun b ps z=>⟨#[],by rw[vF b _ z (nk b _ z rfl) (nq b _ z fun x y=>by cases y)];simp⟩⟩ fun b u z=>?_,rfl,kk oq⟩
 by_cases bq:b=q
 . subst bq
   have z:(upd (upd H a _) b _) b=some u:=z;rw[ah] at z;cases z;refine⟨Rb,⟨hz,lo,vs,kv,oq,es,ep,Rb,hr⟩,fun p' i ht=>?_⟩;cases ht;exact⟨kp.mem _ zR,FZ⟩
 . by_cases ba:b=a
   . subst ba
     have z:(upd (upd H b _) q _) b=some u:=z;rw[ag bq,ah] at z;cases z;refine⟨Rf _ _ J6,⟨f0,h1⟩,by rw[List.length_set];exact h2,fun j' p' f' z=>(h3 j' p' f' z).imp id fun z=>kp.part _ _ z,h4,fun n hn=>?_,fun j' p' f' n z1 z2=>?_⟩
     . obtain⟨i,hi,ei⟩:=WQ.mp hn
       rw[List.getElem_set] at ei
       split at ei
       . omega
       . rw[<- ei];exact h5 _ (Wu _)
     . by_cases jj:j=j'
       . subst jj
         rw[hj] at z1;cases z1;have TU:j < ns.length:=(Vx.mp hN).1;rw[VH TU] at z2;cases z2;refine⟨_,_,e',by rw[V5,hlen];rfl,fun i hi=>?_⟩;by_cases TV:i < N
         . obtain⟨q',o',Q3,w1,w2,w3⟩:=hit i TV
           exact⟨q',o',Q3,by rw[Wf (by omega)];exact w1,kp.kd _ _ _ _ w2,w3.kp kp⟩
         . have:i=N:=by omega
           subst this;exact⟨q,oq,kvs,by rw[Wd (by omega),hlen,Nat.sub_self];rfl,ah,TR⟩
       . rw[VE jj] at z2
         have pp:p'≠p:=fun z=>by
           subst z;obtain⟨i1,e1⟩:=Vx.mp hj;obtain⟨i2,e2⟩:=Vx.mp z1;have pw:=WB.mp h4;rcases Nat.lt_or_gt_of_ne jj with lt | lt
           . have:=pw j j' (by rw[ou];exact i1) (by rw[ou];exact i2) lt
             rw[Wv,Wv,e1,e2] at this;exact this rfl
           . have:=pw j' j (by rw[ou];exact i2) (by rw[ou];exact i1) lt
             rw[Wv,Wv,e1,e2] at this;exact this rfl
         exact(h6 j' p' f' n z1 z2).kp kp fun u z=>Bx _ _ pp z
   . have z0:H b=some u:=by
       have z:(upd (upd H a _) q _) b=some u:=z;rw[ag bq,ag ba] at z;exact z
     by_cases bp:b=p
     . subst bp
       rcases h3 j b f hj with z1 | z1
       . exact absurd z1 ba
       . rw[z1] at z0;cases z0
         exact⟨_,e'⟩
     . refine(I.aK b u z0).Fy (fun c' v' vB z'=>Bx c' v' ?_ z') (fun c' z'=>vF c' _ z' (nk c' _ z' rfl) (nq c' _ z' fun x y=>by cases y)) (fun c' xs z'=>vF c' _ z' (nk c' _ z' rfl) (nq c' _ z' fun x y=>by cases y)) kp hl
       rcases vB with rfl | z1 | z1
       . exact bp
       . exact fun z'=>by rw[z'] at z1;rw[z1] at zR;exact zR
       . intro z'
         rw[z'] at z1;rcases h3 j p f hj with z2 | z2
         . rw[z2,ha] at z1;cases z1
         . rw[z2] at z1;cases z1;exact ba rfl
end
noncomputable def mG (fs:List (Str×Dt))(nm:List Str)(a:Addr)(ls:iB)(n:Nat):List (Str×Dt):=fs ++ (Wi nm.length).map fun j=>(nm.getD j "",.cM a ls j n)
section
variable {K:W.Frag}{Hf H:Hp}
theorem aU.split:∀ {J7 Dc:List (Str×Dt)} {fv:List (Str×V)},aU K H fv (J7 ++ Dc)->∃ f1 f2,fv=f1 ++ f2/\aU K H f1 J7/\aU K H f2 Dc
 | [],_,fv,r=>⟨[],fv,rfl,.nil,r⟩
 | (k,d)::J7,Dc,_,.cons h t=>by
   obtain⟨f1,f2,e,r1,r2⟩:=aU.split t;exact⟨(k,_)::f1,f2,by rw[e];rfl,.cons h r1,r2⟩
theorem aU.join:∀ {J7 Dc:List (Str×Dt)} {f1 f2:List (Str×V)},aU K H f1 J7->aU K H f2 Dc->aU K H (f1 ++ f2) (J7 ++ Dc)
 | _,_,_,_,.nil,r=>r
 | _,_,_,_,.cons h t,r=>.cons h (aU.join t r)
theorem ke {nm:Nat->Str}{d d':Nat->Dt}{H':Hp}(h:∀ j v,Rep K H v (d j)->Rep K H' v (d' j)):∀ {js:List Nat} {fv:List (Str×V)},aU K H fv (js.map fun j=>(nm j,d j))->aU K H' fv (js.map fun j=>(nm j,d' j))
 | [],_,.nil=>.nil
 | j::js,_,.cons r t=>.cons (h j _ r) (ke h t)
def oA (H:Hp)(ls:iB)(n:Nat):Prop:=∀ (j:Nat) (p:Addr) (f:Nat->List (Key×FD)),ls[j]?=some (p,f)->Known H p f n
variable {fs:List (Str×Dt)}{nm:List Str}{l:Addr}{ls:iB}{n m:Nat}{fv:List (Str×V)}{u:HO}
theorem By (hn:0 < nm.length)(r:aU K Hf fv (vY fs nm l ls n)):Hf l=some (.memo ls):=by
 obtain⟨f1,f2,_,_,r2⟩:=aU.split r;cases hk:nm.length with
 | zero=>omega
 | succ k=>
   rw[hk,List.range_succ_eq_map,V7] at r2;cases r2 with
   | cons h t=>cases h with
     | memo _ h2 _ _=>exact h2
theorem LY (hs:hE l fs=true)(hm:Hf l=some (.memo ls))(hu:iH ls u)(r:aU K Hf fv (vY fs nm l ls n)):aU K (upd Hf l u) fv (mG fs nm l ls n):=by
 obtain⟨f1,f2,e,r1,r2⟩:=aU.split r;subst e;refine aU.join (fO (.inl hm) hu hs r1) (ke (fun j v q=>?_) r2);cases q with
 | memo h1 h2 h3 h4=>exact gh (.inl hm) hu rfl (.cM h1 (.inl h2) h3 h4)
theorem LZ (hs:hE l fs=true)(hm:br Hf l ls)(r:aU K Hf fv (mG fs nm l ls n)):aU K (upd Hf l (.memo ls)) fv (vY fs nm l ls n):=by
 obtain⟨f1,f2,e,r1,r2⟩:=aU.split r;subst e;refine aU.join (fO hm (.inl rfl) hs r1) (ke (fun j v q=>?_) r2);cases q with
 | cM h1 h2 h3 h4=>exact .memo h1 ah (h3.imp id fun z=>aL hm z rfl) (iZ hm (.inl rfl) h4)
theorem Bz (hk:oA Hf ls m)(r:aU K Hf fv (vY fs nm l ls n)):aU K Hf fv (vY fs nm l ls m):=by
 obtain⟨f1,f2,e,r1,r2⟩:=aU.split r;subst e;refine aU.join r1 (ke (fun j v q=>?_) r2);cases q with
 | memo h1 h2 h3 h4=>exact .memo h1 h2 h3 (hk _ _ _ h1)
theorem Ek (hl:ls.length<=nm.length)(r:aU K Hf fv (vY fs nm l ls n)):oA Hf ls n:=fun j p f e=>by
 obtain⟨f1,f2,_,_,r2⟩:=aU.split r;have hj:j < nm.length:=V4 (Vx.mp e).1 hl;have key:∀ {js:List Nat} {fv:List (Str×V)},aU K Hf fv (js.map fun j=>(nm.getD j "",Dt.memo l ls j n))->j∈js->Known Hf p f n:=by
   intro js
   induction js with
   | nil=>intro fv _ h;cases h
   | cons i js ih=>
     intro fv r h;cases r with
     | cons q t=>
       rcases Wh.mp h with z | z
       . subst z
         cases q with
         | memo h1 h2 h3 h4=>rw[e] at h1;cases h1;exact h4
       . exact ih t z
 exact key r2 (Xu.mpr hj)
theorem IC {A B bw H2:Hp}(hA:A l=some (.memo ls))(hB:B l=some (.memo ls))(g:aN (upd A l u) (upd B l u) bw H2):aN A B (upd bw l (.memo ls)) (upd H2 l (.memo ls)):=by
 refine⟨fun b o e=>?_,fun b o e=>?_,c8 g.sub,fun b o e=>?_⟩
 . by_cases hb:b=l
   . subst hb;rw[hB] at e;cases e;exact ah
   . rw[ag hb];exact g.big _ _ (by rw[ag hb];exact e)
 . by_cases hb:b=l
   . subst hb;rw[hA] at e;cases e;exact ah
   . rw[ag hb];exact g.aY _ _ (by rw[ag hb];exact e)
 . by_cases hb:b=l
   . subst hb;exact .inl ⟨_,hA⟩
   . rw[ag hb] at e
     rcases g.new b o e with⟨o',z⟩ | z | z
     . rw[ag hb] at z;exact .inl ⟨o',z⟩
     . rw[ag hb] at z;exact .inr (.inl z)
     . exact .inr (.inr z)
variable {G G0:Gr}{st:L2.St}{dl:List Slot}
theorem cL.rebase (S:cL K G0 st Hf H dl)(no:noOwn dl=true)(g:aN G.Hf G.H G0.Hf G0.H):cL K G st Hf H dl:=⟨g.trans S.gr,S.len,S.val,fun i o h=>absurd h (bo no i o),fun i j o o' a h=>absurd h (bo no i o)⟩
noncomputable def qy (a:Addr):List Slot->Bool
 | []=>true
 | .cz::r=>qy a r
 | .val d::r=>sC a d && qy a r
 | .own _::_=>false
theorem jF {l:Addr}:∀ {tl:List Slot} {i:Nat} {d:Dt},qy l tl=true->tl[i]?=some (.val d)->sC l d=true
 | [],_,_,_,e=>by simp at e
 | .cz::r,0,_,_,e=>by simp at e
 | .cz::r,i+1,_,h,e=>jF (tl:=r) (i:=i) h (by simpa using e)
 | .val d::r,0,_,h,e=>by
   rw[qy,Wn] at h;simp at e;subst e;exact h.1
 | .val d::r,i+1,_,h,e=>by
   rw[qy,Wn] at h;exact jF (tl:=r) (i:=i) h.2 (by simpa using e)
theorem gi {l:Addr}:∀ {tl:List Slot},qy l tl=true->noOwn tl=true
 | [],_=>rfl
 | .cz::r,h=>gi (tl:=r) h
 | .val d::r,h=>by
   rw[qy,Wn] at h;exact gi (tl:=r) h.2
variable {C:Addr}{tl:List Slot}
noncomputable abbrev uW (C:Addr)(fs:List (Str×Dt))(nm:List Str)(l:Addr)(ls:iB)(n:Nat)(tl:List Slot):List Slot:=.val (.obj C (vY fs nm l ls n))::tl
noncomputable abbrev Pa (C:Addr)(fs:List (Str×Dt))(nm:List Str)(l:Addr)(ls:iB)(n:Nat)(tl:List Slot):List Slot:=.val (.obj C (mG fs nm l ls n))::tl
theorem cL.L3 {m:Nat}(S:cL K G st Hf H (uW C fs nm l ls n tl))(kn:oA Hf ls m):cL K G st Hf H (uW C fs nm l ls m tl):=by
 have own:∀ {i:Nat} {o:Own},(uW C fs nm l ls m tl)[i]?=some (.own o)->(uW C fs nm l ls n tl)[i]?=some (.own o):=fun {i o} h=>by
   cases i with
   | zero=>cases h
   | succ i=>exact h
 refine⟨S.gr,S.len,fun i d h=>?_,fun i o h=>S.own i o (own h),fun i j o o' a h1 h2=>S.C5 i j o o' a (own h1) (own h2)⟩;cases i with
 | zero=>
   cases h;obtain⟨v,hv,rv⟩:=S.val 0 _ rfl;cases rv with
   | obj q r=>exact⟨_,hv,.obj q (Bz kn r)⟩
 | succ i=>exact S.val (i+1) d h
noncomputable def NA (G0:Gr)(l:Addr)(u:HO):Gr:=⟨upd G0.Hf l u,upd G0.H l u⟩
theorem cL.Pb (S:cL K G st Hf H (uW C fs nm l ls n tl))(hs:hE l fs=true)(ht:qy l tl=true)(hn:0 < nm.length)(hu:iH ls u):Hf l=some (.memo ls)/\cL K (NA ⟨gx Hf H,H⟩ l u) st (upd (gx Hf H) l u) (upd H l u) (Pa C fs nm l ls n tl):=by
 obtain⟨v,hv,rv⟩:=S.val 0 _ rfl;have sm:=e6 S.sub;cases rv with
 | @obj a _ dx fv _ q r=>
   have hm:=By hn r;have Pd:gx Hf H l=some (.memo ls):=sm _ _ hm;refine⟨hm,⟨.refl (c8 (lL S.sub)),S.len,fun i d h=>?_,fun i o h=>?_,fun i j o o' a h=>?_⟩⟩
   . cases i with
     | zero=>
       cases h;exact⟨_,hv,.obj (Bs (.inl Pd) (d8 sm q)) (LY hs Pd hu (r.mono sm))⟩
     | succ i=>
       have h:tl[i]?=some (.val d):=h;obtain⟨w,w1,w2⟩:=S.val (i+1) d h;exact⟨w,w1,gh (.inl Pd) hu (jF ht h) (w2.mono sm)⟩
   . cases i with
     | zero=>cases h
     | succ i=>exact absurd h (bo (gi ht) i o)
   . cases i with
     | zero=>cases h
     | succ i=>exact absurd h (bo (gi ht) i o)
end
section
variable {X:Cx}{G:Gr}{E:XK}{dl:List Slot}{c e:Expr}{body:List Stmt}{pos p:Pos}{fs:List (Str×Dt)}{nm:List Str}{l C:Addr}{ls:iB}{n m age:Nat}{tl:List Slot}
def ID (X:Cx)(c:Expr):TT:=fun st H Q=>∃ G dl b,EB X G dl c b/\K6 X.K G dl b st H Q
theorem BA:PT X c (ID X c):=fun pins s st H Q I ⟨G,dl,b,h,q⟩=>h pins s st H Q I q
def IE (X:Cx)(E:XK)(body:List Stmt):TS:=fun D st H=>∃ G pre o,iV X G E pre body o/\tO X.K G E pre o D st H
theorem zj {body:List Stmt}:vG X body (IE X E body):=fun pins s st H D J ⟨G,pre,o,h,q⟩=>h pins s st H D J q
def RM (K:W.Frag)(G0:Gr)(C:Addr)(fs:List (Str×Dt))(nm:List Str)(l:Addr)(ls:iB)(n:Nat)(tl:List Slot)(M:Nat):L2.St->Hp->Prop:=fun st H=>H l=some (.bD ls (Wg ls.length M))/\∃ Hf,cL K G0 st Hf (upd H l (.memo ls)) (uW C fs nm l ls n tl)
theorem zk (hp:PassesOwn (model X.prog X.w) X.A X.env X.xe)(hs:hE l fs=true)(ht:qy l tl=true)(hn:0 < nm.length)(d0:age < 9000)(hc:∀ (N:Nat) (G:Gr),G.Hf l=some (.bD ls (Wg ls.length N))->EB X G (Pa C fs nm l ls n tl) c (decide (N<=age)))(hb:∀ N,0 < N->N<=age->∀ G0:Gr,G0.Hf l=some (.memo ls)->G0.H l=some (.memo ls)->iV X (NA G0 l (.bD ls (Wg ls.length N))) E (Pa C fs nm l ls n tl) body (.raw (RM X.K G0 C fs nm l ls n tl (N+1)))):ES X G E (uW C fs nm l ls n tl) (.While c body [] pos) (.nx (uW C fs nm l ls (age+1) tl)):=by
 intro pins s st H D I ⟨Hf,S,k⟩;have no:noOwn (uW C fs nm l ls n tl)=true:=show noOwn tl=true from gi ht
 have hm:Hf l=some (.memo ls):=(S.Pb (u:=.memo ls) hs ht hn (.inl rfl)).1;obtain⟨N0,h0,h1,IX⟩:=Inv.exact I (S.sub _ _ hm);let XX:Nat->HO:=fun N=>.bD ls (Wg ls.length N)
 have mu:∀ N,iH ls (XX N):=fun N=>.inr ⟨_,rfl⟩
 let W:Nat->L2.St->Hp->Prop:=fun m st H=>∃ N,m=age+1 - N/\0 < N/\H l=some (XX N)/\∃ Hf1,ay Hf Hf1/\cL X.K G st Hf1 (upd H l (.memo ls)) (uW C fs nm l ls n tl)
 refine bF (uf (pos:=pos) hp (BA (X:=X) (c:=c)) (zj (E:=E)) pins s st _ { D with nx:=fun fL H'=>∃ N,age < N/\H' l=some (XX N)/\∃ Hf1,ay Hf Hf1/\cL X.K G fL Hf1 (upd H' l (.memo ls)) (uW C fs nm l ls n tl)} IX ?_) fun f s7 q7=>?_
 . refine⟨W,⟨_,N0,rfl,h0,ah,Hf,ay.refl _,by rw[n8,pG (S.sub _ _ hm)];exact S⟩,?_⟩
   rintro mm qo H1 ⟨N,rfl,hN,FZ,Hf1,s1,S1⟩
   have eH:upd (upd H1 l (.memo ls)) l (XX N)=H1:=by rw[n8,pG FZ]
   obtain⟨TX,SX⟩:=S1.Pb (u:=XX N) hs ht hn (mu N);rw[eH] at SX;have hA:gx Hf1 (upd H1 l (.memo ls)) l=some (.memo ls):=e6 S1.sub _ _ TX;refine⟨_,_,decide (N<=age),hc N (NA ⟨gx Hf1 (upd H1 l (.memo ls)),upd H1 l (.memo ls)⟩ l (XX N)) ah,_,SX,fun bw H2 g2=>?_⟩;have TY:aN (upd (gx Hf1 (upd H1 l (.memo ls))) l (XX N)) (upd (upd H1 l (.memo ls)) l (XX N)) bw H2:=by rw[eH];exact g2
   have gp:=IC (ls:=ls) hA ah TY;have gg:=(ka S1.sub).trans gp;have S2:=S1.grow gg;have KR:H2 l=some (XX N):=g2.big _ _ FZ;by_cases hle:N<=age
   . rw[decide_eq_true hle]
     have TZ:upd (upd H2 l (.memo ls)) l (XX N)=H2:=by rw[n8,pG KR]
     obtain⟨IF,Rg⟩:=S2.Pb (u:=XX N) hs ht hn (mu N);rw[TZ] at Rg;have T1:gx (upd bw l (.memo ls)) (upd H2 l (.memo ls)) l=some (.memo ls):=e6 S2.sub _ _ IF;refine vW ⟨fun fL H'=>H' l=some (XX (N+1))/\∃ Hf1,ay Hf Hf1/\cL X.K G fL Hf1 (upd H' l (.memo ls)) (uW C fs nm l ls n tl),fun fL H' ⟨z1,z2⟩=>⟨age+1 - (N+1),by omega,N+1,rfl,by omega,z1,z2⟩,?_⟩;refine⟨_,_,_,hb N hN hle ⟨gx (upd bw l (.memo ls)) (upd H2 l (.memo ls)),upd H2 l (.memo ls)⟩ T1 ah,_,Rg,fun fL H' ⟨z1,aA,z2⟩=>⟨z1,aA,?_,?_⟩⟩
     . exact((s1.trans gg.aY).trans (e6 S2.sub)).trans z2.gr.aY
     . exact z2.rebase no (S2.gr.trans (ka S2.sub))
   . rw[decide_eq_false hle]
     exact vV ⟨N,by omega,KR,_,s1.trans gg.aY,S2⟩
 . cases f with
   | next=>
     obtain⟨σ7,H7,I7,N,hN,Pe,Rh,T2,S7⟩:=q7;have I8:=Inv.pack I7 Pe (by omega);refine⟨σ7,_,I8,?_⟩;obtain⟨_,_,hlen,_,_,_,h6⟩:=(show aD X.prog X.w H7 s7.heap l (XX N) from I7.aK l _ Pe)
     have kn:oA (gx Rh (upd H7 l (.memo ls))) ls (age+1):=fun j p f e i hi=>by
       have hj:j < ls.length:=(Vx.mp e).1;obtain⟨aE,cc,e1,e2,e3⟩:=h6 j p f N e (by rw[Ww,if_pos hj]);obtain⟨q,o,kvs,q1,q2,q3⟩:=e3 i (by omega);have key:∀ b u,H7 b=some u->Kept u->gx Rh (upd H7 l (.memo ls)) b=some u:=fun b u z kq=>sF (by rw[ag (fun zz=>by rw[zz,Pe] at z;cases z;exact kq)];exact z) kq
       exact⟨q,o,kvs,key _ _ q2 trivial,fV key q3⟩
     have S8:=S7.grow (ka S7.sub);exact k σ7 _ _ (T2.trans (e6 S7.sub)) (S8.L3 kn)
   | cont=>exact q7
   | brk=>exact q7
   | ret v=>exact q7
theorem gj (he:EE X G (uW C fs nm l ls n tl) e (.qu l ls m))(hs:autoParam (swapsWith e none pos.line X.env=pure false) jp):ES X G E (uW C fs nm l ls n tl) (.Expr e pos) (.nx (uW C fs nm l ls m tl)):=
 qT (jT he hs) fun D st H zq=>xa zq fun Hf S k=>fun v Hf1 H1 g1 r1=>by
   have S1:=S.grow g1;cases r1 with
   | qu kn=>
     exact k st Hf1 H1 g1.aY (S1.L3 kn)
theorem mH (hl:ls.length<=nm.length):Comes (.nx (uW C fs nm l ls n tl)) (.ret (.qu l ls n)):=.kn fun K G st Hf H S=>by
 obtain⟨v,hv,rv⟩:=S.val 0 _ rfl;cases rv with
 | obj q r=>exact .qu (Ek hl r)
theorem pM (i:Nat){o:Out}{sts:List Stmt}{gs:List (Nat->List (Key×FD))}(h:∀ l ls,ls.map (·.2)=gs->iV X G E (dl.set i (.val (.obj C (vY fs nm l ls n)))) sts o)(hd:autoParam (dl[i]?=some (.val (.ql C fs gs nm n))) jp):iV X G E dl sts o:=by
 intro pins s st H D I ⟨Hf,S,k⟩;obtain⟨v,hv,rv⟩:=S.val i _ hd;cases rv with
 | @ql s' a _ dx fv _ _ _ _ F0 e q r=>
   refine h a F0 e pins s st H D I ⟨Hf,⟨S.gr,by simp[S.len],fun j d hj=>?_,fun j o' hj=>?_,fun j m o1 o2 c q1 q2 q3 q4=>?_⟩,k⟩
   . by_cases ej:i=j
     . subst ej
       have hl:i < dl.length:=(Vx.mp hd).1;rw[VH hl] at hj;cases hj;exact⟨_,hv,.obj q r⟩
     . rw[VE ej] at hj;exact S.val j d hj
   . have ej:i≠j:=fun z=>by
       subst z;rw[VH (Vx.mp hd).1] at hj;cases hj
     rw[VE ej] at hj;exact S.own j o' hj
   . have ne:∀ {j:Nat} {o':Own},(dl.set i (.val (.obj C (vY fs nm a F0 n))))[j]?=some (.own o')->dl[j]?=some (.own o'):=fun {j o'} hj=>by
       have ej:i≠j:=fun z=>by
         subst z;rw[VH (Vx.mp hd).1] at hj;cases hj
       rw[VE ej] at hj;exact hj
     exact S.C5 j m o1 o2 c (ne q1) (ne q2) q3 q4
end
theorem uX {l:Addr}:∀ (a b:List (Str×Dt)),hE l (a ++ b)=(hE l a && hE l b)
 | [],b=>by rw[List.nil_append,hE];rfl
 | (k,d)::a,b=>by rw[List.cons_append,hE,hE,uX a b,Bool.and_assoc]
theorem BB (nm:Nat->Str)(l:Addr)(ls:iB)(n:Nat):∀ js:List Nat,hE l (js.map fun j=>(nm j,Dt.cM l ls j n))=true
 | []=>rfl
 | j::js=>by rw[V7,hE,BB nm l ls n js];rfl
theorem rh {fs:List (Str×Dt)}{nm:List Str}{l:Addr}{ls:iB}{n:Nat}(h:hE l fs=true):hE l (mG fs nm l ls n)=true:=by
 unfold mG;rw[uX,h,BB];rfl
section
variable {X:Cx}{G0:Gr}{E:XK}{arg:Expr}{fs:List (Str×Dt)}{l C:Addr}{ls:iB}{n N:Nat}{tl:List Slot}{f g:Nat->List (Key×FD)}{n0 n1 x0 xg:Str}{p1 p2 p3 p4 p5 a1 a2 c1 c2 q1 q2:Pos}
theorem uY (ng:Nat)(hs:hE l fs=true)(ht:qy l tl=true)(hu:tl[ng]?=some .cz)(gk:ls.map (·.2)=[f,g])(hN:N < 9000)(cl:qp X.K C)(Pg:cO X.K C n0)(Ph:cO X.K C n1)(hA:G0.Hf l=some (.memo ls))(hB:G0.H l=some (.memo ls))
   (Pj:∀ G2,EO X G2 (.val (.obj C (mG fs [n0,n1] l ls n))::tl.set ng (.val (.cK (mF (f N))))) arg (.b6 (mF (g N))))
   (Nu:autoParam ((mG fs [n0,n1] l ls n).lookup n0=some (.cM l ls 0 n)) jp) (FZ:autoParam ((mG fs [n0,n1] l ls n).lookup n1=some (.cM l ls 1 n)) jp)
   (Nr:autoParam (X.N[0]?=some x0) jp) (Ri:autoParam (qI X.env.scope x0) jN) (Rj:autoParam ((x0 == ("__debug__":Str))=false) jM) (Rk:autoParam ((x0 == ("__classdict__":Str))=false) jM)
   (T3:autoParam (X.N[ng+1]?=some xg) jp) (T4:autoParam (qI X.env.scope xg) jN) (T5:autoParam ((xg == ("__debug__":Str))=false) jM) (T6:autoParam ((xg == ("__classdict__":Str))=false) jM)
   (T7:autoParam (attributeBase (.Name x0 p1) n0 X.env (eval (.Name x0 p1) X.env)=eval (.Name x0 p1) X.env) jp) (Rm:autoParam (attributeBase (.Name x0 p4) n1 X.env (eval (.Name x0 p4) X.env)=eval (.Name x0 p4) X.env) jp)
   (IG:autoParam (attributeBase (.Attribute (.Name x0 p1) n0 p2) "append" X.env (eval (.Attribute (.Name x0 p1) n0 p2) X.env)=eval (.Attribute (.Name x0 p1) n0 p2) X.env) jp)
   (IH:autoParam (attributeBase (.Attribute (.Name x0 p4) n1 p5) "append" X.env (eval (.Attribute (.Name x0 p4) n1 p5) X.env)=eval (.Attribute (.Name x0 p4) n1 p5) X.env) jp)
   (L5:autoParam (((backTo c1 (starEach [.Name xg p3] X.env)).all (fun x=>!x.1) && (backToKw c1 (keywordEach [] X.env)).all (fun x=>x.1.isSome) && decide ([Expr.Name xg p3].length+([]:List Keyword).length+(if ([]:List Keyword).isEmpty then 0 else 1) < 30))=true) jp)
   (L6:autoParam (((backTo c2 (starEach [arg] X.env)).all (fun x=>!x.1) && (backToKw c2 (keywordEach [] X.env)).all (fun x=>x.1.isSome) && decide ([arg].length+([]:List Keyword).length+(if ([]:List Keyword).isEmpty then 0 else 1) < 30))=true) jp)
   (II:autoParam ((a1.endLine == c1.line)=true) jp) (IJ:autoParam ((a2.endLine == c2.line)=true) jp) (El:autoParam (starEach [.Name xg p3] X.env=(false,eval (.Name xg p3) X.env)::starEach [] X.env) jp) (Em:autoParam (starEach [arg] X.env=(false,eval arg X.env)::starEach [] X.env) jp)
   (FO:autoParam (swapsWith (.Call (.Attribute (.Attribute (.Name x0 p1) n0 p2) "append" a1) [.Name xg p3] [] c1) none q1.line X.env=pure false) jp) (uh:autoParam (swapsWith (.Call (.Attribute (.Attribute (.Name x0 p4) n1 p5) "append" a2) [arg] [] c2) none q2.line X.env=pure false) jp) :
   iV X (NA G0 l (.bD ls (Wg ls.length N))) E (.val (.obj C (mG fs [n0,n1] l ls n))::tl.set ng (.own (.b6 (mF (f N)))))
     [.Expr (.Call (.Attribute (.Attribute (.Name x0 p1) n0 p2) "append" a1) [.Name xg p3] [] c1) q1,.Expr (.Call (.Attribute (.Attribute (.Name x0 p4) n1 p5) "append" a2) [arg] [] c2) q2] (.raw (RM X.K G0 C fs [n0,n1] l ls n tl (N+1))):=by
 have L7:PE X arg (fun st H Q=>∃ G2,Nj X.K G2 (.val (.obj C (mG fs [n0,n1] l ls n))::tl.set ng (.val (.cK (mF (f N))))) (.b6 (mF (g N))) st H Q):=fun pins s st H Q I ⟨G2,q⟩=>Pj G2 pins s st H Q I q
 refine v3 (jv (jT (qQ PySem.F.plainAttrs_list PySem.F.slot_list_append PySem.F.type_list_append pL (rJ (ik (pos:=p1) Nr Ri Rj Rk) T7) (fT (ik (pos:=p3) T3 T4 T5 T6) iq El) IG L5 II El rfl) FO)
   (lq (jT (qQ PySem.F.plainAttrs_list PySem.F.slot_list_append PySem.F.type_list_append pL (rJ (ik (pos:=p4) Nr Ri Rj Rk) Rm) (fT L7 iq Em) IH L6 IJ Em rfl) uh))) fun D st H zq=>Nf zq fun Hf zq=>have S:=zq.1;have k:=zq.2;?_
 have e2:ls.length=2:=by have:=congrArg W9 gk;simpa using this
 have eR:∀ M:Nat,Wg ls.length M=[M,M]:=fun M=>by rw[e2];rfl
 rw[eR] at S;have Pk:ng < tl.length:=(Vx.mp hu).1;obtain⟨v0,hv,rv⟩:=S.val 0 _ rfl;cases rv with
 | @obj sa _ dx fv _ Pl rf=>
   obtain⟨oa,F3,Rn,_,back⟩:=Rd.ex Pl;have Pm:Hf l=some (.bD ls [N,N]):=S.gr.aY _ _ ah;have NB:H l=some (.bD ls [N,N]):=S.sub _ _ Pm;have hm:br Hf l ls:=.inr ⟨_,Pm⟩;obtain⟨y0,T8,T9⟩:=rf.lookup Nu;obtain⟨y1,C7,Ua⟩:=rf.lookup FZ;obtain⟨qa,hq,Ro,Ub,kvs,NC,rk⟩:=S.own (ng+1) (.b6 (mF (f N))) (by show(tl.set ng _)[ng]?=_;rw[VH Pk]);cases T9 with
   | @cM _ p _ _ _ f0 xN _ Uc _=>cases Ua with
     | @cM _ pp _ _ _ f1 Io _ Ud _=>
       have Ue:f0=f:=by
         have:=congrArg (fun z=>z[0]?) gk;simp only[VB,xN] at this;exact Option.some.inj this
       have Ug:f1=g:=by
         have:=congrArg (fun z=>z[1]?) gk;simp only[VB,Io] at this;exact Option.some.inj this
       subst Ue Ug;have Rp:oQ H kvs (f0 N):=fV (fun b u e _=>S.sub _ _ e) (pJ rk);have Uh:qa≠l:=fun z=>by rw[z,NB] at NC;cases NC
       have Pn:sa≠l:=fun z=>by rw[z,Pm] at F3;cases F3;cases Rn
       have Ui:sa≠qa:=fun z=>by rw[z,Ro] at F3;cases F3
       refine⟨_,hv,sa,C,dx,fv,_,rfl,back _ (S.sub _ _ F3),cl,Pg,T8,.inr (.inr (.inr (.inr ⟨rfl,l,ls,[N,N],0,f0,N,NB,xN,rfl⟩))),_,hq,l,ls,[N,N],0,p,f0,N,qa,kvs,rfl,rfl,NB,xN,rfl,hN,NC,Rp,fun oq=>?_⟩;let H4:Hp:=upd (upd H l (.bD ls ([N,N].set 0 (N+1)))) qa (.kd (some (p,N)) oq kvs);let u4:HO:=.bD ls [N+1,N];have ND:H4 l=some u4:=by show(upd (upd H l _) qa _) l=_;rw[ag (Ne.symm Uh),ah];rfl
       have Rq:H4 qa=some (.kd (some (p,N)) oq kvs):=ah;have NF:∀ b o,H b=some o->b≠l->b≠qa->H4 b=some o:=fun b o e n1 n2=>by show(upd (upd H l _) qa _) b=_;rw[ag n2,ag n1];exact e
       have Uj:∀ b,H4 b=none->H b=none:=fun b e=>by
         have n1:b≠l:=fun z=>by rw[z,ND] at e;cases e
         have n2:b≠qa:=fun z=>by rw[z,Rq] at e;cases e
         have e:(upd (upd H l _) qa _) b=none:=e;rw[ag n2,ag n1] at e;exact e
       have Uk:∀ b o,Hf b=some o->b≠qa:=fun b o e z=>by rw[z,Ro] at e;cases e
       have zl:ay (upd Hf l u4) H4:=fun b o e=>by
         by_cases bl:b=l
         . rw[bl,ah] at e;cases e;rw[bl];exact ND
         . rw[ag bl] at e;exact NF b o (S.sub _ _ e) bl (Uk b o e)
       let C9:Hp:=gx (upd Hf l u4) H4;have L8:ay (upd Hf l u4) C9:=e6 zl;have NG:iH ls u4:=.inr ⟨_,rfl⟩;have Po:∀ b u,H b=some u->Kept u->C9 b=some u:=fun b u e kq=>sF (NF b _ e (fun z=>by rw[z,NB] at e;cases e;exact kq) (fun z=>by rw[z,NC] at e;cases e;exact kq)) kq
       have S4:cL X.K ⟨C9,H4⟩ st C9 H4 (.val (.obj C (mG fs [n0,n1] l ls n))::tl.set ng (.val (.cK (mF (f0 N))))):=by
         have no:∀ (i:Nat) o,(Slot.val (.obj C (mG fs [n0,n1] l ls n))::tl.set ng (.val (.cK (mF (f0 N)))))[i]?≠some (.own o):=fun i o h=>by
           cases i with
           | zero=>cases h
           | succ i=>
             have h:(tl.set ng (.val (.cK (mF (f0 N)))))[i]?=some (.own o):=h;by_cases e:ng=i
             . subst e;rw[VH Pk] at h;cases h
             . rw[VE e] at h;exact bo (gi ht) i o h
         refine⟨.refl (lL zl),by have:=S.len;simpa using this,fun i d h=>?_,fun i o h=>absurd h (no i o),fun i j o o' a h=>absurd h (no i o)⟩;cases i with
         | zero=>
           cases h;exact⟨_,hv,.obj (back _ (L8 _ _ (aL hm F3 Rn))) ((fO hm NG (rh hs) rf).mono L8)⟩
         | succ i=>
           have h:(tl.set ng (.val (.cK (mF (f0 N)))))[i]?=some (.val d):=h;by_cases e:ng=i
           . subst e
             rw[VH Pk] at h;cases h;exact⟨_,hq,.cK (xS Rq) (oy (fV Po Rp))⟩
           . rw[VE e] at h
             obtain⟨w,w1,w2⟩:=S.val (i+1) d (by show(tl.set ng _)[i]?=_;rw[VE e];exact h);exact⟨w,w1,(gh hm NG (jF ht h) w2).mono L8⟩
       refine⟨_,hv,sa,C,dx,fv,_,rfl,back _ (NF _ _ (S.sub _ _ F3) Pn Ui),cl,Ph,C7,.inr (.inr (.inr (.inr ⟨rfl,l,ls,[N+1,N],1,f1,N,ND,Io,rfl⟩))),⟨C9,H4⟩,C9,S4,fun ra vE H5 g5 n5 Ul ⟨IK,FK,LA⟩=>?_⟩;have Rr:H5 l=some u4:=g5.big _ _ ND;have Um:ra≠l:=fun z=>by rw[z,Rr] at FK;have FK:=Option.some.inj FK;have FK:HO.bD ls [N+1,N]=.dK IK:=FK;cases FK
       refine⟨l,ls,[N+1,N],1,pp,f1,N,ra,IK,rfl,rfl,Rr,Io,rfl,hN,FK,fV (fun b u e _=>g5.sub _ _ e) (pJ LA),fun or=>?_⟩;let H6:Hp:=upd (upd H5 l (.bD ls ([N+1,N].set 1 (N+1)))) ra (.kd (some (pp,N)) or IK);show D.nx st H6;have Uo:H6 l=some (.bD ls [N+1,N+1]):=by show(upd (upd H5 l _) ra _) l=_;rw[ag (Ne.symm Um),ah];rfl
       have Rt:∀ b o,H5 b=some o->b≠l->b≠ra->(upd H6 l (.memo ls)) b=some o:=fun b o e n1 n2=>by
         rw[ag n1];show(upd (upd H5 l _) ra _) b=_;rw[ag n2,ag n1];exact e
       have Up:∀ b o,vE b=some o->b≠ra:=fun b o e z=>by rw[z,Ul] at e;cases e
       have L9:ay (upd vE l (.memo ls)) (upd H6 l (.memo ls)):=fun b o e=>by
         by_cases bl:b=l
         . rw[bl,ah] at e ⊢;exact e
         . rw[ag bl] at e;exact Rt b o (g5.sub _ _ e) bl (Up b o e)
       have Ma:=e6 L9;have f4:∀ b o,Hf b=some o->b≠l->vE b=some o:=fun b o e n1=>g5.aY _ _ (L8 _ _ (by rw[ag n1];exact e))
       have g6:aN G0.Hf G0.H (gx (upd vE l (.memo ls)) (upd H6 l (.memo ls))) (upd H6 l (.memo ls)):=by
         refine⟨fun b o e=>?_,fun b o e=>?_,lL L9,fun b o e=>?_⟩
         . by_cases bl:b=l
           . rw[bl,hB] at e;cases e;rw[bl];exact ah
           . have h3:H b=some o:=S.gr.big _ _ (by show(upd G0.H l _) b=_;rw[ag bl];exact e)
             have Uq:b≠qa:=fun z=>by
               have:(upd G0.H l (.bD ls [N,N])) qa=none:=Ub;rw[<- z,ag bl,e] at this;cases this
             have h4:=NF b o h3 bl Uq;exact Rt b o (g5.big _ _ h4) bl (fun z=>by have n5:H4 ra=none:=n5;rw[z,n5] at h4;cases h4)
         . by_cases bl:b=l
           . rw[bl,hA] at e;cases e;rw[bl];exact Ma _ _ ah
           . have h3:Hf b=some o:=S.gr.aY _ _ (by show(upd G0.Hf l _) b=_;rw[ag bl];exact e)
             exact Ma _ _ (by rw[ag bl];exact f4 b o h3 bl)
         . rcases lK (Hf:=upd vE l (.memo ls)) (H:=upd H6 l (.memo ls)) b with⟨u',z1,z2,z3⟩ | z
           . rw[z3] at e;cases e;exact .inr (.inr z2)
           . rw[z] at e
             by_cases bl:b=l
             . rw[bl];exact .inl ⟨_,hA⟩
             . rw[ag bl] at e
               rcases g5.new b o e with⟨o',w⟩ | w | w
               . have eo:o'=o:=by have:=g5.aY _ _ w;rw[e] at this;exact(Option.some.inj this).symm
                 subst eo;rcases lK (Hf:=upd Hf l u4) (H:=H4) b with⟨u',z1,z2,z3⟩ | z'
                 . have w:gx (upd Hf l u4) H4 b=some o':=w
                   rw[z3] at w;cases w;exact .inr (.inr z2)
                 . have w:gx (upd Hf l u4) H4 b=some o':=w
                   rw[z',ag bl] at w;rcases S.gr.new b o' w with⟨Nb,y⟩ | y | y
                   . have y:(upd G0.Hf l _) b=some Nb:=y
                     rw[ag bl] at y;exact .inl ⟨Nb,y⟩
                   . have y:(upd G0.H l _) b=none:=y
                     rw[ag bl] at y;exact .inr (.inl y)
                   . exact .inr (.inr y)
               . have y:(upd G0.H l (.bD ls [N,N])) b=none:=S.gr.big.free (Uj b w)
                 rw[ag bl] at y;exact .inr (.inl y)
               . exact .inr (.inr w)
       have Pp:ay (upd Hf l u4) vE:=L8.trans g5.aY;have Ru:br vE l ls:=.inr ⟨_,Pp _ _ ah⟩;have Pq:∀ {v:V} {d:Dt},sC l d=true->Rep X.K Hf v d->Rep X.K (gx (upd vE l (.memo ls)) (upd H6 l (.memo ls))) v d:=fun {v d} hn r=>(gh Ru (.inl rfl) hn ((gh hm NG hn r).mono Pp)).mono Ma
       refine k st H6 ⟨by rw[eR];exact Uo,_,⟨g6,by have:=S.len;simpa using this,fun i d h=>?_,fun i o h=>?_,fun i j o o' a h=>?_⟩⟩
       . cases i with
         | zero=>
           cases h;refine⟨_,hv,.obj (back _ (Ma _ _ (by rw[ag Pn];exact f4 _ _ F3 Pn))) ?_⟩;have r5:=(fO hm NG (rh hs) rf).mono Pp;exact(LZ hs Ru r5).mono Ma
         | succ i=>
           have h:tl[i]?=some (.val d):=h;have e:ng≠i:=fun z=>by rw[<- z,hu] at h;cases h
           obtain⟨w,w1,w2⟩:=S.val (i+1) d (by show(tl.set ng _)[i]?=_;rw[VE e];exact h);exact⟨w,w1,Pq (jF ht h) w2⟩
       . cases i with
         | zero=>cases h
         | succ i=>exact absurd h (bo (gi ht) i o)
       . cases i with
         | zero=>cases h
         | succ i=>exact absurd h (bo (gi ht) i o)
end
noncomputable def Ur:HO->Bool
 | .lst _=>true
 | .dK _=>true
 | _=>false
noncomputable def conv (H:Hp)(p p2 q1 q2:Addr)(u1 u2 u3 u4:HO):Hp:=upd (upd (upd (upd H p u1) p2 u2) q1 u3) q2 u4
section
variable {X:Cx}{pins:List (Addr×Obj)}{σ:L2.St}{H:Hp}{s:Shared}{p p2 q1 q2:Addr}{sG tV:List (Key×V)}{f g:Nat->List (Key×FD)}
theorem Inv.IL (I:L2.Inv X pins σ H s)(hp:H p=some (.lst [.ref q1]))(oW:H p2=some (.lst [.ref q2]))(Mb:H q1=some (.dK sG))(Mc:H q2=some (.dK tV))(f1:oQ H sG (f 0))(f2:oQ H tV (g 0))(n1:p≠p2)(n2:q1≠q2):∃ o1 o2,L2.Inv X pins σ (conv H p p2 q1 q2 (.memo [(p,f),(p2,g)]) (.part p) (.kd (some (p,0)) o1 sG) (.kd (some (p2,0)) o2 tV)) s:=by
 obtain⟨z1,i1,c1,r1,e1⟩:=(show aD X.prog X.w H s.heap p (.lst [.ref q1]) from I.aK p _ hp)
 obtain⟨z2,i2,c2,r2,e2⟩:=(show aD X.prog X.w H s.heap p2 (.lst [.ref q2]) from I.aK p2 _ oW)
 obtain⟨NH,lo1,Us,Ut,o1,Uu,Uv,Rv,Uw⟩:=(show aD X.prog X.w H s.heap q1 (.dK sG) from I.aK q1 _ Mb)
 obtain⟨Ux,Uy,Uz,UA,o2,UB,UC,NI,NJ⟩:=(show aD X.prog X.w H s.heap q2 (.dK tV) from I.aK q2 _ Mc)
 obtain⟨u1,rfl,w1⟩:=vals1 r1;obtain⟨u2,rfl,w2⟩:=vals1 r2;cases (show u1=Value.ref q1 from w1);cases (show u2=Value.ref q2 from w2);refine⟨o1,o2,?_⟩;have m1:p≠q1:=fun z=>by rw[z,Mb] at hp;cases hp
 have m2:p≠q2:=fun z=>by rw[z,Mc] at hp;cases hp
 have m3:p2≠q1:=fun z=>by rw[z,Mb] at oW;cases oW
 have m4:p2≠q2:=fun z=>by rw[z,Mc] at oW;cases oW
 generalize Md:conv H p p2 q1 q2 (.memo [(p,f),(p2,g)]) (.part p) (.kd (some (p,0)) o1 sG) (.kd (some (p2,0)) o2 tV)=H'
 have Rw:H' p=some (.memo [(p,f),(p2,g)]):=by rw[<- Md];unfold conv;rw[ag m2,ag m1,ag n1,ah]
 have IM:H' p2=some (.part p):=by rw[<- Md];unfold conv;rw[ag m4,ag m3,ah]
 have Me:H' q1=some (.kd (some (p,0)) o1 sG):=by rw[<- Md];unfold conv;rw[ag n2,ah]
 have Mf:H' q2=some (.kd (some (p2,0)) o2 tV):=by rw[<- Md];unfold conv;rw[ah]
 have Bx:∀ b,b≠p->b≠p2->b≠q1->b≠q2->H' b=H b:=fun b a1 a2 a3 a4=>by rw[<- Md];unfold conv;rw[ag a4,ag a3,ag a2,ag a1]
 have vF:∀ b o,H b=some o->Ur o=false->H' b=some o:=fun b o e n=>by
   rw[Bx b (fun z=>by rw[z,hp] at e;cases e;cases n) (fun z=>by rw[z,oW] at e;cases e;cases n) (fun z=>by rw[z,Mb] at e;cases e;cases n) (fun z=>by rw[z,Mc] at e;cases e;cases n)];exact e
 have kp:Kp H H':=⟨fun b o e kq=>vF b _ e (by cases o <;> first | rfl | exact(show False from kq).elim),fun b e=>by
   cases q:H b with
   | none=>rw[q] at e;exact e.elim
   | some u=>
     rw[q] at e;rw[vF b u q (by cases u <;> first | rfl | exact e.elim)];exact e,fun b x e=>vF b _ e rfl⟩
 refine I.un (h':=s.heap) (t':=s.toks) ⟨fun b o e _ _ _=>e,fun b o e _ _ _=>⟨o.slots,e⟩,fun b o e n _=>?_,fun b o e _=>⟨o,e⟩,fun b xs e=>vF b _ e rfl,fun b o u e=>vF b _ e rfl,fun b ps e=>⟨#[],by rw[vF b _ e rfl];simp⟩⟩ fun b u e=>?_
 . rw[Bx b (fun z=>by rw[z,hp] at n;cases n) (fun z=>by rw[z,oW] at n;cases n) (fun z=>by rw[z,Mb] at n;cases n) (fun z=>by rw[z,Mc] at n;cases n)]
   exact n
 . by_cases b1:b=p
   . subst b1
     rw[Rw] at e;cases e;refine⟨⟨_,e1⟩,1,by decide,⟨f,rfl⟩,rfl,fun j a h hj=>?_,by simp[n1],fun n hn=>by rw[List.mem_replicate] at hn;omega,fun j a h n hj hn=>?_⟩
     . match j,hj with
       | 0,hj=>cases hj;exact .inl rfl
       | 1,hj=>cases hj;exact .inr IM
     . match j,hj,hn with
       | 0,hj,hn=>
         cases hj;cases hn;refine⟨_,_,e1,rfl,fun i hi=>?_⟩;have:i=0:=by omega
         subst this;exact⟨q1,o1,sG,rfl,Me,f1.kp kp⟩
       | 1,hj,hn=>
         cases hj;cases hn;refine⟨_,_,e2,rfl,fun i hi=>?_⟩;have:i=0:=by omega
         subst this;exact⟨q2,o2,tV,rfl,Mf,f2.kp kp⟩
   . by_cases b2:b=p2
     . subst b2;rw[IM] at e;cases e;exact⟨_,e2⟩
     . by_cases b3:b=q1
       . subst b3;rw[Me] at e;cases e
         refine⟨Rv,⟨NH,lo1,Us,Ut,o1,Uu,Uv,Rv,Uw⟩,fun a i ht=>?_⟩;cases ht;exact⟨by rw[Rw];trivial,_,_,e1,rfl⟩
       . by_cases b4:b=q2
         . subst b4;rw[Mf] at e;cases e
           refine⟨NI,⟨Ux,Uy,Uz,UA,o2,UB,UC,NI,NJ⟩,fun a i ht=>?_⟩;cases ht;exact⟨by rw[IM];trivial,_,_,e2,rfl⟩
         . rw[Bx b b1 b2 b3 b4] at e
           exact(I.aK b u e).tZ (fun _ _ _ q=>q) (fun c q=>vF c _ q rfl) (fun c xs q=>vF c _ q rfl) kp
end
theorem xU (n0:Str)(v:V):∀ fv:List (Str×V),(dC n0 v fv).length<=fv.length+1
 | []=>O0 _
 | (k,w)::r=>by
   have ih:=xU n0 v r;unfold dC
   split
   . simp
   . simp only[Ws];omega
section
variable {X:Cx}{G:Gr}{E:XK}{e1 e2:Expr}{fs:List (Str×Dt)}{z C:Addr}{tl:List Slot}{f g:Nat->List (Key×FD)}{n0 n1 x0:Str}{Pr Pt Pu Pw Px Py q1 q2:Pos}
theorem sH (no:noOwn tl=true)(cl:qp X.K C)(Pg:cO X.K C n0)(Ph:cO X.K C n1)(UD:EO X G (.own (.vZ z C fs)::tl) e1 (.b6 (mF (f 0))))(HF:EO X G (.cz::tl) e2 (.b6 (mF (g 0))))(Pz:autoParam (∀ p ls,putD n1 (.memo p ls 1 1) (putD n0 (.memo p ls 0 1) fs)=vY fs [n0,n1] p ls 1) xL)(hlen:autoParam (Nat.ble fs.length 990=true) jp)(hN:autoParam (X.N[0]?=some x0) jp)(hv:autoParam (qI X.env.scope x0) jN)(hU:autoParam ((x0 == ("__debug__":Str))=false) jM)(il:autoParam ((x0 == ("__classdict__":Str))=false) jM)(El:autoParam (starEach [e1] X.env=[(false,eval e1 X.env)]) jp)(Em:autoParam (starEach [e2] X.env=[(false,eval e2 X.env)]) jp)(FO:autoParam (swapsWith (.List [e1] Px) (some (.Attribute (.Name x0 Pr) n0 Pu)) q1.line X.env=pure false) jp)(uh:autoParam (swapsWith (.List [e2] Py) (some (.Attribute (.Name x0 Pt) n1 Pw)) q2.line X.env=pure false) jp):iV X G E (.own (.vZ z C fs)::tl) [.Assign [.Attribute (.Name x0 Pr) n0 Pu] (.List [e1] Px) q1,.Assign [.Attribute (.Name x0 Pt) n1 Pw] (.List [e2] Py) q2] (.nx (.own (.uB z C fs [f,g] [n0,n1] 1)::tl)):=by
 intro pins s st H D I ⟨Hf,S,k⟩;have base:=jv (rK (pos:=q1) (pos':=Pu) (ik (pos:=Pr) hN hv hU il) (vR (pos:=Px) (fT UD iq El)) FO) (lq (rK (pos:=q2) (pos':=Pw) (ik (pos:=Pt) hN hv hU il) (vR (pos:=Py) (fT HF iq Em)) uh));let RQ:L2.St->Hp->Prop:=fun fL H'=>∃ p p2 a1 a2 sG tV,H' p=some (.lst [.ref a1])/\H' p2=some (.lst [.ref a2])/\H' a1=some (.dK sG)/\H' a2=some (.dK tV)/\oQ H' sG (f 0)/\oQ H' tV (g 0)/\p≠p2/\a1≠a2/\ ∀ o1 o2,D.nx fL (conv H' p p2 a1 a2 (.memo [(p,f),(p2,g)]) (.part p) (.kd (some (p,0)) o1 sG) (.kd (some (p2,0)) o2 tV))
 refine bF (base pins s st H { D with nx:=RQ} I ?_) fun fl s7 q7=>?_
 . obtain⟨za,hz,UE,PB,ez,dx,fv,NK,rf⟩:=S.own 0 _ rfl
   subst ez;refine⟨Hf,S,fun a1 Hf1 H1 g1 Rx PD ⟨sG,Nt,UG⟩=>⟨Wy rfl,fun p hp=>?_⟩⟩;have NH:H1 za=some (.ins C dx fv):=g1.big _ _ NK;have Mg:za≠p:=ar NH hp;have Ry:a1≠p:=ar Nt hp;have NL:za≠a1:=fun w=>by rw[w,Rx] at NK;cases NK
   have UH:(upd H1 p (.lst [.ref a1])) za=some (.ins C dx fv):=by rw[ag Mg];exact NH
   refine⟨_,hz,za,C,dx,fv,rfl,UH,cl,Pg,by rw[rf.length];exact WC (Wy hlen) (by decide),?_⟩;let H2:Hp:=upd (upd H1 p (.lst [.ref a1])) za (.ins C dx (dC n0 (.ref p) fv));have Mh:Hf1 za=none:=g1.iE UE NK;have UI:aN Hf1 H1 Hf1 (upd H1 p (.lst [.ref a1])):=.cB g1.sub hp;have S0:cL X.K G st Hf H (.cz::tl):=S.weak ⟨rfl,fun i s' e n=>by
     cases i with
     | zero=>cases e;exact absurd rfl n
     | succ i=>exact e⟩
   have Rz:noOwn (.cz::tl)=true:=no;have S2:cL X.K G st Hf1 H2 (.cz::tl):=lI ((S0.grow g1).grow UI) Rz Mh PB;refine⟨Hf1,S2,fun a2 fH H3 g3 n3 UJ ⟨tV,Bc,LA⟩=>⟨Wy rfl,fun p2 oW=>?_⟩⟩;have PF:H2 a2=none:=n3;have NM:H2 za=some (.ins C dx (dC n0 (.ref p) fv)):=ah;have NO:H2 p=some (.lst [.ref a1]):=by show(upd (upd H1 p _) za _) p=_;rw[ag (Ne.symm Mg),ah]
   have NP:H2 a1=some (.dK sG):=by show(upd (upd H1 p _) za _) a1=_;rw[ag (Ne.symm NL),ag Ry];exact Nt
   have RA:=g3.big _ _ NM;have RB:=g3.big _ _ NO;have RC:=g3.big _ _ NP;have En:za≠p2:=ar RA oW;have IP:p≠p2:=ar RB oW;have F4:a1≠p2:=ar RC oW;have F5:a2≠p2:=ar Bc oW;have IQ:za≠a2:=fun w=>by rw[w,PF] at NM;cases NM
   have PH:p≠a2:=fun w=>by rw[w,PF] at NO;cases NO
   have Mi:a1≠a2:=fun w=>by rw[w,PF] at NP;cases NP
   have PJ:(upd H3 p2 (.lst [.ref a2])) za=some (.ins C dx (dC n0 (.ref p) fv)):=by rw[ag En];exact RA
   refine⟨_,hz,za,C,dx,_,rfl,PJ,cl,Ph,?_,?_⟩
   . have:=xU n0 (.ref p) fv
     have h9:=Wy hlen;have:=rf.length;omega
   let H4:Hp:=upd (upd H3 p2 (.lst [.ref a2])) za (.ins C dx (dC n1 (.ref p2) (dC n0 (.ref p) fv)));have UK:H4 p=some (.lst [.ref a1]):=by show(upd (upd H3 p2 _) za _) p=_;rw[ag (Ne.symm Mg),ag IP];exact RB
   have PK:H4 p2=some (.lst [.ref a2]):=by show(upd (upd H3 p2 _) za _) p2=_;rw[ag (Ne.symm En),ah]
   have PL:H4 a1=some (.dK sG):=by show(upd (upd H3 p2 _) za _) a1=_;rw[ag (Ne.symm NL),ag F4];exact RC
   have PM:H4 a2=some (.dK tV):=by show(upd (upd H3 p2 _) za _) a2=_;rw[ag (Ne.symm IQ),ag F5];exact Bc
   have UL:H4 za=some (.ins C dx (dC n1 (.ref p2) (dC n0 (.ref p) fv))):=ah;have PN:fH za=none:=g3.iE Mh NM;have UM:fH p=none:=g3.iE (g1.sub.free hp) NO;have PQ:fH a1=none:=g3.iE PD NP;have Mj:fH p2=none:=g3.sub.free oW;have zl:ay fH H4:=fun b o e=>by
     have b1:b≠za:=fun w=>by rw[w,PN] at e;cases e
     have b2:b≠p2:=fun w=>by rw[w,Mj] at e;cases e
     show(upd (upd H3 p2 _) za _) b=_;rw[ag b1,ag b2];exact g3.sub _ _ e
   have S4:cL X.K G st fH H4 (.cz::tl):=lI ((S2.grow g3).grow (.cB g3.sub oW)) Rz PN PB;have gp:G.H p=none:=S.gr.big.free (g1.big.free hp);have RD:G.H a1=none:=S.gr.big.free Rx;have RE:G.H p2=none:=S2.gr.big.free (g3.big.free oW);have RF:G.H a2=none:=S2.gr.big.free n3;have RG:oQ fH sG (f 0):=pJ (UG.mono g3.aY);have RH:oQ fH tV (g 0):=pJ LA;refine⟨p,p2,a1,a2,sG,tV,UK,PK,PL,PM,fV (fun b u e _=>zl _ _ e) RG,fV (fun b u e _=>zl _ _ e) RH,IP,Mi,fun o1 o2=>?_⟩;let ls:iB:=[(p,f),(p2,g)]
   let u1:HO:=.memo ls;let u3:HO:=.kd (some (p,0)) o1 sG;let u4:HO:=.kd (some (p2,0)) o2 tV;have m1:p≠a1:=Ne.symm Ry;have cat:∀ (B:Hp),conv B p p2 a1 a2 u1 (.part p) u3 u4 p=some u1/\conv B p p2 a1 a2 u1 (.part p) u3 u4 p2=some (.part p)/\conv B p p2 a1 a2 u1 (.part p) u3 u4 a1=some u3/\conv B p p2 a1 a2 u1 (.part p) u3 u4 a2=some u4:=fun B=>by
     unfold conv
     refine⟨?_,?_,?_,?_⟩
     . rw[ag PH,ag m1,ag IP,ah]
     . rw[ag (Ne.symm F5),ag (Ne.symm F4),ah]
     . rw[ag Mi,ah]
     . rw[ah]
   have BC:∀ (B:Hp) b,b≠p->b≠p2->b≠a1->b≠a2->conv B p p2 a1 a2 u1 (.part p) u3 u4 b=B b:=fun B b c1 c2 c3 c4=>by unfold conv;rw[ag c4,ag c3,ag c2,ag c1]
   let vE:Hp:=conv fH p p2 a1 a2 u1 (.part p) u3 u4
   have J8:ay fH vE:=fun b o e=>by
     show conv fH p p2 a1 a2 u1 (.part p) u3 u4 b=some o
     rw[BC fH b (fun w=>by rw[w,UM] at e;cases e) (fun w=>by rw[w,Mj] at e;cases e) (fun w=>by rw[w,PQ] at e;cases e) (fun w=>by rw[w,UJ] at e;cases e)];exact e
   have key:∀ (A B:Hp),ay A B->ay (conv A p p2 a1 a2 u1 (.part p) u3 u4) (conv B p p2 a1 a2 u1 (.part p) u3 u4):=fun A B sm=>c8 (c8 (c8 (c8 sm)))
   have PR:ay vE (conv H4 p p2 a1 a2 u1 (.part p) u3 u4):=key _ _ zl;have Ml:aU X.K vE (dC n1 (.ref p2) (dC n0 (.ref p) fv)) (vY fs [n0,n1] p ls 1):=by
     rw[<- Pz p ls];refine((rf.mono ((g1.aY.trans g3.aY).trans J8)).put (f:=n0) (d:=.memo p ls 0 1) ?_).put (f:=n1) (d:=.memo p ls 1 1) ?_
     . refine .memo (f:=f) rfl (cat fH).1 (.inl rfl) fun i hi=>?_
       have:i=0:=by omega
       subst this;exact⟨a1,o1,sG,(cat fH).2.2.1,fV (fun b u e _=>J8 _ _ e) RG⟩
     . refine .memo (f:=g) rfl (cat fH).1 (.inr (cat fH).2.1) fun i hi=>?_
       have:i=0:=by omega
       subst this;exact⟨a2,o2,tV,(cat fH).2.2.2,fV (fun b u e _=>J8 _ _ e) RH⟩
   have UN:conv H4 p p2 a1 a2 u1 (.part p) u3 u4 za=some (.ins C dx (dC n1 (.ref p2) (dC n0 (.ref p) fv))):=by rw[BC H4 za Mg En NL IQ];exact UL
   have UO:vE za=none:=by show conv fH p p2 a1 a2 u1 (.part p) u3 u4 za=none;rw[BC fH za Mg En NL IQ];exact PN
   refine k st vE _ ((g1.aY.trans g3.aY).trans J8) ⟨⟨fun b o e=>?_,S4.gr.aY.trans J8,PR,fun b o e=>?_⟩,by have:=S4.len;simpa using this,fun i d h=>?_,fun i o h=>?_,fun i j o o' a w1 w2=>?_⟩
   . rw[BC H4 b (fun w=>by rw[w,gp] at e;cases e) (fun w=>by rw[w,RE] at e;cases e) (fun w=>by rw[w,RD] at e;cases e) (fun w=>by rw[w,RF] at e;cases e)]
     exact S4.gr.big _ _ e
   . by_cases c1:b=p
     . rw[c1];exact .inr (.inl gp)
     . by_cases c2:b=p2
       . rw[c2];exact .inr (.inl RE)
       . by_cases c3:b=a1
         . rw[c3];exact .inr (.inl RD)
         . by_cases c4:b=a2
           . rw[c4];exact .inr (.inl RF)
           . have e:conv fH p p2 a1 a2 u1 (.part p) u3 u4 b=some o:=e
             rw[BC fH b c1 c2 c3 c4] at e;exact S4.gr.new b o e
   . cases i with
     | zero=>cases h
     | succ i=>
       obtain⟨w,w1,w2⟩:=S4.val (i+1) d h;exact⟨w,w1,w2.mono J8⟩
   . cases i with
     | zero=>
       cases h;exact⟨za,hz,UO,PB,rfl,dx,_,p,ls,rfl,UN,Ml⟩
     | succ i=>exact absurd h (bo no i o)
   . cases i with
     | zero=>cases j with
       | zero=>exact fun _ _=>rfl
       | succ j=>exact absurd w2 (bo no j o')
     | succ i=>exact absurd w1 (bo no i o)
 . cases fl with
   | next=>
     obtain⟨σ7,H7,I7,p,p2,a1,a2,sG,tV,y1,y2,y3,y4,y5,y6,y7,y8,kk⟩:=q7;obtain⟨o1,o2,I8⟩:=Inv.IL I7 y1 y2 y3 y4 y5 y6 y7 y8;exact⟨σ7,_,I8,kk o1 o2⟩
   | cont=>exact q7
   | brk=>exact q7
   | ret v=>exact q7
end
section
variable {X:Cx}{G:Gr}{E:XK}{dl:List Slot}{a b e o:Expr}{u:Bool}{pos p:Pos}{k x:Str}{kds:List (Key×Dt)}
theorem xV (h:EO X G dl e (.b6 kds)):EE X G dl e (.eV kds):=by
 intro pins s st H Q I ⟨Hf,S,kk⟩;refine bF (h pins s st H (fun v H'=>∃ p aA,v=.ref p/\aN Hf H aA H'/\H p=none/\aA p=none/\dZ X.K aA H' p (.b6 kds)) I ⟨Hf,S,fun p aA H' g n n' r=>⟨p,aA,rfl,g,n,n',r⟩⟩) fun u s1 ⟨v,H',I1,rv,q,aA,ev,g,n,n',kvs,hq,rp⟩=>?_
 subst ev;obtain⟨hz,lo,vs,kv,ob,es,ep,ho,hr⟩:=(show aD X.prog X.w H' s1.heap q (.dK kvs) from I1.aK q _ hq)
 have I2:L2.Inv X pins st (upd H' q (.aY ob (.dK kvs))) s1:=jX (h':=s1.heap) (t':=s1.toks) I1 (by rw[hq];trivial) ⟨rfl,fun _ _=>rfl⟩ ⟨ob,ho⟩ ⟨ho,hz,lo,vs,kv,ob,es,ep,ho,hr⟩;have sm:ay aA (upd aA q (.aY ob (.dK kvs))):=bj n';refine⟨.ref q,_,I2,rv,kk _ (upd aA q (.aY ob (.dK kvs))) _ ⟨fun b o hb=>?_,g.aY.trans sm,c8 g.sub,fun b o hb=>?_⟩ (.eV ah (rp.mono sm))⟩
 . rw[ag (ar hb n)];exact g.big _ _ hb
 . by_cases e:b=q
   . subst e;exact .inr (.inl n)
   . rw[ag e] at hb;exact g.new b o hb
def IS:R2:=fun x y H Q=>∃ a b kvs,x=.ref a/\y=.ref b/\Rd H a (.dK kvs)/\Rd H b (.dK kvs)/\Eb kvs/\Q (.bl true) H
theorem Eo (hu:X.A.units+64 < cLine):kS X (compareOp .Eq) IS:=by
 intro pins s st H x y v w Q I rx ry ⟨a,b,kvs,e1,e2,h1,h2,hi,q⟩;subst e1 e2;cases rx;cases ry;obtain⟨_,l1,us,r1,d1⟩:=iD I.aK h1;obtain⟨_,l2,vs,r2,d2⟩:=iD I.aK h2;exact wpAny_richCompare_same_room (op:=.Eq) d1.typeIs d2.typeIs PySem.F.slot_dict_eq (call_meetsIn PySem.F.slot_dict_eq d1.typeIs PySem.F.entry_dict_eq (PySem.F.args_dict_eq_2 _ _) (S:=fun A R s'=>s'=s/\R (.ok (.ret (.bool true))) s) (.of_wp fun A R s' h=>by
   obtain⟨rfl,h⟩:=h;exact Bm l1 l2 d1 d2 (pH hi r1 r2) h) ⟨rfl,(fun z=>nomatch z),.bl true,H,I,rfl,q⟩) (by omega)
variable {d1 d2 d3 d4:Dt}
theorem Ep (n1 n2 n3 n4:Nat){a b c f:Str}{pa pb pc pf tp:Pos}{cx:Nat}(hN:X.N.Nodup)(hc:X.calm=true)(he:EE X G dl e (.tup [d1,d2,d3,d4]))(UP:autoParam (X.N[n1]?=some a) jp)(UQ:autoParam (X.N[n2]?=some b) jp)(UR:autoParam (X.N[n3]?=some c) jp)(US:autoParam (X.N[n4]?=some f) jp)(UT:autoParam (Loc X.env.scope a) zD)(OB:autoParam (Loc X.env.scope b) zD)(UU:autoParam (Loc X.env.scope c) zD)(UW:autoParam (Loc X.env.scope f) zD)(UX:autoParam (X.fn a=true\/X.env.scope.names.lookup a=some .local) v6)(UY:autoParam (X.fn b=true\/X.env.scope.names.lookup b=some .local) v6)(UZ:autoParam (X.fn c=true\/X.env.scope.names.lookup c=some .local) v6)(U0:autoParam (X.fn f=true\/X.env.scope.names.lookup f=some .local) v6)(hn:autoParam ((assignEach [.Name a pa,.Name b pb,.Name c pc,.Name f pf] X.env).length=4) jp)(jf:autoParam ((assignEach [.Name a pa,.Name b pb,.Name c pc,.Name f pf] X.env).findIdx? (·.1)=none) jp)(q1:autoParam ((assignEach [.Name a pa,.Name b pb,.Name c pc,.Name f pf] X.env).map (·.2)=assign (.Name a pa) X.env::(assignEach [.Name b pb,.Name c pc,.Name f pf] X.env).map (·.2)) jp)(q2:autoParam ((assignEach [.Name b pb,.Name c pc,.Name f pf] X.env).map (·.2)=assign (.Name b pb) X.env::(assignEach [.Name c pc,.Name f pf] X.env).map (·.2)) jp)(q3:autoParam ((assignEach [.Name c pc,.Name f pf] X.env).map (·.2)=assign (.Name c pc) X.env::(assignEach [.Name f pf] X.env).map (·.2)) jp)(q4:autoParam ((assignEach [.Name f pf] X.env).map (·.2)=assign (.Name f pf) X.env::(assignEach [] X.env).map (·.2)) jp)(hs:autoParam (swapsWithSole [.Tuple [.Name a pa,.Name b pb,.Name c pc,.Name f pf] cx tp] e pos.line X.env=pure false) jp)(hw:autoParam (swappedStores [.Tuple [.Name a pa,.Name b pb,.Name c pc,.Name f pf] cx tp] e X.env=pure none) jp)(h1:autoParam ((assignEach [.Tuple [.Name a pa,.Name b pb,.Name c pc,.Name f pf] cx tp] X.env).map (·.2)=[assign (.Tuple [.Name a pa,.Name b pb,.Name c pc,.Name f pf] cx tp) X.env]) jp):ES X G E dl (.Assign [.Tuple [.Name a pa,.Name b pb,.Name c pc,.Name f pf] cx tp] e pos) (.nx ((((dl.set n1 (.val d1)).set n2 (.val d2)).set n3 (.val d3)).set n4 (.val d4))):=
 qT (GW he (ma hc (cj (bh (pos:=pa) hN UP UT UX) (cj (bh (pos:=pb) hN UQ OB UY) (cj (bh (pos:=pc) hN UR UU UZ) (cj (bh (pos:=pf) hN US UW U0) jU q4) q3) q2) q1) hn jf) hs hw h1) fun D st H zq=>xa zq fun Hf S k=>fun v Hf1 H1 g1 r1=>by
   cases r1 with
   | @tup q vs _ hq rp=>
     cases rp with
     | cons r1 t1=>cases t1 with
       | cons r2 t2=>cases t2 with
         | cons r3 t3=>cases t3 with
           | cons r4 t4=>
             cases t4;exact⟨q,_,rfl,dv g1.sub hq,rfl,_,_,rfl,_,_,rfl,_,_,rfl,_,_,rfl,rfl,k _ Hf1 H1 g1.aY (((((S.grow g1).set r1).set r2).set r3).set r4)⟩
end
theorem d5:PySem.Slot "reversed" "__next__" "reversed.__next__":=
 .of (owner:="reversed") (n:="__next__") (by rw[typeLookup_type,builtinLookup_eq_fast];kernel_rfl) (by decide +kernel) (by decide +kernel) (by decide +kernel)
   (by first | exact .inl (by decide +kernel) | exact .inr (by decide +kernel)) (by rw[isSubtype_type];kernel_rfl)
theorem jG:entryFor table "reversed.__next__"=some Builtin.«reversed.__next__»:=entryFor_of_tree (by kernel_rfl)
theorem jg (a:Value):argsOk "reversed.__next__" ⟨[a],[]⟩:=by unfold argsOk;kernel_rfl
theorem kL:PySem.Slot "reversed" "__iter__" "reversed.__iter__":=
 .of (owner:="reversed") (n:="__iter__") (by rw[typeLookup_type,builtinLookup_eq_fast];kernel_rfl) (by decide +kernel) (by decide +kernel) (by decide +kernel)
   (by first | exact .inl (by decide +kernel) | exact .inr (by decide +kernel)) (by rw[isSubtype_type];kernel_rfl)
theorem nM (a:Value):argsOk "reversed.__iter__" ⟨[a],[]⟩:=by unfold argsOk;kernel_rfl
theorem pN:entryFor table "reversed.__iter__"=some Builtin.«dict_keyiterator.__iter__»:=
 entryFor_alias (id':="dict_keyiterator.__iter__") (by kernel_rfl) (by first | rfl | decide +kernel | (unfold String.splitOn;simp +decide [String.splitOnAux])) (by decide +kernel) (by kernel_rfl)
theorem qz:PySem.Slot "reversed" "__init__" "object.__init__":=
 .of (owner:="object") (n:="__init__") (by rw[typeLookup_type,builtinLookup_eq_fast];kernel_rfl) (by decide +kernel) (by decide +kernel) (by decide +kernel)
   (by first | exact .inl (by decide +kernel) | exact .inr (by decide +kernel)) (by rw[isSubtype_type];kernel_rfl)
theorem wG:TypeCalled "reversed" "reversed.__new__" "object.__init__":=
 ⟨by decide +kernel,by decide +kernel,⟨_,_,F.mro_reversed⟩,F.made_reversed,by decide +kernel,F.sub_reversed_self,qz⟩
theorem kA:typeLookup (.type "str") "__reversed__"=pure none:=by rw[typeLookup_type,builtinLookup_eq_fast];kernel_rfl
theorem gW:typeLookup (.type "str") "__getitem__"=pure (some (.builtin "str.__getitem__")):=by rw[typeLookup_type,builtinLookup_eq_fast];kernel_rfl
theorem qA:isSubtype (.type "str") (.type "dict")=pure false:=by rw[isSubtype_type];kernel_rfl
section
variable {prog:Program}{w:World}{A:Around}{E:Value->Shared->Prop}{s:Shared}
noncomputable def F6 (x:Str)(t:Tok)(i:Int):Obj:={ cls:=.type "reversed",data:=.fields #[.str x t,rawInt i]}
def kY (h:Heap)(a:Addr)(x:Str)(t:Tok)(i:Int):Prop:=∃ o,h.get? a=some o/\o.cls=.type "reversed"/\o.data=.fields #[.str x t,rawInt i]
theorem kY.typeIs {a:Addr}{x:Str}{t:Tok}{i:Int}(q:kY s.heap a x t i):s.TypeIs (.ref a) "reversed":=let ⟨o,ho,hc,_⟩:=q;⟨o,ho,hc⟩
theorem BD (x:Str)(t:Tok)(sI:¬ (x.length:Int) >= 2 ^ 63):MeetsIn prog w (Builtin.«reversed.__new__» ⟨[.type "reversed",.str x t],[]⟩) (fun A R s=>R (.ok (.ret (.ref s.heap.objs.size))) { s with heap:=s.heap.push (F6 x t ((x.length:Int) - 1)),toks:=s.toks+1+1}):=
 .of_wp fun A R s h=>by
   unfold Builtin.«reversed.__new__»;refine wpAny_bind (wpAny_of_eq (newClass_reversed _) ?_)
   try dsimp only
   refine wpAny_bind (wpAny_of_eq (a:=()) (by first | rfl | kernel_rfl) ?_);refine wpAny_bind (wpAny_of_eq (a:=()) (by first | rfl | kernel_rfl) ?_)
   try dsimp only
   refine wpAny_bind (wpAny_specialOf (typeIs_str s x t) kA ?_)
   try dsimp only
   refine wpAny_bind (wpAny_bind (wpAny_isInstance (typeIs_str s x t) qA ?_));rw[if_neg V8];refine wpAny_bind (wpAny_specialOf (typeIs_str s x t) gW ?_);refine wpAny_of_eq (a:=true) (by kernel_rfl) ?_;rw[if_neg (show ¬ ((!true)=true) from V8)]
   try dsimp only
   refine wpAny_bind (len_str sI ?_);refine wpAny_bind (wpAny_of_eq (a:=some (x.length:Int)) rfl ?_)
   try dsimp only
   refine wpAny_bind ?_;show wpAny _ _ (newObj (.type "reversed") (.fields #[.str x t,rawInt ((x.length:Int) - 1)])) _ _ _;exact wpAny_newObj_type (wpAny_pure ⟨_,rfl,h⟩)
theorem zm {x:Str}{t:Tok}{Q:Value->Shared->Prop}(sI:¬ (x.length:Int) >= 2 ^ 63)(h:Q (.ref s.heap.objs.size) { s with heap:=s.heap.push (F6 x t ((x.length:Int) - 1)),toks:=s.toks+1+1}):wpAny (model prog w) A (call (.type "reversed") [.str x t]) Q E s:=
 callType_newIn wG (by decide) (F.typeCall_reversed_1 _) (F.newCall_reversed_1 _) (fun obj=>F.args_object_init_2 obj _) F.entry_reversed_new (BD x t sI) ⟨⟨_,VJ _ rfl,rfl⟩,h⟩
theorem mI {it:Addr}{x:Str}{t:Tok}{i c:Nat}{Q:Option Value->Shared->Prop}(hit:kY s.heap it x t (i:Int))(hx:x.cps[i]?=some c)(sI:¬ (x.length:Int) >= 2 ^ 63)(hQ:∀ h',kY h' it x t ((i:Int) - 1)->W6 it s.heap h'->Q (some (.str ⟨#[c]⟩ (s.toks+1))) { s with heap:=h',toks:=s.toks+1+1}):wpAny (model prog w) A (pyNext (.ref it)) Q E s:=by
 obtain⟨o,ho,hc,hd⟩:=id hit;have Np:i < x.length:=by
   have:=(Array.getElem?_eq_some_iff.mp hx).1;exact this
 unfold pyNext;refine wpAny_bind (wpAny_attempt (wpAny_callSpecial?_slot (name:=Str.ofString "__next__") hit.typeIs d5
   (wpAny_call_entry d5 hit.typeIs jG ?_ (jg _))))
 unfold Builtin.«reversed.__next__»;refine wpAny_bind (wpAny_of_eq (a:=(Value.ref it,[])) rfl ?_)
 try dsimp only
 refine wpAny_bind (wpAny_field ho hd (x:=.str x t) rfl ?_);refine wpAny_bind (wpAny_field ho hd (x:=rawInt (i:Int)) rfl ?_);show wpAny _ _ (if (i:Int) < 0 then _ else _) _ _ s;rw[if_neg (by omega)];refine wpAny_bind (wpAny_specialOf (typeIs_str s x t) gW ?_);rw[if_neg (show ¬ ((some (Value.builtin "str.__getitem__")).isNone=true) from V8)]
 try dsimp only
 refine wpAny_bind (wpAny_mkInt ?_);refine wpAny_bind (wpAny_attempt (getItem_str (c:=c) ?_ ?_ ?_))
 . have e1:decide ((i:Int) < -(2 ^ 63:Int))=false:=decide_eq_false (by omega)
   have e2:decide ((i:Int) >= 2 ^ 63)=false:=decide_eq_false (by omega);rw[e1,e2];rfl
 . have e:seqIndex? (i:Int) x.length=some i:=by
     unfold seqIndex?;simp;omega
   rw[e];exact hx
 try dsimp only
 refine wpAny_bind (wpAny_field ho hd (x:=rawInt (i:Int)) rfl ?_)
 try dsimp only
 refine wpAny_bind (wpAny_setField ho hd (by simp) ?_);refine wpAny_pure ⟨_,rfl,wpAny_pure (hQ _ ?_ (W6.update ..))⟩;exact⟨_,Heap.get?_update_self _ ho (Obj.isFreed_of_fields (Obj.data_mapFields hd _)),(Obj.cls_mapFields ..).trans hc,by
   rw[Obj.data_mapFields hd];simp⟩
theorem nO {it:Addr}{x:Str}{t:Tok}{Q:Option Value->Shared->Prop}(hh:A.handled=none)(hit:kY s.heap it x t (-1))(hQ:∀ h',Heap.ExtBut it s.heap h'->Q none { s with heap:=h'}):wpAny (model prog w) A (pyNext (.ref it)) Q E s:=by
 obtain⟨o,ho,hc,hd⟩:=id hit;unfold pyNext;refine wpAny_bind (wpAny_attempt (wpAny_callSpecial?_slot (name:=Str.ofString "__next__") hit.typeIs d5
   (wpAny_call_entry d5 hit.typeIs jG ?_ (jg _))))
 unfold Builtin.«reversed.__next__»;refine wpAny_bind (wpAny_of_eq (a:=(Value.ref it,[])) rfl ?_)
 try dsimp only
 refine wpAny_bind (wpAny_field ho hd (x:=.str x t) rfl ?_);refine wpAny_bind (wpAny_field ho hd (x:=rawInt (-1)) rfl ?_);show wpAny _ _ (if (-1:Int) < 0 then _ else _) _ _ s;rw[if_pos (by decide)];refine wpAny_bind (wpAny_rule ?_);refine wpAny_bind (wpAny_bind (wpAny_setField ho hd (by simp) ?_));have NI:=Heap.get?_update_self (Obj.mapFields (·.setIfInBounds 1 (rawInt (-1)))) ho (Obj.isFreed_of_fields (Obj.data_mapFields hd _));refine wpAny_setField NI (Obj.data_mapFields hd _) (by simp) ?_;refine wpAny_bind ?_;show wpAny _ _ (newExc (.type "StopIteration") [] >>= _) _ _ _;refine wpAny_bind ?_;simp only[newExc,newTuple];refine wpAny_bind (wpAny_newObj_type ?_ (by size_fits));refine wpAny_bind (m:=firstArgMember _ _) (wpAny_of_eq (a:=Value.none) (by first | rfl | (simp only[firstArgMember];rfl)) ?_);refine wpAny_newObj_type ?_ (by size_fits);simp only[raiseNew];refine wpAny_bind (wpAny_handled ?_)
 first | rw[show A.in1.handled=none from hh] | rw[hh]
 refine wpAny_bind (wpAny_pure (wpAny_throw ?_));refine wpAny_bind (wpAny_isInstance (T:="StopIteration") (b:=true) ⟨_,VJ _ rfl,rfl⟩ isSubtype_stop ?_);exact wpAny_pure (hQ _ (Heap.ExtBut.push (Heap.ExtBut.push (fun b o ne e=>((W6.update ..).2 b ne).trans (((W6.update ..).2 b ne).trans e)) _) _))
theorem nB {it:Addr}{x:Str}{t:Tok}{i:Int}{Q:Value->Shared->Prop}(hit:kY s.heap it x t i)(h:Q (.ref it) s):wpAny (model prog w) A (pyIter (.ref it)) Q E s:=by
 refine wpAny_pyIter_slot hit.typeIs kL (wpAny_call_entry kL hit.typeIs pN ?_ (nM _));show wpAny _ _ (ret (.ref it)) _ _ s;exact wpAny_pure ⟨_,rfl,"reversed",_,hit.typeIs,d5.lookup,h⟩
end
noncomputable def Mm (x:Str):It:=
 ⟨fun i H=>i < x.length,fun i H v H'=>H'=H/\∃ c,x.cps[x.length - 1 - i]?=some c/\v=.str ⟨#[c]⟩,fun i H=>i=x.length⟩
theorem zo {P:Program}{w:World}{K:W.Frag}{tg:Expr}(x:Str)(t:Tok)(it:Addr)(sI:¬ (x.length:Int) >= 2 ^ 63):Turn P w K tg (Mm x) [it] it (fun i h=>kY h it x t ((x.length:Int) - 1 - i)) where
 mem:=by simp
 obj:=fun i h st b hb=>by
   have e:b=it:=by simpa using hb
   subst e;obtain⟨o,e,c,d⟩:=st;exact⟨o,e,fun v z=>by rw[d] at z;cases z⟩
 keep:=fun i h h' st k=>let ⟨o,e,c,d⟩:=st;⟨o,k it (by simp) o e,c,d⟩
 item:=by
   intro X hP hw hK hc i pins s σ H E I hf st hg;subst hP hw hK;have hg:i < x.length:=hg;obtain⟨f0,f1,f2,f3,f4,f5⟩:=hf it (by simp);have e1:(x.length:Int) - 1 - i=((x.length - 1 - i:Nat):Int):=by omega
   rw[e1] at st;have b5:x.length - 1 - i < x.cps.size:=by show _ < x.length;omega
   refine mI (c:=x.cps[x.length - 1 - i]) st (W2 b5) sI fun h' fL sb=>?_
   have I1:L2.Inv X pins σ H { s with heap:=h',toks:=s.toks+1+1}:=I.turned (t':=s.toks+1+1) (fun b o hb e=>(sb.2 b hb).trans e) f0 f1 f3 f4 f5;have e2:((x.length - 1 - i:Nat):Int) - 1=(x.length:Int) - 1 - ((i+1:Nat):Int):=by omega
   rw[e2] at fL;obtain⟨o,e,c,d⟩:=id fL;exact⟨_,rfl,qJ (s:={ s with heap:=h',toks:=s.toks+1+1}) e c d (by decide) ⟨.str ⟨#[x.cps[x.length - 1 - i]]⟩,H,I1,⟨_,rfl⟩,⟨rfl,_,W2 b5,rfl⟩,fL,fun b hb=>(hf b hb).1⟩⟩
 done:=by
   intro X hP hw hK hc i pins s σ H E I hf st hg;subst hP hw hK;have hg:i=x.length:=hg;subst hg;obtain⟨f0,f1,f2,f3,f4,f5⟩:=hf it (by simp);have e1:(x.length:Int) - 1 - (x.length:Nat)=-1:=by omega
   rw[e1] at st;exact nO (I.ok.hd hc) st fun h' eb=>⟨rfl,I.turned (t':=s.toks) (fun b o hb e=>eb b o hb e) f0 f1 f3 f4 f5⟩
 self:=fun _ _ _ _ _ st h=>nB st h
theorem BE:bootBuiltins "reversed"=some (.type "reversed"):=by decide +kernel
section
variable {X:Cx}{G:Gr}{dl:List Slot}{a:Expr}{x:Str}{p pos:Pos}
def F7 (ta:TA):TI:=fun σ H R=>ta σ H fun vs H1=>∃ x,vs=[.str x]/\(¬ (x.length:Int) >= 2 ^ 63)/\R (Mm x) H1
theorem Er {tg:Expr}{ta:TA}(hm:X.mg "reversed"=none)(ha:PA X [a] ta)(hg:autoParam (Gl X "reversed") jp)(hs:autoParam (starEach [a] X.env=[(false,eval a X.env)]) jp):PI X tg (.Call (.Name "reversed" p) [a] [] pos) (F7 ta):=by
 intro pins s σ H R I h;refine Call_ (ju I hg hm BE (PyProof.Rows.callWith_type1 (bF (ha pos pins s σ H _ I h) fun us s1 ⟨vs,H1,I1,r1,q1⟩=>?_) hs rfl));obtain⟨x,e,sI,q⟩:=q1;subst e;cases r1 with
 | cons r rr=>
   cases rr;obtain⟨t,rfl⟩:=(show ∃ t,_=Value.str x t from r)
   refine zm sI (nB (x:=x) (t:=t) (i:=(x.length:Int) - 1) ⟨_,VJ _ rfl,rfl,rfl⟩ ?_);refine⟨s1.heap.objs.size,[s1.heap.objs.size],_,_,H1,rfl,I1.kept (t':=s1.toks+1+1) fun b o e=>Te _ e,zo x t _ sI,?_,fun b hb=>?_,q⟩
   . have e:((x.length:Int) - 1)=(x.length:Int) - 1 - ((0:Nat):Int):=by omega
     rw[<- e];exact⟨_,VJ _ rfl,rfl,rfl⟩
   . have e:b=s1.heap.objs.size:=by simpa using hb
     subst e;exact I1.nG (O0 _) (I1.aK.fresh (O0 _))
theorem zp (hl:x.length<=1000000):lG X G dl (signs x).reverse (F7 (Nc X.K G dl [.str x])):=fun st H R zq=>xa zq fun Hf S k=>fun vs Hf1 H1 g1 r1=>by
 cases r1 with
 | cons r t=>
   cases t;cases r;have RI:=j6 x;refine⟨x,rfl,by omega,k _ Hf1 H1 g1 fun bw H2 s1 s2 i=>⟨fun z hz=>?_,fun hi=>?_⟩⟩
   . have hi:i < (signs x).length:=by
       have:=(Vx.mp hz).1;simpa using this
     rw[List.getElem?_reverse hi,signs_get,RI] at hz;refine⟨by show i < x.length;omega,fun v H3 hy=>?_⟩;obtain⟨e1,c,e2,e3⟩:=hy;subst e1 e3;rw[e2] at hz;cases hz;exact⟨bw,.refl s2,.str _⟩
   . show i=x.length
     rw[hi,Xe,RI]
theorem ri {K:W.Frag}{H:Hp}:∀ {ds:List Dt} {d:Dt} {vs:List V},bu K H vs (ds ++ [d])->∃ ws v,vs=ws ++ [v]/\bu K H ws ds/\Rep K H v d
 | [],d,_,.cons r .nil=>⟨[],_,rfl,.nil,r⟩
 | e::ds,d,_,.cons r t=>by
   obtain⟨ws,v,e1,r1,r2⟩:=ri t;exact⟨_::ws,v,by rw[e1];rfl,.cons r r1,r2⟩
variable {E:XK}{d:Dt}{ds:List Dt}{y z:Str}{px pn apos a7:Pos}
theorem IT (m n:Nat)(hN:X.N.Nodup)(hd:dl[n]?=some (.own (.lst (ds ++ [d]))))(hm:autoParam (X.N[m]?=some y) jp)(hy:autoParam (Loc X.env.scope y) zD)(OS:autoParam (X.N[n]?=some z) jp)(hv:autoParam (qI X.env.scope z) jN)(hU:autoParam ((z == ("__debug__":Str))=false) jM)(il:autoParam ((z == ("__classdict__":Str))=false) jM)(gb:autoParam (attributeBase (.Name z pn) "pop" X.env (eval (.Name z pn) X.env)=eval (.Name z pn) X.env) jp)(gc:autoParam ((apos.endLine == a7.line)=true) jp)(hs:autoParam (swapsWith (.Call (.Attribute (.Name z pn) "pop" apos) [] [] a7) (some (.Name y px)) pos.line X.env=pure false) jp)(hf:autoParam (X.fn y=true\/X.env.scope.names.lookup y=some .local) jR):ES X G E dl (.Assign [.Name y px] (.Call (.Attribute (.Name z pn) "pop" apos) [] [] a7) pos) (.nx ((dl.set n (.own (.lst ds))).set m (.val d))):=
 qT (vI hN hm hy (Am PySem.F.plainAttrs_list PySem.F.slot_list_pop PySem.F.type_list_pop Hn (pz (G:=G) (p:=pn) n hd OS hv hU il) gb gc) hs hf) fun D st H zq=>Nf zq fun Hf zq=>have S:=zq.1;have k:=zq.2;by
   obtain⟨q,z1,z2,z3,vs,hq,rp⟩:=S.own n _ hd;obtain⟨ws,v,ev,r1,r2⟩:=ri rp;subst ev;refine⟨Hf,q,S,z1,z2,⟨_,hq,rp⟩,.inl ⟨rfl,_,.of hq⟩,q,_,v,rfl,rfl,hq,by simp,k _ Hf _ (ay.refl _) ((S.Aw hd z1 (w':=.lst ds) ⟨_,ah,?_⟩).set r2)⟩;rw[List.dropLast_concat];exact r1
end
section
variable {ns:List Int}
theorem jY:∀ {ns:List Int} {aE:List Value},Vals (ns.map V.int) aE->IntsAre aE ns
 | [],_,r=>by cases r;exact .nil
 | n::ns,_,r=>by
   cases r with
   | cons h t=>obtain⟨tk,rfl⟩:=h;exact .cons _ tk (jY t)
end
section
variable {X:Cx}{G:Gr}{dl:List Slot}{a b e o:Expr}{pos:Pos}{k:Str}
theorem Es {kds:List (Key×Int)}(hu:X.A.units+64 < cLine)(ha:EE X G dl a (.eV (dI kds)))(hb:EE X G dl b (.eV (dI kds))):EE X G dl (.Compare a [.Eq] [b] pos) (.bl true):=
 rX (Eo hu) (fun v w Hf H Q s r1 r2 k=>by
   cases r1 with
   | @eV q ob vs _ hq rp=>cases r2 with
     | @eV q' Kc U1 _ Aj PU=>
       rw[uT rp] at hq;rw[uT PU] at Aj;exact⟨q,q',_,rfl,rfl,.inr (.inl ⟨ob,s _ _ hq⟩),.inr (.inl ⟨Kc,s _ _ Aj⟩),allI kds,k _ Hf H (.refl s) (.bl _)⟩) (ip _) ha hb
def Et:R2:=fun x y H Q=>∃ a b kvs,x=.ref a/\y=.ref b/\Rd H a (.dK kvs)/\Rd H b (.dK kvs)/\Eb kvs/\Q (.bl false) H
theorem Eu (hu:X.A.units+64 < cLine):kS X (compareOp .NotEq) Et:=by
 intro pins s st H x y v w Q I rx ry ⟨a,b,kvs,e1,e2,h1,h2,hi,q⟩;subst e1 e2;cases rx;cases ry;obtain⟨_,l1,us,r1,d1⟩:=iD I.aK h1;obtain⟨_,l2,vs,r2,d2⟩:=iD I.aK h2;exact wpAny_richCompare_same_room (op:=.NotEq) d1.typeIs d2.typeIs PySem.F.slot_dict_ne (call_meetsIn PySem.F.slot_dict_ne d1.typeIs PySem.F.entry_dict_ne (PySem.F.args_dict_ne_2 _ _) (S:=fun A R s'=>s'=s/\R (.ok (.ret (.bool false))) s) (.of_wp fun A R s' h=>by
   obtain⟨rfl,h⟩:=h;exact Bo l1 l2 d1 d2 (pH hi r1 r2) h) ⟨rfl,(fun z=>nomatch z),.bl false,H,I,rfl,q⟩) (by omega)
theorem Ew {kds:List (Key×Int)}(hu:X.A.units+64 < cLine)(ha:EE X G dl a (.eV (dI kds)))(hb:EE X G dl b (.eV (dI kds))):EB X G dl (.Compare a [.NotEq] [b] pos) false:=
 iW (Eu hu) (fun v w Hf H Q s r1 r2 k=>by
   cases r1 with
   | @eV q ob vs _ hq rp=>cases r2 with
     | @eV q' Kc U1 _ Aj PU=>
       rw[uT rp] at hq;rw[uT PU] at Aj;exact⟨q,q',_,rfl,rfl,.inr (.inl ⟨ob,s _ _ hq⟩),.inr (.inl ⟨Kc,s _ _ Aj⟩),allI kds,k _ Hf H (.refl s) (.bl _)⟩) (ip _) ha hb
theorem wH:gD X (.type "dict") (fun xs H Q=>∃ d kvs,xs=[.ref d]/\Rd H d (.dK kvs)/\∀ l,H l=none->Q (.ref l) (upd H l (.dK kvs))):=by
 intro pins s σ H xs us Q I r h;obtain⟨d,kvs,rfl,hq,q⟩:=h;obtain⟨u,rfl,rx⟩:=vals1 r;cases rx;obtain⟨hz,lo,vs,kv,hD⟩:=iD I.aK hq;have hl:=kX kv;refine kt_call_dict lo hD (by omega) fun h' hm hs=>?_
 refine⟨.ref s.heap.objs.size,_,I.laid (t':=s.toks) (fun b o e=>(hs.2 b (V9 (VI e))).trans (Te _ e)) (O0 _) (show aD X.prog X.w _ h' _ (.dK kvs) from⟨hz,?_,vs,kv,hm⟩),rfl,q _ (I.aK.fresh (O0 _))⟩;exact beq_eq_false_iff_ne.mpr (Xb I.big)
end
noncomputable def zS (fs:List (Str×FD)):List (Str×Dt):=fs.map fun kd=>(kd.1,Nz kd.2)
theorem BF {K:W.Frag}{H:Hp}:∀ {fv:List (Str×V)} {fs:List (Str×FD)},aU K H fv (zS fs)->C0 H fv fs
 | _,[],.nil=>.nil
 | _,(k,d)::fd,.cons h t=>.cons (F1 h) (BF t)
section
variable {X:Cx}{G:Gr}{dl:List Slot}{e:Expr}{C:Addr}{fs:List (Str×FD)}
theorem IU (h:EO X G dl e (.obj C (zS fs))):EE X G dl e (.ml (.obj C fs)):=by
 intro pins s st H Q I ⟨Hf,S,kk⟩;refine bF (h pins s st H (fun v H'=>∃ p aA,v=.ref p/\aN Hf H aA H'/\H p=none/\aA p=none/\dZ X.K aA H' p (.obj C (zS fs))) I ⟨Hf,S,fun p aA H' g n n' r=>⟨p,aA,rfl,g,n,n',r⟩⟩) fun u s1 ⟨v,H',I1,rv,q,aA,ev,g,n,n',dx,fv,hq,rp⟩=>?_
 subst ev;obtain⟨hd,hz,ne,ho,mA,hr⟩:=(show aD X.prog X.w H' s1.heap q (.ins C dx fv) from I1.aK q _ hq)
 let ob:=W.instObj C dx;have I2:L2.Inv X pins st (upd H' q (.kx ob (.ins C dx fv))) s1:=jX (h':=s1.heap) (t':=s1.toks) I1 (by rw[hq];trivial) ⟨rfl,fun _ _=>rfl⟩ ⟨ob,ho⟩ ⟨ho,⟨by rw[ag ne];exact hd,hz,ne,ho,mA,hr⟩⟩;have sm:ay aA (upd aA q (.kx ob (.ins C dx fv))):=bj n';refine⟨.ref q,_,I2,rv,kk _ (upd aA q (.kx ob (.ins C dx fv))) _ ⟨fun b o hb=>?_,g.aY.trans sm,c8 g.sub,fun b o hb=>?_⟩ (.ml (.obj ah ((BF rp).st fun b u e _=>sm b u e)))⟩
 . rw[ag (ar hb n)];exact g.big _ _ hb
 . by_cases e:b=q
   . subst e;exact .inr (.inl n)
   . rw[ag e] at hb;exact g.new b o hb
theorem Ex {zs:List Int}:HU X G dl zs.length (fun k=>(zs.map Dt.int).getD k .b0) (z9 X.K (tD X.K G dl (.jq zs))):=fun st H R zq=>xa zq fun Hf S k=>fun v Hf1 H1 g1 r1=>by
 cases r1 with
 | @jq q _ hq=>
   refine⟨q,rfl,⟨_,g1.sub.seq hq⟩,k _ Hf1 H1 g1 fun bw H2 g2 i=>⟨fun hi=>?_,fun hi=>⟨_,g2.big.seq (g1.sub.seq hq),by rw[ou];omega⟩⟩⟩;have hs:jm X.K H2 q (zs.map V.int):=g2.big.seq (g1.sub.seq hq);have z1:(zs.map V.int)[i]?=some (.int zs[i]):=by rw[VB,Bn hi];rfl
   refine⟨⟨_,_,hs,z1⟩,fun v H3 hy=>?_⟩;obtain⟨e1,e2⟩:=hy;have e2:=e2 _ hs;rw[z1] at e2;cases e2;refine⟨e1,?_⟩;have e3:(zs.map Dt.int).getD i .b0=.int zs[i]:=by rw[Sl,VB,Bn hi];rfl
   show Rep _ _ _ ((zs.map Dt.int).getD i .b0);rw[e3];exact .int _
theorem uZ {x:Str}{p pos:Pos}(M:HD X.K C)(hm:X.mg x=some (.ref C))(hg:autoParam (Gl X x) jp)(hU:autoParam ((x == ("__debug__":Str))=false) jM):EE X G dl (.Call (.Name x p) [] [] pos) (.ml (.obj C [])):=by
 refine IU (fs:=[]) ?_;intro pins s st H Q I ⟨Hf,S,k⟩;refine wpAny_Call_Name_kw (oe I hg hm ?_ hU);refine W.callWith_K0 I.iT M.kp (yP M I fun x dx hx Lo ne=>?_);have zP:(upd H dx (.own x)) x=none:=by rw[ag (Ne.symm ne)];exact hx
 have g1:aN Hf H Hf (upd H dx (.own x)):=.cB S.sub Lo;have g2:aN Hf (upd H dx (.own x)) Hf (upd (upd H dx (.own x)) x (.ins C dx [])):=.cB g1.sub zP;exact k _ _ _ (g1.trans g2) hx (S.sub.free hx) ⟨dx,[],ah,.nil⟩
end
noncomputable def mJ (N:List Str)(kds:List (Key×Dt)):List Slot:=.own (.b6 kds)::Wg (N.length - 1) .cz
theorem wI {K:W.Frag}{N:List Str}{Hf H:Hp}{a:Addr}{kvs:List (Key×V)}{kds:List (Key×Dt)}(s:ay Hf H)(n:H a=none)(r:bH K Hf kvs kds):cL K ⟨Hf,H⟩ (start N [.ref a]) Hf (upd H a (.dK kvs)) (mJ N kds):=by
 have es:start N [V.ref a]=some (.ref a)::Wg (N.length - 1) none:=by
   unfold L2.start;simp
 have l6:∀ (i:Nat) o,(mJ N kds)[i+1]?≠some (.own o):=fun i o h=>by
   unfold mJ at h;rw[Wx,Ww] at h
   split at h <;> cases h
 rw[es];refine⟨.cB s n,by unfold mJ;simp,fun i d h=>?_,fun i o h=>?_,fun i j o o' b h h' _ _=>?_⟩
 . cases i with
   | zero=>cases h
   | succ i=>
     unfold mJ at h;rw[Wx,Ww] at h
     split at h <;> cases h
 . cases i with
   | zero=>
     cases h;exact⟨a,rfl,s.free n,n,kvs,ah,r⟩
   | succ i=>exact absurd h (l6 i o)
 . cases i with
   | zero=>cases j with
     | zero=>rfl
     | succ j=>exact absurd h' (l6 j _)
   | succ i=>exact absurd h (l6 i _)
def RJ (K:W.Frag)(R:List (Key×Dt)->Res->Prop):Sp:=fun vs H Q E=>∃ Hf H0 a kvs kds r,vs=[.ref a]/\H=upd H0 a (.dK kvs)/\H0 a=none/\ay Hf H0/\bH K Hf kvs kds/\R kds r/\HC K Hf H0 Q E r
section
variable {P:Program}{w:World}{K:W.Frag}{mg:Str->Option Value}{base:Heap}{CX:kT}{x qual:Str}{st:Stmt}{f:Addr}{fd:FuncData}{N ps:List Str}{k:Nat}{R:List (Key×Dt)->Res->Prop}
theorem U2 (F:wb K x qual st f fd)(S:au N ps (af st))(hn:ps.length=1)(jx:∀ (a6:Value) (A:Around) (outer:List Env) (s:Shared) (H:Hp) (E:XK) (G:Gr) (kds:List (Key×Dt)) (r:Res),cA k (A.deeper (envOfC qual (af st) s.heap.objs.size f a6))->R kds r->∃ o,Comes o r/\iV (mh CX P w K mg base N qual (af st) f a6 A outer s H E) G E (mJ N kds) (ax st) o):gu P w K mg base CX (k+1) f fd ps (RJ K R):=by
 obtain⟨oc,od,dV,kV,doc,pm,an,a6,ct,oU,rfl,lk,il⟩:=F.ex;refine xk lk il S (fun vs H Q E ⟨Hf,H0,a,kvs,kds,r,e,_⟩=>by rw[e,hn];rfl) fun A outer s H vs Q E hr ⟨Hf,H0,a,kvs,kds,r,e1,e2,hz,sm,rp,hR,hk⟩=>?_
 subst e1 e2;obtain⟨o,hc,hb⟩:=jx a6 A outer s _ E ⟨Hf,H0⟩ kds r hr hR;exact⟨_,hb,Hf,wI sm hz rp,hc.ends hk⟩
end
structure PV (P:Program)(w:World)(K:W.Frag)(mg:Str->Option Value)(base:Heap)(CX:kT)(k:Nat)(x:Str)(R:List (Key×Dt)->Res->Prop):Prop where
 ex:∃ f fd ps,gu P w K mg base CX k f fd ps (RJ K R)/\mg x=some (.ref f)/\W.keepIn K (.ref f)=true/\Binds K fd ps []
section
variable {X:Cx}{G:Gr}{E:XK}{dl:List Slot}{e:Expr}{kds:List (Key×Dt)}{o:Own}{pos p p':Pos}{x:Str}{CX:kT}{k k':Nat}{R:List (Key×Dt)->Res->Prop}
theorem IV (F:PV X.prog X.w X.K X.mg X.base CX k x R)(nx:v8 CX)(hr:cA k' X.A)(ha:EO X G dl e (.b6 kds))(h:R kds (.own o))(qW:autoParam (k<=k') jM)(hg:autoParam (Gl X x) jp)(hU:autoParam ((x == ("__debug__":Str))=false) jM)(he:autoParam (starEach [e] X.env=(false,eval e X.env)::starEach [] X.env) jp)(jn:autoParam ((backTo pos (starEach [] X.env)).any (·.1)=false) jp):EO X G dl (.Call (.Name x p) [e] [] pos) o:=by
 obtain⟨f,fd,ps,Fo,hm,hk,hb⟩:=F.ex;refine fG (rL (dvs:=[]) (E:=E0) Fo (hr.mono qW) hg hm hk hb .nil nx.passes (fT ha iq he) hU he jn) fun st H Q zq=>xa zq fun Hf S kk=>fun q Hf1 H1 g1 n1 n2 r1=>?_
 obtain⟨kvs,hq,rp⟩:=r1;have fe:H1=upd (LG H1 q) q (.dK kvs):=by
   funext b
   by_cases z:b=q
   . rw[z,ah,hq]
   . rw[ag z,Bj z]
 have sm:ay Hf1 (LG H1 q):=fun b u hb=>by
   have ne:b≠q:=fun z=>by rw[z,n2] at hb;cases hb
   rw[Bj ne];exact g1.sub _ _ hb
 have up:∀ b u,H b=some u->LG H1 q b=some u:=fun b u hb=>by
   have ne:b≠q:=fun z=>by rw[z,n1] at hb;cases hb
   rw[Bj ne];exact g1.big _ _ hb
 refine⟨Hf1,LG H1 q,q,kvs,kds,.own o,rfl,fe,if_pos rfl,sm,rp,h,fun p2 bw H2 g2 m1 m2 r2=>?_⟩;refine kk p2 bw H2 ⟨fun b u hb=>g2.big _ _ (up b u hb),g1.aY.trans g2.aY,g2.sub,fun b u hb=>?_⟩ ?_ m2 r2
 . rcases g2.new b u hb with⟨u',h1⟩ | h1 | h1
   . exact g1.new b u' h1 |>.elim .inl fun z=>z.elim (fun z=>.inr (.inl z)) fun z=>by
       have:=g2.aY _ _ h1;rw[hb] at this;cases this;exact .inr (.inr z)
   . refine .inr (.inl ?_)
     cases e:H b with
     | none=>rfl
     | some u'=>rw[up b u' e] at h1;cases h1
   . exact .inr (.inr h1)
 . cases e:H p2 with
   | none=>rfl
   | some u'=>rw[up p2 u' e] at m1;cases m1
theorem BG (n:Nat)(hm:X.mg "list"=none)(hc:X.calm=true)(hd:autoParam (dl[n]?=some (.own (.b6 kds))) jp)(hN:autoParam (X.N[n]?=some x) jp)(hv:autoParam (qI X.env.scope x) jN)(hU:autoParam ((x == ("__debug__":Str))=false) jM)(il:autoParam ((x == ("__classdict__":Str))=false) jM)(hg:autoParam (Gl X "list") jp)(he:autoParam (starEach [.Name x p'] X.env=[(false,eval (.Name x p') X.env)]) jp):EO X G dl (.Call (.Name "list" p) [.Name x p'] [] pos) (.lst (kds.map fun kd=>kD kd.1)):=
 fG (fM (pE hc) hg hm boot_list (fT (pz (G:=G) (p:=p') n hd hN hv hU il) iq he) (he:=he)) fun st H Q zq=>Nf zq fun Hf zq=>have S:=zq.1;have k:=zq.2;by
   obtain⟨q,z1,z2,z3,kvs,hq,rp⟩:=S.own n _ hd;exact⟨Hf,q,S,z1,z2,⟨kvs,hq,rp⟩,q,kvs,rfl,hq,fun l hl=>k l Hf _ (.cB S.sub hl) hl (S.sub.free hl) ⟨_,ah,j7 rp⟩⟩
end
section
variable {prog:Program}{w:World}{A:Around}{E:Value->Shared->Prop}{s:Shared}
theorem kB {r:Addr}{n:Int}{t u v:Tok}{Q:Value->Shared->Prop}(hr:IsRange s.heap r 0 n 1 t u v)(h0:0<=n)(h1:n < 2 ^ 30)(h:Q (.ref s.heap.objs.size) { s with heap:=s.heap.push { cls:=.type "range_iterator",data:=.fields #[rawInt (n - 1),rawInt n,rawInt (-1)]}}):wpAny (model prog w) A (call (.builtin "range.__reversed__") [.ref r]) Q E s:=by
 have hT:s.TypeIs (.ref r) "range":=⟨_,hr,rfl⟩
 refine wpAny_call_entry F.slot_range_reversed hT F.entry_range_reversed ?_ (F.args_range_reversed_1 _);unfold Builtin.«range.__reversed__»;refine wpAny_bind (wpAny_of_eq (a:=Value.ref r) rfl ?_);have hf:∀ Q1:Int×Int×Int->Shared->Prop,Q1 ((0:Int),n,(1:Int)) s->wpAny (model prog w) A.in1 (Builtin.Range.rangeFields (.ref r)) Q1 E s:=fun Q1 hQ=>by
   unfold Builtin.Range.rangeFields;refine wpAny_bind (wpAny_field hr rfl (x:=.int 0 t) rfl ?_);refine wpAny_bind (wpAny_of_eq (a:=some (0:Int)) rfl ?_);refine wpAny_bind (wpAny_field hr rfl (x:=.int n u) rfl ?_);refine wpAny_bind (wpAny_of_eq (a:=some n) rfl ?_);refine wpAny_bind (wpAny_field hr rfl (x:=.int 1 v) rfl ?_);refine wpAny_bind (wpAny_of_eq (a:=some (1:Int)) rfl ?_);exact wpAny_pure hQ
 refine wpAny_bind (hf _ ?_);have es:Builtin.Range.rangeSize 0 n 1=n:=by
   unfold Builtin.Range.rangeSize;rw[if_pos (by decide)];by_cases z:0 < n
   . rw[if_pos z,Int.ediv_one];omega
   . rw[if_neg z];omega
 have fl:∀ z:Int,-(2 ^ 31)<=z->z < 2 ^ 31->Builtin.Range.rangeFitsLong z=true:=fun z a b=>by
   unfold Builtin.Range.rangeFitsLong;simp only[Wn,decide_eq_true_eq];exact⟨by omega,by omega⟩
 dsimp only;rw[es,fl 0 (by decide) (by decide),fl n (by omega) (by omega),fl 1 (by decide) (by decide),fl (-1) (by decide) (by decide),fl (0 - 1) (by decide) (by decide)];simp only[Bool.and_self,Bool.not_true,WH,if_false,if_true];rw[show(0:Int)+(n - 1) * 1=n - 1 by omega];exact wpAny_bind (wpAny_newObj_type (wpAny_pure ⟨_,rfl,h⟩))
theorem kC {r:Addr}{n:Int}{t u v:Tok}{Q₁:Value->Shared->Prop}(hr:IsRange s.heap r 0 n 1 t u v)(h0:0<=n)(h1:n < 2 ^ 30)(h:Q₁ (.ref s.heap.objs.size) { s with heap:=s.heap.push { cls:=.type "range_iterator",data:=.fields #[rawInt (n - 1),rawInt n,rawInt (-1)]}}):codeAny (model prog w) A (.call (.builtin "reversed.__new__") ⟨[.type "reversed",.ref r],[]⟩) (wants Q₁ E) s:=by
 have hT:s.TypeIs (.ref r) "range":=⟨_,hr,rfl⟩
 refine codeAny_of_tree ?_;show wpAny _ A.in1 (do checkBuiltinCall "reversed.__new__" ⟨[.type "reversed",.ref r],[]⟩;again (.builtin "reversed.__new__" ⟨[.type "reversed",.ref r],[]⟩)) _ _ s;refine wpAny_bind (wpAny_of_eq (F.newCall_reversed_1 _) (wpAny_pure ⟨plainId_quiet F.plain_reversed_new _,codeAny_builtin F.entry_reversed_new ?_⟩));rw[Around.under_plainId F.plain_reversed_new _];unfold Builtin.«reversed.__new__»;refine wpAny_bind (wpAny_of_eq (newClass_reversed _) ?_)
 try dsimp only
 refine wpAny_bind (wpAny_of_eq (a:=()) (by first | rfl | kernel_rfl) ?_);refine wpAny_bind (wpAny_of_eq (a:=()) (by first | rfl | kernel_rfl) ?_)
 try dsimp only
 refine wpAny_bind (wpAny_specialOf hT F.slot_range_reversed.lookup ?_)
 try dsimp only
 refine wpAny_bind (wpAny_of_eq (F.slot_range_reversed.bind _) ?_)
 try dsimp only
 first
 | rw[if_neg (show ¬ ((Value.builtin "range.__reversed__" == Value.none)=true) from V8)]
 | (show wpAny _ _ (if (Value.builtin "range.__reversed__" == Value.none)=true then _ else _) _ _ _;rw[if_neg (show ¬ ((Value.builtin "range.__reversed__" == Value.none)=true) from V8)])
 refine wpAny_bind (wpAny_rule ?_);refine wpAny_bind (m:=runValue (.call (.builtin "range.__reversed__") ⟨[.ref r],[]⟩)) (show wpAny _ _ (call (.builtin "range.__reversed__") [.ref r]) _ _ _ from kB hr h0 h1 ?_)
 first
 | exact wpAny_pure h
 | exact wpAny_bind (wpAny_pure (wpAny_pure h))
theorem nP:isSubtype (.type "range_iterator") (.type "reversed")=pure false:=by rw[isSubtype_type];kernel_rfl
theorem kE {r:Addr}{n:Int}{t u v:Tok}{Q:Value->Shared->Prop}(hr:IsRange s.heap r 0 n 1 t u v)(h0:0<=n)(h1:n < 2 ^ 30)(h:Q (.ref s.heap.objs.size) { s with heap:=s.heap.push { cls:=.type "range_iterator",data:=.fields #[rawInt (n - 1),rawInt n,rawInt (-1)]}}):wpAny (model prog w) A (call (.type "reversed") [.ref r]) Q E s:=by
 refine callType_other (U:="range_iterator") (Q₁:=fun obj s₁=>obj=.ref s.heap.objs.size/\s₁={ s with heap:=s.heap.push { cls:=.type "range_iterator",data:=.fields #[rawInt (n - 1),rawInt n,rawInt (-1)]}}) (by decide +kernel) F.create_reversed ⟨_,_,F.mro_reversed⟩ F.made_reversed nP (F.typeCall_reversed_1 _) (kC hr h0 h1 ⟨rfl,rfl⟩) ?_
 rintro obj s₁ ⟨rfl,rfl⟩
 exact⟨⟨_,VJ _ rfl,rfl⟩,h⟩
end
section
variable {X:Cx}{G:Gr}{dl:List Slot}{a:Expr}{n:Int}{p p2 pos wC:Pos}{tg:Expr}
theorem u0:gD X (.type "range") (fun xs H Q=>∃ n:Int,xs=[.int n]/\∀ l,H l=none->Q (.ref l) (upd H l (.ext fun h=>∃ t u v,IsRange h l 0 n 1 t u v))):=by
 intro pins s σ H xs us Q I r h;obtain⟨n,rfl,q⟩:=h;obtain⟨u,rfl,rx⟩:=vals1 r;obtain⟨tk,rfl⟩:=rx;refine call_range_1 ?_;refine⟨.ref s.heap.objs.size,_,I.laid (a:=s.heap.objs.size) (t':=s.toks+1+1) (o:=.ext fun h=>∃ t u v,IsRange h s.heap.objs.size 0 n 1 t u v) (fun b o e=>Te _ e) (O0 _) ?_,rfl,q _ (I.aK.fresh (O0 _))⟩;exact⟨⟨_,_,_,VJ _ rfl⟩,⟨_,VJ _ rfl⟩,fun h1 h2 ⟨t,u,v,z⟩ kk=>⟨t,u,v,kk _ z⟩⟩
def Mn (ta:TA):TI:=fun σ H R=>ta σ H fun vs H1=>∃ (r:Addr) (n:Int) (φ:Heap->Prop),vs=[.ref r]/\H1 r=some (.ext φ)/\(∀ h,φ h->∃ t u v,IsRange h r 0 n 1 t u v)/\(0<=n/\n < 2 ^ 30)/\R (zb (n - 1) n.toNat) H1
theorem Ey {ta:TA}(hg:Gl X "reversed")(hm:X.mg "reversed"=none)(ha:PA X [a] ta)(hs:autoParam (starEach [a] X.env=[(false,eval a X.env)]) jp):PI X tg (.Call (.Name "reversed" p) [a] [] pos) (Mn ta):=by
 intro pins s σ H R I h;refine Call_ (ju I hg hm boot_reversed (PyProof.Rows.callWith_type1 (bF (ha pos pins s σ H _ I h) fun us s1 ⟨vs,H1,I1,r1,q1⟩=>?_) hs rfl));obtain⟨r,n,φ,e,hr,hφ,⟨h0,h1⟩,q⟩:=q1;subst e;cases r1 with
 | cons r' rr=>
   cases rr;cases r';obtain⟨t,u,v,hR⟩:=hφ _ (I1.aK r _ hr).1;refine kE hR h0 h1 (wpAny_pyIter_rangeiter (x:=n - 1) (left:=n) (step:=-1) (VJ _ rfl) ?_);refine⟨s1.heap.objs.size,[s1.heap.objs.size],_,_,H1,rfl,I1.kept (t':=s1.toks) fun b o e=>Te _ e,uR _ (n - 1) n.toNat,?_,fun b hb=>?_,q⟩
   . have e1:n - 1+((0:Nat):Int) * (-1)=n - 1:=by simp
     have e2:((n.toNat:Nat):Int) - ((0:Nat):Int)=n:=by omega
     show IsRangeIter _ _ (n - 1+((0:Nat):Int) * (-1)) (((n.toNat:Nat):Int) - ((0:Nat):Int)) (-1);rw[e1,e2];exact VJ _ rfl
   . have e:b=s1.heap.objs.size:=by simpa using hb
     subst e;exact I1.nG (O0 _) (I1.aK.fresh (O0 _))
def F8 (K:W.Frag)(G:Gr)(dl:List Slot)(n:Int):TI:=fun σ H R=>∃ Hf,cL K G σ Hf H dl/\∀ aA H',aN Hf H aA H'->R (zb (n - 1) n.toNat) H'
theorem Ez (hg:Gl X "reversed")(hm:X.mg "reversed"=none)(PX:Gl X "range")(IF:X.mg "range"=none)(ha:EE X G dl a (.int n))(h0:0<=n/\n < 2 ^ 30)(he:autoParam (starEach [a] X.env=[(false,eval a X.env)]) jp)(hs:autoParam (starEach [.Call (.Name "range" p2) [a] [] wC] X.env=[(false,eval (.Call (.Name "range" p2) [a] [] wC) X.env)]) jp):PI X tg (.Call (.Name "reversed" p) [.Call (.Name "range" p2) [a] [] wC] [] pos) (F8 X.K G dl n):=by
 intro pins s σ H R I ⟨Hf,S,k⟩;refine Ey (tg:=tg) hg hm (fT (fM u0 PX IF boot_range (ae ha ak he) (he:=he)) iq hs) hs pins s σ H R I ⟨Hf,S,fun vs Hf1 H1 g1 r1=>?_⟩;cases r1 with
 | cons r t=>
   cases t;cases r;exact⟨n,rfl,fun l hl=>⟨l,n,_,rfl,ah,fun h x=>x,h0,k Hf1 _ (g1.trans (.cB g1.sub hl))⟩⟩
theorem zr:lG X G dl ((Wi n.toNat).map fun(k:Nat)=>.int (n - 1 - k)) (F8 X.K G dl n):=fun st H R zq=>xa zq fun Hf S k=>fun Hf1 H1 g1=>k _ Hf1 H1 g1 fun bw H2 s1 s2 m=>zc (X:=X) (Hf1:=Hf1) (H1:=H1) s2 m
end
end Sg
namespace Pf
open PySem PySem.Spec PyProof.Rows L2 Sg
structure kF (K:W.Frag)(x q:Str)(st:Stmt)(ps:List Str)(f:Addr)(d:FuncData):Prop where
 F:Ht K x q st f d
 b:Binds K d ps []
structure Mo (K:W.Frag)(x q:Str)(st:Stmt)(ps:List Str)(f:Addr)(d:FuncData):Prop where
 F:wb K x q st f d
 b:Binds K d ps []
structure i0 (K:W.Frag)(x:Str)(st:Stmt)(ps:List Str)(f:Addr)(d:FuncData):Prop where
 F:Ht K x x st f d
 b:Binds K d ps []
 a:W.nsIn K mainGlobals x=some (some (.ref f))
structure EC (K:W.Frag)(x:Str)(C:Addr):Prop where
 a:W.nsIn K mainGlobals x=some (some (.ref C))
 cl:qp K C
 kc:W.keepIn K (.ref C)=true
abbrev IW (x q:Str)(st:Stmt)(ps:List Str):Prop:=∀ (kV doc pm:Value) (an:Option Addr) (a6 ct:Value) (us:List Value),us.length=ps.length->bindArgs (W.fnOf x q (cy st) (ax st) (af st) .none kV doc pm an a6 ct) ⟨us,[]⟩=pure (ps.zip us)
section
variable {K:W.Frag}{x q:Str}{st:Stmt}{ps:List Str}{f:Addr}{oc:Value}{od an:Option Addr}{oU:Array (Option Value)}{kV doc pm a6 ct:Value}
theorem IY (l:K.lookup f=some ⟨oc,od,.func (W.fnOf x q (cy st) (ax st) (af st) .none kV doc pm an a6 ct),oU⟩)(c:W.codeIn K a6 q=true)(k:W.keepIn K (.ref f)=true)(b:IW x q st ps):kF K x q st ps f (W.fnOf x q (cy st) (ax st) (af st) .none kV doc pm an a6 ct):=⟨oX l c k,(oX l c k).binds b⟩
theorem IZ (l:K.lookup f=some ⟨oc,od,.func (W.fnOf x q (cy st) (ax st) (af st) .none kV doc pm an a6 ct),oU⟩)(c:W.codeIn K a6 q=true)(k:W.keepIn K (.ref f)=true)(b:IW x q st ps):Mo K x q st ps f (W.fnOf x q (cy st) (ax st) (af st) .none kV doc pm an a6 ct):=⟨xC l c,(oX l c k).binds b⟩
theorem Ja (a:W.nsIn K mainGlobals q=some (some (.ref f)))(l:K.lookup f=some ⟨oc,od,.func (W.fnOf q q (cy st) (ax st) (af st) .none kV doc pm an a6 ct),oU⟩)(c:W.codeIn K a6 q=true)(k:W.keepIn K (.ref f)=true)(b:IW q q st ps):i0 K q st ps f (W.fnOf q q (cy st) (ax st) (af st) .none kV doc pm an a6 ct):=⟨oX l c k,(oX l c k).binds b,a⟩
theorem Jb {C:Addr}(a:W.nsIn K mainGlobals x=some (some (.ref C)))(p:W.plainGet K C Str.empty=true)(h:W.hasDictIn K C=true)(o:W.plainOver K C=true)(s:W.findIn K (.ref C) "__setattr__"=some (some (.builtin "object.__setattr__")))(k:W.keepIn K (.ref C)=true):EC K x C:=⟨a,⟨p,h,o,s⟩,k⟩
end
theorem jh {N P:List Str}{sc:Scope}(h:(sc.kind == .function && !sc.isCoroutine && !sc.isGenerator && decide N.Nodup && decide (N.take P.length=P) && P.all (fun x=>decide (sc.names.lookup x=some .local\/sc.names.lookup x=some .cell)) && sc.names.all fun y=>decide (y.2≠.free))=true):au N P sc:=by
 simp only[Wn,Xp,decide_eq_true_eq,Bool.not_eq_true',beq_iff_eq] at h;exact⟨h.1.1.1.1.1.1,h.1.1.1.1.1.2,h.1.1.1.1.2,h.1.1.1.2,h.1.1.2,h.1.2,h.2⟩
noncomputable def top (i:Nat):Stmt:=PySem.Challenge.pw_strokegrow_k50_asked_in_any_order.main.body.getD i (.Pass ⟨0,0,0,0⟩)
noncomputable abbrev iy:Stmt:=top 13
noncomputable abbrev gy:Stmt:=top 14
noncomputable abbrev lM:Stmt:=top 15
noncomputable abbrev pO:Stmt:=top 16
noncomputable abbrev mK:Stmt:=top 17
noncomputable abbrev fi:Stmt:=top 19
noncomputable abbrev cC:Stmt:=top 20
noncomputable abbrev cv:Stmt:=inClass (top 21) 0
noncomputable abbrev aV:Stmt:=inClass (top 21) 3
noncomputable abbrev gX:Stmt:=inClass (top 21) 4
noncomputable abbrev dy:Stmt:=inClass (top 21) 5
noncomputable abbrev bQ:Stmt:=inClass (top 21) 6
noncomputable abbrev cP:Stmt:=inClass (top 21) 8
noncomputable abbrev b9:Stmt:=inClass (top 21) 9
noncomputable abbrev cb:Stmt:=inClass (top 21) 10
noncomputable abbrev d9:Stmt:=inClass (top 21) 11
noncomputable abbrev cD:Stmt:=inClass (top 21) 12
noncomputable abbrev eX:Stmt:=inClass (top 21) 13
noncomputable abbrev dj:Stmt:=inClass (top 21) 15
noncomputable abbrev bT:Stmt:=inClass (top 21) 16
noncomputable abbrev d6:Stmt:=inClass (top 21) 17
noncomputable abbrev pP:Stmt:=top 27
noncomputable abbrev fj:Stmt:=top 31
noncomputable abbrev dA:Stmt:=top 32
noncomputable abbrev cQ:Stmt:=top 33
noncomputable abbrev gH:Stmt:=inClass (top 34) 0
noncomputable abbrev gz:Stmt:=inClass (top 34) 2
noncomputable abbrev fk:Stmt:=inClass (top 34) 4
noncomputable abbrev i3:Stmt:=inClass (top 34) 6
noncomputable abbrev aH:Stmt:=inClass (top 34) 7
noncomputable abbrev wJ:Stmt:=top 36
noncomputable abbrev sJ:Stmt:=top 37
noncomputable abbrev kZ:Stmt:=top 39
noncomputable abbrev wK:Stmt:=top 40
noncomputable abbrev sL:Stmt:=top 41
noncomputable abbrev fm:Stmt:=top 42
noncomputable abbrev sM:Stmt:=top 43
noncomputable abbrev rj:Stmt:=top 44
noncomputable abbrev qB:List Str:=["age","first","last"]
theorem pQ:au qB ["age","first","last"] (af iy):=jh (by decide +kernel)
noncomputable abbrev nQ:List Str:=["many"]
theorem mL:au nQ ["many"] (af gy):=jh (by decide +kernel)
noncomputable abbrev xW:List Str:=["rules","word"]
theorem u5:au xW ["rules","word"] (af lM):=jh (by decide +kernel)
noncomputable abbrev BH:List Str:=["rules","word","grown"]
theorem xX:au BH ["rules","word"] (af pO):=jh (by decide +kernel)
noncomputable abbrev zt:List Str:=["rules","word","age","grown","rounds"]
theorem pR:au zt ["rules","word","age"] (af mK):=jh (by decide +kernel)
noncomputable abbrev u6:List Str:=["tallies","letters"]
theorem kf:au u6 ["tallies","letters"] (af fi):=jh (by decide +kernel)
noncomputable abbrev iI:List Str:=["word","rounds"]
theorem lN:au iI ["word","rounds"] (af cC):=jh (by decide +kernel)
noncomputable abbrev iz:List Str:=["self","rules","start"]
theorem jH:au iz ["self","rules","start"] (af cv):=jh (by decide +kernel)
noncomputable abbrev eY:List Str:=["self","age","letters","last","grown","letter"]
theorem gF:au eY ["self","age"] (af aV):=jh (by decide +kernel)
noncomputable abbrev pS:List Str:=["self","age"]
theorem nS:au pS ["self","age"] (af gX):=jh (by decide +kernel)
noncomputable abbrev jI:List Str:=["self","age","place"]
theorem jr:au jI ["self","age","place"] (af dy):=jh (by decide +kernel)
noncomputable abbrev gI:List Str:=["self","age","place"]
theorem gA:au gI ["self","age","place"] (af bQ):=jh (by decide +kernel)
noncomputable abbrev i4:List Str:=["self","age","begin","end"]
theorem iJ:au i4 ["self","age","begin","end"] (af cP):=jh (by decide +kernel)
noncomputable abbrev ji:List Str:=["self","age"]
theorem mM:au ji ["self","age"] (af b9):=jh (by decide +kernel)
noncomputable abbrev jk:List Str:=["self","age"]
theorem mN:au jk ["self","age"] (af cb):=jh (by decide +kernel)
noncomputable abbrev nT:List Str:=["self","age","begin","end","between","waiting","place","piece","rounds","behind"]
theorem iK:au nT ["self","age","begin","end"] (af d9):=jh (by decide +kernel)
noncomputable abbrev jJ:List Str:=["self","age","place","passed"]
theorem jl:au jJ ["self","age","place"] (af cD):=jh (by decide +kernel)
noncomputable abbrev k7:List Str:=["self","age","place"]
theorem kG:au k7 ["self","age","place"] (af eX):=jh (by decide +kernel)
noncomputable abbrev lO:List Str:=["self","age","place","elder","offset","rounds","letter"]
theorem gY:au lO ["self","age","place"] (af dj):=jh (by decide +kernel)
noncomputable abbrev iL:List Str:=["self","age","place","passed"]
theorem ia:au iL ["self","age","place"] (af bT):=jh (by decide +kernel)
noncomputable abbrev kM:List Str:=["self","age","begin","end"]
theorem pT:au kM ["self","age","begin","end"] (af d6):=jh (by decide +kernel)
noncomputable abbrev BI:List Str:=["ways"]
theorem zu:au BI ["ways"] (af pP):=jh (by decide +kernel)
noncomputable abbrev lP:List Str:=["text"]
theorem k8:au lP ["text"] (af fj):=jh (by decide +kernel)
noncomputable abbrev jK:List Str:=["word","letters"]
theorem nU:au jK ["word","letters"] (af dA):=jh (by decide +kernel)
noncomputable abbrev i5:List Str:=["rows","firsts","letters","number","row","letter_fits"]
theorem kN:au i5 ["rows"] (af cQ):=jh (by decide +kernel)
noncomputable abbrev sN:List Str:=["self","ways","rows","drawer","row"]
theorem kO:au sN ["self","ways","rows"] (af gH):=jh (by decide +kernel)
noncomputable abbrev nV:List Str:=["self"]
theorem mO:au nV ["self"] (af gz):=jh (by decide +kernel)
noncomputable abbrev pU:List Str:=["self","letter"]
theorem nW:au pU ["self","letter"] (af fk):=jh (by decide +kernel)
noncomputable abbrev sO:List Str:=["self","letter"]
theorem qC:au sO ["self","letter"] (af i3):=jh (by decide +kernel)
noncomputable abbrev nX:List Str:=["self","text","most","at","sign"]
theorem iM:au nX ["self","text","most"] (af aH):=jh (by decide +kernel)
noncomputable abbrev Jc:List Str:=["_law_script","_law_k","_law_cell_here","_law_low"]
theorem oB:au Jc ["_law_script","_law_k"] (af wJ):=jh (by decide +kernel)
noncomputable abbrev ED:List Str:=["_law_cell_here","_law_k"]
theorem BJ:au ED ["_law_cell_here","_law_k"] (af sJ):=jh (by decide +kernel)
noncomputable abbrev wL:List Str:=["_law_cell_here","_law_many","_law_free","_law_found","_law_k","_law_at"]
theorem nC:au wL ["_law_cell_here","_law_many"] (af kZ):=jh (by decide +kernel)
noncomputable abbrev Jd:List Str:=["_law_number","_law_alphabet_here","_law_most","_law_found","_law_size","_law_k"]
theorem xY:au Jd ["_law_number","_law_alphabet_here","_law_most"] (af wK):=jh (by decide +kernel)
noncomputable abbrev EF:List Str:=["_law_script","_law_far","_law_first","_law_way","_law_age","_law_many","_law_most","_law_alphabet_here","_law_rows","_law_k","_law_cell_here","_law_deed","_law_start"]
theorem u7:au EF ["_law_script","_law_far"] (af sL):=jh (by decide +kernel)
noncomputable abbrev i6:List Str:=["_law_growth","_law_number","_law_most","_law_kind","_law_age","_law_place"]
theorem u9:au i6 ["_law_growth","_law_number","_law_most"] (af fm):=jh (by decide +kernel)
noncomputable abbrev Je:List Str:=["_law_found","_law_held_here","_law_letter"]
theorem sP:au Je ["_law_found"] (af sM):=jh (by decide +kernel)
noncomputable abbrev F9:List Str:=["_law_script","_law_ways","_law_rows","_law_start","_law_age","_law_second","_law_one","_law_other","_law_third","_law_numbers","_law_found","_law_k","_law_number"]
theorem BK:au F9 ["_law_script"] (af rj):=jh (by decide +kernel)
structure ib where
 (fW ee oC sQ kg iN dF c9 aW cE aX aC aM bK bL bM bW bx bc bA dc lQ dk fo gJ cR cf bX dH aI sR oE i7 sS oF ig pV kP:Addr)
 (fX eh oG sT kh lS dJ fY cS fq cm aZ bR er eu eB fu cU dm dM fZ lU dn fw gK gL eC fz gM eD sU oH i8 sV oJ oK sW pW:FuncData)
 (eF:Tok)
 (fP i9 aR ao ja:Addr)
 (va pX sX pY:Tok)
 K:W.Frag
structure Txt (K:W.Frag)(mg:Str->Option Value)(t:ib):Prop where
 hK:t.K=K
 g:∀ {x:Str} {v:Value},W.nsIn K mainGlobals x=some (some v)->mg x=some v
 gn:∀ {x:Str},W.nsIn K mainGlobals x=some none->mg x=none
 mP:EC K "Quarter" t.fP
 sY:EC K "Sixth" t.i9
 dN:EC K "Rules" t.aR
 av:EC K "Growth" t.ao
 k9:HD K t.fP
 pZ:HD K t.i9
 p0:L2.Mk K t.aR t.cR
 mQ:L2.Mk K t.ao t.c9
 gB:cO K t.aR "drawer"
 aF:cO K t.aR "row_by_letter"
 aJ:cO K t.ao "rules"
 cF:cO K t.ao "seed"
 aS:cO K t.ao "tallies"
 bf:cO K t.ao "lengths"
 EG:mg "DEEDS"=some (.ref t.ja)
 EH:∀ H,Rep K H (.ref t.ja) (.tup [.str "stroke",.str "step",.str "left",.str "right",.str "rest"])
 vb:mg "MOST_ROWS"=some (.int 6 t.va)
 p7:mg "MOST_IN_WORD"=some (.int 8 t.pX)
 gN:mg "LAST_ROUND"=some (.int 200 t.sX)
 p8:mg "MOST_WRITTEN"=some (.int 400 t.pY)
 de:i0 K "check_round" iy ["age","first","last"] t.fW t.fX
 cg:i0 K "check_written" gy ["many"] t.ee t.eh
 ki:i0 K "tally" lM ["rules","word"] t.oC t.oG
 mR:i0 K "once" pO ["rules","word"] t.sQ t.sT
 gR:i0 K "written" mK ["rules","word","age"] t.kg t.kh
 d7:i0 K "summed" fi ["tallies","letters"] t.iN t.lS
 bU:i0 K "waiting_pieces" cC ["word","rounds"] t.dF t.dJ
 f6:Mo K "__init__" "Growth.__init__" cv ["self","rules","start"] t.c9 t.fY
 bY:Meth K t.ao "deepen_to" t.aW
 cV:kF K "deepen_to" "Growth.deepen_to" aV ["self","age"] t.aW t.cS
 cW:Meth K t.ao "enter" t.cE
 fA:kF K "enter" "Growth.enter" gX ["self","age"] t.cE t.fq
 bN:Meth K t.ao "check_place" t.aX
 cn:kF K "check_place" "Growth.check_place" dy ["self","age","place"] t.aX t.cm
 aT:Meth K t.ao "check_letter_place" t.aC
 a0:kF K "check_letter_place" "Growth.check_letter_place" bQ ["self","age","place"] t.aC t.aZ
 bB:Meth K t.ao "check_stretch" t.aM
 bS:kF K "check_stretch" "Growth.check_stretch" cP ["self","age","begin","end"] t.aM t.bR
 cG:Meth K t.ao "length" t.bK
 eG:kF K "length" "Growth.length" b9 ["self","age"] t.bK t.er
 cH:Meth K t.ao "counts" t.bL
 eI:kF K "counts" "Growth.counts" cb ["self","age"] t.bL t.eu
 cI:Meth K t.ao "pieces" t.bM
 eJ:kF K "pieces" "Growth.pieces" d9 ["self","age","begin","end"] t.bM t.eB
 cX:Meth K t.ao "ahead" t.bW
 fB:kF K "ahead" "Growth.ahead" cD ["self","age","place"] t.bW t.fu
 bZ:Meth K t.ao "letter_at" t.bx
 cY:kF K "letter_at" "Growth.letter_at" eX ["self","age","place"] t.bx t.cU
 b8:Meth K t.ao "elder_of" t.bc
 dq:kF K "elder_of" "Growth.elder_of" dj ["self","age","place"] t.bc t.dm
 cw:Meth K t.ao "younger" t.bA
 dO:kF K "younger" "Growth.younger" bT ["self","age","place"] t.bA t.dM
 dg:Meth K t.ao "part" t.dc
 f7:kF K "part" "Growth.part" d6 ["self","age","begin","end"] t.dc t.fZ
 iO:i0 K "pen_of" pP ["ways"] t.lQ t.lU
 bJ:i0 K "is_small_letter" fj ["text"] t.dk t.dn
 cJ:i0 K "is_word_over" dA ["word","letters"] t.fo t.fw
 dP:i0 K "check_rows" cQ ["rows"] t.gJ t.gK
 gO:Mo K "__init__" "Rules.__init__" gH ["self","ways","rows"] t.cR t.gL
 cZ:Meth K t.aR "letters" t.cf
 eQ:kF K "letters" "Rules.letters" gz ["self"] t.cf t.eC
 dh:Meth K t.aR "row_of" t.bX
 fC:kF K "row_of" "Rules.row_of" fk ["self","letter"] t.bX t.fz
 dX:Meth K t.aR "word" t.dH
 gQ:kF K "word" "Rules.word" i3 ["self","letter"] t.dH t.gM
 c5:Meth K t.aR "word_of" t.aI
 mS:Binds K t.eD ["self","text","most"] [.int 8 t.eF]
 nY:wb K "word_of" "Rules.word_of" aH t.aI t.eD
 zT:W.keepIn K (.ref t.aI)=true
 zU:Binds K t.eD ["self","text","most"] []
 mT:i0 K "_law_cell" wJ ["_law_script","_law_k"] t.sR t.sU
 kj:i0 K "_law_mixed" sJ ["_law_cell_here","_law_k"] t.oE t.oH
 fQ:i0 K "_law_alphabet" kZ ["_law_cell_here","_law_many"] t.i7 t.i8
 mU:i0 K "_law_text" wK ["_law_number","_law_alphabet_here","_law_most"] t.sS t.sV
 kl:i0 K "_law_shape" sL ["_law_script","_law_far"] t.oF t.oJ
 km:i0 K "_law_asked" fm ["_law_growth","_law_number","_law_most"] t.ig t.oK
 iA:i0 K "_law_held" sM ["_law_found"] t.pV t.sW
 vc:i0 K "law" rj ["_law_script"] t.kP t.pW
 jb:mg "range"=none
 gG:mg "len"=none
 dQ:mg "isinstance"=none
 Ga:mg "int"=none
 sZ:mg "tuple"=none
 lb:mg "list"=none
 BL:mg "all"=none
 gm:mg "enumerate"=none
 fR:mg "dict"=none
 p9:mg "sum"=none
 jc:mg "reversed"=none
 xZ:mg "min"=none
theorem Jf {K:W.Frag}{h:Heap}{mg:Str->Option Value}(X:K.In h)(G:h.Ns mainGlobals mg){fW ee oC sQ kg iN dF c9 aW cE aX aC aM bK bL bM bW bx bc bA dc lQ dk fo gJ cR cf bX dH aI sR oE i7 sS oF ig pV kP fP i9 aR ao ja:Addr}{fX eh oG sT kh lS dJ fY cS fq cm aZ bR er eu eB fu cU dm dM fZ lU dn fw gK gL eC fz gM sU oH i8 sV oJ oK sW pW:FuncData}{eF y0 y1 y2 y3:Tok}{y4:Option Addr}{y5:Nat}{y6:Array (Option Value)}{BM BN BO BP BQ:Tok}{y7 y8:Option Addr}{y9:Array (Option Value)}{U3 RK RL RN PY RO:Value}{gC:Addr}{U4:Option Addr}{U5:Value}{U6:Nat}{U7:Array (Option Value)}
   (mP:EC K "Quarter" fP)
   (sY:EC K "Sixth" i9)
   (dN:EC K "Rules" aR)
   (av:EC K "Growth" ao)
   (k9:HD K fP)
   (pZ:HD K i9)
   (p0:L2.Mk K aR cR)
   (mQ:L2.Mk K ao c9)
   (gB:W.findIn K (.ref aR) "drawer"=some none)
   (aF:W.findIn K (.ref aR) "row_by_letter"=some none)
   (aJ:W.findIn K (.ref ao) "rules"=some none)
   (cF:W.findIn K (.ref ao) "seed"=some none)
   (aS:W.findIn K (.ref ao) "tallies"=some none)
   (bf:W.findIn K (.ref ao) "lengths"=some none)
   (BR:W.nsIn K mainGlobals "DEEDS"=some (some (.ref ja)))
   (BS:K.lookup ja=some ⟨.type "tuple",y4,.seq #[.str "stroke" BM,.str "step" BN,.str "left" BO,.str "right" BP,.str "rest" BQ] y5,y6⟩)
   (tf:W.nsIn K mainGlobals "MOST_ROWS"=some (some (.int 6 y0)))
   (nZ:W.nsIn K mainGlobals "MOST_IN_WORD"=some (some (.int 8 y1)))
   (qD:W.nsIn K mainGlobals "LAST_ROUND"=some (some (.int 200 y2)))
   (n6:W.nsIn K mainGlobals "MOST_WRITTEN"=some (some (.int 400 y3)))
   (de:i0 K "check_round" iy ["age","first","last"] fW fX)
   (cg:i0 K "check_written" gy ["many"] ee eh)
   (ki:i0 K "tally" lM ["rules","word"] oC oG)
   (mR:i0 K "once" pO ["rules","word"] sQ sT)
   (gR:i0 K "written" mK ["rules","word","age"] kg kh)
   (d7:i0 K "summed" fi ["tallies","letters"] iN lS)
   (bU:i0 K "waiting_pieces" cC ["word","rounds"] dF dJ)
   (f6:Mo K "__init__" "Growth.__init__" cv ["self","rules","start"] c9 fY)
   (bY:Meth K ao "deepen_to" aW)
   (cV:kF K "deepen_to" "Growth.deepen_to" aV ["self","age"] aW cS)
   (cW:Meth K ao "enter" cE)
   (fA:kF K "enter" "Growth.enter" gX ["self","age"] cE fq)
   (bN:Meth K ao "check_place" aX)
   (cn:kF K "check_place" "Growth.check_place" dy ["self","age","place"] aX cm)
   (aT:Meth K ao "check_letter_place" aC)
   (a0:kF K "check_letter_place" "Growth.check_letter_place" bQ ["self","age","place"] aC aZ)
   (bB:Meth K ao "check_stretch" aM)
   (bS:kF K "check_stretch" "Growth.check_stretch" cP ["self","age","begin","end"] aM bR)
   (cG:Meth K ao "length" bK)
   (eG:kF K "length" "Growth.length" b9 ["self","age"] bK er)
   (cH:Meth K ao "counts" bL)
   (eI:kF K "counts" "Growth.counts" cb ["self","age"] bL eu)
   (cI:Meth K ao "pieces" bM)
   (eJ:kF K "pieces" "Growth.pieces" d9 ["self","age","begin","end"] bM eB)
   (cX:Meth K ao "ahead" bW)
   (fB:kF K "ahead" "Growth.ahead" cD ["self","age","place"] bW fu)
   (bZ:Meth K ao "letter_at" bx)
   (cY:kF K "letter_at" "Growth.letter_at" eX ["self","age","place"] bx cU)
   (b8:Meth K ao "elder_of" bc)
   (dq:kF K "elder_of" "Growth.elder_of" dj ["self","age","place"] bc dm)
   (cw:Meth K ao "younger" bA)
   (dO:kF K "younger" "Growth.younger" bT ["self","age","place"] bA dM)
   (dg:Meth K ao "part" dc)
   (f7:kF K "part" "Growth.part" d6 ["self","age","begin","end"] dc fZ)
   (iO:i0 K "pen_of" pP ["ways"] lQ lU)
   (bJ:i0 K "is_small_letter" fj ["text"] dk dn)
   (cJ:i0 K "is_word_over" dA ["word","letters"] fo fw)
   (dP:i0 K "check_rows" cQ ["rows"] gJ gK)
   (gO:Mo K "__init__" "Rules.__init__" gH ["self","ways","rows"] cR gL)
   (cZ:Meth K aR "letters" cf)
   (eQ:kF K "letters" "Rules.letters" gz ["self"] cf eC)
   (dh:Meth K aR "row_of" bX)
   (fC:kF K "row_of" "Rules.row_of" fk ["self","letter"] bX fz)
   (dX:Meth K aR "word" dH)
   (gQ:kF K "word" "Rules.word" i3 ["self","letter"] dH gM)
   (c5:Meth K aR "word_of" aI)
   (U8:K.lookup aI=some ⟨U3,y7,.func (W.fnOf "word_of" "Rules.word_of" (cy aH) (ax aH) (af aH) (.ref gC) RK RL RN y8 PY RO),y9⟩)
   (RP:K.lookup gC=some ⟨U5,U4,.seq #[.int 8 eF] U6,U7⟩)
   (U9:W.codeIn K PY "Rules.word_of"=true)
   (Va:W.keepIn K (.ref aI)=true)
   (mT:i0 K "_law_cell" wJ ["_law_script","_law_k"] sR sU)
   (kj:i0 K "_law_mixed" sJ ["_law_cell_here","_law_k"] oE oH)
   (fQ:i0 K "_law_alphabet" kZ ["_law_cell_here","_law_many"] i7 i8)
   (mU:i0 K "_law_text" wK ["_law_number","_law_alphabet_here","_law_most"] sS sV)
   (kl:i0 K "_law_shape" sL ["_law_script","_law_far"] oF oJ)
   (km:i0 K "_law_asked" fm ["_law_growth","_law_number","_law_most"] ig oK)
   (iA:i0 K "_law_held" sM ["_law_found"] pV sW)
   (vc:i0 K "law" rj ["_law_script"] kP pW)
   (jb:W.nsIn K mainGlobals "range"=some none)
   (gG:W.nsIn K mainGlobals "len"=some none)
   (dQ:W.nsIn K mainGlobals "isinstance"=some none)
   (Ga:W.nsIn K mainGlobals "int"=some none)
   (sZ:W.nsIn K mainGlobals "tuple"=some none)
   (lb:W.nsIn K mainGlobals "list"=some none)
   (BL:W.nsIn K mainGlobals "all"=some none)
   (gm:W.nsIn K mainGlobals "enumerate"=some none)
   (fR:W.nsIn K mainGlobals "dict"=some none)
   (p9:W.nsIn K mainGlobals "sum"=some none)
   (jc:W.nsIn K mainGlobals "reversed"=some none)
   (xZ:W.nsIn K mainGlobals "min"=some none)
   : ∃ t,Txt K mg t/\t.kP=kP:=
 ⟨⟨fW,ee,oC,sQ,kg,iN,dF,c9,aW,cE,aX,aC,aM,bK,bL,bM,bW,bx,bc,bA,dc,lQ,dk,fo,gJ,cR,cf,bX,dH,aI,sR,oE,i7,sS,oF,ig,pV,kP,fX,eh,oG,sT,kh,lS,dJ,fY,cS,fq,cm,aZ,bR,er,eu,eB,fu,cU,dm,dM,fZ,lU,dn,fw,gK,gL,eC,fz,gM,(W.fnOf "word_of" "Rules.word_of" (cy aH) (ax aH) (af aH) (.ref gC) RK RL RN y8 PY RO),sU,oH,i8,sV,oJ,oK,sW,pW,eF,fP,i9,aR,ao,ja,y0,y1,y2,y3,K⟩,⟨rfl,
   W.mg_of X G,
   W.mg_none_of X G,
   mP,
   sY,
   dN,
   av,
   k9,
   pZ,
   p0,
   mQ,
   gB,
   aF,
   aJ,
   cF,
   aS,
   bf,
   W.mg_of X G BR,
   fun H=>.tup (vs:=[.str "stroke",.str "step",.str "left",.str "right",.str "rest"]) (.inr ⟨_,_,_,BS,rfl,rfl,Wy rfl,.cons ⟨_,rfl⟩ (.cons ⟨_,rfl⟩ (.cons ⟨_,rfl⟩ (.cons ⟨_,rfl⟩ (.cons ⟨_,rfl⟩ (.nil)))))⟩) (.cons (.str _) (.cons (.str _) (.cons (.str _) (.cons (.str _) (.cons (.str _) (.nil)))))),
   W.mg_of X G tf,
   W.mg_of X G nZ,
   W.mg_of X G qD,
   W.mg_of X G n6,
   de,
   cg,
   ki,
   mR,
   gR,
   d7,
   bU,
   f6,
   bY,
   cV,
   cW,
   fA,
   bN,
   cn,
   aT,
   a0,
   bB,
   bS,
   cG,
   eG,
   cH,
   eI,
   cI,
   eJ,
   cX,
   fB,
   bZ,
   cY,
   b8,
   dq,
   cw,
   dO,
   dg,
   f7,
   iO,
   bJ,
   cJ,
   dP,
   gO,
   cZ,
   eQ,
   dh,
   fC,
   dX,
   gQ,
   c5,
   fun s us X hl=>by obtain⟨z,y,rfl⟩:=Im hl;exact BindsTo.of_defaults rfl (X _ _ RP) rfl rfl rfl,
   xC (st:=aH) U8 U9,
   Va,
   fun s us X hl=>match us,hl with | [_,_,_],_=>BindsTo.of_defaults rfl (X _ _ RP) rfl rfl rfl,
   mT,
   kj,
   fQ,
   mU,
   kl,
   km,
   iA,
   vc,
   W.mg_none_of X G jb,
   W.mg_none_of X G gG,
   W.mg_none_of X G dQ,
   W.mg_none_of X G Ga,
   W.mg_none_of X G sZ,
   W.mg_none_of X G lb,
   W.mg_none_of X G BL,
   W.mg_none_of X G gm,
   W.mg_none_of X G fR,
   W.mg_none_of X G p9,
   W.mg_none_of X G jc,
   W.mg_none_of X G xZ⟩,rfl⟩
theorem Jg {K:W.Frag}{mg:Str->Option Value}{t:ib}(T:Txt K mg t)(s:Shared)(u:Value):BindsTo s t.pW ⟨[u],[]⟩ [("_law_script",u)]:=by
 obtain⟨oc,od,kV,doc,pm,an,a6,ct,oU,e,lk,il⟩:=T.vc.F.ex;rw[e];exact .of_eq rfl
abbrev CX:kT:=QI
noncomputable def sg (c:Nat):Str:=⟨#[c]⟩
noncomputable def tx (w:List Nat):Str:=⟨w.toArray⟩
structure Row where
 c:Nat
 d:Str
 w:List Nat
noncomputable def x2:List Str:=["stroke","step","left","right","rest"]
noncomputable def kQ (r:Row):Dt:=.tup [.str (sg r.c),.str r.d,.str (tx r.w)]
def small (c:Nat):Prop:=97<=c/\c<=122
structure bC (rows:List Row):Prop where
 pos:0 < rows.length
 le:rows.length<=6
 nd:(rows.map (·.c)).Nodup
 sm:∀ r∈rows,small r.c
 dd:∀ r∈rows,r.d∈x2
 wp:∀ r∈rows,0 < r.w.length/\r.w.length<=8
 wo:∀ r∈rows,∀ x∈r.w,x∈rows.map (·.c)
noncomputable def mV (rows:List Row):List (Key×Dt):=rows.map fun r=>(.inr (sg r.c),kQ r)
abbrev Rl:=List Dt->Res->Prop
noncomputable def wy (six:Bool):Int:=if six then 6 else 4
noncomputable def ib.pc (t:ib)(six:Bool):Addr:=if six then t.i9 else t.fP
noncomputable def ib.zv (t:ib)(six:Bool)(rows:List Row):Dt:=.obj t.aR [("drawer",.ml (.obj (t.pc six) [])),("row_by_letter",.b6 (mV rows))]
theorem mW {a b:Nat}(h:sg a=sg b):a=b:=by
 have:=congrArg (fun s:Str=>s.cps.toList) h;simpa [sg] using this
theorem BU {c:Nat}{L:List Nat}:sg c∈L.map sg ↔ c∈L:=by
 constructor
 . intro h
   obtain⟨x,hx,e⟩:=Wj.mp h;rw[<- mW e];exact hx
 . exact fun h=>Wj.mpr ⟨c,h,rfl⟩
theorem PZ {c:Nat}(h:97<=c):Ig "a" (sg c)=true:=by
 have e:("a":Str).cps.toList=[97]:=rfl;unfold Ig;rw[e];show(!decide ([c] < [97]))=true;have:¬ ([c] < [97]):=by
   intro z;rcases List.cons_lt_cons_iff.mp z with z | ⟨_,z⟩
   . omega
   . exact absurd z (by simp)
 simp[this]
theorem P0 {c:Nat}(h:c<=122):Ig (sg c) "z"=true:=by
 have e:("z":Str).cps.toList=[122]:=rfl;unfold Ig;rw[e];show(!decide ([122] < [c]))=true;have:¬ ([122] < [c]):=by
   intro z;rcases List.cons_lt_cons_iff.mp z with z | ⟨_,z⟩
   . omega
   . exact absurd z (by simp)
 simp[this]
theorem qb (w:List Nat):Sg.signs (tx w)=(w.map sg).map Dt.str:=by
 unfold Sg.signs tx;rw[V3];rfl
theorem dB (w:List Nat):(tx w).length=w.length:=by show w.toArray.size=w.length;simp
theorem gZ {w:List Nat}(h:∀ x∈w,x < 128):gv (tx w)=true:=by
 unfold gv tx;rw[Array.all_eq_true_iff_forall_mem];intro x hx;exact decide_eq_true (h x (by simpa using hx))
theorem mX:∀ {rows:List Row},(rows.map (·.c)).Nodup->∀ {r:Row},r∈rows->iw (mV rows) (.inr (sg r.c))=some (kQ r)
 | [],_,r,h=>by cases h
 | q::rows,nd,r,h=>by
   rw[V7,W3] at nd;rcases Wh.mp h with rfl | h
   . exact lH (p:=(.inr (sg r.c),kQ r)) rfl
   . have ne:¬ (Sum.inr (sg q.c):Key)=.inr (sg r.c):=fun z=>nd.1 (by
       rw[mW (Sum.inr.inj z)];exact Wj.mpr ⟨r,h,rfl⟩)
     show iw ((.inr (sg q.c),kQ q)::mV rows) _=_;rw[jC (p:=(.inr (sg q.c),kQ q)) ne];exact mX nd.2 h
theorem l4 {n:Nat}(h:n<=2000):n<=sizeLine:=We h (by decide)
def EI:Rl:=fun ds r=>∃ c,ds=[.str (sg c)]/\small c/\r=.ret (.bl true)
def Jh:Rl:=fun ds r=>∃ (w L:List Nat),ds=[.str (tx w),.lst ((L.map sg).map .str)]/\(0 < w.length/\w.length<=8)/\(∀ x∈w,x∈L)/\(∀ x∈L,small x)/\r=.ret (.bl true)
def EJ:Rl:=fun ds r=>∃ rows,ds=[.lst (rows.map kQ)]/\bC rows/\r=.ret .b0
noncomputable def Ji:Stmt->Scope
 | .Return (some (.BoolOp _ [_,.Call _ [.ListComp _ _ sc _] _ _] _)) _=>sc
 | _=>af (.Pass ⟨0,0,0,0⟩)
noncomputable abbrev EK:Scope:=Ji ((ax dA).getD 0 (.Pass ⟨0,0,0,0⟩))
theorem x3:fK EK (af dA) jK ["sign","letters"] ["sign"] [1]=true:=by decide +kernel
noncomputable abbrev zw:Scope:=QU ((ax cQ).getD 2 (.Pass ⟨0,0,0,0⟩))
theorem rl:fK zw (af cQ) i5 ["row"] ["row"] []=true:=by decide +kernel
noncomputable abbrev EL:Scope:=QU ((ax cQ).getD 3 (.Pass ⟨0,0,0,0⟩))
theorem x4:fK EL (af cQ) i5 ["first"] ["first"] []=true:=by decide +kernel
theorem c6 {X:Cx}{G:Gr}{dl:List Slot}{zs RS:List Dt}{wi:TI}(h:lG X G dl zs wi)(e:RS=zs):lG X G dl RS wi:=by subst e;exact h
variable {P:Program}{w:World}{K:W.Frag}{mg:Str->Option Value}{base:Heap}{t:ib}
theorem BV (T:Txt K mg t):GF P w K mg base CX 1 "is_small_letter" 1 EI:=by
 refine⟨_,_,_,jt T.bJ.F k8 rfl fun a6 A outer s H E G ds r hr hl hR=>?_,(T.g T.bJ.a),T.bJ.F.kp,T.bJ.b⟩;obtain⟨c,rfl,⟨h1,h2⟩,rfl⟩:=hR;exact⟨_,.rt _,aq (bb (v5 (u:=true) (v:=true) (a8 (HJ (oj T.gG (aa 0 rfl) (l4 (n:=1) (by decide))) aj) rfl) fun _=>(rZ (a8 (A7 ff (aa 0 rfl) ff) (by rw[PZ h1,P0 h2];rfl)))))⟩
theorem EM (T:Txt K mg t):GF P w K mg base CX 1 "is_word_over" 2 Jh:=by
 refine⟨_,_,_,jt T.cJ.F nU rfl fun a6 A outer s H E G ds r hr hl hR=>?_,(T.g T.cJ.a),T.cJ.F.kp,T.cJ.b⟩;obtain⟨wd,L,rfl,⟨h0,h8⟩,hw,hL,rfl⟩:=hR;have Il:gv (tx wd)=true:=gZ fun x hx=>by have:=hL x (hw x hx);unfold small at this;omega
 have hlen:=dB wd;have e1:(decide ((1:Int)<=((tx wd).length:Nat)) && decide (((tx wd).length:Nat)<=(8:Int)))=true:=by
   rw[hlen,decide_eq_true (by omega),decide_eq_true (by omega)];rfl
 have e2:(((wd.filter fun _=>true).map fun x=>Dt.bl (decide (sg x∈L.map sg))))=((Wg wd.length true).map Dt.bl):=by
   rw[Wb.mpr (fun _ _=>rfl)];refine List.ext_getElem (by simp) fun i h1 h2=>?_
   simp only[Wv,List.getElem_replicate];have hi:i < wd.length:=by simpa using h1
   rw[decide_eq_true (BU.mpr (hw _ (Wu hi)))]
 have e3:(Wg wd.length true).all id=true:=by simp
 have es:wd.map (fun x=>Dt.str (sg x))=Sg.signs (tx wd):=by rw[qb,V3];rfl
 refine⟨_,.rt _,aq (bb (v5 (u:=true) (v:=true) (a8 (A8 aj (oj T.gG (aa 0 rfl) (l4 (by omega))) (hX (w:=.int 8) T.p7 ⟨_,rfl⟩ fun _=>.int 8)) (congrArg Dt.bl e1)) fun _=>(rZ (a8 (Ii (bs:=Wg wd.length true) T.BL rfl (a8 (lD (eW wd (fun x=>Dt.str (sg x)) (fun x=>.bl (decide (sg x∈L.map sg))) (fun x=>[.val (.str (sg x))]) (fun _=>true) rfl (bI x3) (gw (aa 0 rfl)) (bV (bI x3) rfl) (c6 (c7 Il) es) (fun a _=>ck) (.nil fun _ _=>rfl)
   (fun a ha _ C fp s' H' G'=>Ih (aa 0 rfl) (aa 1 rfl)) (l4 (by omega)))) (congrArg Dt.lst e2))) (congrArg Dt.bl e3)))))⟩
theorem wM {k:Nat}{ds:List Dt}{K:W.Frag}{H:Hp}{vs:List V}(r:bu K H vs ds)(hk:k<=ds.length):bu K H (qr vs none (some (k:Int))) (ds.take k):=by
 unfold qr;rw[HT.uq,HT.oi,Xv,r.length,Xs hk,Nat.sub_zero];exact r.take k
theorem EN {X:Cx}{G:Gr}{dl:List Slot}{a b:Expr}{ds:List Dt}{k:Nat}{pos p2:Pos}(ha:EE X G dl a (.lst ds))(hb:EE X G dl b (.int (k:Int)))(hk:k<=ds.length):EO X G dl (.Subscript a (.Slice none (some b) none p2) pos) (.lst (ds.take k)):=
 fG (lu rP ha rM (lr hb)) fun st H Q zq=>xa zq fun Hf S kk=>fun v Hf1 H1 g1 r1=>by
   cases r1 with
   | @lst q vs _ hq rp=>
     refine⟨Hf1,S.grow g1,fun z bw H2 g2 r2=>?_⟩;cases r2;have g:=g1.trans g2;refine⟨(k:Int),rfl,q,vs,rfl,.of (g2.big _ _ (g1.sub _ _ hq)),fun p hp=>kk p bw _ (g.trans (.cB g.sub hp)) (g.big.free hp) (g.sub.free hp) ⟨_,ah,wM (rp.mono g2.aY) hk⟩⟩
theorem di {L:List Dt}{L':List Dt}(e:L=L'){X:Cx}{G:Gr}{dl:List Slot}{z:Expr}(h:EO X G dl z (.lst L)):EE X G dl z (.lst L'):=by subst e;exact lD h
theorem BW (T:Txt K mg t):GF P w K mg base CX 2 "check_rows" 1 EJ:=by
 refine⟨_,_,_,jt T.dP.F kN rfl fun a6 A outer s H E G ds r hr hl hR=>?_,(T.g T.dP.a),T.dP.F.kp,T.dP.b⟩;obtain⟨rows,rfl,ok,rfl⟩:=hR;have nd:=kN.nd;have hp:=ok.pos;have VV:=ok.le;let cs:=rows.map (·.c);let lt:List Dt:=(cs.map sg).map Dt.str;have e0:(decide ((((rows.map kQ).length:Nat):Int)=0))=false:=by rw[ou];exact decide_eq_false (by omega)
 have e1:(decide ((6:Int) < (((rows.map kQ).length:Nat):Int)))=false:=by rw[ou];exact decide_eq_false (by omega)
 have ef:((rows.filter fun _=>true).map fun r=>Dt.str (sg r.c))=lt:=by
   rw[Wb.mpr (fun _ _=>rfl)];show _=((rows.map (·.c)).map sg).map Dt.str;rw[V3,V3];rfl
 have ez:(rows.map fun r=>Dt.str (sg r.c))=lt:=by
   show _=((rows.map (·.c)).map sg).map Dt.str;rw[V3,V3];rfl
 have hsz:rows.length<=sizeLine:=l4 (by omega);let S:Nat->List Slot:=fun _=>[.val (.lst (rows.map kQ)),.val (.lst lt),.val (.lst lt),.cz,.cz,.cz]
 let xs:=rows.map kQ;have Mp:xs.length=rows.length:=ou ..;refine⟨.nx (S rows.length),.nx _,ai (aQ (u:=false) (aP (bP (r0 T.gG (aa 0 rfl)) aj) e0) (fun h=>nomatch h) (fun h=>bg))
   (ai (aQ (u:=false) (aP (ny (r0 T.gG (aa 0 rfl)) (hX (w:=.int 6) T.vb ⟨_,rfl⟩ fun _=>.int 6)) e1) (fun h=>nomatch h) (fun h=>bg))
   (ai (A2 1 rows kQ (fun r=>Dt.str (sg r.c)) (fun r=>[.val (kQ r)]) (fun _=>true) rfl nd (bI rl) (fS (aa 0 rfl)) (bV (bI rl) rfl) eZ (fun a _=>ck) (.nil fun _ _=>rfl) (fun a ha _ C fp s' H' G'=>dW (aa 0 rfl) aj rfl) hsz)
   ?r1))⟩
 rw[ef];refine pv 1 (w:=.lst lt) (ai (A2 2 rows (fun r=>Dt.str (sg r.c)) (fun r=>Dt.str (sg r.c)) (fun r=>[.val (.str (sg r.c))]) (fun _=>true) rfl nd (bI x4) (fS (aa 1 rfl)) (bV (bI x4) rfl) (c6 eZ ez) (fun a _=>ck)
   (.one fun a ha C fp s' H' G'=>o4 (b7 (BV T) aB hr (ae (aa 0 rfl) ak) ⟨a.c,rfl,ok.sm a ha,rfl⟩)) (fun a ha _ C fp s' H' G'=>aa 0 rfl) hsz) ?r2)
 rw[ef];refine pv 2 (w:=.lst lt) (aq (iY (o:=.nx (S rows.length)) (m:=rows.length) (Wi xs.length) (fun(j:Nat)=>.tup [.int j,xs.getD j .b0]) (fun(j:Nat) dl=>(dl.set 3 (.val (.int j))).set 4 (.val (xs.getD j .b0))) S rfl PassesOwn.leaving
   (xH rfl T.gm (ae (aa 0 rfl) ak)) (q8 (xs:=xs)) (ma rfl (cj (bh nd rfl (.inl rfl)) (cj (bh nd rfl (.inl rfl)) jU))) (fun a _=>oo) (Le.of ⟨rfl,rfl,rfl,trivial⟩) (by rw[Wo,Mp];exact O0 _) (fun j a hj ha=>?l) (by rw[Wo,Mp];exact .all rfl)))
 rw[WE (by omega)] at ha;cases ha;have ex:xs.getD j .b0=kQ rows[j]:=by
   show(rows.map kQ).getD j .b0=_;rw[Sl,VB,Bn hj];rfl
 have hm:=Wu hj;have O4:cs.length=rows.length:=ou ..;have eT:lt.take j=((cs.take j).map sg).map Dt.str:=by
   show((cs.map sg).map Dt.str).take j=_;rw[<- Xw,<- Xw]
 have b5:lt.length=rows.length:=by show((cs.map sg).map Dt.str).length=_;rw[ou,ou,O4]
 have P1:sg rows[j].c ∉ (cs.take j).map sg:=by
   intro z;have z:=BU.mp z;obtain⟨i,hi,e⟩:=WQ.mp z;rw[Wc] at hi;rw[W8] at e;have h:=WB.mp ok.nd i j (by rw[ou];omega) (by rw[ou];exact hj) (by omega);exact h (e.trans (Wv (f:=Row.c) (l:=rows) (i:=j) (h:=by rw[ou];exact hj)).symm)
 have en:(!decide (sg rows[j].c∈(cs.take j).map sg))=true:=by rw[decide_eq_false P1];rfl
 have v4:∀ {X:Cx} {G:Gr} {dl:List Slot} {e:Expr},EE X G dl e (xs.getD j .b0)->EE X G dl e (.tup [.str (sg rows[j].c),.str rows[j].d,.str (tx rows[j].w)]):=fun h=>by rw[ex] at h;exact h
 refine .nx (ai (aw 5 nd (v5 (u:=true) (v:=true) (b7 (BV T) aB hr (ae (dW (v4 (aa 4 rfl)) aj rfl) ak) ⟨_,rfl,ok.sm _ hm,rfl⟩) fun _=>(rZ (a8 (D4 (xs:=(cs.take j).map sg) (dW (v4 (aa 4 rfl)) aj rfl) (di eT (EN (aa 1 rfl) (aa 3 rfl) (by rw[b5];exact WL hj)))) (congrArg Dt.bl en)))))
   (aq (aQ (u:=false) (o6 (u:=true) (o5 (jA (u:=true) (v:=true) (o4 (aa 5 rfl)) fun _=>(jA (u:=true) (v:=true) (aP (HW (xs:=x2) (dW (v4 (aa 4 rfl)) aj rfl) (hX (w:=.ref t.ja) T.EG rfl T.EH)) (decide_eq_true (ok.dd _ hm))) fun _=>(jZ (o4 (b7 (EM T) aB hr (ae (dW (v4 (aa 4 rfl)) aj rfl) (ae (aa 2 rfl) ak)) ⟨rows[j].w,cs,rfl,ok.wp _ hm,ok.wo _ hm,fun x hx=>?_,rfl⟩))))))) (fun h=>nomatch h) (fun h=>bg)))) (Le.of ⟨rfl,rfl,rfl,trivial⟩)
 obtain⟨r,NQ,rfl⟩:=Wj.mp hx;exact ok.sm r NQ
def BX (t:ib):Rl:=fun ds r=>∃ six,ds=[.int (wy six)]/\r=.ret (.ml (.obj (t.pc six) []))
def ER (t:ib):Rl:=fun ds r=>∃ six rows,ds=[.int (wy six),.lst (rows.map kQ)]/\bC rows/\r=.own (.obj t.aR [("drawer",.ml (.obj (t.pc six) [])),("row_by_letter",.b6 (mV rows))])
noncomputable def rr (r:Row):Str×List Dt:=(sg r.c,[.str r.d,.str (tx r.w)])
theorem x6 (rows:List Row):rows.map kQ=(rows.map rr).map pD:=by rw[V3];rfl
theorem Jl (rows:List Row):mV rows=kJ (rows.map rr):=by unfold kJ mV;rw[V3];rfl
theorem Mq {rows:List Row}(nd:(rows.map (·.c)).Nodup):((rows.map rr).map (·.1)).Nodup:=by
 have e:(rows.map rr).map (·.1)=(rows.map (·.c)).map sg:=by rw[V3,V3];rfl
 rw[e];exact List.Pairwise.map sg (fun a b h z=>h (mW z)) nd
theorem zx (T:Txt K mg t):GF P w K mg base CX 1 "pen_of" 1 (BX t):=by
 refine⟨_,_,_,jt T.iO.F zu rfl fun a6 A outer s H E G ds r hr hl hR=>?_,(T.g T.iO.a),T.iO.F.kp,T.iO.b⟩;obtain⟨six,rfl,rfl⟩:=hR;cases six with
 | false=>exact⟨_,.rt _,fg (aQ (bP (aa 0 rfl) aj) (fun h=>aq (bb (uZ T.k9 (T.g T.mP.a)))) (fun h=>absurd h (by decide)))⟩
 | true=>exact⟨_,.rt _,ai (aQ (bP (aa 0 rfl) aj) (fun h=>absurd h (by decide)) (fun h=>bg)) (fg (aQ (bP (aa 0 rfl) aj) (fun h=>aq (bb (uZ T.pZ (T.g T.sY.a)))) (fun h=>absurd h (by decide))))⟩
theorem BY (T:Txt K mg t):Nl P w K mg base CX 3 "Rules" t.aR 3 (ER t):=by
 refine⟨_,_,_,QS T.gO.F kO rfl fun a6 A outer s H E G z ds r hr hl hR=>?_,T.p0,(T.g T.dN.a),T.gO.b⟩;obtain⟨six,rows,rfl,ok,rfl⟩:=hR;have nd:=kO.nd;have hu:(A.deeper (envOfC "Rules.__init__" (af gH) s.heap.objs.size t.cR a6)).units+1 < cLine:=by have:=hr.units;omega
 rw[Jl,x6];refine⟨_,.nx ?fin,ai (aw 3 nd (b7 (zx T) aB hr (ae (aa 1 rfl) ak) ⟨six,rfl,rfl⟩))
   (ai (dE (b7 (BW T) aB hr (ae (aa 2 rfl) ak) ⟨rows,by rw[x6],ok,rfl⟩))
   (ai (we (aa 3 rfl) T.dN.cl T.gB)
   (Bb 2 4 (C:=t.aR) (rows:=rows.map rr) (dlu:=[.cz,.val (.int (wy six)),.val (.lst ((rows.map rr).map pD)),.val (.ml (.obj (t.pc six) [])),.cz]) hu nd rfl PassesOwn.leaving T.dN.cl T.aF rfl rfl rfl rfl (by decide) (by decide) rfl (Mq ok.nd) (by rw[ou];exact WC ok.le (by decide))
     (fun r=>dW (aa 4 rfl) aj (jV (j:=0) rfl)) (fun r=>D8 T.sZ (aa 4 rfl)))))⟩
 rfl
open PySem.Builtin.Str in
theorem rm (x:Str){a b:Nat}(RT:a<=b)(hb:b<=x.length){l u:Option Int}(h:strSliceIndices l u 1 x.length=strSliceIndices (some (a:Int)) (some (b:Int)) 1 x.length):Txt.slice x l u=⟨((x.cps.toList.drop a).take (b - a)).toArray⟩:=by
 unfold Txt.slice;rw[h,PySem.StrLaws.sliced_plain x RT hb]
 split
 . rename_i q
   rw[PySem.StrLaws.strSliceIndices_plain RT hb,ou,Wo] at q;have q:b - a=x.length:=by simpa using q
   have ea:a=0:=by omega
   have eb:b=x.length:=by omega
   subst ea eb;rw[Xv,Nat.sub_zero];have:x.cps.toList.take x.length=x.cps.toList:=WJ (by simp[Str.length]);rw[this]
 . rfl
open PySem.Builtin.Str in
theorem BZ (L:List Nat){k:Nat}(h:k<=L.length):Txt.slice (tx L) none (some (k:Int))=tx (L.take k):=by
 rw[rm (tx L) (a:=0) (b:=k) (Wr _) (by rw[dB];exact h)]
 . show(⟨(((L.toArray.toList).drop 0).take (k - 0)).toArray⟩:Str)=_
   simp[tx]
 . simp[strSliceIndices]
   have e:max (0:Int) (min 0 ((tx L).length:Int))=0:=by omega
   rw[e]
open PySem.Builtin.Str in
theorem wN (L:List Nat){k:Nat}(h:k<=L.length):Txt.slice (tx L) (some (k:Int)) none=tx (L.drop k):=by
 rw[rm (tx L) (a:=k) (b:=(tx L).length) (by rw[dB];exact h) (O0 _)]
 . show(⟨(((L.toArray.toList).drop k).take ((tx L).length - k)).toArray⟩:Str)=_
   rw[dB,List.toList_toArray,WJ (by rw[Wz];exact O0 _)];rfl
 . simp[strSliceIndices]
   have e:max (0:Int) (min (if ((tx L).length:Int) < 0 then ((tx L).length:Int)+(tx L).length else (tx L).length) ((tx L).length:Int))=(tx L).length:=by
     rw[if_neg (by omega)];omega
   rw[e]
theorem Jm (a b:List Nat):tx a ++ tx b=tx (a ++ b):=by
 show(⟨a.toArray ++ b.toArray⟩:Str)=⟨(a ++ b).toArray⟩;simp
theorem Ms (L:List Nat){k:Nat}(h:k < L.length):nI (tx L).cps.toList (k:Int)=some (L.getD k 0):=by
 show nI L.toArray.toList (k:Int)=_;rw[List.toList_toArray];refine jV ?_;rw[Sl,Bn h];rfl
section
variable {X:Cx}{G:Gr}{dl:List Slot}{a b e:Expr}{L M:List Nat}{k:Nat}{pos p p2:Pos}{ns:List Int}
theorem ti (ha:EE X G dl a (.str (tx L)))(hb:EE X G dl b (.str (tx M)))(h:L.length+M.length<=2000):EE X G dl (.BinOp a .Add b pos) (.str (tx (L ++ M))):=
 a8 (Hy ha hb (by rw[dB,dB];exact l4 h)) (by rw[Jm])
theorem tm (ha:EE X G dl a (.str (tx L)))(hb:EE X G dl b (.int (k:Int)))(h:k < L.length)(hl:L.length<=2000)(hs:autoParam (hW b) xL):EE X G dl (.Subscript a b pos) (.str (tx [L.getD k 0])):=
 HB ha hb (Ms L h) (by rw[dB];exact l4 hl) hs
theorem EU (ha:EE X G dl a (.str (tx L)))(hb:EE X G dl b (.int (k:Int)))(h:k<=L.length)(hl:L.length<=2000):EE X G dl (.Subscript a (.Slice none (some b) none p2) pos) (.str (tx (L.take k))):=
 a8 (A4 ha A3 (xI hb) (by rw[dB];exact l4 hl)) (by rw[BZ L h])
theorem zy (ha:EE X G dl a (.str (tx L)))(hb:EE X G dl b (.int (k:Int)))(h:k<=L.length)(hl:L.length<=2000):EE X G dl (.Subscript a (.Slice (some b) none none p2) pos) (.str (tx (L.drop k))):=
 a8 (A4 ha (xI hb) A3 (by rw[dB];exact l4 hl)) (by rw[wN L h])
theorem jL (hm:X.mg "len"=none)(ha:EE X G dl a (.str (tx L)))(hl:L.length<=2000)(hg:autoParam (Gl X "len") jp)(he:autoParam (starEach [a] X.env=[(false,eval a X.env)]) jp):EE X G dl (.Call (.Name "len" p) [a] [] pos) (.int (L.length:Nat)):=
 a8 (oj hm ha (by rw[dB];exact l4 hl) hg he) (by rw[dB])
theorem B0 (ha:EE X G dl a (.jq ns))(hb:EE X G dl b (.int (k:Int))):EE X G dl (.Subscript a (.Slice (some b) none none p2) pos) (.jq (ns.drop k)):=
 fG (lu rP ha (lr hb) rM) fun st H Q zq=>xa zq fun Hf S kk=>fun v Hf1 H1 g1 r1=>by
   cases r1 with
   | @jq q _ hq=>
     refine⟨Hf1,S.grow g1,fun z bw H2 g2 r2=>?_⟩;cases r2;have g:=g1.trans g2;refine⟨(k:Int),rfl,q,_,rfl,(g1.sub.trans g2.big).seq hq,fun p hp=>kk _ (upd bw p _) _ (g.trans (.alloc g.sub hp)) (.jq ?_)⟩;have e:qr (ns.map V.int) (some (k:Int)) none=(ns.drop k).map V.int:=by
       unfold qr;rw[HT.uq,HT.oi,ou,List.map_drop];by_cases h:k<=ns.length
       . rw[Xs h]
         exact WJ (by rw[Wz,ou];exact O0 _)
       . rw[Nat.min_eq_right (by omega),W7 (by rw[ou];exact O0 _),W7 (by rw[ou];omega)];simp
     rw[<- e];exact .of ah
end
theorem x8:∀ (Ls:List (List Nat)) (a:List Nat),(Ls.map tx).foldl (fun acc p=>acc ++ (("":Str).cps) ++ p.cps) a.toArray=(a ++ Ls.flatten).toArray
 | [],a=>by simp
 | l::r,a=>by
   have e:a.toArray ++ ("":Str).cps ++ (tx l).cps=(a ++ l).toArray:=by
     show a.toArray ++ (#[]:Array Nat) ++ l.toArray=_;simp
   rw[V7,List.foldl_cons,e,x8 r,Xl,List.append_assoc]
theorem EV (Ls:List (List Nat)):Txt.join "" (Ls.map tx)=tx Ls.flatten:=by
 cases Ls with
 | nil=>rfl
 | cons l r=>
   show(⟨(r.map tx).foldl (fun acc p=>acc ++ (("":Str).cps) ++ p.cps) l.toArray⟩:Str)=_;rw[x8,Xl];rfl
theorem mY {X:Cx}{G:Gr}{dl:List Slot}{a e:Expr}{apos a7:Pos}{Ls:List (List Nat)}(ha:EE X G dl a (.str ""))(he:EE X G dl e (.lst ((Ls.map tx).map .str)))(hw:Ls.flatten.length+Ls.length<=100000)(gb:autoParam (attributeBase a "join" X.env (eval a X.env)=eval a X.env) jp)
   (oV:autoParam (((backTo a7 (starEach [e] X.env)).all (fun x=>!x.1) && (backToKw a7 (keywordEach [] X.env)).all (fun x=>x.1.isSome) && decide ([e].length+([]:List Keyword).length+(if ([]:List Keyword).isEmpty then 0 else 1) < 30))=true) jp)
   (gc:autoParam ((apos.endLine == a7.line)=true) jp) (jf:autoParam (starEach [e] X.env=(false,eval e X.env)::starEach [] X.env) jp):EE X G dl (.Call (.Attribute a "join" apos) [e] [] a7) (.str (tx Ls.flatten)):=by
 have e1:((Ls.map tx).map (·.length)).sum=Ls.flatten.length:=by
   rw[List.length_flatten,V3]
   congr 1
 exact a8 (D6 ha he (joinOk_of_weight (by rw[e1,ou];omega) (by decide)) gb oV gc jf) (by rw[EV])
theorem vd:∀ rows:List Row,(rows.map fun r=>[r.c]).flatten=rows.map (·.c)
 | []=>rfl
 | a::r=>by rw[V7,Xl,vd r];rfl
noncomputable def ib.vf (t:ib)(six:Bool)(rows:List Row):List (Str×Dt):=[("drawer",.ml (.obj (t.pc six) [])),("row_by_letter",.b6 (mV rows))]
noncomputable def B1 (rows:List Row)(x:Nat):Str:=((rows.find? fun r=>decide (r.c=x)).map (·.d)).getD ""
noncomputable def wordOf (rows:List Row)(x:Nat):List Nat:=((rows.find? fun r=>decide (r.c=x)).map (·.w)).getD []
theorem lV {rows:List Row}{x:Nat}(h:x∈rows.map (·.c)):∃ r∈rows,r.c=x/\B1 rows x=r.d/\wordOf rows x=r.w:=by
 obtain⟨q,hq,e⟩:=Wj.mp h;cases f:rows.find? (fun r=>decide (r.c=x)) with
 | none=>exact absurd (decide_eq_true e) (by simpa using List.find?_eq_none.mp f q hq)
 | some r=>
   refine⟨r,List.mem_of_find?_eq_some f,of_decide_eq_true (List.find?_some (p:=fun r:Row=>decide (r.c=x)) f),?_,?_⟩
   . unfold B1;rw[f];rfl
   . unfold wordOf;rw[f];rfl
def wO (t:ib):Rl:=fun ds r=>∃ six rows,ds=[t.zv six rows]/\bC rows/\r=.ret (.str (tx (rows.map (·.c))))
def B2 (t:ib):Rl:=fun ds r=>∃ six rows q,ds=[t.zv six rows,.str (sg q.c)]/\bC rows/\q∈rows/\r=.ret (kQ q)
def EX (t:ib):Rl:=fun ds r=>∃ six rows x,ds=[t.zv six rows,.str (sg x)]/\bC rows/\x∈rows.map (·.c)/\r=.ret (.str (tx (wordOf rows x)))
theorem zA (T:Txt K mg t):MF P w K mg base CX 1 t.aR "row_of" 2 (B2 t):=by
 refine⟨T.dN.cl,_,_,_,jt T.fC.F nW rfl fun a6 A outer s H E G ds r hr hl hR=>?_,T.dh,T.fC.b⟩;obtain⟨six,rows,q,rfl,ok,hq,rfl⟩:=hR;have hu:(A.deeper (envOfC "Rules.row_of" (af fk) s.heap.objs.size t.bX a6)).units+1 < cLine:=by have:=hr.units;omega
 have hv:=mX ok.nd hq;exact⟨_,.rt _,ai (aQ (u:=false) (aP (xK hu (aa 1 rfl) (cu (fs:=t.vf six rows) (aa 0 rfl) T.dN.cl T.aF rfl)) (by rw[hv];rfl)) (fun h=>nomatch h) (fun h=>bg))
   (aq (bb (D7 hu (cu (fs:=t.vf six rows) (aa 0 rfl) T.dN.cl T.aF rfl) (aa 1 rfl) hv (fun _ _=>rfl))))⟩
theorem lW (T:Txt K mg t):MF P w K mg base CX 2 t.aR "word" 2 (EX t):=by
 refine⟨T.dN.cl,_,_,_,jt T.gQ.F qC rfl fun a6 A outer s H E G ds r hr hl hR=>?_,T.dX,T.gQ.b⟩;obtain⟨six,rows,x,rfl,ok,hx,rfl⟩:=hR;obtain⟨q,hq,rfl,e1,e2⟩:=lV hx;rw[e2];exact⟨_,.rt _,aq (bb (dW (cN (fs:=t.vf six rows) (aa 0 rfl) (zA T) aB hr (ae (aa 1 rfl) ak) ⟨six,rows,q,rfl,ok,hq,rfl⟩) aj rfl))⟩
theorem gq (T:Txt K mg t):MF P w K mg base CX 1 t.aR "letters" 1 (wO t):=by
 refine⟨T.dN.cl,_,_,_,jt T.eQ.F mO rfl fun a6 A outer s H E G ds r hr hl hR=>?_,T.cZ,T.eQ.b⟩;obtain⟨six,rows,rfl,ok,rfl⟩:=hR;have h6:=ok.le;have el:((mV rows).map fun kd=>kD kd.1)=((rows.map fun r=>[r.c]).map tx).map Dt.str:=by
   unfold mV;rw[V3,V3,V3];rfl
 have ef:(rows.map fun r=>[r.c]).flatten=rows.map (·.c):=vd rows;refine⟨_,.rt _,aq (bb (a8 (mY (Ls:=rows.map fun r=>[r.c]) ff (di el (Bd T.lb rfl (cu (fs:=t.vf six rows) (aa 0 rfl) T.dN.cl T.aF rfl))) (by rw[ef,ou,ou];omega)) (by rw[ef])))⟩
def rq (t:ib):Rl:=fun ds r=>∃ (six:Bool) (rows:List Row) (w:List Nat) (m:Nat),ds=[t.zv six rows,.str (tx w),.int (m:Nat)]/\bC rows/\(∀ x∈w,x∈rows.map (·.c))/\(0 < w.length/\w.length<=m/\m<=1000)/\r=.ret (.str (tx w))
theorem EY (w:List Nat):w.map (fun x=>Dt.str (sg x))=Sg.signs (tx w):=by rw[qb,V3];rfl
theorem oM {rows:List Row}(ok:bC rows){w:List Nat}(h:∀ x∈w,x∈rows.map (·.c)):gv (tx w)=true:=gZ fun x hx=>by
 obtain⟨r,hr,rfl⟩:=Wj.mp (h x hx);have:=ok.sm r hr;unfold small at this;omega
theorem wQ (T:Txt K mg t):gu P w K mg base CX 1 t.aI t.eD ["self","text","most"] (AB K 3 (rq t)):=by
 refine SK T.nY iM rfl fun a6 A outer s H E G ds r hr hl hR=>?_
 obtain⟨six,rows,wd,m,rfl,ok,hw,⟨h0,hm,IF⟩,rfl⟩:=hR;have nd:=iM.nd;have hu:(A.deeper (envOfC "Rules.word_of" (af aH) s.heap.objs.size t.aI a6)).units+1 < cLine:=by have:=hr.units;omega
 have ne:¬ tx wd=("":Str):=fun z=>by
   have:=congrArg Str.length z;rw[dB] at this;have e:("":Str).length=0:=rfl;omega
 let xs:=Sg.signs (tx wd);have Mp:xs.length=wd.length:=by show(Sg.signs (tx wd)).length=_;rw[j6,dB]
 let S:Nat->List Slot:=fun _=>[.val (t.zv six rows),.val (.str (tx wd)),.val (.int (m:Nat)),.cz,.cz]
 refine⟨_,.rt _,ai (aQ (u:=false) (aP (HK (aa 1 rfl) ff) (decide_eq_false ne)) (fun h=>nomatch h) (fun h=>bg))
   (ai (iY (o:=.nx (S wd.length)) (m:=wd.length) (Wi xs.length) (fun(j:Nat)=>.tup [.int j,xs.getD j .b0]) (fun(j:Nat) dl=>(dl.set 3 (.val (.int j))).set 4 (.val (xs.getD j .b0))) S rfl PassesOwn.leaving
     (Bf rfl T.gm (ae (aa 1 rfl) ak)) (wx (oM ok hw)) (ma rfl (cj (bh nd rfl (.inl rfl)) (cj (bh nd rfl (.inl rfl)) jU))) (fun a _=>oo) (Le.of ⟨rfl,rfl,rfl,trivial⟩) (by rw[Wo,Mp];exact O0 _) (fun j a hj ha=>?_) (by rw[Wo,Mp];exact .all rfl))
   (aq (bb (aa 1 rfl))))⟩
 rw[WE (by omega)] at ha;cases ha;have ex:xs.getD j .b0=.str (sg wd[j]):=by
   show(Sg.signs (tx wd)).getD j .b0=_;rw[<- EY,Sl,VB,Bn hj];rfl
 have v4:∀ {X:Cx} {G:Gr} {dl:List Slot} {e:Expr},EE X G dl e (xs.getD j .b0)->EE X G dl e (.str (sg wd[j])):=fun h=>by rw[ex] at h;exact h
 obtain⟨q,hq,hc,_,_⟩:=lV (hw _ (Wu hj));have hv:=mX ok.nd hq;rw[hc] at hv;exact .nx (aq (aQ (u:=false) (o5 (xu (u:=false) (v:=false) (aP (FP (aa 3 rfl) (aa 2 rfl)) (decide_eq_false (by omega))) fun _=>(rY (aP (xK hu (v4 (aa 4 rfl)) (cu (fs:=t.vf six rows) (aa 0 rfl) T.dN.cl T.aF rfl)) (by rw[hv];rfl))))) (fun h=>nomatch h) (fun h=>bg))) (Le.of ⟨rfl,rfl,rfl,trivial⟩)
theorem P2 {K:W.Frag}:∀ H,bu K H [.int 8] [.int 8]:=fun _=>.cons (.int 8) .nil
theorem nE (T:Txt K mg t):Nm P w K mg base CX 1 t.aR "word_of" 3 [.int 8] (rq t):=⟨T.dN.cl,_,_,_,_,[.int 8],wQ T,T.c5,T.mS,.cons ⟨_,rfl⟩ .nil,P2⟩
open PySem.Builtin.Str PySem.StrLaws in
theorem tq (s:Str)(c limit:Nat):∀ (n i:Nat) (acc:Array Nat) (free:Nat),free<=i->acc.size+n<=limit->(forIn (Xa i n) (acc,free) (occBody s ⟨#[c]⟩ s.length limit)).run.fst.size=acc.size+(Xa i n).countP (fun j=>decide (s.cps.toList[j]?=some c))
 | 0,i,acc,free,_,_=>by simp
 | n+1,i,acc,free,hf,hl=>by
   rw[List.range'_succ,List.forIn_cons,List.countP_cons];have RU:=subAt_one s c i;by_cases hc:s.cps.toList[i]?=some c
   . obtain⟨h1,h2⟩:=RU.mpr hc
     have e:occBody s ⟨#[c]⟩ s.length limit i (acc,free)=pure (ForInStep.yield (acc.push i,i+(⟨#[c]⟩:Str).length)):=by
       unfold occBody;exact if_pos ⟨⟨⟨by show acc.size < limit;omega,hf⟩,h1⟩,h2⟩
     rw[e];show(forIn (Xa (i+1) n) (acc.push i,i+(⟨#[c]⟩:Str).length) (occBody s ⟨#[c]⟩ s.length limit)).run.fst.size=_;rw[tq s c limit n (i+1) (acc.push i) _ (by show i+1<=i+1;omega) (by rw[Array.size_push];omega),Array.size_push,if_pos (decide_eq_true hc)];omega
   . have e:occBody s ⟨#[c]⟩ s.length limit i (acc,free)=pure (ForInStep.yield (acc,free)):=by
       unfold occBody;exact if_neg fun h=>hc (RU.mp ⟨h.1.2,h.2⟩)
     rw[e];show(forIn (Xa (i+1) n) (acc,free) (occBody s ⟨#[c]⟩ s.length limit)).run.fst.size=_;rw[tq s c limit n (i+1) acc free (by omega) (by omega),if_neg (by simpa using hc)];omega
theorem zB (L:List Nat)(c:Nat):(Xa 0 (L.length+1)).countP (fun j=>decide (L[j]?=some c))=L.count c:=by
 rw[<- List.range_eq_range',List.range_succ,List.countP_append];have e1:(Wi L.length).map (fun j=>L[j]?)=L.map some:=by
   refine List.ext_getElem? fun i=>?_
   rw[VB,VB];by_cases h:i < L.length
   . rw[WE h];simp[h]
   . rw[Wm (by simp;omega),Wm (by omega)];rfl
 have e2:(Wi L.length).countP (fun j=>decide (L[j]?=some c))=((Wi L.length).map (fun j=>L[j]?)).countP (fun o=>decide (o=some c)):=by
   rw[List.countP_map];rfl
 rw[e2,e1,List.countP_map];have e3:((fun o=>decide (o=some c)) ∘ some)=fun x:Nat=>x == c:=by
   funext x
   by_cases h:x=c <;> simp[h]
 rw[e3];simp[List.count]
open PySem.Builtin.Str PySem.StrLaws in
theorem B3 (w:List Nat)(x:Nat):Txt.count (tx w) (sg x)=((w.count x:Nat):Int):=by
 unfold Txt.count;have hl:=dB w;rw[occ_eq,W4];show(((forIn (Xa 0 ((tx w).length+1 - 0)) (#[],0) (occBody (tx w) ⟨#[x]⟩ (tx w).length ((tx w).length+1))).run.fst.size:Nat):Int)=_;rw[tq (tx w) x _ _ 0 #[] 0 (O0 _) (by simp)];have e:(tx w).cps.toList=w:=by show w.toArray.toList=w;simp
 rw[e,hl,Nat.sub_zero,zB];simp
noncomputable def Gb (L w:List Nat):List (Key×Int):=L.map fun x=>(.inr (sg x),((w.count x:Nat):Int))
theorem B4 (L w:List Nat):(dI (Gb L w)).map (·.1)=L.map fun x=>(Sum.inr (sg x):Key):=by
 unfold dI Gb;rw[V3,V3];rfl
theorem gS {L:List Nat}(h:L.Nodup):(L.map fun x=>(Sum.inr (sg x):Key)).Nodup:=by
 rw[List.nodup_iff_pairwise_ne,List.pairwise_map];exact(List.nodup_iff_pairwise_ne.mp h).imp fun hn e=>hn (mW (Sum.inr.inj e))
theorem Jn (L w:List Nat):(L.map fun x=>Dt.tup [.str (sg x),.int ((w.count x:Nat):Int)])=(dI (Gb L w)).map Dd:=by
 unfold dI Gb;rw[V3,V3];rfl
def EZ (t:ib):Rl:=fun ds r=>∃ six rows w,ds=[t.zv six rows,.str (tx w)]/\bC rows/\r=.own (.b6 (dI (Gb (rows.map (·.c)) w)))
noncomputable abbrev P4:Stmt->Scope
 | .Return (some (.Call _ (.ListComp _ _ sc _::_) _ _)) _=>sc
 | _=>af (.Pass ⟨0,0,0,0⟩)
noncomputable abbrev B5:Scope:=P4 ((ax lM).getD 0 (.Pass ⟨0,0,0,0⟩))
theorem vg:fK B5 (af lM) xW ["letter","word"] ["letter"] [1]=true:=by decide +kernel
theorem eU (w:List Nat):w.map (fun x=>Dt.str (sg x))=Sg.signs (tx w):=by rw[qb,V3];rfl
theorem qc {rows:List Row}(ok:bC rows):gv (tx (rows.map (·.c)))=true:=gZ fun x hx=>by
 obtain⟨r,hr,rfl⟩:=Wj.mp hx;have:=ok.sm r hr;unfold small at this;omega
theorem B6 (T:Txt K mg t):GF P w K mg base CX 3 "tally" 2 (EZ t):=by
 refine⟨_,_,_,jt T.ki.F u5 rfl fun a6 A outer s H E G ds r hr hl hR=>?_,(T.g T.ki.a),T.ki.F.kp,T.ki.b⟩;obtain⟨six,rows,wd,rfl,ok,rfl⟩:=hR;have nd:=u5.nd;have h6:=ok.le;let L:=rows.map (·.c);have e2:((L.filter fun _=>true).map fun x=>Dt.tup [.str (sg x),.int ((wd.count x:Nat):Int)])=(dI (Gb L wd)).map Dd:=by
   rw[Wb.mpr (fun _ _=>rfl)];exact Jn L wd
 refine⟨_,.ro _,aq (hZ (iF T.fR rfl (di e2 (eW L (fun x=>Dt.str (sg x)) (fun x=>.tup [.str (sg x),.int ((wd.count x:Nat):Int)]) (fun x=>[.val (.str (sg x))]) (fun _=>true) rfl (bI vg) (gw (mw (fs:=t.vf six rows) (aa 0 rfl) (gq T) aB hr ⟨six,rows,rfl,ok,rfl⟩)) (bV (bI vg) rfl) (c6 (c7 (qc ok)) (eU L)) (fun a _=>ck) (.nil fun _ _=>rfl)
     (fun a ha _ C fp s' H' G'=>gU (ae (aa 0 rfl) (ae (a8 (zf (aa 1 rfl) (aa 0 rfl)) (congrArg Dt.int (B3 wd a))) ak)) AA3) (l4 (by show(rows.map (·.c)).length<=_;rw[ou];omega)))) ?_ ?_))⟩
 . rw[B4];exact gS ok.nd
 . show((Gb (rows.map (·.c)) wd).map _).length<=_
   unfold Gb;rw[ou,ou,ou];exact l4 (by omega)
noncomputable def cT (rows:List Row):Nat->Nat->Nat->Int
 | 0,c,x=>(([c].count x:Nat):Int)
 | i+1,c,x=>((wordOf rows c).map fun y=>cT rows i y x).sum
noncomputable def kc (L:List Nat)(T:Nat->Int):List (Key×Int):=L.map fun x=>(.inr (sg x),T x)
noncomputable def lT (rows:List Row)(i c:Nat):Int:=((rows.map (·.c)).map fun x=>cT rows i c x).sum
noncomputable def mZ (rows:List Row)(i:Nat):List (Key×FD):=(rows.map (·.c)).map fun c=>(.inr (sg c),.b6 (kc (rows.map (·.c)) (cT rows i c)))
noncomputable def qE (rows:List Row)(i:Nat):List (Key×FD):=(rows.map (·.c)).map fun c=>(.inr (sg c),.int (lT rows i c))
theorem E2 (L:List Nat)(T:Nat->Int):(kc L T).map (·.2)=L.map T:=by unfold kc;rw[V3];rfl
theorem x9 (L:List Nat)(T:Nat->Int):(dI (kc L T)).map (·.1)=L.map fun x=>(Sum.inr (sg x):Key):=by unfold dI kc;rw[V3,V3];rfl
theorem B7 (L:List Nat)(T:Nat->Int):(dI (kc L T)).length=L.length:=by unfold dI kc;rw[ou,ou]
noncomputable def kd (L:List Nat)(D:Nat->Dt):List (Key×Dt):=L.map fun x=>(.inr (sg x),D x)
theorem fD {D:Nat->Dt}:∀ {L:List Nat} {x:Nat},x∈L->iw (kd L D) (.inr (sg x))=some (D x)
 | [],_,h=>by cases h
 | y::L,x,h=>by
   by_cases e:y=x
   . subst e
     exact lH (p:=((.inr (sg y):Key),D y)) rfl
   . have ne:¬ (Sum.inr (sg y):Key)=.inr (sg x):=fun z=>e (mW (Sum.inr.inj z))
     have hx:x∈L:=by
       rcases Wh.mp h with z | z
       . exact absurd z.symm e
       . exact z
     exact(jC (p:=((.inr (sg y):Key),D y)) ne).trans (fD hx)
theorem vh (L:List Nat)(T:Nat->Int):dI (kc L T)=kd L fun x=>.int (T x):=by unfold dI kc kd;rw[V3];rfl
theorem zS (rows:List Row)(i:Nat):mF (mZ rows i)=kd (rows.map (·.c)) fun c=>.cK (dI (kc (rows.map (·.c)) (cT rows i c))):=by unfold mF mZ kd;rw[V3];rfl
theorem E3 (rows:List Row)(i:Nat):mF (qE rows i)=kd (rows.map (·.c)) fun c=>.int (lT rows i c):=by unfold mF qE kd;rw[V3];rfl
theorem oN (L:List Nat)(D:Nat->Dt):(kd L D).map (·.1)=L.map fun x=>(Sum.inr (sg x):Key):=by unfold kd;rw[V3];rfl
theorem vi (L:List Nat)(D:Nat->Dt):(L.map fun x=>Dt.tup [.str (sg x),D x])=(kd L D).map Dd:=by unfold kd;rw[V3];rfl
theorem Jo {L:List Nat}(nd:L.Nodup){D:Nat->Dt}{j:Nat}(hj:j < L.length):jD (kd (L.take j) D) (.inr (sg L[j])) (D L[j])=kd (L.take (j+1)) D:=by
 have hn:iw (kd (L.take j) D) (.inr (sg L[j]))=none:=by
   refine mD fun kv J5=>?_
   have:kv.1∈(kd (L.take j) D).map (·.1):=Wj.mpr ⟨kv,J5,rfl⟩;rw[oN] at this;obtain⟨y,hy,e⟩:=Wj.mp this;intro z;rw[<- e] at z;have z:y=L[j]:=mW (Sum.inr.inj z);obtain⟨i,hi,e⟩:=WQ.mp hy;rw[Wc] at hi;rw[W8] at e;exact WB.mp nd i j (by omega) hj (by omega) (e.trans z)
 unfold jD;rw[hn,if_neg (by simp)];unfold kd;rw[WX,Bn hj,WM];rfl
noncomputable def rA (L:List Nat)(T:Nat->Int):Dt:=.cK (dI (kc L T))
def B8:Rl:=fun ds r=>∃ (L:List Nat) (ts:List (Nat->Int)),ds=[.lst (ts.map (rA L)),.str (tx L)]/\L.Nodup/\L.length<=6/\(∀ x∈L,x < 128)/\ts.length<=1000/\r=.own (.b6 (dI (kc L fun x=>(ts.map fun T=>T x).sum)))
noncomputable abbrev Jp:Stmt->Scope
 | .Return (some (.Call _ (.ListComp _ _ sc _::_) _ _)) _=>sc
 | _=>af (.Pass ⟨0,0,0,0⟩)
noncomputable abbrev Mt:Stmt->Scope
 | .Return (some (.Call _ (.ListComp (.Tuple [_,.Call _ (.ListComp _ _ sc _::_) _ _] _ _) _ _ _::_) _ _)) _=>sc
 | _=>af (.Pass ⟨0,0,0,0⟩)
noncomputable abbrev Gd:Scope:=Jp ((ax fi).getD 0 (.Pass ⟨0,0,0,0⟩))
noncomputable abbrev Jq:Scope:=Mt ((ax fi).getD 0 (.Pass ⟨0,0,0,0⟩))
noncomputable def P5 (sc:Scope):Env:={ scope:=sc,locals:=0,globals:=0,cells:=[],qual:="",func:=none,code:=.none,frame:=none,builtins:=0}
noncomputable abbrev Mu:Scope:=relabel Gd (P5 (af fi))
theorem ya:Br Gd (af fi) u6 ["letter","tallies"] "letter" [0]=true:=by decide +kernel
theorem tu:fK Jq Mu ["letter","tallies"] ["counts","letter"] ["counts"] [0]=true:=by decide +kernel
theorem rB (T:Txt K mg t):GF P w K mg base CX 2 "summed" 2 B8:=by
 refine⟨_,_,_,jt T.d7.F kf rfl fun a6 A outer s H E G ds r hr hl hR=>?_,(T.g T.d7.a),T.d7.F.kp,T.d7.b⟩;obtain⟨L,ts,rfl,P6,hL,h7,Vb,rfl⟩:=hR;have nd:=kf.nd;have hu:(A.deeper (envOfC "summed" (af fi) s.heap.objs.size t.iN a6)).units+1 < cLine:=by have:=hr.units;omega
 let D:Nat->Dt:=fun x=>.int (ts.map fun T=>T x).sum
 have e2:((L.filter fun _=>true).map fun x=>Dt.tup [.str (sg x),D x])=(dI (kc L fun x=>(ts.map fun T=>T x).sum)).map Dd:=by
   rw[Wb.mpr (fun _ _=>rfl),vh];exact vi L D
 refine⟨_,.ro _,aq (hZ (iF T.fR rfl (di e2 (Bq L (fun x=>Dt.str (sg x)) (fun x=>.tup [.str (sg x),D x]) (fun x=>[.val (.str (sg x))]) (fun _=>true) rfl (xR ya) (gw (aa 1 rfl)) (uV (xR ya)) (c6 (c7 (gZ h7)) (eU L)) (fun a _=>ck) (.nil fun _ _=>rfl)
     (fun a ha _ c C fp s' H' G'=>?_) (l4 (by omega)))) (by rw[x9];exact gS P6) (by rw[B7];exact l4 (by omega))))⟩
 have e3:((ts.filter fun _=>true).map fun T=>Dt.int (T a))=(ts.map fun T=>T a).map Dt.int:=by
   rw[Wb.mpr (fun _ _=>rfl),V3];rfl
 refine gU (ae (aa 0 rfl) (ae (sv T.p9 rfl (di e3 (eW ts (rA L) (fun T=>Dt.int (T a)) (fun T=>[.val (rA L T)]) (fun _=>true) rfl (bI tu) (fS (aa 1 rfl)) (bV (bI tu) rfl) eZ (fun a _=>ck) (.nil fun _ _=>rfl)
   (fun T' Vc _ C2 Nw s2 H2 G2=>?_) (l4 (by omega))))) ak)) AA3
 exact fh hu (aa 0 rfl) (aa 1 rfl) (by rw[vh];exact fD ha) (fun _ _=>rfl)
noncomputable def ib.wR (t:ib)(six:Bool)(rows:List Row)(w:List Nat):List (Str×Dt):=[("rules",t.zv six rows),("seed",.str (tx w))]
noncomputable def iP (rows:List Row):List (Nat->List (Key×FD)):=[mZ rows,qE rows]
noncomputable abbrev ib.bO (t:ib)(six:Bool)(rows:List Row)(w:List Nat)(l:Addr)(ls:iB)(n:Nat):List (Str×Dt):=vY (t.wR six rows w) ["tallies","lengths"] l ls n
noncomputable abbrev ib.zC (t:ib)(six:Bool)(rows:List Row)(w:List Nat)(l:Addr)(ls:iB)(n:Nat):List (Str×Dt):=mG (t.wR six rows w) ["tallies","lengths"] l ls n
noncomputable abbrev ib.Jr (t:ib)(six:Bool)(rows:List Row)(w:List Nat)(n:Nat):Dt:=.ql t.ao (t.wR six rows w) (iP rows) ["tallies","lengths"] n
structure dY (rows:List Row)(w:List Nat):Prop where
 ok:bC rows
 w0:0 < w.length
 w8:w.length<=8
 wm:∀ x∈w,x∈rows.map (·.c)
theorem vj {a:Addr}:∀ rows:List Row,sE a (mV rows)=true
 | []=>rfl
 | r::rows=>by
   show(sC a (kQ r) && sE a (mV rows))=true;rw[vj rows];rfl
theorem Js {a:Addr}(t:ib)(six:Bool)(rows:List Row):sC a (t.zv six rows)=true:=by
 show hE a [("drawer",.ml (.obj (t.pc six) [])),("row_by_letter",.b6 (mV rows))]=true;show(true && (sE a (mV rows) && true))=true;rw[vj];rfl
theorem vk {a:Addr}(t:ib)(six:Bool)(rows:List Row)(w:List Nat):hE a (t.wR six rows w)=true:=by
 show(sC a (t.zv six rows) && (true && true))=true;rw[Js];rfl
def E4 (t:ib):Rl:=fun ds r=>∃ six rows w,ds=[t.zv six rows,.str (tx w)]/\dY rows w/\r=.own (.nK t.ao (t.wR six rows w) (iP rows) ["tallies","lengths"] 1)
noncomputable abbrev B9:Stmt->Scope
 | .Assign _ (.List [.Call _ (.ListComp _ _ sc _::_) _ _] _) _=>sc
 | _=>af (.Pass ⟨0,0,0,0⟩)
noncomputable abbrev Jt:Scope:=B9 ((ax cv).getD 2 (.Pass ⟨0,0,0,0⟩))
noncomputable abbrev Ju:Scope:=B9 ((ax cv).getD 3 (.Pass ⟨0,0,0,0⟩))
theorem Ca:fK Jt (af cv) iz ["letter","rules"] ["letter"] [1]=true:=by decide +kernel
theorem Cb:fK Ju (af cv) iz ["letter"] ["letter"] []=true:=by decide +kernel
theorem yb:∀ {L:List Nat} {c:Nat},L.Nodup->c∈L->(L.map fun x=>(([c].count x:Nat):Int)).sum=1
 | [],_,_,h=>by cases h
 | y::L,c,nd,h=>by
   rw[W3] at nd;rw[V7,WR];by_cases e:c=y
   . subst e
     have z:(L.map fun x=>(([c].count x:Nat):Int)).sum=0:=by
       have:∀ x∈L,(([c].count x:Nat):Int)=0:=fun x hx=>by
         have:¬ c=x:=fun z=>nd.1 (z ▸ hx)
         simp[List.count_cons,this]
       rw[W5 this];clear this nd h
       induction L with
       | nil=>rfl
       | cons a r ih=>rw[V7,WR,ih];rfl
     rw[z];simp
   . have hc:c∈L:=by
       rcases Wh.mp h with z | z
       . exact absurd z e
       . exact z
     rw[yb nd.2 hc];simp[List.count_cons,e]
theorem Mv {rows:List Row}(ok:bC rows){c:Nat}(h:c∈rows.map (·.c)):lT rows 0 c=1:=yb ok.nd h
theorem Cc (T:Txt K mg t):Nl P w K mg base CX 4 "Growth" t.ao 3 (E4 t):=by
 refine⟨_,_,_,QS T.f6.F jH rfl fun a6 A outer s H E G z ds r hr hl hR=>?_,T.mQ,(T.g T.av.a),T.f6.b⟩;obtain⟨six,rows,wd,rfl,ok,rfl⟩:=hR;have h6:=ok.ok.le;let L:=rows.map (·.c);have hL:L.length<=6:=by show(rows.map (·.c)).length<=6;rw[ou];exact h6
 have nd:=jH.nd;have e1:((L.filter fun _=>true).map fun x=>Dt.tup [.str (sg x),rA L (cT rows 0 x)])=(mF (mZ rows 0)).map Dd:=by
   rw[Wb.mpr (fun _ _=>rfl),zS];exact vi L _
 have e2:((L.filter fun _=>true).map fun x=>Dt.tup [.str (sg x),.int 1])=(mF (qE rows 0)).map Dd:=by
   rw[Wb.mpr (fun _ _=>rfl),E3,<- vi];exact W5 fun x hx=>by rw[Mv ok.ok hx]
 refine⟨_,.QR (fs:=t.wR six rows wd) (gs:=iP rows) (nm:=["tallies","lengths"]) (n:=1) rfl,ai (we (aa 1 rfl) T.av.cl T.aJ) (ai (we (AW (fs:=t.vf six rows) (aa 1 rfl) (nE T) aB hr (ae (aa 2 rfl) ak) ⟨six,rows,wd,8,rfl,ok.ok,ok.wm,⟨ok.w0,ok.w8,by decide⟩,rfl⟩) T.av.cl T.cF)
   (sH (f:=mZ rows) (g:=qE rows) rfl T.av.cl T.aS T.bf ?_ ?_))⟩
 . refine iF T.fR rfl (di e1 (eW L (fun x=>Dt.str (sg x)) (fun x=>.tup [.str (sg x),rA L (cT rows 0 x)]) (fun x=>[.val (.str (sg x))]) (fun _=>true) rfl (bI Ca) (gw (mw (fs:=t.vf six rows) (aa 1 rfl) (gq T) aB hr ⟨six,rows,rfl,ok.ok,rfl⟩)) (bV (bI Ca) rfl) (c6 (c7 (qc ok.ok)) (eU L)) (fun a _=>ck) (.nil fun _ _=>rfl)
     (fun a ha _ C fp s' H' G'=>gU (ae (aa 0 rfl) (ae (F2 (lE (B6 T) aB hr (ae (aa 1 rfl) (ae (aa 0 rfl) ak)) ⟨six,rows,[a],rfl,ok.ok,rfl⟩)) ak)) AA3) (l4 (by omega)))) (by rw[zS,oN];exact gS ok.ok.nd) (by rw[zS];show(List.map _ _).length<=_;rw[ou,ou];exact l4 (by omega))
 . refine iF T.fR rfl (di e2 (eW L (fun x=>Dt.str (sg x)) (fun x=>.tup [.str (sg x),.int 1]) (fun x=>[.val (.str (sg x))]) (fun _=>true) rfl (bI Cb) (gw (mw (fs:=t.vf six rows) (aa 1 rfl) (gq T) aB hr ⟨six,rows,rfl,ok.ok,rfl⟩)) (bV (bI Cb) rfl) (c6 (c7 (qc ok.ok)) (eU L)) (fun a _=>ck) (.nil fun _ _=>rfl)
     (fun a ha _ C fp s' H' G'=>gU (ae (aa 0 rfl) (ae aj ak)) AA3) (l4 (by omega)))) (by rw[E3,oN];exact gS ok.ok.nd) (by rw[E3];show(List.map _ _).length<=_;rw[ou,ou];exact l4 (by omega))
def Cd (t:ib):Rl:=fun ds r=>∃ six rows w l ls n age,ds=[.obj t.ao (t.bO six rows w l ls n),.int ((age:Nat):Int)]/\dY rows w/\ls.map (·.2)=iP rows/\age<=1000/\r=.ret (.qu l ls (age+1))
noncomputable abbrev P7:Stmt->List Stmt
 | .While _ b _ _=>b
 | _=>[]
noncomputable abbrev Ce:Stmt->Scope
 | .For _ _ [.Assign _ (.Call _ (.ListComp _ _ sc _::_) _ _) _] _ _=>sc
 | _=>af (.Pass ⟨0,0,0,0⟩)
noncomputable abbrev E6:Stmt->Scope
 | .Expr (.Call _ [.Call _ (.ListComp _ _ sc _::_) _ _] _ _) _=>sc
 | _=>af (.Pass ⟨0,0,0,0⟩)
noncomputable abbrev wB:List Stmt:=P7 ((ax aV).getD 1 (.Pass ⟨0,0,0,0⟩))
noncomputable abbrev Mw:Scope:=Ce (wB.getD 2 (.Pass ⟨0,0,0,0⟩))
noncomputable abbrev Mx:Scope:=E6 (wB.getD 4 (.Pass ⟨0,0,0,0⟩))
theorem Ge:fK Mw (af aV) eY ["younger","last"] ["younger"] [3]=true:=by decide +kernel
theorem Gf:fK Mx (af aV) eY ["letter","grown"] ["letter"] [4]=true:=by decide +kernel
theorem zE (T:Txt K mg t):MF P w K mg base CX 4 t.ao "deepen_to" 2 (Cd t):=by
 refine⟨T.av.cl,_,_,_,jt T.cV.F gF rfl fun a6 A outer s H E G ds r hr hl hR=>?_,T.bY,T.cV.b⟩;obtain⟨six,rows,wd,l,ls,n,age,rfl,ok,gk,d0,rfl⟩:=hR;have nd:=gF.nd;have h6:=ok.ok.le;let L:=rows.map (·.c);have hL:L.length<=6:=by show(rows.map (·.c)).length<=6;rw[ou];exact h6
 have h7:∀ x∈L,x < 128:=fun x hx=>by
   obtain⟨r,hr,rfl⟩:=Wj.mp hx;have:=ok.ok.sm r hr;unfold small at this;omega
 have hu:(A.deeper (envOfC "Growth.deepen_to" (af aV) s.heap.objs.size t.aW a6)).units+1 < cLine:=by have:=hr.units;omega
 have e2:ls.length=2:=by have:=congrArg W9 gk;simpa [iP] using this
 let tl:List Slot:=[.val (.int ((age:Nat):Int)),.val (.str (tx L)),.cz,.cz,.cz]
 refine⟨_,mH (by rw[e2];exact O0 2),ai (dl1:=uW t.ao (t.wR six rows wd) ["tallies","lengths"] l ls n tl) (aw 2 nd (mw (fs:=t.vf six rows) (cu (fs:=t.bO six rows wd l ls n) (aa 0 rfl) T.av.cl T.aJ rfl) (gq T) aB hr ⟨six,rows,rfl,ok.ok,rfl⟩))
   (aq (zk (age:=age) PassesOwn.leaving (vk t six rows wd) rfl (by decide) (by omega) (fun N G hx=>?_) (fun N hN VW G0 hA hB=>?_)))⟩
 . exact aP (pj (Eh (N:=N) T.gG hx (cu (fs:=t.zC six rows wd l ls n) (aa 0 rfl) T.av.cl T.aS rfl) (by rw[e2];rfl)) (aa 1 rfl)) (decide_eq_decide.mpr (by omega))
 . let Dk:Nat->Dt:=fun c=>rA L (cT rows N c)
   let S:Nat->List Slot:=fun k=>[.val (.obj t.ao (t.zC six rows wd l ls n)),.val (.int ((age:Nat):Int)),.val (.str (tx L)),.val (.cK (mF (mZ rows (N - 1)))),.own (.b6 (kd (L.take k) Dk)),.cz]
   have eS:S L.length=[.val (.obj t.ao (t.zC six rows wd l ls n)),.val (.int ((age:Nat):Int)),.val (.str (tx L)),.val (.cK (mF (mZ rows (N - 1)))),.own (.b6 (mF (mZ rows N))),.cz]:=by
     show [_,_,_,_,Slot.own (.b6 (kd (L.take L.length) Dk)),_]=_;rw[W0,zS rows N];rfl
   refine ai (aw 3 nd (Bv (f:=mZ rows) (N:=N) ah (cu (fs:=t.zC six rows wd l ls n) (aa 0 rfl) T.av.cl T.aS rfl) (Ay aj) (by rw[gk];rfl) (by rw[e2];rfl) hN)) (ai (j4 4 nd D9)
     (ai (dl1:=S L.length) (iY (o:=.nx (S L.length)) (m:=L.length) L (fun x=>Dt.str (sg x)) (fun x dl=>dl.set 5 (.val (.str (sg x)))) S rfl PassesOwn.leaving (gw (aa 2 rfl)) (c6 (c7 (gZ h7)) (eU L)) (bh nd rfl (.inl rfl)) (fun a _=>su) (Le.of ⟨rfl,rfl,rfl,rfl,rfl,trivial⟩) (O0 _) (fun k a hk ha=>?_) (.all rfl)) ?_))
   . rw[Bn hk] at ha
     cases ha;have hm:L[k]∈L:=Wu hk;obtain⟨q,hq,hc,_,ew⟩:=lV hm;have Vd:=ok.ok.wp q hq;have RV:∀ y∈wordOf rows L[k],y∈L:=fun y hy=>ok.ok.wo q hq y (by rw[ew] at hy;exact hy)
     have J0:(wordOf rows L[k]).length<=8:=by rw[ew];exact Vd.2
     have OX:(kd (L.take k) Dk).length < sizeLine:=by
       unfold kd;rw[ou,Wc];exact V4 (show min k L.length < 2000 by omega) (by decide)
     have e3:(((wordOf rows L[k]).filter fun _=>true).map fun y=>rA L (cT rows (N - 1) y))=((wordOf rows L[k]).map fun y=>cT rows (N - 1) y).map (rA L):=by
       rw[Wb.mpr (fun _ _=>rfl),V3];rfl
     have eN:N=(N - 1)+1:=by omega
     have ed:Dk L[k]=.cK (dI (kc L fun x=>(((wordOf rows L[k]).map fun y=>cT rows (N - 1) y).map fun T=>T x).sum)):=by
       have e7:(cT rows N L[k])=fun x=>(((wordOf rows L[k]).map fun y=>cT rows (N - 1) y).map fun T=>T x).sum:=by
         funext x
         rw[V3];obtain⟨M,rfl⟩:∃ M,N=M+1:=⟨N - 1,eN⟩
         rfl
       show rA L (cT rows N L[k])=_;rw[e7];rfl
     refine .nx (aq (xM (kds:=kd (L.take k) Dk) (d:=Dk L[k]) 4 hu (by rw[ed];exact F2 (lE (rB T) aB hr (ae (di e3 (eW (wordOf rows L[k]) (fun x=>Dt.str (sg x)) (fun y=>rA L (cT rows (N - 1) y)) (fun x=>[.val (.str (sg x))]) (fun _=>true) rfl (bI Ge) (gw (cN (fs:=t.vf six rows) (cu (fs:=t.zC six rows wd l ls n) (aa 0 rfl) T.av.cl T.aJ rfl) (lW T) aB hr (ae (aa 5 rfl) ak) ⟨six,rows,L[k],rfl,ok.ok,hm,rfl⟩)) (bV (bI Ge) rfl) (c6 (c7 (oM ok.ok RV)) (eU _)) (fun a _=>ck) (.nil fun _ _=>rfl)
       (fun y hy _ C fp s' H' G'=>fh hu (aa 1 rfl) (aa 0 rfl) (by rw[zS];exact fD (RV y hy)) (fun _ _=>rfl)) (l4 (by omega)))) (ae (aa 2 rfl) ak)) ⟨L,_,rfl,ok.ok.nd,hL,h7,by rw[ou];omega,rfl⟩)) (aa 5 rfl) OX)) (Le.of ⟨rfl,rfl,rfl,rfl,?_,trivial⟩)
     show Slot.own (.b6 (kd (L.take (k+1)) Dk))=Slot.own (.b6 (jD (kd (L.take k) Dk) (.inr (sg L[k])) (Dk L[k])));rw[Jo ok.ok.nd hk]
   . rw[eS]
     refine DO (dl1:=.val (.obj t.ao (t.zC six rows wd l ls n))::tl.set 3 (.own (.b6 (mF (mZ rows N))))) (uY (f:=mZ rows) (g:=qE rows) (tl:=tl) 3 (vk t six rows wd) rfl rfl gk (by omega) T.av.cl T.aS T.bf hA hB (fun G2=>?_)) (Le.of ⟨rfl,rfl,rfl,rfl,trivial⟩);have e4:((L.filter fun _=>true).map fun x=>Dt.tup [.str (sg x),.int (lT rows N x)])=(mF (qE rows N)).map Dd:=by
       rw[Wb.mpr (fun _ _=>rfl),E3];exact vi L _
     exact iF T.fR rfl (di e4 (eW L (fun x=>Dt.str (sg x)) (fun x=>.tup [.str (sg x),.int (lT rows N x)]) (fun x=>[.val (.str (sg x))]) (fun _=>true) rfl (bI Gf) (gw (aa 2 rfl)) (bV (bI Gf) rfl) (c6 (c7 (gZ h7)) (eU L)) (fun a _=>ck) (.nil fun _ _=>rfl)
       (fun a ha _ C fp s' H' G'=>gU (ae (aa 0 rfl) (ae (a8 (Ej (kds:=kc L (cT rows N a)) T.p9 rfl (fh (d:=rA L (cT rows N a)) hu (aa 1 rfl) (aa 0 rfl) (by rw[zS];exact fD ha) (fun _ _=>rfl)) (.inl rfl)) (by rw[E2];rfl)) ak)) AA3) (l4 (by omega)))) (by rw[E3,oN];exact gS ok.ok.nd) (by rw[E3];show(List.map _ _).length<=_;rw[ou,ou];exact l4 (by omega))
def P8:Rl:=fun ds r=>∃ z f l:Int,ds=[.int z,.int f,.int l]/\f<=z/\z<=l/\r=.ret .b0
def E7 (t:ib):Rl:=fun ds r=>∃ six rows w l ls n age,ds=[.obj t.ao (t.bO six rows w l ls n),.int ((age:Nat):Int)]/\dY rows w/\ls.map (·.2)=iP rows/\age<=200/\r=.ret (.qu l ls (age+1))
noncomputable def My (rows:List Row)(w:List Nat)(age:Nat):Int:=(w.map (lT rows age)).sum
noncomputable def NR (rows:List Row)(w:List Nat)(age:Nat)(x:Nat):Int:=(w.map fun c=>cT rows age c x).sum
def Cf (t:ib):Rl:=fun ds r=>∃ six rows w l ls n age,ds=[.obj t.ao (t.bO six rows w l ls n),.int ((age:Nat):Int)]/\dY rows w/\ls.map (·.2)=iP rows/\age<=200/\r=.ret (.int (My rows w age))
def Jv (t:ib):Rl:=fun ds r=>∃ six rows w l ls n age,ds=[.obj t.ao (t.bO six rows w l ls n),.int ((age:Nat):Int)]/\dY rows w/\ls.map (·.2)=iP rows/\age<=200/\r=.own (.b6 (dI (kc (rows.map (·.c)) (NR rows w age))))
noncomputable abbrev Cg:Stmt->Scope
 | .Return (some (.Call _ (.ListComp _ _ sc _::_) _ _)) _=>sc
 | _=>af (.Pass ⟨0,0,0,0⟩)
noncomputable abbrev Mz:Scope:=Cg ((ax b9).getD 1 (.Pass ⟨0,0,0,0⟩))
noncomputable abbrev MA:Scope:=Cg ((ax cb).getD 1 (.Pass ⟨0,0,0,0⟩))
theorem Gg:fK Mz (af b9) ji ["letter","self","age"] ["letter"] [0,1]=true:=by decide +kernel
theorem Gh:fK MA (af cb) jk ["letter","self","age"] ["letter"] [0,1]=true:=by decide +kernel
theorem dY.asc {rows:List Row}{w:List Nat}(ok:dY rows w):gv (tx w)=true:=oM ok.ok ok.wm
theorem yc (T:Txt K mg t):GF P w K mg base CX 1 "check_round" 3 P8:=by
 refine⟨_,_,_,jt T.de.F pQ rfl fun a6 A outer s H E G ds r hr hl hR=>?_,(T.g T.de.a),T.de.F.kp,T.de.b⟩;obtain⟨z,f,l,rfl,h1,h2,rfl⟩:=hR;exact⟨_,.nx _,aq (aQ (u:=false) (o5 (xu (u:=false) (v:=false) (aP (nv (aa 0 rfl) (aa 1 rfl)) (decide_eq_false (by omega))) fun _=>(rY (aP (ny (aa 0 rfl) (aa 2 rfl)) (decide_eq_false (by omega)))))) (fun h=>nomatch h) (fun h=>bg))⟩
theorem iQ (T:Txt K mg t):MF P w K mg base CX 5 t.ao "enter" 2 (E7 t):=by
 refine⟨T.av.cl,_,_,_,jt T.fA.F nS rfl fun a6 A outer s H E G ds r hr hl hR=>?_,T.cW,T.fA.b⟩;obtain⟨six,rows,wd,l,ls,n,age,rfl,ok,gk,d0,rfl⟩:=hR;have e2:ls.length=2:=by have:=congrArg W9 gk;simpa [iP] using this
 exact⟨_,mH (nm:=["tallies","lengths"]) (by rw[e2];exact O0 2),ai (dE (b7 (yc T) aB hr (ae (aa 1 rfl) (ae aj (ae (hX (w:=.int 200) T.gN ⟨_,rfl⟩ fun _=>.int 200) ak))) ⟨_,_,_,rfl,by omega,by omega,rfl⟩))
   (aq (gj (m:=age+1) (tl:=[.val (.int ((age:Nat):Int))]) (cN (fs:=t.bO six rows wd l ls n) (aa 0 rfl) (zE T) aB hr (ae (aa 1 rfl) ak) ⟨six,rows,wd,l,ls,n,age,rfl,ok,gk,by omega,rfl⟩)))⟩
theorem tw (T:Txt K mg t):MF P w K mg base CX 6 t.ao "length" 2 (Cf t):=by
 refine⟨T.av.cl,_,_,_,jt T.eG.F mM rfl fun a6 A outer s H E G ds r hr hl hR=>?_,T.cG,T.eG.b⟩;obtain⟨six,rows,wd,l,ls,n,age,rfl,ok,gk,d0,rfl⟩:=hR;have hu:(A.deeper (envOfC "Growth.length" (af b9) s.heap.objs.size t.bK a6)).units+1 < cLine:=by have:=hr.units;omega
 have w8:=ok.w8;have e3:((wd.filter fun _=>true).map fun x=>Dt.int (lT rows age x))=(wd.map (lT rows age)).map Dt.int:=by
   rw[Wb.mpr (fun _ _=>rfl),V3];rfl
 exact⟨_,.rt _,ai (gj (m:=age+1) (tl:=[.val (.int ((age:Nat):Int))]) (cN (fs:=t.bO six rows wd l ls n) (aa 0 rfl) (iQ T) aB hr (ae (aa 1 rfl) ak) ⟨six,rows,wd,l,ls,n,age,rfl,ok,gk,by omega,rfl⟩))
   (aq (bb (sv T.p9 rfl (di e3 (eW wd (fun x=>Dt.str (sg x)) (fun x=>Dt.int (lT rows age x)) (fun x=>[.val (.str (sg x))]) (fun _=>true) rfl (bI Gg) (gw (cu (fs:=t.bO six rows wd l ls (age+1)) (aa 0 rfl) T.av.cl T.cF rfl)) (bV (bI Gg) rfl) (c6 (c7 ok.asc) (eU wd)) (fun a _=>ck) (.nil fun _ _=>rfl)
     (fun a ha _ C fp s' H' G'=>fh hu (pK (n:=age+1) (j:=1) (f:=qE rows) (cu (fs:=t.bO six rows wd l ls (age+1)) (aa 1 rfl) T.av.cl T.bf rfl) (aa 2 rfl) (by rw[gk];rfl) (by omega) (by omega)) (aa 0 rfl) (by rw[E3];exact fD (ok.wm a ha)) (fun _ _=>rfl)) (l4 (by omega)))))))⟩
theorem yd (T:Txt K mg t):MF P w K mg base CX 6 t.ao "counts" 2 (Jv t):=by
 refine⟨T.av.cl,_,_,_,jt T.eI.F mN rfl fun a6 A outer s H E G ds r hr hl hR=>?_,T.cH,T.eI.b⟩;obtain⟨six,rows,wd,l,ls,n,age,rfl,ok,gk,d0,rfl⟩:=hR;have hu:(A.deeper (envOfC "Growth.counts" (af cb) s.heap.objs.size t.bL a6)).units+1 < cLine:=by have:=hr.units;omega
 have w8:=ok.w8;have h6:=ok.ok.le;let L:=rows.map (·.c);have hL:L.length<=6:=by show(rows.map (·.c)).length<=6;rw[ou];exact h6
 have h7:∀ x∈L,x < 128:=fun x hx=>by
   obtain⟨r,hr,rfl⟩:=Wj.mp hx;have:=ok.ok.sm r hr;unfold small at this;omega
 have e3:((wd.filter fun _=>true).map fun x=>rA L (cT rows age x))=(wd.map fun c=>cT rows age c).map (rA L):=by
   rw[Wb.mpr (fun _ _=>rfl),V3];rfl
 have e4:(NR rows wd age)=fun x=>((wd.map fun c=>cT rows age c).map fun T=>T x).sum:=by
   funext x
   rw[V3];rfl
 exact⟨_,.ro _,ai (gj (m:=age+1) (tl:=[.val (.int ((age:Nat):Int))]) (cN (fs:=t.bO six rows wd l ls n) (aa 0 rfl) (iQ T) aB hr (ae (aa 1 rfl) ak) ⟨six,rows,wd,l,ls,n,age,rfl,ok,gk,by omega,rfl⟩))
   (aq (hZ (lE (rB T) aB hr (ae (di e3 (eW wd (fun x=>Dt.str (sg x)) (fun x=>rA L (cT rows age x)) (fun x=>[.val (.str (sg x))]) (fun _=>true) rfl (bI Gh) (gw (cu (fs:=t.bO six rows wd l ls (age+1)) (aa 0 rfl) T.av.cl T.cF rfl)) (bV (bI Gh) rfl) (c6 (c7 ok.asc) (eU wd)) (fun a _=>ck) (.nil fun _ _=>rfl)
     (fun a ha _ C fp s' H' G'=>fh hu (pK (n:=age+1) (j:=0) (f:=mZ rows) (cu (fs:=t.bO six rows wd l ls (age+1)) (aa 1 rfl) T.av.cl T.aS rfl) (aa 2 rfl) (by rw[gk];rfl) (by omega) (by omega)) (aa 0 rfl) (by rw[zS];exact fD (ok.wm a ha)) (fun _ _=>rfl)) (l4 (by omega)))) (ae (mw (fs:=t.vf six rows) (cu (fs:=t.bO six rows wd l ls (age+1)) (aa 0 rfl) T.av.cl T.aJ rfl) (gq T) aB hr ⟨six,rows,rfl,ok.ok,rfl⟩) ak)) ⟨L,_,rfl,ok.ok.nd,hL,h7,by rw[ou];omega,by rw[e4]⟩)))⟩
noncomputable def MM:Int:=2305843009213693951
noncomputable def jd (ns:List Int)(k:Nat):Int:=ns.getD (k % ns.length) 0
noncomputable def bG (ns:List Int)(k:Nat):Int:=jd ns k % 10 ^ 60 / MM * MM+(jd ns k+7919 * ((k:Int)+1)) * 6364136223846793005 % MM
theorem vm (ns:List Int)(k:Nat):0<=bG ns k:=by
 have h1:=WD (jd ns k) (show(10:Int) ^ 60≠0 by decide);have h2:=WD ((jd ns k+7919 * ((k:Int)+1)) * 6364136223846793005) (show MM≠0 by decide);have h3:0<=jd ns k % 10 ^ 60 / MM:=Int.ediv_nonneg h1 (by decide);unfold bG;have h4:0<=jd ns k % 10 ^ 60 / MM * MM:=Int.mul_nonneg h3 (by decide);omega
theorem MB {m n:Nat}{a b:Int}(ha:a.natAbs < 2 ^ m)(hb:b.natAbs < 2 ^ n)(h:m+n<=134217728):IntMulOk a b:=IntMulOk.of_le (PySem.intBits_le_iff.mpr ha) (PySem.intBits_le_iff.mpr hb) h
def MC:Rl:=fun ds r=>∃ ns:List Int,ns.length<=63/\ds=[.jq ns]/\r=.ret (.bl true)
def Ci (K:W.Frag):Sp:=AB K 1 MC
theorem Jx {K:W.Frag}{H:Hp}{a:Addr}{ns:List Int}(hl:ns.length<=63)(hS:jm K H a (ns.map V.int)):Ci K [.ref a] H (fun v _=>v=.bl true) fun _ _ _=>False:=
 ⟨H,[.jq ns],.ret (.bl true),ay.refl H,.cons (.jq hS) .nil,rfl,⟨ns,hl,rfl,rfl⟩,fun v aA H' g r=>by cases r;rfl⟩
def ye:Rl:=fun ds r=>∃ (ns:List Int) (k:Nat),ds=[.jq ns,.int k]/\k<=100/\r=.ret (.int (bG ns k))
theorem Cj (ns:List Int)(k:Nat)(h:k < ns.length):nI ns (k:Int)=some (ns.getD k 0):=by
 refine jV ?_;rw[Sl,Bn h];rfl
theorem Ck (T:Txt K mg t):GF P w K mg base CX 1 "_law_cell" 2 ye:=by
 refine⟨_,_,_,jt T.mT.F oB rfl fun a6 A outer s H E G ds r hr hl hR=>?_,(T.g T.mT.a),T.mT.F.kp,T.mT.b⟩;obtain⟨ns,k,rfl,hk,rfl⟩:=hR;refine⟨_,.rt _,ai (aw 2 oB.nd aj) (ai (dl1:=[.val (.jq ns),.val (.int k),.val (.int (jd ns k)),.cz]) (aQ (ny (xx T.gG (aa 0 rfl)) aj) (fun h=>?_) (fun h=>?_))
   (ai (aw 3 oB.nd (cq (kU (dU (aa 2 rfl) (kU aj (dU (aa 1 rfl) aj) (ug.ok (WA ⟨by decide,by decide⟩)))) aj (ug.ok (Wl ⟨by decide,by decide⟩))) aj (by decide)))
 (aq (bb (dU (kU (dD (cq (aa 2 rfl) (Hw aj aj ⟨by decide,by decide,by decide⟩) (by decide)) aj ⟨by decide,by decide +kernel⟩) aj (ug.ok (Wl ⟨by decide,by decide⟩))) (aa 3 rfl))))))⟩
 . have h:=of_decide_eq_true h
   have hl:0 < ns.length:=by omega
   have e:((k:Nat):Int) % ((ns.length:Nat):Int)=((k % ns.length:Nat):Int):=by omega
   exact aq (aw 2 oB.nd (HA (aa 0 rfl) (a8 (cq (aa 1 rfl) (xx T.gG (aa 0 rfl)) (by omega)) (congrArg Dt.int e)) (Cj ns _ (Nat.mod_lt _ hl))))
 . have h:=of_decide_eq_false h
   have e:jd ns k=0:=by unfold jd;rw[Sl,Wm (by omega)];rfl
   rw[e];exact bg
noncomputable def P9:List Nat:=(Wi 26).map (97 + ·)
structure LS where
 left:List Nat
 rest:Int
 out:List Nat
noncomputable def ls (c:Int):Nat->LS
 | 0=>⟨P9,c,[]⟩
 | k+1=>let s:=ls c k;let at_:=(s.rest % (s.left.length:Nat)).toNat;⟨s.left.take at_ ++ s.left.drop (at_+1),s.rest / (s.left.length:Nat),s.out ++ [s.left.getD at_ 0]⟩
noncomputable def ko (s:LS):Nat:=(s.rest % (s.left.length:Nat)).toNat
structure Ve (k:Nat)(s:LS):Prop where
 len:s.left.length+k=26
 ol:s.out.length=k
 sm:∀ x∈s.left,small x
 so:∀ x∈s.out,small x
 nl:s.left.Nodup
 no:s.out.Nodup
 ap:∀ x∈s.out,x ∉ s.left
theorem Cm {s:LS}(h:0 < s.left.length):ko s < s.left.length:=by
 have h0:=WD s.rest (show((s.left.length:Nat):Int)≠0 by omega);have h1:=WO s.rest (show(0:Int) < (s.left.length:Nat) by omega);unfold ko;omega
theorem Cn (c:Int):∀ k,k<=6->Ve k (ls c k)
 | 0,_=>⟨show P9.length+0=26 by decide,rfl,fun x hx=>by
     obtain⟨i,hi,rfl⟩:=Wj.mp (show x∈(Wi 26).map (97 + ·) from hx);have:=Xu.mp hi;unfold small;omega,fun x h=>absurd h (List.not_mem_nil),show P9.Nodup by decide,List.nodup_nil,fun x h=>absurd h (List.not_mem_nil)⟩
 | k+1,hk=>by
   have ih:=Cn c k (by omega);have hl:=ih.len;have b5:ko (ls c k) < (ls c k).left.length:=Cm (by omega);generalize hs:ls c k=s at ih hl b5;have e:ls c (k+1)=⟨s.left.take (ko s) ++ s.left.drop (ko s+1),s.rest / (s.left.length:Nat),s.out ++ [s.left.getD (ko s) 0]⟩:=by rw[<- hs];rfl
   rw[e];have eg:s.left.getD (ko s) 0=s.left[ko s]:=by rw[Sl,Bn b5];rfl
   have sub:s.left.take (ko s) ++ s.left.drop (ko s+1)=s.left.eraseIdx (ko s):=(List.eraseIdx_eq_take_drop_succ _ _).symm;have mem:∀ x∈s.left.take (ko s) ++ s.left.drop (ko s+1),x∈s.left:=fun x hx=>by
     rcases WI.mp hx with h | h
     . exact List.mem_of_mem_take h
     . exact List.mem_of_mem_drop h
   have Ir:s.left[ko s]∈s.left:=Wu b5;have Vf:s.left[ko s] ∉ s.left.take (ko s) ++ s.left.drop (ko s+1):=by
     have pw:=WB.mp ih.nl;intro h;rcases WI.mp h with h | h
     . obtain⟨i,hi,e⟩:=WQ.mp h
       rw[Wc] at hi;rw[W8] at e;exact pw i (ko s) (by omega) b5 (by omega) e
     . obtain⟨i,hi,e⟩:=WQ.mp h
       rw[Wz] at hi;rw[List.getElem_drop] at e;exact pw (ko s) (ko s+1+i) b5 (by omega) (by omega) e.symm
   refine⟨?_,?_,fun x hx=>ih.sm x (mem x hx),fun x hx=>?_,?_,?_,fun x hx=>?_⟩
   . show(s.left.take (ko s) ++ s.left.drop (ko s+1)).length+(k+1)=26
     rw[V5,Wc,Wz];omega
   . show(s.out ++ [s.left.getD (ko s) 0]).length=k+1
     rw[V5,ih.ol];rfl
   . rcases WI.mp hx with h | h
     . exact ih.so x h
     . have:x=s.left[ko s]:=by rw[<- eg];simpa using h
       rw[this];exact ih.sm _ Ir
   . show(s.left.take (ko s) ++ s.left.drop (ko s+1)).Nodup
     rw[sub];exact List.Nodup.sublist (List.eraseIdx_sublist _ _) ih.nl
   . show(s.out ++ [s.left.getD (ko s) 0]).Nodup
     rw[eg];refine List.nodup_append.mpr ⟨ih.no,by simp,fun a ha b hb z=>?_⟩;have:b=s.left[ko s]:=by simpa using hb
     subst z this;exact ih.ap _ ha Ir
   . rcases WI.mp hx with h | h
     . exact fun z=>ih.ap x h (mem x z)
     . have:x=s.left[ko s]:=by rw[<- eg];simpa using h
       rw[this];exact Vf
noncomputable def ws (L:List Nat)(c m:Int):Nat->Int×List Nat
 | 0=>(c / m,[])
 | k+1=>let s:=ws L c m k;(s.1 / (L.length:Nat),s.2 ++ [L.getD (s.1 % (L.length:Nat)).toNat 0])
noncomputable def qd (L:List Nat)(c m:Int):List Nat:=(ws L c m (1+c % m).toNat).2
theorem wV (L:List Nat)(c m:Int):∀ k,(ws L c m k).2.length=k
 | 0=>rfl
 | k+1=>by show((ws L c m k).2 ++ [_]).length=_;rw[V5,wV L c m k];rfl
theorem Co (L:List Nat)(hL:0 < L.length)(c m:Int):∀ k,∀ x∈(ws L c m k).2,x∈L
 | 0,x,h=>by cases h
 | k+1,x,h=>by
   rcases WI.mp h with h | h
   . exact Co L hL c m k x h
   . have h0:=WD (ws L c m k).1 (show((L.length:Nat):Int)≠0 by omega)
     have h1:=WO (ws L c m k).1 (show(0:Int) < (L.length:Nat) by omega);have b5:((ws L c m k).1 % (L.length:Nat)).toNat < L.length:=by omega
     have:x=L.getD ((ws L c m k).1 % (L.length:Nat)).toNat 0:=by simpa using h
     rw[this,Sl,Bn b5];exact Wu b5
theorem at_getD {L:List Str}{i:Int}{n:Nat}(hn:L.length=n)(h0:0<=i)(h1:i < n):nI (L.map Dt.str) i=some (.str (L.getD i.toNat "")):=by
 have e:i=((i.toNat:Nat):Int):=by omega
 rw[e];have hk:i.toNat < L.length:=by omega
 refine(jV (j:=i.toNat) ?_).trans rfl;rw[VB,Bn hk,Sl];show some (Dt.str L[i.toNat])=some (Dt.str ((L[(i.toNat:Int).toNat]?).getD ""));rw[WT,Bn hk];rfl
theorem tE {L:List Nat}(hL:0 < L.length)(c m:Int)(hm:0 < m):0 < (qd L c m).length/\(qd L c m).length<=m.toNat/\∀ x∈qd L c m,x∈L:=by
 have h0:=WD c (show m≠0 by omega);have h1:=WO c hm;have hl:=wV L c m (1+c % m).toNat;refine⟨?_,?_,Co L hL c m _⟩
 . show 0 < (ws L c m (1+c % m).toNat).2.length;omega
 . show(ws L c m (1+c % m).toNat).2.length<=_;omega
noncomputable def qe (c:Int)(n:Nat):List Nat:=(ls c n).out
theorem vn (c:Int){n:Nat}(h:n<=6):(qe c n).length=n/\(qe c n).Nodup/\∀ x∈qe c n,small x:=let ok:=Cn c n h;⟨ok.ol,ok.no,ok.so⟩
def E8:Rl:=fun ds r=>∃ (c:Int) (n:Nat),ds=[.int c,.int n]/\n<=6/\r=.ret (.str (tx (qe c n)))
def Jy:Rl:=fun ds r=>∃ (L:List Nat) (c m:Int),ds=[.int c,.str (tx L),.int m]/\(0 < L.length/\L.length<=100)/\(0<=c/\0 < m/\m<=500)/\r=.ret (.str (tx (qd L c m)))
theorem Cp (T:Txt K mg t):GF P w K mg base CX 1 "_law_alphabet" 2 E8:=by
 refine⟨_,_,_,jt T.fQ.F nC rfl fun a6 A outer s H E G ds r hr hl hR=>?_,(T.g T.fQ.a),T.fQ.F.kp,T.fQ.b⟩;obtain⟨c,n,rfl,hn,rfl⟩:=hR;have nd:=nC.nd;let S:Nat->List Slot:=fun k=>[.val (.int (ls c k).rest),.val (.int n),.val (.str (tx (ls c k).left)),.val (.str (tx (ls c k).out)),.cz,.cz]
 refine⟨_,.rt _,ai (aw 2 nd ff) (ai (aw 3 nd ff)
   (ai (j0 (o:=.nx (S n)) (m:=n) 4 S nd rfl PassesOwn.leaving T.jb (ae (aa 1 rfl) ak) ⟨by omega,by omega⟩ (Le.of ⟨rfl,rfl,rfl,rfl,trivial⟩) (by omega) (fun k hk=>?_) (by rw[WT];exact .all rfl)) (aq (bb (aa 3 rfl)))))⟩
 have ok:=Cn c k (by omega);have hl:=ok.len;have Vg:=ok.ol;have b5:ko (ls c k) < (ls c k).left.length:=Cm (by omega);have ea:(ls c k).rest % (((ls c k).left.length:Nat):Int)=((ko (ls c k):Nat):Int):=by
   have h0:=WD (ls c k).rest (show(((ls c k).left.length:Nat):Int)≠0 by omega);unfold ko;omega
 have Vh:((ko (ls c k):Nat):Int)+1=((ko (ls c k)+1:Nat):Int):=by omega
 have hb:0 < (((ls c k).left.length:Nat):Int)/\(((ls c k).left.length:Nat):Int).natAbs.log2 < 9000:=⟨by omega,by
   have:(((ls c k).left.length:Nat):Int).natAbs<=26:=by omega
   exact WC (Nat.log2_le_self _) (by omega)⟩
 exact .nx (ai (aw 5 nd (a8 (cq (aa 0 rfl) (jL T.gG (aa 2 rfl) (by omega)) (by omega)) (congrArg Dt.int ea)))
   (ai (aw 0 nd (dD (aa 0 rfl) (jL T.gG (aa 2 rfl) (by omega)) hb))
   (ai (aw 3 nd (ti (aa 3 rfl) (tm (aa 2 rfl) (aa 5 rfl) b5 (by omega)) (by rw[Vg];show k+1<=2000;omega)))
   (aq (aw 2 nd (ti (EU (aa 2 rfl) (aa 5 rfl) (WL b5) (by omega)) (zy (aa 2 rfl) (a8 (dU (aa 5 rfl) aj) (congrArg Dt.int Vh)) b5 (by omega)) (by rw[Wc,Wz];omega))))))) (Le.of ⟨rfl,rfl,rfl,rfl,trivial⟩)
theorem E9 (T:Txt K mg t):GF P w K mg base CX 1 "_law_text" 3 Jy:=by
 refine⟨_,_,_,jt T.mU.F xY rfl fun a6 A outer s H E G ds r hr hl hR=>?_,(T.g T.mU.a),T.mU.F.kp,T.mU.b⟩;obtain⟨L,c,m,rfl,⟨VX,hL⟩,⟨hc,K8,hm⟩,rfl⟩:=hR;have nd:=xY.nd;have h0:=WD c (show m≠0 by omega);have h1:=WO c K8;have Vi:0 < m/\m.natAbs.log2 < 9000:=⟨K8,WC (Nat.log2_le_self _) (by omega)⟩
 have Vj:0 < ((L.length:Nat):Int)/\((L.length:Nat):Int).natAbs.log2 < 9000:=⟨by omega,WC (Nat.log2_le_self _) (by omega)⟩
 let S:Nat->List Slot:=fun k=>[.val (.int (ws L c m k).1),.val (.str (tx L)),.val (.int m),.val (.str (tx (ws L c m k).2)),.val (.int (1+c % m)),.cz]
 refine⟨_,.rt _,ai (aw 3 nd ff) (ai (aw 4 nd (dU aj (cq (aa 0 rfl) (aa 2 rfl) K8))) (ai (aw 0 nd (dD (aa 0 rfl) (aa 2 rfl) Vi))
   (ai (j0 (m:=(1+c % m).toNat) 5 S nd rfl PassesOwn.leaving T.jb (ae (aa 4 rfl) ak) ⟨by omega,by omega⟩ (Le.of ⟨rfl,rfl,rfl,rfl,rfl,trivial⟩) (O0 _) (fun k hk=>?_) (.all rfl)) (aq (bb (aa 3 rfl))))))⟩
 have J0:=wV L c m k;have h2:=WD (ws L c m k).1 (show((L.length:Nat):Int)≠0 by omega);have h3:=WO (ws L c m k).1 (show(0:Int) < (L.length:Nat) by omega);have ea:(ws L c m k).1 % ((L.length:Nat):Int)=((((ws L c m k).1 % (L.length:Nat)).toNat:Nat):Int):=by omega
 exact .nx (ai (aw 3 nd (ti (aa 3 rfl) (tm (aa 1 rfl) (a8 (cq (aa 0 rfl) (jL T.gG (aa 1 rfl) (by omega)) (by omega)) (congrArg Dt.int ea)) (by omega) (by omega)) (by rw[J0];show k+1<=2000;omega)))
   (aq (aw 0 nd (dD (aa 0 rfl) (jL T.gG (aa 1 rfl) (by omega)) Vj)))) (Le.of ⟨rfl,rfl,rfl,rfl,rfl,trivial⟩)
noncomputable def yf:List Str:=["stroke","left","right","step","rest"]
noncomputable def dG (c:Int):Str:=yf.getD (c % 5).toNat ""
theorem zF:∀ x∈yf,x∈x2:=by decide
theorem Jz (c:Int):dG c∈x2:=by
 have h0:=WD c (show(5:Int)≠0 by decide);have h1:=WO c (show(0:Int) < 5 by decide);have hk:(c % 5).toNat < yf.length:=by show _ < 5;omega
 refine zF _ ?_;unfold dG;rw[Sl,Bn hk];exact Wu hk
noncomputable def qF (L:List Nat)(ns:List Int)(m:Int)(k:Nat):Row:=⟨L.getD k 0,dG (bG ns (3+k)),qd L (bG ns (3+k) / 5) m⟩
noncomputable def qf (L:List Nat)(ns:List Int)(m:Int):List Row:=(Wi L.length).map (qF L ns m)
theorem wW (L:List Nat)(ns:List Int)(m:Int):(qf L ns m).map (·.c)=L:=by
 unfold qf;rw[V3];refine List.ext_getElem (by simp) fun i h1 h2=>?_
 simp only[Wv,List.getElem_range,Function.comp];show L.getD i 0=L[i];rw[Sl,Bn h2];rfl
theorem Cq {L:List Nat}(ns:List Int){m:Int}(hm:0 < m/\m<=8)(h0:0 < L.length)(h6:L.length<=6)(nd:L.Nodup)(sm:∀ x∈L,small x):bC (qf L ns m):=by
 have hl:(qf L ns m).length=L.length:=by unfold qf;rw[ou,Wo]
 have get:∀ r∈qf L ns m,∃ k,k < L.length/\r=qF L ns m k:=fun r hr=>by
   obtain⟨k,hk,e⟩:=Wj.mp hr;exact⟨k,Xu.mp hk,e.symm⟩
 refine⟨by omega,by omega,by rw[wW];exact nd,fun r hr=>?_,fun r hr=>?_,fun r hr=>?_,fun r hr x hx=>?_⟩
 . obtain⟨k,hk,rfl⟩:=get r hr
   refine sm _ ?_;show L.getD k 0∈L;rw[Sl,Bn hk];exact Wu hk
 . obtain⟨k,hk,rfl⟩:=get r hr
   exact Jz _
 . obtain⟨k,hk,rfl⟩:=get r hr
   have:=tE h0 (bG ns (3+k) / 5) m hm.1;exact⟨this.1,by have:=this.2.1;show(qd _ _ _).length<=8;omega⟩
 . obtain⟨k,hk,rfl⟩:=get r hr
   rw[wW];exact(tE h0 (bG ns (3+k) / 5) m hm.1).2.2 x hx
noncomputable def m5 (ns:List Int)(far:Int):Int:=if bG ns 1 % 8=6 then bG ns 1 / 8 % (far+1) else bG ns 1 / 8 % 13
noncomputable def jO (ns:List Int)(far:Int):Int:=if bG ns 1 % 8=7 then 200 - bG ns 1 / 8 % 50 else m5 ns far
noncomputable def fE (ns:List Int):Int:=if bG ns 1 % 8=7 then 1+bG ns 0 / 2 % 3 else 1+bG ns 0 / 2 % 6
noncomputable def m6 (ns:List Int):Int:=if bG ns 1 % 8=7 then 3 else 8
noncomputable def yg (ns:List Int):List Nat:=qe (bG ns 0 / 12) (fE ns).toNat
noncomputable def m7 (ns:List Int):List Row:=qf (yg ns) ns (m6 ns)
noncomputable def lX (ns:List Int):List Nat:=qd (yg ns) (bG ns 2) 8
noncomputable def vo (ns:List Int):Bool:=decide (bG ns 0 % 2=1)
theorem MD (ns:List Int):4+2 * (bG ns 0 % 2)=wy (vo ns):=by
 have:bG ns 0 % 2=0\/bG ns 0 % 2=1:=by omega
 unfold vo;rcases this with h | h <;> rw[h] <;> rfl
theorem qg (ns:List Int):1<=fE ns/\fE ns<=6:=by
 unfold fE
 split <;> omega
theorem vp (ns:List Int):0 < m6 ns/\m6 ns<=8:=by
 unfold m6
 split <;> omega
theorem yh (ns:List Int){far:Int}(h0:0<=far)(h:far<=200):0<=jO ns far/\jO ns far<=200:=by
 have h1:=WD (bG ns 1 / 8) (show far+1≠0 by omega);have h2:=WO (bG ns 1 / 8) (show(0:Int) < far+1 by omega);unfold jO m5
 split
 . omega
 . split <;> omega
theorem wX (ns:List Int):0 < (yg ns).length/\(yg ns).length<=6/\(yg ns).Nodup/\∀ x∈yg ns,small x:=by
 have hb:=qg ns;have ok:=vn (bG ns 0 / 12) (n:=(fE ns).toNat) (by omega);unfold yg;exact⟨by omega,by omega,ok.2.1,ok.2.2⟩
theorem JA (ns:List Int):(yg ns).length=(fE ns).toNat:=by
 have hb:=qg ns;exact(vn (bG ns 0 / 12) (n:=(fE ns).toNat) (by omega)).1
theorem ME (ns:List Int):bC (m7 ns):=let h:=wX ns;Cq ns (vp ns) h.1 h.2.1 h.2.2.1 h.2.2.2
theorem Gi (ns:List Int):dY (m7 ns) (lX ns):=by
 have h:=wX ns;have w:=tE h.1 (bG ns 2) 8 (by decide);exact⟨ME ns,w.1,w.2.1,fun x hx=>by unfold m7;rw[wW];exact w.2.2 x hx⟩
def Fb:Rl:=fun ds r=>∃ (ns:List Int) (far:Int),ds=[.jq ns,.int far]/\(0<=far/\far<=200)/\r=.ret (.tup [.int (wy (vo ns)),.lst ((m7 ns).map kQ),.str (tx (lX ns)),.int (jO ns far)])
theorem Cr (T:Txt K mg t):GF P w K mg base CX 2 "_law_shape" 2 Fb:=by
 refine⟨_,_,_,jt T.kl.F u7 rfl fun a6 A outer s H E G ds r hr hl hR=>?_,(T.g T.kl.a),T.kl.F.kp,T.kl.b⟩;obtain⟨ns,far,rfl,⟨VY,hf⟩,rfl⟩:=hR;have nd:=u7.nd;have hM:=qg ns;have hm:=vp ns;have hL:=wX ns;have hlen:=JA ns;have eM:fE ns=(((fE ns).toNat:Nat):Int):=by omega
 let c0:=bG ns 0;let c1:=bG ns 1;let L:=yg ns;let m:=m6 ns;let D:Int->Int->Int->List Slot:=fun a b c=>[.val (.jq ns),.val (.int far),.val (.int c0),.val (.int (c1 % 8)),.val (.int a),.val (.int b),.val (.int c),.cz,.cz,.cz,.cz,.cz,.cz]
 let S:Nat->List Slot:=fun k=>[.val (.jq ns),.val (.int far),.val (.int c0),.val (.int (c1 % 8)),.val (.int (jO ns far)),.val (.int (fE ns)),.val (.int m),.val (.str (tx L)),.own (.lst (((Wi k).map (qF L ns m)).map kQ)),.cz,.cz,.cz,.cz]
 have cl:∀ (j:Nat),j<=100->ye [.jq ns,.int j] (.ret (.int (bG ns j))):=fun j hj=>⟨ns,j,rfl,hj,rfl⟩
 refine⟨_,.rt _,ai (aw 2 nd (b7 (Ck T) aB hr (ae (aa 0 rfl) (ae aj ak)) (cl 0 (by decide))))
   (ai (aw 3 nd (cq (b7 (Ck T) aB hr (ae (aa 0 rfl) (ae aj ak)) (cl 1 (by decide))) aj (by decide)))
   (ai (aw 4 nd (cq (dD (b7 (Ck T) aB hr (ae (aa 0 rfl) (ae aj ak)) (cl 1 (by decide))) aj ⟨by decide,by decide +kernel⟩) aj (by decide)))
   (ai (aw 5 nd (dU aj (cq (dD (aa 2 rfl) aj ⟨by decide,by decide +kernel⟩) aj (by decide))))
   (ai (aw 6 nd aj)
   (ai (dl1:=D (m5 ns far) (1+c0 / 2 % 6) 8) (aQ (bP (aa 3 rfl) aj) (fun h=>?_) (fun h=>?_))
   (ai (dl1:=D (jO ns far) (fE ns) m) (aQ (bP (aa 3 rfl) aj) (fun h=>?_) (fun h=>?_))
   (ai (aw 7 nd (d:=.str (tx L)) (b7 (Cp T) aB hr (ae (dD (aa 2 rfl) aj ⟨by decide,by decide +kernel⟩) (ae (a8 (aa 5 rfl) (congrArg Dt.int eM)) ak)) ⟨c0 / 12,(fE ns).toNat,rfl,by omega,rfl⟩))
   (ai (j4 8 nd (wa ak AA3))
   (ai (dl1:=S L.length) (j0 (o:=.nx (S L.length)) (m:=L.length) 9 S nd rfl PassesOwn.leaving T.jb (ae (a8 (aa 5 rfl) (congrArg Dt.int eM)) ak) ⟨by omega,by omega⟩ (Le.of ⟨rfl,rfl,rfl,rfl,rfl,rfl,rfl,rfl,rfl,trivial⟩) (by show(yg ns).length<=_;omega) (fun k hk=>?_) (by rw[WT,<- hlen];exact .all rfl))
   (ai (aw 12 nd (d:=.str (tx (lX ns))) (b7 (E9 T) aB hr (ae (b7 (Ck T) aB hr (ae (aa 0 rfl) (ae aj ak)) (cl 2 (by decide))) (ae (aa 7 rfl) (ae aj ak))) ⟨L,bG ns 2,8,rfl,⟨hL.1,by show(yg ns).length<=100;omega⟩,⟨vm _ _,by decide,by decide⟩,rfl⟩))
   (pv (w:=.lst (((Wi L.length).map (qF L ns m)).map kQ)) 8 (aq (bb (gU (ae (a8 (dU aj (kU aj (cq (aa 2 rfl) aj (by decide)) (ug.ok (WA ⟨by decide,by decide⟩)))) (congrArg Dt.int (MD ns))) (ae (aa 8 rfl) (ae (aa 12 rfl) (ae (aa 4 rfl) ak)))) AA3))))))))))))))⟩
 . have h:=of_decide_eq_true h
   have e:m5 ns far=c1 / 8 % (far+1):=if_pos h;rw[e];exact aq (aw 4 nd (cq (dD (b7 (Ck T) aB hr (ae (aa 0 rfl) (ae aj ak)) (cl 1 (by decide))) aj ⟨by decide,by decide +kernel⟩) (dU (aa 1 rfl) aj) (by omega)))
 . have h:=of_decide_eq_false h
   have e:m5 ns far=c1 / 8 % 13:=if_neg h;rw[e];exact bg
 . have h:=of_decide_eq_true h
   have e1:jO ns far=200 - c1 / 8 % 50:=if_pos h;have e2:fE ns=1+c0 / 2 % 3:=if_pos h;have e3:m=3:=if_pos h;rw[e1,e2,e3];exact ai (aw 4 nd (o3 aj (cq (dD (b7 (Ck T) aB hr (ae (aa 0 rfl) (ae aj ak)) (cl 1 (by decide))) aj ⟨by decide,by decide +kernel⟩) aj (by decide))))
     (ai (aw 5 nd (dU aj (cq (dD (aa 2 rfl) aj ⟨by decide,by decide +kernel⟩) aj (by decide)))) (aq (aw 6 nd aj)))
 . have h:=of_decide_eq_false h
   have e1:jO ns far=m5 ns far:=if_neg h;have e2:fE ns=1+c0 / 2 % 6:=if_neg h;have e3:m=8:=if_neg h;rw[e1,e2,e3];exact bg
 . have hk:k < (yg ns).length:=hk
   have h0:=WD (bG ns (3+k)) (show(5:Int)≠0 by decide);have h1:=WO (bG ns (3+k)) (show(0:Int) < 5 by decide);have Vk:=vm ns (3+k);have e:((Wi (k+1)).map (qF L ns m)).map kQ=((Wi k).map (qF L ns m)).map kQ ++ [kQ (qF L ns m k)]:=by
     rw[List.range_succ,WM,WM];rfl
   refine .nx (ai (aw 10 nd (b7 (Ck T) aB hr (ae (aa 0 rfl) (ae (a8 (dU aj (aa 9 rfl)) (congrArg Dt.int (show(3:Int)+(k:Int)=((3+k:Nat):Int) by omega))) ak)) (cl (3+k) (by omega))))
     (ai (aw 11 nd (d:=.str (dG (bG ns (3+k)))) (dW (gU (ae ff (ae ff (ae ff (ae ff (ae ff ak))))) AA3) (cq (aa 10 rfl) aj (by decide)) (at_getD (L:=yf) (n:=5) rfl h0 h1)))
     (aq (mx (ds:=((Wi k).map (qF L ns m)).map kQ) 8 (d:=kQ (qF L ns m k)) (gU (ae (tm (aa 7 rfl) (aa 9 rfl) hk (by show(yg ns).length<=2000;omega)) (ae (aa 11 rfl) (ae (b7 (E9 T) aB hr (ae (dD (aa 10 rfl) aj ⟨by decide,by decide +kernel⟩) (ae (aa 7 rfl) (ae (aa 6 rfl) ak))) ⟨L,bG ns (3+k) / 5,m,rfl,⟨hL.1,by show(yg ns).length<=100;omega⟩,⟨Int.ediv_nonneg Vk (by decide),hm.1,by have:=hm.2;show m6 ns<=500;omega⟩,rfl⟩) ak))) AA3) (by rw[ou,ou,Wo];exact V4 (show k < 2000 by omega) (by decide)))))) (Le.of ⟨rfl,rfl,rfl,rfl,rfl,rfl,rfl,rfl,?_,trivial⟩)
   show Slot.own (.lst (((Wi (k+1)).map (qF L ns m)).map kQ))=_;rw[e]
theorem vq (B:List Nat)(f g:Nat->Int):(B.map fun b=>f b+g b).sum=(B.map f).sum+(B.map g).sum:=by
 induction B with
 | nil=>rfl
 | cons b B ih=>rw[V7,WR,ih,V7,WR,V7,WR];omega
theorem qh (B:List Nat):(B.map fun _=>(0:Int)).sum=0:=by
 induction B with
 | nil=>rfl
 | cons b B ih=>rw[V7,WR,ih];rfl
theorem zG (A B:List Nat)(f:Nat->Nat->Int):(A.map fun a=>(B.map fun b=>f a b).sum).sum=(B.map fun b=>(A.map fun a=>f a b).sum).sum:=by
 induction A with
 | nil=>exact(qh B).symm
 | cons a A ih=>
   rw[V7,WR,ih,<- vq];rfl
noncomputable def gP (rows:List Row):Nat->Nat->List Nat
 | 0,c=>[c]
 | r+1,c=>(wordOf rows c).flatMap (gP rows r)
theorem Qa (rows:List Row)(r c:Nat):lT rows (r+1) c=((wordOf rows c).map (lT rows r)).sum:=by
 unfold lT;exact(zG (wordOf rows c) (rows.map (·.c)) fun y x=>cT rows r y x).symm
theorem dR {rows:List Row}(ok:bC rows){c:Nat}(hc:c∈rows.map (·.c)):(∀ y∈wordOf rows c,y∈rows.map (·.c))/\0 < (wordOf rows c).length/\(wordOf rows c).length<=8:=by
 obtain⟨q,hq,_,_,ew⟩:=lV hc;rw[ew];exact⟨ok.wo q hq,ok.wp q hq⟩
theorem qi {f:Nat->List Nat}{g:Nat->Int}:∀ {w:List Nat},(∀ y∈w,(((f y).length:Nat):Int)=g y)->(((w.flatMap f).length:Nat):Int)=(w.map g).sum
 | [],_=>rfl
 | y::w,h=>by
   rw[WY,V5,V7,WR,<- h y (by simp),<- qi (f:=f) (g:=g) fun z hz=>h z (by simp[hz])];omega
theorem tF {rows:List Row}(ok:bC rows):∀ (r:Nat) {c:Nat},c∈rows.map (·.c)->(((gP rows r c).length:Nat):Int)=lT rows r c
 | 0,c,hc=>by rw[Mv ok hc];rfl
 | r+1,c,hc=>by
   rw[Qa];exact qi fun y hy=>tF ok r ((dR ok hc).1 y hy)
theorem wY {rows:List Row}(ok:bC rows):∀ (r:Nat) {c:Nat},c∈rows.map (·.c)->0 < (gP rows r c).length
 | 0,c,hc=>by show 0 < [c].length;simp
 | r+1,c,hc=>by
   obtain⟨h1,h2,_⟩:=dR ok hc;show 0 < ((wordOf rows c).flatMap (gP rows r)).length;cases hw:wordOf rows c with
   | nil=>rw[hw] at h2;simp at h2
   | cons y w=>
     have:=wY ok r (h1 y (by rw[hw];simp));rw[WY,V5];omega
noncomputable abbrev Pc:=Nat×Nat
noncomputable def l5 (p:Pc):Dt:=.tup [.int ((p.1:Nat):Int),.str (sg p.2)]
noncomputable def flat (rows:List Row)(st:List Pc):List Nat:=st.flatMap fun p=>gP rows p.1 p.2
noncomputable def wp (r:Nat)(w:List Nat):List Pc:=w.map fun c=>(r,c)
theorem jP (rows:List Row)(a b:List Pc):flat rows (a ++ b)=flat rows a ++ flat rows b:=List.flatMap_append
theorem oO (rows:List Row)(r:Nat)(w:List Nat):flat rows (wp r w)=w.flatMap (gP rows r):=by unfold flat wp;rw[List.flatMap_map]
theorem MG (rows:List Row)(p:Pc):flat rows [p]=gP rows p.1 p.2:=by unfold flat;simp
theorem iR (rows:List Row)(p:Pc)(st:List Pc):flat rows (p::st)=gP rows p.1 p.2 ++ flat rows st:=by unfold flat;rw[WY]
structure PS where
 place:Nat
 st:List Pc
 bt:List Pc
noncomputable def iS (rows:List Row)(b e:Nat)(s:PS):PS:=match s.st with
 | []=>s
 | p::st=>
   if s.place+(gP rows p.1 p.2).length<=b then ⟨s.place+(gP rows p.1 p.2).length,st,s.bt⟩
   else if b<=s.place/\s.place+(gP rows p.1 p.2).length<=e then ⟨s.place+(gP rows p.1 p.2).length,st,s.bt ++ [p]⟩
   else ⟨s.place,wp (p.1 - 1) (wordOf rows p.2) ++ st,s.bt⟩
noncomputable def run (rows:List Row)(b e:Nat)(s:PS):Nat->PS
 | 0=>s
 | k+1=>iS rows b e (run rows b e s k)
theorem Ct (rows:List Row)(b e:Nat)(s:PS):∀ k,run rows b e s (k+1)=run rows b e (iS rows b e s) k
 | 0=>rfl
 | k+1=>by
   show iS rows b e (run rows b e s (k+1))=iS rows b e (run rows b e (iS rows b e s) k);rw[Ct rows b e s k]
structure Gj (rows:List Row)(age b e:Nat)(W:List Nat)(s:PS):Prop where
 be:b<=e
 ew:e<=W.length
 pe:s.place<=e
 fl:flat rows s.st=W.drop s.place
 fb:flat rows s.bt=(W.take s.place).drop b
 mb:∀ p∈s.st,p.2∈rows.map (·.c)/\p.1<=age
 mt:∀ p∈s.bt,p.2∈rows.map (·.c)/\p.1<=age
noncomputable def ins (b p q:Nat):Nat:=if p < b/\b < q then 1 else 0
theorem Cu (b p q:Nat):ins b p q<=1:=by unfold ins;split <;> omega
theorem yi (b:Nat){p q r:Nat}(h1:p<=q)(h2:q<=r):ins b p q+ins b q r<=ins b p r:=by
 unfold ins
 split <;> split <;> split <;> omega
noncomputable def mu (rows:List Row)(b e:Nat):Nat->List Pc->Nat
 | _,[]=>0
 | p,x::st=>1+8 * x.1 * (ins b p (p+(gP rows x.1 x.2).length)+ins e p (p+(gP rows x.1 x.2).length))+mu rows b e (p+(gP rows x.1 x.2).length) st
theorem Cv (rows:List Row)(b e:Nat):∀ (p:Nat) (st:List Pc),st.length<=mu rows b e p st
 | _,[]=>O0 0
 | p,x::st=>by
   have:=Cv rows b e (p+(gP rows x.1 x.2).length) st;rw[mu,Ws];omega
theorem Cw (rows:List Row)(b e r:Nat)(st:List Pc):∀ (p:Nat) (w:List Nat),mu rows b e p (wp r w ++ st)<=w.length+8 * r * (ins b p (p+(flat rows (wp r w)).length)+ins e p (p+(flat rows (wp r w)).length))+mu rows b e (p+(flat rows (wp r w)).length) st
 | p,[]=>by
   show mu rows b e p st<=_;have:p+(flat rows (wp r [])).length=p:=rfl;rw[this];omega
 | p,c::w=>by
   have ih:=Cw rows b e r st (p+(gP rows r c).length) w;have el:p+(flat rows (wp r (c::w))).length=p+(gP rows r c).length+(flat rows (wp r w)).length:=by
     show p+(flat rows ((r,c)::wp r w)).length=_;rw[iR,V5];exact(Nat.add_assoc _ _ _).symm
   rw[el];have c1:=yi b (Xd p (gP rows r c).length) (Xd (p+(gP rows r c).length) (flat rows (wp r w)).length);have c2:=yi e (Xd p (gP rows r c).length) (Xd (p+(gP rows r c).length) (flat rows (wp r w)).length);have m:=Nat.mul_le_mul_left (8 * r) (Nat.add_le_add c1 c2);have m2:8 * r * (ins b p (p+(gP rows r c).length)+ins e p (p+(gP rows r c).length))+8 * r * (ins b (p+(gP rows r c).length) (p+(gP rows r c).length+(flat rows (wp r w)).length)+ins e (p+(gP rows r c).length) (p+(gP rows r c).length+(flat rows (wp r w)).length))<=8 * r * (ins b p (p+(gP rows r c).length+(flat rows (wp r w)).length)+ins e p (p+(gP rows r c).length+(flat rows (wp r w)).length)):=by
     rw[<- Nat.mul_add];refine We (Nat.mul_le_mul_left _ ?_) m;omega
   show mu rows b e p ((r,c)::(wp r w ++ st))<=_;rw[mu,Ws];show 1+8 * r * (ins b p (p+(gP rows r c).length)+ins e p (p+(gP rows r c).length))+mu rows b e (p+(gP rows r c).length) (wp r w ++ st)<=_;omega
theorem tG {rows:List Row}(ok:bC rows){age b e:Nat}{W:List Nat}{s:PS}(I:Gj rows age b e W s)(hp:s.place < e):Gj rows age b e W (iS rows b e s)/\mu rows b e (iS rows b e s).place (iS rows b e s).st < mu rows b e s.place s.st/\(iS rows b e s).bt.length+mu rows b e (iS rows b e s).place (iS rows b e s).st<=s.bt.length+mu rows b e s.place s.st/\∃ p st,s.st=p::st/\(¬ s.place+(gP rows p.1 p.2).length<=b->¬ (b<=s.place/\s.place+(gP rows p.1 p.2).length<=e)->0 < p.1):=by
 obtain⟨be,ew,pe,fl,fb,mb,mt⟩:=I;obtain⟨place,st,bt⟩:=s;simp only at pe fl fb mb mt hp ⊢;cases st with
 | nil=>
   have:=congrArg W9 fl;rw[Wz] at this;have z:(flat rows []).length=0:=rfl;omega
 | cons p st=>
   rw[iR] at fl;have zH:=wY ok p.1 (mb p (by simp)).1;have jf:∀ x∈st,x.2∈rows.map (·.c)/\x.1<=age:=fun x hx=>mb x (by simp[hx])
   have hlen:=congrArg W9 fl;rw[Wz,V5] at hlen;have RW:flat rows st=W.drop (place+(gP rows p.1 p.2).length):=by
     rw[<- List.drop_drop,<- fl,List.drop_left]
   have ft:W.take (place+(gP rows p.1 p.2).length)=W.take place ++ gP rows p.1 p.2:=by
     rw[List.take_add,<- fl,List.take_left]
   have xN:(¬ place+(gP rows p.1 p.2).length<=b->¬ (b<=place/\place+(gP rows p.1 p.2).length<=e)->0 < p.1):=fun h1 h2=>by
     rcases Nat.eq_zero_or_pos p.1 with z | z
     . rw[z] at h1 h2
       have e1:(gP rows 0 p.2).length=1:=rfl;rw[e1] at h1 h2;omega
     . exact z
   refine⟨?_,?_,?_,p,st,rfl,xN⟩
   . unfold iS
     simp only
     split
     . rename_i h
       refine⟨be,ew,by show place+_<=e;omega,RW,?_,jf,mt⟩;have n1:(W.take place).drop b=[]:=Xm (by rw[Wc];omega);have n2:(W.take (place+(gP rows p.1 p.2).length)).drop b=[]:=Xm (by rw[Wc];omega);show flat rows bt=(W.take (place+(gP rows p.1 p.2).length)).drop b;rw[fb,n1,n2]
     . split
       . rename_i h1 h2
         refine⟨be,ew,h2.2,RW,?_,jf,fun x hx=>?_⟩
         . show flat rows (bt ++ [p])=(W.take (place+(gP rows p.1 p.2).length)).drop b
           rw[jP,MG,fb,ft,List.drop_append_of_le_length (by rw[Wc];omega)]
         . rcases WI.mp hx with hx | hx
           . exact mt x hx
           . have:x=p:=by simpa using hx
             rw[this];exact mb p (by simp)
       . rename_i h1 h2
         have hz:=xN h1 h2;refine⟨be,ew,pe,?_,fb,fun x hx=>?_,mt⟩
         . show flat rows (wp (p.1 - 1) (wordOf rows p.2) ++ st)=_
           rw[jP,oO,<- fl]
           congr 1
           obtain⟨r,hr⟩:∃ r,p.1=r+1:=⟨p.1 - 1,by omega⟩
           rw[hr];rfl
         . rcases WI.mp hx with hx | hx
           . obtain⟨y,hy,rfl⟩:=Wj.mp hx
             exact⟨(dR ok (mb p (by simp)).1).1 y hy,by have:=(mb p (by simp)).2;show p.1 - 1<=age;omega⟩
           . exact jf x hx
   all_goals
     unfold iS;simp only;rw[mu]
     split
     . show _;simp only;omega
     . split
       . simp only[V5,List.length_singleton];omega
       . rename_i h1 h2
         have hz:=xN h1 h2;have VZ:=(dR ok (mb p (by simp)).1).2.2;have key:=Cw rows b e (p.1 - 1) st place (wordOf rows p.2);have ef:(flat rows (wp (p.1 - 1) (wordOf rows p.2))).length=(gP rows p.1 p.2).length:=by
           rw[oO];obtain⟨r,hr⟩:∃ r,p.1=r+1:=⟨p.1 - 1,by omega⟩
           rw[hr];rfl
         rw[ef] at key;have hI:1<=ins b place (place+(gP rows p.1 p.2).length)+ins e place (place+(gP rows p.1 p.2).length):=by
           unfold ins
           split <;> split <;> omega
         generalize ins b place (place+(gP rows p.1 p.2).length)+ins e place (place+(gP rows p.1 p.2).length)=J at key hI ⊢;have m:8+8 * (p.1 - 1) * J<=8 * p.1 * J:=by
           obtain⟨r,hr⟩:∃ r,p.1=r+1:=⟨p.1 - 1,by omega⟩
           rw[hr,Nat.add_sub_cancel,Nat.mul_add,Nat.add_mul];omega
         simp only;omega
theorem m8 {rows:List Row}(ok:bC rows){age b e:Nat}{W:List Nat}{s:PS}(I:Gj rows age b e W s){n:Nat}(h:∀ k,k < n->(run rows b e s k).place < e):∀ k,k<=n->Gj rows age b e W (run rows b e s k)/\(run rows b e s k).bt.length+mu rows b e (run rows b e s k).place (run rows b e s k).st<=s.bt.length+mu rows b e s.place s.st
 | 0,_=>⟨I,O0 _⟩
 | k+1,hk=>by
   obtain⟨i1,i2⟩:=m8 ok I h k (by omega);obtain⟨j1,_,j3,_⟩:=tG ok i1 (h k (by omega));exact⟨j1,We j3 i2⟩
theorem lY {rows:List Row}(ok:bC rows){age b e:Nat}{W:List Nat}:∀ (m:Nat) {s:PS},Gj rows age b e W s->mu rows b e s.place s.st<=m->∃ n,e<=(run rows b e s n).place/\∀ k,k < n->(run rows b e s k).place < e
 | m,s,I,hm=>by
   by_cases hp:s.place < e
   . obtain⟨j1,j2,_⟩:=tG ok I hp
     cases m with
     | zero=>omega
     | succ m=>
       obtain⟨n,h1,h2⟩:=lY ok m j1 (by omega);refine⟨n+1,by rw[Ct];exact h1,fun k hk=>?_⟩;cases k with
       | zero=>exact hp
       | succ k=>rw[Ct];exact h2 k (by omega)
   . exact⟨0,by show e<=s.place;omega,fun k hk=>by omega⟩
noncomputable def fF (rows:List Row)(w:List Nat)(age:Nat):List Nat:=w.flatMap (gP rows age)
noncomputable def jQ (w:List Nat)(age:Nat):PS:=⟨0,wp age w,[]⟩
theorem m9 {rows:List Row}{w:List Nat}(ok:dY rows w){age b e:Nat}(be:b<=e)(ew:e<=(fF rows w age).length):Gj rows age b e (fF rows w age) (jQ w age):=
 ⟨be,ew,Wr _,oO rows age w,by show []=(List.take 0 _).drop b;simp,fun p hp=>by
   obtain⟨y,hy,rfl⟩:=Wj.mp hp;exact⟨ok.wm y hy,O0 _⟩,fun p hp=>by cases hp⟩
theorem tH {rows:List Row}{w:List Nat}(ok:dY rows w){age b e:Nat}(ha:age<=200):mu rows b e (jQ w age).place (jQ w age).st<=4000:=by
 have key:=Cw rows b e age [] 0 w;rw[Wq] at key;have w8:=ok.w8;have i1:=Cu b 0 (0+(flat rows (wp age w)).length);have i2:=Cu e 0 (0+(flat rows (wp age w)).length);have m:8 * age * (ins b 0 (0+(flat rows (wp age w)).length)+ins e 0 (0+(flat rows (wp age w)).length))<=8 * 200 * 2:=Nat.mul_le_mul (by omega) (by omega);have z:mu rows b e (0+(flat rows (wp age w)).length) []=0:=rfl;show mu rows b e 0 (wp age w)<=4000;omega
theorem tJ {rows:List Row}{w:List Nat}(ok:dY rows w)(age:Nat):(((fF rows w age).length:Nat):Int)=My rows w age:=qi fun y hy=>tF ok.ok age (ok.wm y hy)
def JB:Rl:=fun ds r=>∃ (w:List Nat) (n:Nat),ds=[.str (tx w),.int ((n:Nat):Int)]/\w.length<=1000/\r=.own (.lst ((wp n w).reverse.map l5))
noncomputable abbrev JC:Stmt->Scope
 | .Return (some (.ListComp _ _ sc _)) _=>sc
 | _=>af (.Pass ⟨0,0,0,0⟩)
noncomputable abbrev MH:Scope:=JC ((ax cC).getD 0 (.Pass ⟨0,0,0,0⟩))
theorem Gk:fK MH (af cC) iI ["letter","rounds"] ["letter"] [1]=true:=by decide +kernel
def Cy (t:ib):Rl:=fun ds r=>∃ six rows w l ls N age b e n,ds=[.obj t.ao (t.bO six rows w l ls N),.int ((age:Nat):Int),.int ((b:Nat):Int),.int ((e:Nat):Int)]/\(dY rows w/\ls.map (·.2)=iP rows/\age < N/\N<=1000/\age<=200)/\(b<=e/\e<=(fF rows w age).length)/\(e<=(run rows b e (jQ w age) n).place/\∀ k,k < n->(run rows b e (jQ w age) k).place < e) /\
 r=.own (.lst ((run rows b e (jQ w age) n).bt.map l5))
theorem Fd (T:Txt K mg t):GF P w K mg base CX 1 "waiting_pieces" 2 JB:=by
 refine⟨_,_,_,jt T.bU.F lN rfl fun a6 A outer s H E G ds r hr hl hR=>?_,(T.g T.bU.a),T.bU.F.kp,T.bU.b⟩;obtain⟨wd,n,rfl,hw,rfl⟩:=hR;have e1:(wd.reverse.map fun x=>Dt.str (sg x))=(Sg.signs (tx wd)).reverse:=by rw[<- eU,List.map_reverse]
 have e2:((wd.reverse.filter fun _=>true).map fun x=>Dt.tup [.int ((n:Nat):Int),.str (sg x)])=(wp n wd).reverse.map l5:=by
   rw[Wb.mpr (fun _ _=>rfl)];unfold wp;rw[<- List.map_reverse,V3];rfl
 exact⟨_,.ro _,aq (hZ (xA (eW wd.reverse (fun x=>Dt.str (sg x)) (fun x=>Dt.tup [.int ((n:Nat):Int),.str (sg x)]) (fun x=>[.val (.str (sg x))]) (fun _=>true) rfl (bI Gk) (Er T.jc (ae (aa 0 rfl) ak)) (bV (bI Gk) rfl) (c6 (zp (by rw[dB];omega)) e1) (fun a _=>ck) (.nil fun _ _=>rfl)
   (fun a ha _ C fp s' H' G'=>gU (ae (aa 1 rfl) (ae (aa 0 rfl) ak)) AA3) (l4 (by rw[Xe];omega))) (congrArg Own.lst e2)))⟩
theorem nh (T:Txt K mg t):MF P w K mg base CX 4 t.ao "pieces" 4 (Cy t):=by
 refine⟨T.av.cl,_,_,_,jt T.eJ.F iK rfl fun a6 A outer s H E G ds r hr hl hR=>?_,T.cI,T.eJ.b⟩;obtain⟨six,rows,wd,l,ls,N,age,b,e,n,rfl,⟨ok,gk,hN,Vl,d0⟩,⟨qH,De⟩,⟨V0,b5⟩,rfl⟩:=hR;have nd:=iK.nd;have hu:(A.deeper (envOfC "Growth.pieces" (af d9) s.heap.objs.size t.bM a6)).units+1 < cLine:=by have:=hr.units;omega
 have w8:=ok.w8;let R:Nat->PS:=run rows b e (jQ wd age);have Ir:=m8 ok.ok (m9 ok qH De) b5;have h0:(jQ wd age).bt.length+mu rows b e (jQ wd age).place (jQ wd age).st<=4000:=by
   have:=tH ok (b:=b) (e:=e) d0;show 0+_<=_;omega
 have hsz:∀ k,k<=n->(R k).bt.length<=4000/\(R k).st.length<=4000:=fun k hk=>by
   have h1:=(Ir k hk).2;have h2:=Cv rows b e (run rows b e (jQ wd age) k).place (run rows b e (jQ wd age) k).st;exact⟨by show(run rows b e (jQ wd age) k).bt.length<=4000;omega,by show(run rows b e (jQ wd age) k).st.length<=4000;omega⟩
 have RX:∀ {m:Nat},m<=8000->m < sizeLine:=fun h=>WC h (by decide)
 let sf:Dt:=.obj t.ao (t.bO six rows wd l ls N);let S:Nat->List Slot:=fun k=>[.val sf,.val (.int ((age:Nat):Int)),.val (.int ((b:Nat):Int)),.val (.int ((e:Nat):Int)),.own (.lst ((R k).bt.map l5)),.own (.lst ((R k).st.reverse.map l5)),.val (.int (((R k).place:Nat):Int)),.cz,.cz,.cz]
 refine⟨_,.ro _,ai (j4 4 nd (wa ak AA3)) (ai (j4 5 nd (lE (Fd T) aB hr (ae (cu (fs:=t.bO six rows wd l ls N) (aa 0 rfl) T.av.cl T.cF rfl) (ae (aa 1 rfl) ak)) ⟨wd,age,rfl,by omega,rfl⟩))
   (ai (aw 6 nd aj) (ai (dl1:=S n) (AX S n PassesOwn.leaving (Le.of ⟨rfl,rfl,rfl,rfl,rfl,rfl,rfl,trivial⟩) (fun k hk=>aP (nv (aa 6 rfl) (aa 3 rfl)) (decide_eq_true ?c1)) (aP (nv (aa 6 rfl) (aa 3 rfl)) (decide_eq_false ?c2)) (fun k hk=>?body)) (aq (xB 4)))))⟩
 case c1=>have:=b5 k hk;show(((run rows b e (jQ wd age) k).place:Nat):Int) < _;omega
 case c2=>show ¬ (((run rows b e (jQ wd age) n).place:Nat):Int) < _;omega
 case body=>
   have DS:=b5 k hk;obtain⟨Ik,_⟩:=Ir k (WL hk);obtain⟨_,_,_,p,st,es,xN⟩:=tG ok.ok Ik DS;have eR:R (k+1)=iS rows b e (R k):=rfl;obtain⟨FO,uh⟩:=hsz k (WL hk);have zY:(R k).st=p::st:=es;have zR:=Ik.mb p (by rw[es];simp);have zH:p.1 < N:=by omega
   have hg:=tF ok.ok p.1 zR.1;have Qb:(R k).st.reverse.map l5=st.reverse.map l5 ++ [l5 p]:=by rw[zY,List.reverse_cons,WM];rfl
   have Vm:st.length<=4000:=by have:=congrArg W9 zY;rw[Ws] at this;omega
   let q:Nat:=(R k).place+(gP rows p.1 p.2).length;have eq:(((R k).place:Nat):Int)+lT rows p.1 p.2=((q:Nat):Int):=by rw[<- hg];show _=(((R k).place+(gP rows p.1 p.2).length:Nat):Int);omega
   let U:List Slot:=[.val sf,.val (.int ((age:Nat):Int)),.val (.int ((b:Nat):Int)),.val (.int ((e:Nat):Int)),.own (.lst ((R k).bt.map l5)),.own (.lst (st.reverse.map l5)),.val (.int (((R k).place:Nat):Int)),.val (l5 p),.val (.int ((p.1:Nat):Int)),.val (.int ((q:Nat):Int))]
   have hS:S k=[.val sf,.val (.int ((age:Nat):Int)),.val (.int ((b:Nat):Int)),.val (.int ((e:Nat):Int)),.own (.lst ((R k).bt.map l5)),.own (.lst (st.reverse.map l5 ++ [l5 p])),.val (.int (((R k).place:Nat):Int)),.cz,.cz,.cz]:=by
     show [_,_,_,_,_,Slot.own (.lst ((R k).st.reverse.map l5)),_,_,_,_]=_;rw[Qb]
   rw[hS];refine .nx (dl':=[.val sf,.val (.int ((age:Nat):Int)),.val (.int ((b:Nat):Int)),.val (.int ((e:Nat):Int)),.own (.lst ((R (k+1)).bt.map l5)),.own (.lst ((R (k+1)).st.reverse.map l5)),.val (.int (((R (k+1)).place:Nat):Int)),.val (l5 p),.val (.int ((p.1:Nat):Int)),.val (.int ((q:Nat):Int))]) (ai (IT (ds:=st.reverse.map l5) (d:=l5 p) 7 5 nd rfl) (ai (aw 8 nd (dW (aa 7 rfl) aj rfl)) (ai (dl1:=U) (aw 9 nd (a8 (dU (aa 6 rfl) (fh hu (pK (n:=N) (j:=1) (f:=qE rows) (cu (fs:=t.bO six rows wd l ls N) (aa 0 rfl) T.av.cl T.bf rfl) (aa 8 rfl) (by rw[gk];rfl) zH Vl) (dW (aa 7 rfl) aj rfl) (by rw[E3];exact fD zR.1) (fun _ _=>rfl))) (congrArg Dt.int eq)))
     (aq (aQ (u:=decide (q<=b)) (aP (pj (aa 9 rfl) (aa 2 rfl)) (decide_eq_decide.mpr (Int.ofNat_le (m:=q) (n:=b)))) (fun h=>?b1) (fun h=>aq (aQ (u:=decide (b<=(R k).place/\q<=e)) ?cc (fun h'=>?b2) (fun h'=>?b3)))))))) (Le.of ⟨rfl,rfl,rfl,rfl,rfl,rfl,rfl,trivial⟩)
   case b1=>
     have h:q<=b:=of_decide_eq_true h;have e1:R (k+1)=⟨q,st,(R k).bt⟩:=by rw[eR];unfold iS;rw[zY];exact if_pos h
     rw[e1];exact aq (aw 6 nd (aa 9 rfl))
   case cc=>
     by_cases h1:b<=(R k).place
     . by_cases h2:q<=e
       . rw[decide_eq_true (⟨h1,h2⟩:b<=(R k).place/\q<=e)]
         exact o5 (jA (u:=true) (v:=true) (aP (pj (aa 2 rfl) (aa 6 rfl)) (decide_eq_true (by omega))) fun _=>jZ (aP (pj (aa 9 rfl) (aa 3 rfl)) (decide_eq_true (by omega))))
       . rw[decide_eq_false (fun z:b<=(R k).place/\q<=e=>h2 z.2)]
         exact o5 (jA (u:=true) (v:=false) (aP (pj (aa 2 rfl) (aa 6 rfl)) (decide_eq_true (by omega))) fun _=>jZ (aP (pj (aa 9 rfl) (aa 3 rfl)) (decide_eq_false (by omega))))
     . rw[decide_eq_false (fun z:b<=(R k).place/\q<=e=>h1 z.1)]
       exact o5 (jA (u:=false) (v:=false) (aP (pj (aa 2 rfl) (aa 6 rfl)) (decide_eq_false (by omega))) fun z=>nomatch z)
   case b2=>
     have h:¬ q<=b:=of_decide_eq_false h;have h':=of_decide_eq_true h';have e1:R (k+1)=⟨q,st,(R k).bt ++ [p]⟩:=by rw[eR];unfold iS;rw[zY];exact(if_neg h).trans (if_pos h')
     rw[e1];show iV _ _ _ _ _ (.nx [_,_,_,_,.own (.lst (((R k).bt ++ [p]).map l5)),_,_,_,_,_]);rw[WM];exact ai (mx (ds:=(R k).bt.map l5) 4 (aa 7 rfl) (by rw[ou];exact RX (by omega))) (aq (aw 6 nd (aa 9 rfl)))
   case b3=>
     have h:¬ q<=b:=of_decide_eq_false h;have h':=of_decide_eq_false h';have hz:=xN h h';have e1:R (k+1)=⟨(R k).place,wp (p.1 - 1) (wordOf rows p.2) ++ st,(R k).bt⟩:=by rw[eR];unfold iS;rw[zY];exact(if_neg h).trans (if_neg h')
     rw[e1];have hw:=dR ok.ok zR.1;show iV _ _ _ _ _ (.nx [_,_,_,_,_,.own (.lst ((wp (p.1 - 1) (wordOf rows p.2) ++ st).reverse.map l5)),_,_,_,_]);rw[List.reverse_append,WM];exact aq (yZ (ds:=st.reverse.map l5) 5 (lD (lE (Fd T) aB hr (ae (cN (fs:=t.vf six rows) (cu (fs:=t.bO six rows wd l ls N) (aa 0 rfl) T.av.cl T.aJ rfl) (lW T) aB hr (ae (dW (aa 7 rfl) aj rfl) ak) ⟨six,rows,p.2,rfl,ok.ok,zR.1,rfl⟩) (ae (a8 (o3 (aa 8 rfl) aj) (congrArg Dt.int (show((p.1:Nat):Int) - 1=((p.1 - 1:Nat):Int) by omega))) ak)) ⟨wordOf rows p.2,p.1 - 1,rfl,by omega,rfl⟩)) (by
       rw[ou,ou,Xe,Xe];show st.length+((wordOf rows p.2).map fun c=>(p.1 - 1,c)).length<=_;rw[ou];exact WL (RX (by omega))))
noncomputable def grow (rows:List Row)(w:List Nat):List Nat:=(w.map (wordOf rows)).flatten
theorem vt (rows:List Row)(a b:List Nat):grow rows (a ++ b)=grow rows a ++ grow rows b:=by
 unfold grow;rw[WM,List.flatten_append]
theorem tK (rows:List Row)(f:Nat->List Nat):∀ w:List Nat,grow rows (w.flatMap f)=w.flatMap fun y=>grow rows (f y)
 | []=>rfl
 | y::w=>by rw[WY,WY,vt,tK rows f w]
theorem tL (rows:List Row):∀ (r c:Nat),grow rows (gP rows r c)=gP rows (r+1) c
 | 0,c=>by
   show [wordOf rows c].flatten=(wordOf rows c).flatMap fun y=>[y]
   simp
 | r+1,c=>by
   show grow rows ((wordOf rows c).flatMap (gP rows r))=_;rw[tK];show _=(wordOf rows c).flatMap (gP rows (r+1))
   congr 1
   funext y
   exact tL rows r y
theorem vv (rows:List Row)(w:List Nat)(n:Nat):grow rows (fF rows w n)=fF rows w (n+1):=by
 unfold fF;rw[tK]
 congr 1
 funext y
 exact tL rows n y
theorem yj (rows:List Row)(w:List Nat):fF rows w 0=w:=by
 show w.flatMap (fun y=>[y])=w;simp
theorem je {rows:List Row}(ok:bC rows){w:List Nat}(h:∀ x∈w,x∈rows.map (·.c)):∀ n,∀ x∈fF rows w n,x∈rows.map (·.c)
 | 0=>by rw[yj];exact h
 | n+1=>fun x hx=>by
   rw[<- vv] at hx;obtain⟨l,hl,hx⟩:=List.mem_flatten.mp hx;obtain⟨y,hy,rfl⟩:=Wj.mp hl;exact(dR ok (je ok h n y hy)).1 x hx
theorem tM {rows:List Row}(ok:bC rows):∀ {w:List Nat},(∀ x∈w,x∈rows.map (·.c))->w.length<=(grow rows w).length/\(grow rows w).length<=8 * w.length
 | [],_=>⟨Wr _,Wr _⟩
 | x::w,h=>by
   have ih:=tM ok (w:=w) fun y hy=>h y (Wk _ hy)
   have hw:=dR ok (h x (WG ..));have e:(grow rows (x::w)).length=(wordOf rows x).length+(grow rows w).length:=by
     show((wordOf rows x::w.map (wordOf rows)).flatten).length=_;rw[Xl,V5];rfl
   rw[e,Ws];omega
theorem CA {rows:List Row}(ok:bC rows){w:List Nat}(h:∀ x∈w,x∈rows.map (·.c))(n:Nat):∀ k,(fF rows w n).length<=(fF rows w (n+k)).length
 | 0=>O0 _
 | k+1=>We (CA ok h n k) (by rw[<- Nat.add_assoc,<- vv];exact(tM ok (je ok h (n+k))).1)
theorem wZ {rows:List Row}(ok:bC rows){w:List Nat}(h:∀ x∈w,x∈rows.map (·.c)){n m:Nat}(hm:n<=m):(fF rows w n).length<=(fF rows w m).length:=by
 have:=CA ok h n (m - n)
 rwa [Nat.add_sub_cancel' hm] at this
theorem Fe {n:Nat}(h:n<=100000):n<=sizeLine:=We h (by decide)
theorem Ff {X:Cx}{G:Gr}{dl:List Slot}{a:Expr}{L:List Nat}{pos p:Pos}(hm:X.mg "len"=none)(ha:EE X G dl a (.str (tx L)))(hl:L.length<=100000)(hg:autoParam (Gl X "len") jp)(he:autoParam (starEach [a] X.env=[(false,eval a X.env)]) jp):EE X G dl (.Call (.Name "len" p) [a] [] pos) (.int (L.length:Nat)):=
 a8 (oj hm ha (by rw[dB];exact Fe hl) hg he) (by rw[dB])
def MI:Rl:=fun ds r=>∃ z:Int,ds=[.int z]/\z<=400/\r=.ret .b0
def Fg (t:ib):Rl:=fun ds r=>∃ six rows w,ds=[t.zv six rows,.str (tx w)]/\bC rows/\(∀ x∈w,x∈rows.map (·.c))/\w.length<=1000/\(grow rows w).length<=400/\r=.ret (.str (tx (grow rows w)))
def MJ (t:ib):Rl:=fun ds r=>∃ six rows w n,ds=[t.zv six rows,.str (tx w),.int ((n:Nat):Int)]/\dY rows w/\n<=200/\(fF rows w n).length<=400/\r=.ret (.str (tx (fF rows w n)))
noncomputable abbrev JD:Stmt->Scope
 | .Assign _ (.Call _ (.ListComp _ _ sc _::_) _ _) _=>sc
 | _=>af (.Pass ⟨0,0,0,0⟩)
noncomputable abbrev Fh:Scope:=JD ((ax pO).getD 0 (.Pass ⟨0,0,0,0⟩))
theorem yk:fK Fh (af pO) BH ["letter","rules"] ["letter"] [0]=true:=by decide +kernel
noncomputable abbrev lj (t:ib)(six:Bool)(rows:List Row)(w:List Nat)(l:Addr)(ls:iB)(n:Nat):Dt:=.obj t.ao (t.bO six rows w l ls n)
def Qc (t:ib):Rl:=fun ds r=>∃ six rows w l ls n age z,ds=[lj t six rows w l ls n,.int ((age:Nat):Int),.int z]/\dY rows w/\ls.map (·.2)=iP rows/\age<=200/\(0<=z/\z<=((fF rows w age).length:Nat))/\r=.ret .b0
def MK (t:ib):Rl:=fun ds r=>∃ six rows w l ls n age z,ds=[lj t six rows w l ls n,.int ((age:Nat):Int),.int z]/\dY rows w/\ls.map (·.2)=iP rows/\age<=200/\(0<=z/\z < ((fF rows w age).length:Nat))/\r=.ret .b0
def Qd (t:ib):Rl:=fun ds r=>∃ six rows w l ls n age,∃ b e:Nat,ds=[lj t six rows w l ls n,.int ((age:Nat):Int),.int (b:Int),.int (e:Int)]/\dY rows w/\ls.map (·.2)=iP rows/\age<=200/\(b<=e/\e<=(fF rows w age).length)/\r=.ret (.qu l ls (age+1))
noncomputable def cut (W:List Nat)(b e:Nat):List Nat:=(W.take e).drop b
def JE (t:ib):Rl:=fun ds r=>∃ six rows w l ls n age,∃ b e:Nat,ds=[lj t six rows w l ls n,.int ((age:Nat):Int),.int (b:Int),.int (e:Int)]/\dY rows w/\ls.map (·.2)=iP rows/\age<=200/\(b<=e/\e<=(fF rows w age).length/\e - b<=400)/\r=.ret (.str (tx (cut (fF rows w age) b e)))
def ML (t:ib):Rl:=fun ds r=>∃ six rows w l ls n age,∃ b:Nat,ds=[lj t six rows w l ls n,.int ((age:Nat):Int),.int (b:Int)]/\dY rows w/\ls.map (·.2)=iP rows/\age<=200/\b < (fF rows w age).length/\r=.ret (.str (tx (cut (fF rows w age) b (b+1))))
noncomputable abbrev JF:Stmt->Scope
 | .Return (some (.Call _ (.ListComp _ _ sc _::_) _ _)) _=>sc
 | _=>af (.Pass ⟨0,0,0,0⟩)
noncomputable abbrev Fi:Scope:=JF ((ax d6).getD 2 (.Pass ⟨0,0,0,0⟩))
theorem yl:fK Fi (af d6) kM ["rounds","letter","self"] ["rounds","letter"] [0]=true:=by decide +kernel
theorem ym (rows:List Row):∀ {st:List Pc} {p:Pc},p∈st->(gP rows p.1 p.2).length<=(flat rows st).length
 | [],_,h=>by cases h
 | q::st,p,h=>by
   rw[iR,V5];rcases Wh.mp h with rfl | h
   . omega
   . have:=ym rows h;omega
theorem yn (rows:List Row)(c n:Nat):fF rows [c] n=gP rows n c:=by unfold fF;simp
theorem CB (T:Txt K mg t):GF P w K mg base CX 1 "check_written" 1 MI:=by
 refine⟨_,_,_,jt T.cg.F mL rfl fun a6 A outer s H E G ds r hr hl hR=>?_,(T.g T.cg.a),T.cg.F.kp,T.cg.b⟩;obtain⟨z,rfl,h,rfl⟩:=hR;exact⟨_,.nx _,aq (aQ (u:=false) (aP (ny (aa 0 rfl) (hX (w:=.int 400) T.p8 ⟨_,rfl⟩ fun _=>.int 400)) (decide_eq_false (by omega))) (fun h=>nomatch h) (fun h=>bg))⟩
theorem CC (T:Txt K mg t):GF P w K mg base CX 3 "once" 2 (Fg t):=by
 refine⟨_,_,_,jt T.mR.F xX rfl fun a6 A outer s H E G ds r hr hl hR=>?_,(T.g T.mR.a),T.mR.F.kp,T.mR.b⟩;obtain⟨six,rows,wd,rfl,ok,hw,hn,hle,rfl⟩:=hR;have nd:=xX.nd;have e2:((wd.filter fun _=>true).map fun x=>Dt.str (tx (wordOf rows x)))=((wd.map (wordOf rows)).map tx).map Dt.str:=by
   rw[Wb.mpr (fun _ _=>rfl),V3,V3];rfl
 exact⟨_,.rt _,ai (aw 2 nd (d:=.str (tx (grow rows wd))) (mY (Ls:=wd.map (wordOf rows)) ff (di e2 (eW wd (fun x=>Dt.str (sg x)) (fun x=>.str (tx (wordOf rows x))) (fun x=>[.val (.str (sg x))]) (fun _=>true) rfl (bI yk) (gw (aa 1 rfl)) (bV (bI yk) rfl) (c6 (c7 (oM ok hw)) (eU wd)) (fun a _=>ck) (.nil fun _ _=>rfl)
     (fun a ha _ C fp s' H' G'=>cN (fs:=t.vf six rows) (aa 1 rfl) (lW T) aB hr (ae (aa 0 rfl) ak) ⟨six,rows,a,rfl,ok,hw a ha,rfl⟩) (l4 (by omega)))) (by rw[ou];show(grow rows wd).length+_<=_;omega)))
     (ai (dE (b7 (CB T) aB hr (ae (Ff T.gG (aa 2 rfl) (by omega)) ak) ⟨_,rfl,by omega,rfl⟩)) (aq (bb (aa 2 rfl))))⟩
theorem JH (T:Txt K mg t):GF P w K mg base CX 4 "written" 3 (MJ t):=by
 refine⟨_,_,_,jt T.gR.F pR rfl fun a6 A outer s H E G ds r hr hl hR=>?_,(T.g T.gR.a),T.gR.F.kp,T.gR.b⟩;obtain⟨six,rows,wd,n,rfl,ok,hn,hle,rfl⟩:=hR;have nd:=pR.nd;let S:Nat->List Slot:=fun k=>[.val (t.zv six rows),.val (.str (tx wd)),.val (.int (n:Nat)),.val (.str (tx (fF rows wd k))),.cz]
 refine⟨_,.rt _,ai (aw 3 nd (AW (fs:=t.vf six rows) (aa 0 rfl) (nE T) aB hr (ae (aa 1 rfl) ak) ⟨six,rows,wd,8,rfl,ok.ok,ok.wm,⟨ok.w0,ok.w8,by decide⟩,rfl⟩))
     (ai (dE (b7 (yc T) aB hr (ae (aa 2 rfl) (ae aj (ae (hX (w:=.int 200) T.gN ⟨_,rfl⟩ fun _=>.int 200) ak))) ⟨_,_,_,rfl,by omega,by omega,rfl⟩))
     (ai (dl1:=S n) (j0 (o:=.nx (S n)) (m:=n) 4 S nd rfl PassesOwn.leaving T.jb (ae (aa 2 rfl) ak) ⟨by omega,by omega⟩ (Le.of ⟨rfl,rfl,rfl,by rw[yj],trivial⟩) (by omega) (fun k hk=>?_) (by rw[WT];exact .all rfl))
     (aq (bb (aa 3 rfl)))))⟩
 have a:=wZ ok.ok ok.wm (n:=k) (m:=n) (by omega);have b:=wZ ok.ok ok.wm (n:=k+1) (m:=n) (by omega);rw[<- vv] at b;refine .nx (aq (aw 3 nd (b7 (CC T) aB hr (ae (aa 0 rfl) (ae (aa 3 rfl) ak)) ⟨six,rows,fF rows wd k,rfl,ok.ok,je ok.ok ok.wm k,by omega,by omega,rfl⟩))) (Le.of ⟨rfl,rfl,rfl,?_,trivial⟩);show Slot.val (.str (tx (fF rows wd (k+1))))=Slot.val (.str (tx (grow rows (fF rows wd k))));rw[vv]
theorem Gm (T:Txt K mg t):MF P w K mg base CX 7 t.ao "check_place" 3 (Qc t):=by
 refine⟨T.av.cl,_,_,_,jt T.cn.F jr rfl fun a6 A outer s H E G ds r hr hl hR=>?_,T.bN,T.cn.b⟩;obtain⟨six,rows,wd,l,ls,n,age,z,rfl,ok,gk,d0,hz,rfl⟩:=hR;have e:=tJ ok age;exact⟨_,.nx _,aq (aQ (u:=false) (o5 (xu (u:=false) (v:=false) (aP (nv (aa 2 rfl) aj) (decide_eq_false (by omega))) fun _=>(rY (aP (ny (aa 2 rfl) (cN (fs:=t.bO six rows wd l ls n) (aa 0 rfl) (tw T) aB hr (ae (aa 1 rfl) ak) ⟨six,rows,wd,l,ls,n,age,rfl,ok,gk,d0,rfl⟩)) (decide_eq_false (by omega)))))) (fun h=>nomatch h) (fun h=>bg))⟩
theorem CD (T:Txt K mg t):MF P w K mg base CX 7 t.ao "check_letter_place" 3 (MK t):=by
 refine⟨T.av.cl,_,_,_,jt T.a0.F gA rfl fun a6 A outer s H E G ds r hr hl hR=>?_,T.aT,T.a0.b⟩;obtain⟨six,rows,wd,l,ls,n,age,z,rfl,ok,gk,d0,hz,rfl⟩:=hR;have e:=tJ ok age;exact⟨_,.nx _,aq (aQ (u:=false) (o5 (xu (u:=false) (v:=false) (aP (nv (aa 2 rfl) aj) (decide_eq_false (by omega))) fun _=>(rY (aP (FP (aa 2 rfl) (cN (fs:=t.bO six rows wd l ls n) (aa 0 rfl) (tw T) aB hr (ae (aa 1 rfl) ak) ⟨six,rows,wd,l,ls,n,age,rfl,ok,gk,d0,rfl⟩)) (decide_eq_false (by omega)))))) (fun h=>nomatch h) (fun h=>bg))⟩
theorem MN (T:Txt K mg t):MF P w K mg base CX 8 t.ao "check_stretch" 4 (Qd t):=by
 refine⟨T.av.cl,_,_,_,jt T.bS.F iJ rfl fun a6 A outer s H E G ds r hr hl hR=>?_,T.bB,T.bS.b⟩;obtain⟨six,rows,wd,l,ls,n,age,b,e,rfl,ok,gk,d0,⟨qH,De⟩,rfl⟩:=hR;have e2:ls.length=2:=by have:=congrArg W9 gk;simpa [iP] using this
 exact⟨_,mH (nm:=["tallies","lengths"]) (tl:=[.val (.int ((age:Nat):Int)),.val (.int (b:Int)),.val (.int (e:Int))]) (by rw[e2];exact O0 2),ai (gj (m:=age+1) (tl:=[.val (.int ((age:Nat):Int)),.val (.int (b:Int)),.val (.int (e:Int))]) (cN (fs:=t.bO six rows wd l ls n) (aa 0 rfl) (iQ T) aB hr (ae (aa 1 rfl) ak) ⟨six,rows,wd,l,ls,n,age,rfl,ok,gk,by omega,rfl⟩))
   (ai (dE (cN (fs:=t.bO six rows wd l ls (age+1)) (aa 0 rfl) (Gm T) aB hr (ae (aa 1 rfl) (ae (aa 2 rfl) ak)) ⟨six,rows,wd,l,ls,_,age,b,rfl,ok,gk,d0,⟨by omega,by omega⟩,rfl⟩))
   (ai (aQ (u:=false) (aP (nv (aa 3 rfl) (aa 2 rfl)) (decide_eq_false (by omega))) (fun h=>nomatch h) (fun h=>bg))
   (aq (dE (cN (fs:=t.bO six rows wd l ls (age+1)) (aa 0 rfl) (Gm T) aB hr (ae (aa 1 rfl) (ae (aa 3 rfl) ak)) ⟨six,rows,wd,l,ls,_,age,e,rfl,ok,gk,d0,⟨by omega,by omega⟩,rfl⟩)))))⟩
theorem Fl (T:Txt K mg t):MF P w K mg base CX 9 t.ao "part" 4 (JE t):=by
 refine⟨T.av.cl,_,_,_,jt T.f7.F pT rfl fun a6 A outer s H E G ds r hr hl hR=>?_,T.dg,T.f7.b⟩;obtain⟨six,rows,wd,l,ls,n,age,b,e,rfl,ok,gk,d0,⟨qH,De,h4⟩,rfl⟩:=hR;obtain⟨k,J9,Df⟩:=lY ok.ok _ (m9 ok qH De) (O0 _);obtain⟨Ik,Jk⟩:=m8 ok.ok (m9 ok qH De) Df k (O0 _);have RY:=tH ok (b:=b) (e:=e) d0;generalize Gn:(run rows b e (jQ wd age) k).bt=bt at Ik Jk;have hp:(run rows b e (jQ wd age) k).place=e:=by have:=Ik.pe;omega
 have Qh:flat rows bt=cut (fF rows wd age) b e:=by rw[<- Gn,Ik.fb,hp];rfl
 have OL:(flat rows bt).length<=400:=by rw[Qh];unfold cut;rw[Wz,Wc];omega
 have Vn:bt.length<=4000:=by
   have:(jQ wd age).bt.length=0:=rfl;omega
 have NS:∀ p∈bt,p.2∈rows.map (·.c)/\p.1<=age:=by rw[<- Gn];exact Ik.mt
 have e2:((bt.filter fun _=>true).map fun p=>Dt.str (tx (gP rows p.1 p.2)))=((bt.map fun p=>gP rows p.1 p.2).map tx).map Dt.str:=by
   rw[Wb.mpr (fun _ _=>rfl),V3,V3];rfl
 have e3:(bt.map fun p=>gP rows p.1 p.2).flatten=cut (fF rows wd age) b e:=by rw[<- Qh];unfold flat;rw[List.flatMap_def]
 refine⟨_,.rt _,ai (gj (m:=age+1) (tl:=[.val (.int ((age:Nat):Int)),.val (.int (b:Int)),.val (.int (e:Int))]) (cN (fs:=t.bO six rows wd l ls n) (aa 0 rfl) (MN T) aB hr (ae (aa 1 rfl) (ae (aa 2 rfl) (ae (aa 3 rfl) ak))) ⟨six,rows,wd,l,ls,n,age,b,e,rfl,ok,gk,d0,⟨qH,De⟩,rfl⟩))
   (ai (dE (b7 (CB T) aB hr (ae (o3 (aa 3 rfl) (aa 2 rfl)) ak) ⟨_,rfl,by omega,rfl⟩))
   (aq (bb (a8 (mY (Ls:=bt.map fun p=>gP rows p.1 p.2) ff (di e2 (eW bt l5 (fun p=>.str (tx (gP rows p.1 p.2))) (fun p=>[.val (.int ((p.1:Nat):Int)),.val (.str (sg p.2))]) (fun _=>true) rfl (bI yl) (fS (lD (xA (nz (fs:=t.bO six rows wd l ls (age+1)) (aa 0 rfl) (uE (nh T)) aB hr (ae (aa 1 rfl) (ae (aa 2 rfl) (ae (aa 3 rfl) ak))) ⟨six,rows,wd,l,ls,age+1,age,b,e,k,rfl,⟨ok,gk,by omega,by omega,d0⟩,⟨qH,De⟩,⟨J9,Df⟩,rfl⟩) (by rw[Gn])))) (uK rfl (bI yl) rfl) eZ (fun a _=>xG) (.nil fun _ _=>rfl)
     (fun p hp _ C fp s' H' G'=>?_) (Fe (by omega)))) (by rw[e3,ou,<- Qh];omega)) (by rw[e3])))))⟩
 obtain⟨m1,m2⟩:=NS p hp;have V1:=ym rows hp;exact a8 (b7 (JH T) aB hr (ae (cu (fs:=t.bO six rows wd l ls (age+1)) (aa 2 rfl) T.av.cl T.aJ rfl) (ae (aa 1 rfl) (ae (aa 0 rfl) ak))) ⟨six,rows,[p.2],p.1,rfl,⟨ok.ok,by simp,by simp,fun x hx=>by
   have:x=p.2:=by simpa using hx
   rw[this];exact m1⟩,by omega,by rw[yn];omega,rfl⟩) (by rw[yn])
theorem JJ (T:Txt K mg t):MF P w K mg base CX 10 t.ao "letter_at" 3 (ML t):=by
 refine⟨T.av.cl,_,_,_,jt T.cY.F kG rfl fun a6 A outer s H E G ds r hr hl hR=>?_,T.bZ,T.cY.b⟩;obtain⟨six,rows,wd,l,ls,n,age,b,rfl,ok,gk,d0,hb,rfl⟩:=hR;exact⟨_,.rt _,ai (gj (m:=age+1) (tl:=[.val (.int ((age:Nat):Int)),.val (.int (b:Int))]) (cN (fs:=t.bO six rows wd l ls n) (aa 0 rfl) (iQ T) aB hr (ae (aa 1 rfl) ak) ⟨six,rows,wd,l,ls,n,age,rfl,ok,gk,by omega,rfl⟩))
   (ai (dE (cN (fs:=t.bO six rows wd l ls (age+1)) (aa 0 rfl) (CD T) aB hr (ae (aa 1 rfl) (ae (aa 2 rfl) ak)) ⟨six,rows,wd,l,ls,_,age,b,rfl,ok,gk,d0,⟨by omega,by omega⟩,rfl⟩))
   (aq (bb (cN (fs:=t.bO six rows wd l ls (age+1)) (aa 0 rfl) (Fl T) aB hr (ae (aa 1 rfl) (ae (aa 2 rfl) (ae (a8 (dU (aa 2 rfl) aj) (congrArg Dt.int (show(b:Int)+1=((b+1:Nat):Int) by omega))) ak))) ⟨six,rows,wd,l,ls,_,age,b,b+1,rfl,ok,gk,d0,⟨by omega,by omega,by omega⟩,rfl⟩))))⟩
theorem CG {f:Nat->List Nat}{g:Nat->Int}(x:Nat):∀ {w:List Nat},(∀ y∈w,(((f y).count x:Nat):Int)=g y)->(((w.flatMap f).count x:Nat):Int)=(w.map g).sum
 | [],_=>rfl
 | y::w,h=>by
   rw[WY,List.count_append,V7,WR,<- h y (by simp),<- CG (f:=f) (g:=g) x fun z hz=>h z (by simp[hz])];omega
theorem CH (rows:List Row)(x:Nat):∀ (r c:Nat),(((gP rows r c).count x:Nat):Int)=cT rows r c x
 | 0,c=>rfl
 | r+1,c=>CG x fun y _=>CH rows x r y
theorem vw (rows:List Row)(x:Nat):∀ st:List Pc,(((flat rows st).count x:Nat):Int)=(st.map fun p=>cT rows p.1 p.2 x).sum
 | []=>rfl
 | p::st=>by
   rw[iR,List.count_append,V7,WR,<- vw rows x st,<- CH];omega
noncomputable def CI (W:List Nat)(x:Nat):Int:=((W.count x:Nat):Int)
theorem JL {rows:List Row}{w:List Nat}(ok:dY rows w){age b e:Nat}(d0:age<=200)(qH:b<=e)(De:e<=(fF rows w age).length):∃ k bt,(e<=(run rows b e (jQ w age) k).place/\∀ j,j < k->(run rows b e (jQ w age) j).place < e)/\(run rows b e (jQ w age) k).bt=bt/\flat rows bt=cut (fF rows w age) b e/\bt.length<=4000/\∀ p∈bt,p.2∈rows.map (·.c)/\p.1<=age:=by
 obtain⟨k,J9,Df⟩:=lY ok.ok _ (m9 ok qH De) (O0 _);obtain⟨Ik,Jk⟩:=m8 ok.ok (m9 ok qH De) Df k (O0 _);have RY:=tH ok (b:=b) (e:=e) d0;have hp:(run rows b e (jQ w age) k).place=e:=by have:=Ik.pe;omega
 refine⟨k,_,⟨J9,Df⟩,rfl,by rw[Ik.fb,hp];rfl,?_,Ik.mt⟩;have:(jQ w age).bt.length=0:=rfl;omega
def Fm (t:ib):Rl:=fun ds r=>∃ six rows w l ls n age,∃ b:Nat,ds=[lj t six rows w l ls n,.int ((age:Nat):Int),.int (b:Int)]/\dY rows w/\ls.map (·.2)=iP rows/\age<=200/\b<=(fF rows w age).length/\r=.own (.b6 (dI (kc (rows.map (·.c)) (CI ((fF rows w age).take b)))))
noncomputable abbrev CJ:Stmt->Scope
 | .Return (some (.Call _ (.ListComp _ _ sc _::_) _ _)) _=>sc
 | _=>af (.Pass ⟨0,0,0,0⟩)
noncomputable abbrev MO:Scope:=CJ ((ax cD).getD 3 (.Pass ⟨0,0,0,0⟩))
theorem Gp:fK MO (af cD) jJ ["rounds","letter","self"] ["rounds","letter"] [0]=true:=by decide +kernel
def zI:Rl:=fun ds r=>∃ (L:List Nat) (ts:List (Nat->Int)),ds=[.lst (ts.map (rA L)),.str (tx L)]/\L.Nodup/\L.length<=6/\(∀ x∈L,x < 128)/\ts.length<=4000/\r=.own (.b6 (dI (kc L fun x=>(ts.map fun T=>T x).sum)))
theorem w4 (T:Txt K mg t):GF P w K mg base CX 2 "summed" 2 zI:=by
 refine⟨_,_,_,jt T.d7.F kf rfl fun a6 A outer s H E G ds r hr hl hR=>?_,(T.g T.d7.a),T.d7.F.kp,T.d7.b⟩;obtain⟨L,ts,rfl,P6,hL,h7,Vb,rfl⟩:=hR;have nd:=kf.nd;have hu:(A.deeper (envOfC "summed" (af fi) s.heap.objs.size t.iN a6)).units+1 < cLine:=by have:=hr.units;omega
 let D:Nat->Dt:=fun x=>.int (ts.map fun T=>T x).sum
 have e2:((L.filter fun _=>true).map fun x=>Dt.tup [.str (sg x),D x])=(dI (kc L fun x=>(ts.map fun T=>T x).sum)).map Dd:=by
   rw[Wb.mpr (fun _ _=>rfl),vh];exact vi L D
 refine⟨_,.ro _,aq (hZ (iF T.fR rfl (di e2 (Bq L (fun x=>Dt.str (sg x)) (fun x=>.tup [.str (sg x),D x]) (fun x=>[.val (.str (sg x))]) (fun _=>true) rfl (xR ya) (gw (aa 1 rfl)) (uV (xR ya)) (c6 (c7 (gZ h7)) (eU L)) (fun a _=>ck) (.nil fun _ _=>rfl)
     (fun a ha _ c C fp s' H' G'=>?_) (l4 (by omega)))) (by rw[x9];exact gS P6) (by rw[B7];exact l4 (by omega))))⟩
 have e3:((ts.filter fun _=>true).map fun T=>Dt.int (T a))=(ts.map fun T=>T a).map Dt.int:=by
   rw[Wb.mpr (fun _ _=>rfl),V3];rfl
 refine gU (ae (aa 0 rfl) (ae (sv T.p9 rfl (di e3 (eW ts (rA L) (fun T=>Dt.int (T a)) (fun T=>[.val (rA L T)]) (fun _=>true) rfl (bI tu) (fS (aa 1 rfl)) (bV (bI tu) rfl) eZ (fun a _=>ck) (.nil fun _ _=>rfl)
   (fun T' Vc _ C2 Nw s2 H2 G2=>?_) (Fe (by omega))))) ak)) AA3
 exact fh hu (aa 0 rfl) (aa 1 rfl) (by rw[vh];exact fD ha) (fun _ _=>rfl)
theorem vx (T:Txt K mg t):MF P w K mg base CX 8 t.ao "ahead" 3 (Fm t):=by
 refine⟨T.av.cl,_,_,_,jt T.fB.F jl rfl fun a6 A outer s H E G ds r hr hl hR=>?_,T.cX,T.fB.b⟩;obtain⟨six,rows,wd,l,ls,n,age,b,rfl,ok,gk,d0,hb,rfl⟩:=hR;have nd:=jl.nd;have hu:(A.deeper (envOfC "Growth.ahead" (af cD) s.heap.objs.size t.bW a6)).units+1 < cLine:=by have:=hr.units;omega
 obtain⟨k,bt,hk,Gn,OL,Vn,NS⟩:=JL ok (b:=0) d0 (Wr _) hb;have h6:=ok.ok.le;let L:=rows.map (·.c);have hL:L.length<=6:=by show(rows.map (·.c)).length<=6;rw[ou];exact h6
 have h7:∀ x∈L,x < 128:=fun x hx=>by
   obtain⟨r,hr,rfl⟩:=Wj.mp hx;have:=ok.ok.sm r hr;unfold small at this;omega
 have e3:((bt.filter fun _=>true).map fun p=>rA L (cT rows p.1 p.2))=(bt.map fun p=>cT rows p.1 p.2).map (rA L):=by
   rw[Wb.mpr (fun _ _=>rfl),V3];rfl
 have e4:(CI ((fF rows wd age).take b))=fun x=>((bt.map fun p=>cT rows p.1 p.2).map fun T=>T x).sum:=by
   funext x
   show((((fF rows wd age).take b).count x:Nat):Int)=_;have e:(fF rows wd age).take b=flat rows bt:=by rw[OL];rfl
   rw[e,vw,V3];rfl
 exact⟨_,.ro _,ai (gj (m:=age+1) (tl:=[.val (.int ((age:Nat):Int)),.val (.int (b:Int)),.cz]) (cN (fs:=t.bO six rows wd l ls n) (aa 0 rfl) (iQ T) aB hr (ae (aa 1 rfl) ak) ⟨six,rows,wd,l,ls,n,age,rfl,ok,gk,by omega,rfl⟩))
   (ai (dE (cN (fs:=t.bO six rows wd l ls (age+1)) (aa 0 rfl) (Gm T) aB hr (ae (aa 1 rfl) (ae (aa 2 rfl) ak)) ⟨six,rows,wd,l,ls,_,age,b,rfl,ok,gk,d0,⟨by omega,by omega⟩,rfl⟩))
   (ai (aw 3 nd (d:=.lst (bt.map l5)) (lD (xA (nz (fs:=t.bO six rows wd l ls (age+1)) (aa 0 rfl) (uE (nh T)) aB hr (ae (aa 1 rfl) (ae aj (ae (aa 2 rfl) ak))) ⟨six,rows,wd,l,ls,age+1,age,0,b,k,rfl,⟨ok,gk,by omega,by omega,d0⟩,⟨Wr _,hb⟩,hk,rfl⟩) (by rw[Gn]))))
   (aq (hZ (lE (w4 T) aB hr (ae (di e3 (eW bt l5 (fun p=>rA L (cT rows p.1 p.2)) (fun p=>[.val (.int ((p.1:Nat):Int)),.val (.str (sg p.2))]) (fun _=>true) rfl (bI Gp) (fS (aa 3 rfl)) (uK rfl (bI Gp) rfl) eZ (fun a _=>xG) (.nil fun _ _=>rfl)
     (fun p hp _ C fp s' H' G'=>fh hu (pK (n:=age+1) (j:=0) (f:=mZ rows) (cu (fs:=t.bO six rows wd l ls (age+1)) (aa 2 rfl) T.av.cl T.aS rfl) (aa 0 rfl) (by rw[gk];rfl) (by have:=(NS p hp).2;omega) (by omega)) (aa 1 rfl) (by rw[zS];exact fD (NS p hp).1) (fun _ _=>rfl)) (Fe (by omega)))) (ae (mw (fs:=t.vf six rows) (cu (fs:=t.bO six rows wd l ls (age+1)) (aa 0 rfl) T.av.cl T.aJ rfl) (gq T) aB hr ⟨six,rows,rfl,ok.ok,rfl⟩) ak)) ⟨L,_,rfl,ok.ok.nd,hL,h7,by rw[ou];omega,by rw[e4]⟩)))))⟩
theorem tN {y x:Nat}:(([y].count x:Nat):Int)=if y=x then 1 else 0:=by
 by_cases h:y=x
 . subst h;simp
 . simp[List.count_cons,h]
theorem Gq (z:Nat->Int):∀ {L:List Nat} {c:Nat},L.Nodup->c∈L->(L.map fun x=>(([c].count x:Nat):Int) * z x).sum=z c
 | [],_,_,h=>by cases h
 | y::L,c,nd,h=>by
   rw[W3] at nd;rw[V7,WR];by_cases e:c=y
   . subst e
     have e0:(L.map fun x=>(([c].count x:Nat):Int) * z x)=L.map fun _=>(0:Int):=W5 fun x hx=>by
       have:¬ c=x:=fun q=>nd.1 (q ▸ hx)
       rw[tN,if_neg this];simp
     rw[e0,qh,tN,if_pos rfl];omega
   . have hc:c∈L:=by
       rcases Wh.mp h with q | q
       . exact absurd q e
       . exact q
     rw[Gq z nd.2 hc,tN,if_neg e];omega
theorem zJ (rows:List Row)(y:Nat)(u:List Nat):grow rows (y::u)=wordOf rows y ++ grow rows u:=rfl
theorem vy {rows:List Row}(ok:bC rows):∀ {u:List Nat},(∀ x∈u,x∈rows.map (·.c))->((rows.map (·.c)).map fun x=>CI u x * (((wordOf rows x).length:Nat):Int)).sum=(((grow rows u).length:Nat):Int)
 | [],_=>by
   have:((rows.map (·.c)).map fun x=>CI [] x * (((wordOf rows x).length:Nat):Int))=(rows.map (·.c)).map fun _=>(0:Int):=W5 fun x _=>by show((0:Nat):Int) * _=0;simp
   rw[this,qh];rfl
 | y::u,h=>by
   have ih:=vy ok (u:=u) fun x hx=>h x (by simp[hx])
   have e:((rows.map (·.c)).map fun x=>CI (y::u) x * (((wordOf rows x).length:Nat):Int))=(rows.map (·.c)).map fun x=>(([y].count x:Nat):Int) * (((wordOf rows x).length:Nat):Int)+CI u x * (((wordOf rows x).length:Nat):Int):=W5 fun x _=>by
     have:CI (y::u) x=(([y].count x:Nat):Int)+CI u x:=by
       unfold CI;rw[show y::u=[y] ++ u from rfl,List.count_append];omega
     rw[this,Int.add_mul]
   rw[e,vq,ih,Gq (fun x=>(((wordOf rows x).length:Nat):Int)) ok.nd (h y (by simp)),zJ,V5];omega
theorem yo {rows:List Row}{w:List Nat}(ok:dY rows w):∀ n,(fF rows w n).length<=8 ^ (n+1)
 | 0=>by rw[yj];exact ok.w8
 | n+1=>by
   have ih:=yo ok n;have:=(tM ok.ok (je ok.ok ok.wm n)).2;rw[vv] at this;rw[Nat.pow_succ];omega
noncomputable def kr (rows:List Row)(st:List Pc):List Nat:=st.flatMap fun p=>gP rows (p.1 - 1) p.2
theorem tP (rows:List Row)(a b:List Pc):kr rows (a ++ b)=kr rows a ++ kr rows b:=List.flatMap_append
theorem qj (rows:List Row)(p:Pc)(st:List Pc):kr rows (p::st)=gP rows (p.1 - 1) p.2 ++ kr rows st:=by unfold kr;rw[WY]
theorem CK (rows:List Row)(r:Nat)(w:List Nat):kr rows (wp (r+1) w)=w.flatMap (gP rows r):=by unfold kr wp;rw[List.flatMap_map];rfl
theorem Fn {rows:List Row}{p:Pc}(h:0 < p.1):grow rows (gP rows (p.1 - 1) p.2)=gP rows p.1 p.2:=by
 rw[tL]
 congr 1
 omega
theorem jS {rows:List Row}:∀ {st:List Pc},(∀ p∈st,0 < p.1)->grow rows (kr rows st)=flat rows st
 | [],_=>rfl
 | p::st,h=>by rw[qj,vt,iR,Fn (h p (by simp)),jS fun q hq=>h q (by simp[hq])]
structure MP (rows:List Row)(e:Nat)(W':List Nat)(s:PS):Prop where
 ex:∃ g7 qo:List Pc,(∀ p∈g7,0 < p.1)/\(∀ p∈qo,0 < p.1)/\((s.bt=g7/\s.st=qo/\kr rows g7 ++ kr rows qo=W') \/
   ∃ c pre Dg,wordOf rows c=pre ++ Dg/\s.bt=g7 ++ wp 0 pre/\s.st=wp 0 Dg ++ qo/\kr rows g7 ++ c::kr rows qo=W'/\e < (flat rows g7).length+(wordOf rows c).length)
theorem MQ {rows:List Row}(w:List Nat)(e r:Nat):MP rows e (fF rows w r) (jQ w (r+1)):=
 ⟨[],wp (r+1) w,(fun p h=>nomatch h),(fun p h=>by
   obtain⟨y,_,rfl⟩:=Wj.mp h;exact Nat.succ_pos _),.inl ⟨rfl,rfl,by rw[CK];rfl⟩⟩
theorem Qi (rows:List Row)(c:Nat):gP rows 1 c=wordOf rows c:=by
 show(wordOf rows c).flatMap (fun y=>[y])=_;simp
theorem qk (rows:List Row)(w:List Nat):flat rows (wp 0 w)=w:=by
 rw[oO];show w.flatMap (fun y=>[y])=w;simp
theorem MR {rows:List Row}(ok:bC rows){age e:Nat}{W W':List Nat}{s:PS}(I:Gj rows age 0 e W s)(Ei:MP rows e W' s)(hp:s.place < e):MP rows e W' (iS rows 0 e s):=by
 obtain⟨_,_,_,p,st,es,xN⟩:=tG ok I hp;have zH:=wY ok p.1 (I.mb p (by rw[es];simp)).1;have JM:(flat rows s.bt).length=s.place:=by
   have:=I.ew;rw[I.fb,Xv,Wc];omega
 obtain⟨g7,qo,h1,h2,h3⟩:=Ei.ex;have n1:¬ s.place+(gP rows p.1 p.2).length<=0:=by omega
 rcases h3 with⟨e1,e2,e3⟩ | ⟨c,pre,Dg,ew,e1,e2,e3,e4⟩
 . rw[e2] at es
   subst es;have Io:=h2 p (by simp);have Qj:∀ x∈st,0 < x.1:=fun x hx=>h2 x (by simp[hx])
   unfold iS;rw[e2];simp only;rw[if_neg n1];rw[qj] at e3
   split
   . refine⟨g7 ++ [p],st,fun x hx=>?_,Qj,.inl ⟨by rw[e1],rfl,?_⟩⟩
     . rcases WI.mp hx with hx | hx
       . exact h1 x hx
       . have:x=p:=by simpa using hx
         rw[this];exact Io
     . rw[tP,List.append_assoc]
       have:kr rows [p]=gP rows (p.1 - 1) p.2:=by unfold kr;simp
       rw[this];exact e3
   . rename_i hc
     by_cases oW:p.1=1
     . refine⟨g7,st,h1,Qj,.inr ⟨p.2,[],wordOf rows p.2,rfl,by rw[e1];simp[wp],by rw[oW],?_,?_⟩⟩
       . rw[oW] at e3;exact e3
       . rw[e1] at JM
         rw[oW,Qi] at hc;omega
     . obtain⟨r,hr⟩:∃ r,p.1 - 1=r+1:=⟨p.1 - 2,by omega⟩
       refine⟨g7,wp (p.1 - 1) (wordOf rows p.2) ++ st,h1,fun x hx=>?_,.inl ⟨e1,rfl,?_⟩⟩
       . rcases WI.mp hx with hx | hx
         . obtain⟨y,_,rfl⟩:=Wj.mp hx
           show 0 < p.1 - 1;omega
         . exact Qj x hx
       . rw[hr,tP,CK]
         rw[hr] at e3;exact e3
 . cases Dg with
   | nil=>
     rw[Wq] at ew;rw[e1,jP,qk,V5] at JM;rw[ew] at e4;omega
   | cons y Dg=>
     have:p=(0,y)/\st=wp 0 Dg ++ qo:=by
       rw[e2] at es;have es:(0,y)::(wp 0 Dg ++ qo)=p::st:=es;cases es;exact⟨rfl,rfl⟩
     obtain⟨rfl,rfl⟩:=this;have e5:s.st=(0,y)::(wp 0 Dg ++ qo):=es;unfold iS;rw[e5];simp only;rw[if_neg n1,if_pos ⟨Wr _,by show s.place+1<=e;omega⟩];refine⟨g7,qo,h1,h2,.inr ⟨c,pre ++ [y],Dg,by rw[ew];simp,?_,rfl,e3,e4⟩⟩;show s.bt ++ [(0,y)]=g7 ++ wp 0 (pre ++ [y]);rw[e1];simp[wp]
theorem Gs {rows:List Row}(ok:bC rows){age e:Nat}{W W':List Nat}{s:PS}(I:Gj rows age 0 e W s)(Ei:MP rows e W' s){n:Nat}(h:∀ k,k < n->(run rows 0 e s k).place < e):∀ k,k<=n->MP rows e W' (run rows 0 e s k)
 | 0,_=>Ei
 | k+1,hk=>MR ok (m8 ok I h k (by omega)).1 (Gs ok I Ei h k (by omega)) (h k (by omega))
theorem JN {rows:List Row}{w:List Nat}(ok:dY rows w){r e:Nat}(hr:r+1<=200)(he:e < (fF rows w (r+1)).length):∃ k g7 pre,(e<=(run rows 0 e (jQ w (r+1)) k).place/\∀ j,j < k->(run rows 0 e (jQ w (r+1)) j).place < e)/\(run rows 0 e (jQ w (r+1)) k).bt=g7 ++ wp 0 pre/\(∀ p∈g7,0 < p.1)/\(g7 ++ wp 0 pre).length<=4000/\(∀ p∈g7 ++ wp 0 pre,p.2∈rows.map (·.c)/\p.1<=r+1)/\∃ el,el=(kr rows g7).length/\el < (fF rows w r).length/\(grow rows ((fF rows w r).take el)).length+pre.length=e/\pre.length < (wordOf rows ((fF rows w r).getD el 0)).length:=by
 have I0:=m9 ok (age:=r+1) (Wr e) (WL he);obtain⟨k,J9,Df⟩:=lY ok.ok _ I0 (O0 _);obtain⟨Ik,Jk⟩:=m8 ok.ok I0 Df k (O0 _);have RY:=tH ok (b:=0) (e:=e) hr;have hp:(run rows 0 e (jQ w (r+1)) k).place=e:=by have:=Ik.pe;omega
 have h0:(jQ w (r+1)).bt.length=0:=rfl;have JM:(flat rows (run rows 0 e (jQ w (r+1)) k).bt).length=e:=by rw[Ik.fb,Xv,Wc,hp];omega
 have jf:0 < (flat rows (run rows 0 e (jQ w (r+1)) k).st).length:=by rw[Ik.fl,Wz,hp];omega
 obtain⟨g7,qo,h1,h2,h3⟩:=(Gs ok.ok I0 (MQ w e r) Df k (O0 _)).ex;have tk:∀ {a b:List Nat},(a ++ b).take a.length=a:=fun {a b}=>by simp
 rcases h3 with⟨e1,e2,e3⟩ | ⟨c,pre,Dg,ew,e1,e2,e3,e4⟩
 . refine⟨k,g7,[],⟨J9,Df⟩,by rw[e1];simp[wp],h1,by simp only[wp,List.map_nil,Wq];rw[e1] at Jk;omega,by simp only[wp,List.map_nil,Wq];rw[<- e1];exact Ik.mt,_,rfl,?_,?_,?_⟩
   . rw[<- e3,V5]
     rw[e2] at jf;have:0 < (kr rows qo).length:=by
       rcases Nat.eq_zero_or_pos (kr rows qo).length with z | z
       . have z:kr rows qo=[]:=List.length_eq_zero_iff.mp z
         rw[<- jS h2,z] at jf;exact absurd jf (by simp[grow])
       . exact z
     omega
   . rw[<- e3,tk,jS h1,<- e1,JM];rfl
   . have b5:(kr rows g7).length < (fF rows w r).length:=by
       rw[<- e3,V5];rw[e2] at jf;have:0 < (kr rows qo).length:=by
         rcases Nat.eq_zero_or_pos (kr rows qo).length with z | z
         . have z:kr rows qo=[]:=List.length_eq_zero_iff.mp z
           rw[<- jS h2,z] at jf;exact absurd jf (by simp[grow])
         . exact z
       omega
     have:=je ok.ok ok.wm r _ (Wu b5);rw[Sl,Bn b5];exact(dR ok.ok this).2.1
 . refine⟨k,g7,pre,⟨J9,Df⟩,e1,h1,by rw[<- e1];omega,by rw[<- e1];exact Ik.mt,_,rfl,?_,?_,?_⟩
   . rw[<- e3,V5,Ws];omega
   . rw[<- e3,tk,jS h1]
     rw[e1,jP,qk,V5] at JM;exact JM
   . have:(fF rows w r).getD (kr rows g7).length 0=c:=by
       rw[<- e3,Sl,Wd (O0 _)];simp
     rw[this];rw[e1,jP,qk,V5] at JM;omega
def Fp (t:ib):Rl:=fun ds r=>∃ six rows w l ls n age,∃ b:Nat,ds=[lj t six rows w l ls n,.int ((age:Nat):Int),.int (b:Int)]/\dY rows w/\ls.map (·.2)=iP rows/\age<=199/\b<=(fF rows w age).length/\r=.ret (.int (((grow rows ((fF rows w age).take b)).length:Nat):Int))
structure RZ (rows:List Row)(w:List Nat)(r e k:Nat)(g7:List Pc)(pre:List Nat):Prop where
 run:e<=(run rows 0 e (jQ w (r+1)) k).place/\∀ j,j < k->(Pf.run rows 0 e (jQ w (r+1)) j).place < e
 bt:(Pf.run rows 0 e (jQ w (r+1)) k).bt=g7 ++ wp 0 pre
 pos:∀ p∈g7,0 < p.1
 len:(g7 ++ wp 0 pre).length<=4000
 mem:∀ p∈g7 ++ wp 0 pre,p.2∈rows.map (·.c)/\p.1<=r+1
def Fq (t:ib):Rl:=fun ds res=>∃ six rows w l ls n,∃ r e k:Nat,∃ g7 pre,ds=[lj t six rows w l ls n,.int ((r+1:Nat):Int),.int (e:Int)]/\dY rows w/\ls.map (·.2)=iP rows/\r+1<=200/\e < (fF rows w (r+1)).length/\RZ rows w r e k g7 pre/\res=.ret (.tup [.int (((kr rows g7).length:Nat):Int),.int ((pre.length:Nat):Int)])
noncomputable abbrev MS:Scope:=CJ ((ax bT).getD 2 (.Pass ⟨0,0,0,0⟩))
theorem Gu:fK MS (af bT) iL ["letter","passed","self"] ["letter"] [3,0]=true:=by decide +kernel
noncomputable def up (p:Pc):Bool:=decide (0 < p.1)
noncomputable def no (p:Pc):Bool:=decide (p.1=0)
theorem up1 {p:Pc}(h:0 < p.1):[p].filter up=[p]:=by simp[up,h]
theorem Vo {p:Pc}(h:p.1=0):[p].filter up=[]:=by simp[up,h]
theorem Vp {p:Pc}(h:p.1=0):[p].filter no=[p]:=by simp[no,h]
theorem Vq {p:Pc}(h:¬ p.1=0):[p].filter no=[]:=by simp[no,h]
theorem Gv (L:List Nat)(C:Nat->Int):(L.map fun x=>Dt.str (sg x))=(dI (kc L C)).map fun kd=>kD kd.1:=by unfold dI kc;rw[V3,V3];rfl
theorem Fs (L:List Nat)(f:Nat->Int):((L.filter fun _=>true).map fun x=>Dt.int (f x))=(L.map f).map Dt.int:=by
 rw[Wb.mpr (fun _ _=>rfl),V3];rfl
theorem CL (T:Txt K mg t):MF P w K mg base CX 9 t.ao "younger" 3 (Fp t):=by
 refine⟨T.av.cl,_,_,_,jt T.dO.F ia rfl fun a6 A outer s H E G ds r hr hl hR=>?_,T.cw,T.dO.b⟩;obtain⟨six,rows,wd,l,ls,n,age,b,rfl,ok,gk,d0,hb,rfl⟩:=hR;have nd:=ia.nd;have hu:(A.deeper (envOfC "Growth.younger" (af bT) s.heap.objs.size t.bA a6)).units+1 < cLine:=by have:=hr.units;omega
 have h6:=ok.ok.le;let L:=rows.map (·.c);have hL:L.length<=6:=by show(rows.map (·.c)).length<=6;rw[ou];exact h6
 let u:=(fF rows wd age).take b;let C:=CI u;have e1:(L.map fun x=>Dt.str (sg x))=(dI (kc L C)).map fun kd=>kD kd.1:=Gv L C
 have e2:((L.filter fun _=>true).map fun x=>Dt.int (C x * (((wordOf rows x).length:Nat):Int)))=(L.map fun x=>C x * (((wordOf rows x).length:Nat):Int)).map Dt.int:=Fs L fun x=>C x * (((wordOf rows x).length:Nat):Int)
 have Qk:∀ x,(C x).natAbs < 2 ^ 700:=fun x=>by
   have h1:u.count x<=u.length:=List.count_le_length ..;have h2:u.length<=(fF rows wd age).length:=by show((fF rows wd age).take b).length<=_;rw[Wc];omega
   have h3:=yo ok age;have h4:8 ^ (age+1)<=8 ^ 201:=Nat.pow_le_pow_right (by decide) (by omega);have h5:(8:Nat) ^ 201 < 2 ^ 700:=by decide
   show((u.count x:Nat):Int).natAbs < 2 ^ 700;rw[Int.natAbs_natCast];exact WC (We (We (We h1 h2) h3) h4) h5
 refine⟨_,.rt _,ai (dE (b7 (yc T) aB hr (ae (aa 1 rfl) (ae aj (ae (o3 (hX (w:=.int 200) T.gN ⟨_,rfl⟩ fun _=>.int 200) aj) ak))) ⟨_,_,_,rfl,by omega,by omega,rfl⟩))
   (ai (aw 3 nd (d:=.eV (dI (kc L C))) (xV (nz (fs:=t.bO six rows wd l ls n) (aa 0 rfl) (uE (vx T)) aB hr (ae (aa 1 rfl) (ae (aa 2 rfl) ak)) ⟨six,rows,wd,l,ls,n,age,b,rfl,ok,gk,by omega,hb,rfl⟩)))
   (aq (bb (a8 (sv T.p9 rfl (di e2 (eW L (fun x=>Dt.str (sg x)) (fun x=>Dt.int (C x * (((wordOf rows x).length:Nat):Int))) (fun x=>[.val (.str (sg x))]) (fun _=>true) rfl (bI Gu) (Bh (aa 3 rfl)) (bV (bI Gu) rfl) (c6 wA e1) (fun a _=>ck) (.nil fun _ _=>rfl)
     (fun x hx _ C' fp s' H' G'=>?_) (l4 (by omega))))) (by rw[vy ok.ok fun x hx=>je ok.ok ok.wm age x (List.mem_of_mem_take hx)])))))⟩
 have hw:=dR ok.ok hx;exact kU (Bi hu (aa 1 rfl) (aa 0 rfl) (by rw[vh];exact fD hx) (fun _ _=>rfl)) (jL T.gG (cN (fs:=t.vf six rows) (cu (fs:=t.bO six rows wd l ls n) (aa 2 rfl) T.av.cl T.aJ rfl) (lW T) aB hr (ae (aa 0 rfl) ak) ⟨six,rows,x,rfl,ok.ok,hx,rfl⟩) (by omega)) (MB (m:=700) (n:=20) (Qk x) (by omega) (by decide))
theorem CM (T:Txt K mg t):MF P w K mg base CX 8 t.ao "elder_of" 3 (Fq t):=by
 refine⟨T.av.cl,_,_,_,jt T.dq.F gY rfl fun a6 A outer s H E G ds r hr hl hR=>?_,T.b8,T.dq.b⟩;obtain⟨six,rows,wd,l,ls,n,r,e,k,g7,pre,rfl,ok,gk,d0,he,el,rfl⟩:=hR;have nd:=gY.nd;have hu:(A.deeper (envOfC "Growth.elder_of" (af dj) s.heap.objs.size t.bc a6)).units+1 < cLine:=by have:=hr.units;omega
 obtain⟨Ql,Gn,zH,Vr,yU⟩:=el;generalize hB:g7 ++ wp 0 pre=B at Gn Vr yU;let N:=r+2;let E1:Nat->Nat:=fun j=>(kr rows ((B.take j).filter up)).length
 let O1:Nat->Nat:=fun j=>((B.take j).filter no).length
 let S:Nat->List Slot:=fun j=>[.val (lj t six rows wd l ls N),.val (.int ((r+1:Nat):Int)),.val (.int (e:Int)),.val (.int ((E1 j:Nat):Int)),.val (.int ((O1 j:Nat):Int)),.cz,.cz]
 have a1:g7.filter up=g7:=Wb.mpr (fun p hp=>decide_eq_true (zH p hp));have a2:(wp 0 pre).filter up=[]:=List.filter_eq_nil_iff.mpr fun p hp=>by
   obtain⟨y,_,rfl⟩:=Wj.mp hp;simp[up]
 have a3:g7.filter no=[]:=List.filter_eq_nil_iff.mpr fun p hp=>by
   have:=zH p hp;show ¬ decide (p.1=0)=true;rw[decide_eq_false (by omega)];decide
 have a4:(wp 0 pre).filter no=wp 0 pre:=Wb.mpr fun p hp=>by
   obtain⟨y,_,rfl⟩:=Wj.mp hp;rfl
 have f1:(B.filter up)=g7:=by rw[<- hB,WN,a1,a2,Wq]
 have f2:(B.filter no).length=pre.length:=by
   rw[<- hB,WN,a3,a4,List.nil_append];unfold wp;rw[ou]
 have eE:E1 B.length=(kr rows g7).length:=by show(kr rows ((B.take B.length).filter up)).length=_;rw[W0,f1]
 have eO:O1 B.length=pre.length:=by show((B.take B.length).filter no).length=_;rw[W0,f2]
 have eS:S B.length=[.val (lj t six rows wd l ls N),.val (.int ((r+1:Nat):Int)),.val (.int (e:Int)),.val (.int (((kr rows g7).length:Nat):Int)),.val (.int ((pre.length:Nat):Int)),.cz,.cz]:=by
   show [_,_,_,Slot.val (.int ((E1 B.length:Nat):Int)),Slot.val (.int ((O1 B.length:Nat):Int)),_,_]=_;rw[eE,eO]
 refine⟨_,.rt _,ai (dE (b7 (yc T) aB hr (ae (aa 1 rfl) (ae aj (ae (hX (w:=.int 200) T.gN ⟨_,rfl⟩ fun _=>.int 200) ak))) ⟨_,_,_,rfl,by omega,by omega,rfl⟩))
   (ai (gj (m:=N) (tl:=[.val (.int ((r+1:Nat):Int)),.val (.int (e:Int)),.cz,.cz,.cz,.cz]) (cN (fs:=t.bO six rows wd l ls n) (aa 0 rfl) (iQ T) aB hr (ae (aa 1 rfl) ak) ⟨six,rows,wd,l,ls,n,r+1,rfl,ok,gk,by omega,rfl⟩))
   (ai (dE (cN (fs:=t.bO six rows wd l ls N) (aa 0 rfl) (CD T) aB hr (ae (aa 1 rfl) (ae (aa 2 rfl) ak)) ⟨six,rows,wd,l,ls,_,r+1,e,rfl,ok,gk,d0,⟨by omega,by omega⟩,rfl⟩))
   (ai (aw 3 nd aj) (ai (aw 4 nd aj)
   (ai (dl1:=S B.length) (iY (o:=.nx (S B.length)) (m:=B.length) B l5 (fun p dl=>(dl.set 5 (.val (.int ((p.1:Nat):Int)))).set 6 (.val (.str (sg p.2)))) S rfl PassesOwn.leaving (fS (lD (xA (nz (fs:=t.bO six rows wd l ls N) (aa 0 rfl) (uE (nh T)) aB hr (ae (aa 1 rfl) (ae aj (ae (aa 2 rfl) ak))) ⟨six,rows,wd,l,ls,N,r+1,0,e,k,rfl,⟨ok,gk,by show r+1 < r+2;omega,by show r+2<=1000;omega,d0⟩,⟨Wr _,WL he⟩,Ql,rfl⟩) (by rw[Gn])))) eZ (ma rfl (cj (bh nd rfl (.inl rfl)) (cj (bh nd rfl (.inl rfl)) jU))) (fun a _=>oo) (Le.of ⟨rfl,rfl,rfl,rfl,rfl,trivial⟩) (O0 _) (fun j a hj ha=>?body) (.all rfl)) ?rest)))))⟩
 case rest=>
   rw[eS];exact aq (bb (gU (ae (aa 3 rfl) (ae (aa 4 rfl) ak)) AA3))
 case body=>
   rw[Bn hj] at ha;cases ha;obtain⟨m1,m2⟩:=yU B[j] (Wu hj);have et:B.take (j+1)=B.take j ++ [B[j]]:=by rw[WX,Bn hj];rfl
   by_cases hz:B[j].1=0
   . have g1:E1 (j+1)=E1 j:=by
       show(kr rows ((B.take (j+1)).filter up)).length=(kr rows ((B.take j).filter up)).length;rw[et,WN];rw[Vo hz,Wq]
     have g2:O1 (j+1)=O1 j+1:=by
       show((B.take (j+1)).filter no).length=((B.take j).filter no).length+1;rw[et,WN,V5];rw[Vp hz];rfl
     refine .nx (aq (aQ (u:=true) (aP (bP (aa 5 rfl) aj) (decide_eq_true (by rw[hz];rfl))) (fun h=>aq (aw 4 nd (dU (aa 4 rfl) aj))) (fun h=>nomatch h))) (Le.of ⟨rfl,rfl,rfl,?_,?_,trivial⟩)
     . show Slot.val (.int ((E1 (j+1):Nat):Int))=_;rw[g1]
     . show Slot.val (.int ((O1 (j+1):Nat):Int))=Slot.val (.int (((O1 j:Nat):Int)+1));rw[g2];rfl
   . have g1:E1 (j+1)=E1 j+(gP rows (B[j].1 - 1) B[j].2).length:=by
       show(kr rows ((B.take (j+1)).filter up)).length=(kr rows ((B.take j).filter up)).length+_;rw[et,WN,tP,V5];rw[up1 (by omega),qj,V5];rfl
     have g2:O1 (j+1)=O1 j:=by
       show((B.take (j+1)).filter no).length=((B.take j).filter no).length;rw[et,WN];rw[Vq hz,Wq]
     have hg:=tF ok.ok (B[j].1 - 1) m1;refine .nx (aq (aQ (u:=false) (aP (bP (aa 5 rfl) aj) (decide_eq_false (by omega))) (fun h=>nomatch h) (fun h=>aq (aw 3 nd (dU (aa 3 rfl) (fh hu (pK (n:=N) (j:=1) (f:=qE rows) (cu (fs:=t.bO six rows wd l ls N) (aa 0 rfl) T.av.cl T.bf rfl) (a8 (o3 (aa 5 rfl) aj) (congrArg Dt.int (show((B[j].1:Nat):Int) - 1=((B[j].1 - 1:Nat):Int) by omega))) (by rw[gk];rfl) (by show B[j].1 - 1 < r+2;omega) (by show r+2<=1000;omega)) (aa 6 rfl) (by rw[E3];exact fD m1) (fun _ _=>rfl))))))) (Le.of ⟨rfl,rfl,rfl,?_,?_,trivial⟩)
     . show Slot.val (.int ((E1 (j+1):Nat):Int))=Slot.val (.int (((E1 j:Nat):Int)+lT rows (B[j].1 - 1) B[j].2));rw[g1,<- hg];rfl
     . show Slot.val (.int ((O1 (j+1):Nat):Int))=_;rw[g2]
section
variable {X:Cx}{G:Gr}{dl:List Slot}{a b c e:Expr}{n m:Nat}{pos p p2:Pos}{ns:List Int}
theorem Fu (ha:EE X G dl a (.jq ns))(hb:EE X G dl b (.int (n:Int)))(hc:EE X G dl c (.int (m:Int)))(QK:n<=m):EE X G dl (.Subscript a (.Slice (some b) (some c) none p2) pos) (.jq ((ns.drop n).take (m - n))):=
 fG (lu rP ha (lr hb) (lr hc)) fun st H Q zq=>xa zq fun Hf S kk=>fun v Hf1 H1 g1 r1=>by
   cases r1 with
   | @jq q _ hq=>
     refine⟨Hf1,S.grow g1,fun z bw H2 g2 r2=>?_⟩;cases r2;refine⟨(n:Int),rfl,bw,(S.grow g1).grow g2,fun z' fH H3 g3 r3=>?_⟩;cases r3;have g:=(g1.trans g2).trans g3;refine⟨(m:Int),rfl,q,_,rfl,((g1.sub.trans g2.big).trans g3.big).seq hq,fun p hp=>kk _ (upd fH p _) _ (g.trans (.alloc g.sub hp)) (.jq ?_)⟩;have e:qr (ns.map V.int) (some (n:Int)) (some (m:Int))=((ns.drop n).take (m - n)).map V.int:=by
       unfold qr;rw[HT.oi,HT.oi,ou,Xw,List.map_drop];by_cases h:n<=ns.length
       . rw[Xs h]
         by_cases h2:m<=ns.length
         . rw[Xs h2]
         . rw[Nat.min_eq_right (by omega)]
           rw[WJ (by rw[Wz,ou];exact O0 _),WJ (by rw[Wz,ou];omega)]
       . rw[show min n ns.length=ns.length by omega,W7 (by rw[ou];exact O0 _),W7 (by rw[ou];omega)];simp
     rw[<- e];exact .of ah
end
section
variable {X:Cx}{G:Gr}{dl:List Slot}{kds:List (Key×Dt)}{pos p p':Pos}{x:Str}
theorem CN (n:Nat)(hm:X.mg "dict"=none)(hd:autoParam (dl[n]?=some (.own (.b6 kds))) jp)(hN:autoParam (X.N[n]?=some x) jp)(hv:autoParam (qI X.env.scope x) jN)(hU:autoParam ((x == ("__debug__":Str))=false) jM)(il:autoParam ((x == ("__classdict__":Str))=false) jM)(hg:autoParam (Gl X "dict") jp)(he:autoParam (starEach [.Name x p'] X.env=[(false,eval (.Name x p') X.env)]) jp):EO X G dl (.Call (.Name "dict" p) [.Name x p'] [] pos) (.b6 kds):=
 fG (fM wH hg hm Sg.boot_dict (fT (pz (G:=G) (p:=p') n hd hN hv hU il) iq he) (he:=he)) fun st H Q zq=>Nf zq fun Hf zq=>have S:=zq.1;have k:=zq.2;by
   obtain⟨q,z1,z2,z3,kvs,hq,rp⟩:=S.own n _ hd;exact⟨Hf,q,S,z1,z2,⟨kvs,hq,rp⟩,q,kvs,rfl,.inl hq,fun l hl=>k l Hf _ (.cB S.sub hl) hl (S.sub.free hl) ⟨kvs,ah,rp⟩⟩
end
noncomputable def MX:Int:=2147483647
noncomputable def zK (c k:Int):Int:=(c % MX * 48271+k * 69621) % MX
def Fv:Rl:=fun ds r=>∃ c:Int,ds=[.int c,.int 3]/\r=.ret (.int (zK c 3))
noncomputable def dt (N most:Nat):Nat:=N / 6 % (most+1)
noncomputable def tW (rows:List Row)(w:List Nat)(N most:Nat):Nat:=N / 211 % (fF rows w (dt N most)).length
inductive An (rows:List Row)(w:List Nat)(N most:Nat):Res->Prop
 | k0 (h:N % 6=0):An rows w N most (.ret (.int (My rows w (dt N most))))
 | k1 (h:N % 6=1):An rows w N most (.own (.b6 (dI (kc (rows.map (·.c)) (NR rows w (dt N most))))))
 | k2 (h:N % 6=2):An rows w N most (.own (.b6 (dI (kc (rows.map (·.c)) (CI ((fF rows w (dt N most)).take (tW rows w N most)))))))
 | k3 (h:N % 6=3):An rows w N most (.ret (.str (tx (cut (fF rows w (dt N most)) (tW rows w N most) (tW rows w N most+1)))))
 | k4 (h:N % 6=4) (r k:Nat) (g7:List Pc) (pre:List Nat) (hr:dt N most=r+1) (el:RZ rows w r (tW rows w N most) k g7 pre):An rows w N most (.ret (.tup [.int (((kr rows g7).length:Nat):Int),.int ((pre.length:Nat):Int)]))
 | k5 (h:N % 6=5\/(N % 6=4/\dt N most=0)) (h2:dt N most < 200):An rows w N most (.ret (.int (((grow rows ((fF rows w (dt N most)).take (tW rows w N most))).length:Nat):Int)))
 | k6 (h:N % 6=5) (h2:dt N most=200):An rows w N most (.ret (.int ((tW rows w N most:Nat):Int)))
theorem CO {rows:List Row}{w:List Nat}(ok:dY rows w)(n:Nat):0 < (fF rows w n).length:=by
 have h:=wZ ok.ok ok.wm (n:=0) (m:=n) (Wr _);rw[yj] at h;have:=ok.w0;omega
theorem CP {N most:Nat}:dt N most<=most:=by
 unfold dt;have:=Nat.mod_lt (N / 6) (show 0 < most+1 by omega);omega
theorem w6 {rows:List Row}{w:List Nat}(ok:dY rows w)(N most:Nat):tW rows w N most < (fF rows w (dt N most)).length:=Nat.mod_lt _ (CO ok _)
theorem CQ {rows:List Row}{w:List Nat}(ok:dY rows w){N most:Nat}(hm:most<=200):∃ r,An rows w N most r:=by
 have ha:=CP (N:=N) (most:=most);have hp:=w6 ok N most;have h:N % 6=0\/N % 6=1\/N % 6=2\/N % 6=3\/N % 6=4\/N % 6=5:=by omega
 rcases h with h | h | h | h | h | h
 . exact⟨_,.k0 h⟩
 . exact⟨_,.k1 h⟩
 . exact⟨_,.k2 h⟩
 . exact⟨_,.k3 h⟩
 . by_cases z:dt N most=0
   . exact⟨_,.k5 (.inr ⟨h,z⟩) (by omega)⟩
   . obtain⟨r,hr⟩:∃ r,dt N most=r+1:=⟨dt N most - 1,by omega⟩
     rw[hr] at hp;obtain⟨k,g7,pre,h1,h2,h3,h4,h5⟩:=JN ok (r:=r) (e:=tW rows w N most) (by omega) hp;exact⟨_,.k4 h r k g7 pre hr ⟨h1,h2,h3,h4,h5.1⟩⟩
 . by_cases z:dt N most < 200
   . exact⟨_,.k5 (.inl h) z⟩
   . exact⟨_,.k6 h (by omega)⟩
def oP (t:ib):Rl:=fun ds r=>∃ six rows w l ls n,∃ (N most:Nat),ds=[lj t six rows w l ls n,.int ((N:Nat):Int),.int ((most:Nat):Int)]/\dY rows w/\ls.map (·.2)=iP rows/\most<=200/\An rows w N most r
inductive Nd:Dt->Prop
 | int (i:Int):Nd (.int i)
 | str (s:Str):Nd (.str s)
 | tup (ds:List Dt):Nd (.tup ds)
def yp:Rl:=fun ds r=>∃ d,ds=[d]/\Nd d/\r=.ret d
def yq:List (Key×Dt)->Res->Prop:=fun kds r=>(∃ (L:List Nat) (f:Nat->Int),kds=dI (kc L f)/\L.length<=6)/\r=.own (.b6 kds)
theorem CS (T:Txt K mg t):GF P w K mg base CX 1 "_law_mixed" 2 Fv:=by
 refine⟨_,_,_,jt T.kj.F BJ rfl fun a6 A outer s H E G ds r hr hl hR=>?_,(T.g T.kj.a),T.kj.F.kp,T.kj.b⟩;obtain⟨c,rfl,rfl⟩:=hR;exact⟨_,.rt _,aq (bb (cq (dU (kU (cq (aa 0 rfl) aj (by decide)) aj (ug.ok (Wl ⟨by decide,by decide⟩))) (kU (aa 1 rfl) aj (ug.ok (Wl ⟨by decide,by decide⟩)))) aj (by decide)))⟩
theorem CT (T:Txt K mg t):GF P w K mg base CX 11 "_law_asked" 3 (oP t):=by
 refine⟨_,_,_,jt T.km.F u9 rfl fun a6 A outer s H E G ds r hr hl hR=>?_,(T.g T.km.a),T.km.F.kp,T.km.b⟩;obtain⟨six,rows,wd,l,ls,n,N,most,rfl,ok,gk,hm,an⟩:=hR;have nd:=u9.nd;have ha:=CP (N:=N) (most:=most);have hp:=w6 ok N most;have h0:=CO ok (dt N most);have Qq:=tJ ok (dt N most);let gE:Dt:=lj t six rows wd l ls n;let D:Slot->List Slot:=fun a5=>[.val gE,.val (.int ((N:Nat):Int)),.val (.int ((most:Nat):Int)),.val (.int ((N % 6:Nat):Int)),.val (.int ((dt N most:Nat):Int)),a5]
 have eK:((N:Nat):Int) % 6=((N % 6:Nat):Int):=by omega
 have eA:((N:Nat):Int) / 6 % (((most:Nat):Int)+1)=((dt N most:Nat):Int):=by
   unfold dt;rw[Int.natCast_emod,Int.natCast_ediv];rfl
 have eP:((N:Nat):Int) / 211 % My rows wd (dt N most)=((tW rows wd N most:Nat):Int):=by
   unfold tW;rw[<- Qq,Int.natCast_emod,Int.natCast_ediv];rfl
 have lR:Cf t [gE,.int ((dt N most:Nat):Int)] (.ret (.int (My rows wd (dt N most)))):=⟨six,rows,wd,l,ls,n,dt N most,rfl,ok,gk,by omega,rfl⟩
 have head:∀ o,iV (mh CX P w K mg base i6 "_law_asked" (af fm) t.ig a6 A outer s H E) G E (D .cz) ((ax fm).drop 2) o->iV (mh CX P w K mg base i6 "_law_asked" (af fm) t.ig a6 A outer s H E) G E (slots i6 [gE,.int ((N:Nat):Int),.int ((most:Nat):Int)]) (ax fm) o:=fun o h=>
   ai (aw 3 nd (a8 (cq (aa 1 rfl) aj (by decide)) (congrArg Dt.int eK))) (ai (dl1:=D .cz) (aw 4 nd (a8 (cq (dD (aa 1 rfl) aj ⟨by decide,by decide +kernel⟩) (dU (aa 2 rfl) aj) (by omega)) (congrArg Dt.int eA))) h)
 have mid:∀ o,N % 6≠0->N % 6≠1->iV (mh CX P w K mg base i6 "_law_asked" (af fm) t.ig a6 A outer s H E) G E (D (.val (.int ((tW rows wd N most:Nat):Int)))) ((ax fm).drop 5) o->iV (mh CX P w K mg base i6 "_law_asked" (af fm) t.ig a6 A outer s H E) G E (slots i6 [gE,.int ((N:Nat):Int),.int ((most:Nat):Int)]) (ax fm) o:=fun o n0 n1 h=>
   head o (ai (aQ (u:=false) (aP (bP (aa 3 rfl) aj) (decide_eq_false (by omega))) (fun h=>nomatch h) (fun _=>bg)) (ai (aQ (u:=false) (aP (bP (aa 3 rfl) aj) (decide_eq_false (by omega))) (fun h=>nomatch h) (fun _=>bg))
     (ai (dl1:=D (.val (.int ((tW rows wd N most:Nat):Int)))) (aw 5 nd (a8 (cq (dD (aa 1 rfl) aj ⟨by decide,by decide +kernel⟩) (cN (fs:=t.bO six rows wd l ls n) (aa 0 rfl) (tw T) aB hr (ae (aa 4 rfl) ak) lR) (by omega)) (congrArg Dt.int eP))) h)))
 cases an with
 | k0 h=>
   exact⟨_,.rt _,head _ (fg (aQ (u:=true) (aP (bP (aa 3 rfl) aj) (decide_eq_true (by omega))) (fun _=>aq (bb (cN (fs:=t.bO six rows wd l ls n) (aa 0 rfl) (tw T) aB hr (ae (aa 4 rfl) ak) lR))) (fun h=>nomatch h)))⟩
 | k1 h=>
   exact⟨_,.ro _,head _ (ai (aQ (u:=false) (aP (bP (aa 3 rfl) aj) (decide_eq_false (by omega))) (fun h=>nomatch h) (fun _=>bg)) (fg (aQ (u:=true) (aP (bP (aa 3 rfl) aj) (decide_eq_true (by omega))) (fun _=>aq (hZ (nz (fs:=t.bO six rows wd l ls n) (aa 0 rfl) (uE (yd T)) aB hr (ae (aa 4 rfl) ak) ⟨six,rows,wd,l,ls,n,dt N most,rfl,ok,gk,by omega,rfl⟩))) (fun h=>nomatch h))))⟩
 | k2 h=>
   exact⟨_,.ro _,mid _ (by omega) (by omega) (fg (aQ (u:=true) (aP (bP (aa 3 rfl) aj) (decide_eq_true (by omega))) (fun _=>aq (hZ (nz (fs:=t.bO six rows wd l ls n) (aa 0 rfl) (uE (vx T)) aB hr (ae (aa 4 rfl) (ae (aa 5 rfl) ak)) ⟨six,rows,wd,l,ls,n,dt N most,tW rows wd N most,rfl,ok,gk,by omega,by omega,rfl⟩))) (fun h=>nomatch h)))⟩
 | k3 h=>
   exact⟨_,.rt _,mid _ (by omega) (by omega) (ai (aQ (u:=false) (aP (bP (aa 3 rfl) aj) (decide_eq_false (by omega))) (fun h=>nomatch h) (fun _=>bg)) (fg (aQ (u:=true) (aP (bP (aa 3 rfl) aj) (decide_eq_true (by omega))) (fun _=>aq (bb (cN (fs:=t.bO six rows wd l ls n) (aa 0 rfl) (JJ T) aB hr (ae (aa 4 rfl) (ae (aa 5 rfl) ak)) ⟨six,rows,wd,l,ls,n,dt N most,tW rows wd N most,rfl,ok,gk,by omega,hp,rfl⟩))) (fun h=>nomatch h))))⟩
 | k4 h r k g7 pre NQ el=>
   have eR:((dt N most:Nat):Int)=((r+1:Nat):Int):=by rw[NQ]
   rw[NQ] at hp;refine⟨_,.rt _,mid _ (by omega) (by omega) ?_⟩
   iterate 2 refine ai (aQ (u:=false) (aP (bP (aa 3 rfl) aj) (decide_eq_false (by omega))) (fun h=>nomatch h) (fun _=>bg)) ?_
   exact fg (aQ (u:=true) (aP (o5 (jA (bP (aa 3 rfl) aj) fun _=>jZ (ny (aa 4 rfl) aj))) (by rw[decide_eq_true (show((N % 6:Nat):Int)=4 by omega),decide_eq_true (show(0:Int) < ((dt N most:Nat):Int) by omega)];rfl)) (fun _=>aq (bb (cN (fs:=t.bO six rows wd l ls n) (aa 0 rfl) (CM T) aB hr (ae (a8 (aa 4 rfl) (congrArg Dt.int eR)) (ae (aa 5 rfl) ak)) ⟨six,rows,wd,l,ls,n,r,tW rows wd N most,k,g7,pre,rfl,ok,gk,by omega,hp,el,rfl⟩))) (fun h=>nomatch h))
 | k5 h h2=>
   refine⟨_,.rt _,mid _ (by omega) (by omega) ?_⟩
   iterate 2 refine ai (aQ (u:=false) (aP (bP (aa 3 rfl) aj) (decide_eq_false (by omega))) (fun h=>nomatch h) (fun _=>bg)) ?_
   refine ai (aQ (u:=false) (aP (o5 (jA (bP (aa 3 rfl) aj) fun _=>jZ (ny (aa 4 rfl) aj))) ?_) (fun h=>nomatch h) (fun _=>bg)) ?_
   . rcases h with h | ⟨_,h⟩
     . rw[decide_eq_false (show ¬ ((N % 6:Nat):Int)=4 by omega)];rfl
     . rw[decide_eq_false (show ¬ (0:Int) < ((dt N most:Nat):Int) by omega),Bool.and_false]
   exact fg (aQ (u:=true) (aP (nv (aa 4 rfl) aj) (decide_eq_true (by omega))) (fun _=>aq (bb (cN (fs:=t.bO six rows wd l ls n) (aa 0 rfl) (CL T) aB hr (ae (aa 4 rfl) (ae (aa 5 rfl) ak)) ⟨six,rows,wd,l,ls,n,dt N most,tW rows wd N most,rfl,ok,gk,by omega,by omega,rfl⟩))) (fun h=>nomatch h))
 | k6 h h2=>
   refine⟨_,.rt _,mid _ (by omega) (by omega) ?_⟩
   iterate 2 refine ai (aQ (u:=false) (aP (bP (aa 3 rfl) aj) (decide_eq_false (by omega))) (fun h=>nomatch h) (fun _=>bg)) ?_
   exact ai (aQ (u:=false) (aP (o5 (jA (bP (aa 3 rfl) aj) fun _=>jZ (ny (aa 4 rfl) aj))) (by rw[decide_eq_false (show ¬ ((N % 6:Nat):Int)=4 by omega)];rfl)) (fun h=>nomatch h) (fun _=>bg))
     (ai (aQ (u:=false) (aP (nv (aa 4 rfl) aj) (decide_eq_false (by omega))) (fun h=>nomatch h) (fun _=>bg)) (aq (bb (aa 5 rfl))))
theorem CU (T:Txt K mg t):GF P w K mg base CX 1 "_law_held" 1 yp:=by
 refine⟨_,_,_,jt T.iA.F sP rfl fun a6 A outer s H E G ds r hr hl hR=>?_,(T.g T.iA.a),T.iA.F.kp,T.iA.b⟩;obtain⟨d,rfl,hd,rfl⟩:=hR;cases hd with
 | int i=>exact⟨_,.rt _,fg (aQ (u:=true) (o6 (u:=false) (o4 (r6 T.dQ (aa 0 rfl) (xw T.fR Sg.boot_dict) rfl trivial rfl))) (fun _=>aq (bb (aa 0 rfl))) (fun h=>nomatch h))⟩
 | str i=>exact⟨_,.rt _,fg (aQ (u:=true) (o6 (u:=false) (o4 (r6 T.dQ (aa 0 rfl) (xw T.fR Sg.boot_dict) rfl trivial rfl))) (fun _=>aq (bb (aa 0 rfl))) (fun h=>nomatch h))⟩
 | tup i=>exact⟨_,.rt _,fg (aQ (u:=true) (o6 (u:=false) (o4 (r6 T.dQ (aa 0 rfl) (xw T.fR Sg.boot_dict) rfl trivial rfl))) (fun _=>aq (bb (aa 0 rfl))) (fun h=>nomatch h))⟩
noncomputable def nF (L:List Nat)(kds:List (Key×Dt)):Nat->List (Key×Dt)
 | 0=>kds
 | k+1=>jD (nF L kds k) (.inr (sg (L.getD k 0))) (.int (-7))
theorem Fw (kds:List (Key×Dt))(k:Key)(d:Dt):(jD kds k d).length<=kds.length+1:=by
 unfold jD
 split <;> simp
theorem rD (L:List Nat)(kds:List (Key×Dt)):∀ k,(nF L kds k).length<=kds.length+k
 | 0=>O0 _
 | k+1=>by
   have:=Fw (nF L kds k) (.inr (sg (L.getD k 0))) (.int (-7));have:=rD L kds k;show(jD (nF L kds k) _ _).length<=_;omega
noncomputable def hD:Res->Dt
 | .ret d=>d
 | .own (.b6 kds)=>.eV kds
 | _=>.b0
theorem Qr {W:List Nat}{b:Nat}(h:b < W.length):cut W b (b+1)=[W.getD b 0]:=by
 unfold cut;rw[WX,Bn h,List.drop_append_of_le_length (by rw[Wc];omega),Xm (by rw[Wc];omega),Sl,Bn h];rfl
theorem Gw {rows:List Row}{w:List Nat}(ok:dY rows w){N most:Nat}{r:Res}(an:An rows w N most r):(∃ d,r=.ret d/\Nd d/\HG d)\/(∃ f:Nat->Int,r=.own (.b6 (dI (kc (rows.map (·.c)) f)))):=by
 cases an with
 | k0 h=>exact .inl ⟨_,rfl,.int _,rfl,rfl⟩
 | k1 h=>exact .inr ⟨_,rfl⟩
 | k2 h=>exact .inr ⟨_,rfl⟩
 | k3 h=>
   have hp:=w6 ok N most;rw[Qr hp];have hm:=je ok.ok ok.wm (dt N most) ((fF rows w (dt N most)).getD (tW rows w N most) 0) (by rw[Sl,Bn hp];exact Wu _);generalize (fF rows w (dt N most)).getD (tW rows w N most) 0=c at hm ⊢;obtain⟨q,hq,e⟩:=Wj.mp hm;have hs:=ok.ok.sm q hq;unfold small at hs;have so:PyData.strOk (tx [c])=true:=by
     have:c < 0x110000:=by omega
     simp[PyData.strOk,tx,this]
   refine .inl ⟨_,rfl,.str _,by simp[Sg.plain],?_⟩;unfold SeqAt.shaped;simp[pd,PyData.canLay0,PyData.depth,so]
 | k4 h r k g7 pre hr el=>exact .inl ⟨_,rfl,.tup _,rfl,rfl⟩
 | k5 h h2=>exact .inl ⟨_,rfl,.int _,rfl,rfl⟩
 | k6 h h2=>exact .inl ⟨_,rfl,.int _,rfl,rfl⟩
theorem CV (T:Txt K mg t):PV P w K mg base CX 1 "_law_held" yq:=by
 refine⟨_,_,_,U2 (LF T.iA.F) sP rfl fun a6 A outer s H E G kds r hr hR=>?_,(T.g T.iA.a),T.iA.F.kp,T.iA.b⟩;obtain⟨⟨L,f,rfl,hL⟩,rfl⟩:=hR;have nd:=sP.nd;have hu:(A.deeper (envOfC "_law_held" (af sM) s.heap.objs.size t.pV a6)).units+1 < cLine:=by have:=hr.units;omega
 let kds:=dI (kc L f);have hk:kds.length=L.length:=by show(dI (kc L f)).length=_;unfold dI kc;simp
 have ek:(kds.map fun kd=>kD kd.1)=L.map fun x=>Dt.str (sg x):=(Gv L f).symm
 let S:Nat->List Slot:=fun k=>[.own (.b6 (nF L kds k)),.own (.b6 kds),.cz]
 show ∃ o,Comes o (.own (.b6 kds))/\iV _ _ _ [.own (.b6 kds),.cz,.cz] _ _;refine⟨_,.ro _,ai (aQ (u:=false) (D3 (w:=.b6 kds) 0 (o6 (u:=true) (o4 (r6 T.dQ (aa 0 rfl) (xw T.fR Sg.boot_dict) rfl trivial rfl)))) (fun h=>nomatch h) (fun _=>bg)) (ai (j4 1 nd (CN 0 T.fR)) ?_)⟩;refine ai (dl1:=S L.length) (iY (o:=.nx (S L.length)) (m:=L.length) L (fun x=>Dt.str (sg x)) (fun x dl=>dl.set 2 (.val (.str (sg x)))) S rfl PassesOwn.leaving (fS (di ek (BG 0 T.lb rfl))) eZ (bh nd rfl (.inl rfl)) (fun a _=>su) (Le.of ⟨rfl,rfl,trivial⟩) (O0 _) (fun k a DS ha=>?_) (.all rfl)) (aq (xB 1));rw[Bn DS] at ha;cases ha;have eg:L.getD k 0=L[k]:=by rw[Sl,Bn DS];rfl
 have sl:=rD L kds k;refine .nx (aq (xM (kds:=nF L kds k) 0 hu (Ay aj) (aa 2 rfl) (WC (show(nF L kds k).length<=12 by omega) (by decide)))) (Le.of ⟨?_,rfl,trivial⟩);show Slot.own (.b6 (jD (nF L kds k) (.inr (sg (L.getD k 0))) (.int (-7))))=_;rw[eg]
section
variable {X:Cx}{G:Gr}{dl:List Slot}{e b:Expr}{pos p wC:Pos}{k':Nat}{rows:List Row}{w:List Nat}{N most:Nat}{r:Res}
theorem tQ (hV:GF X.prog X.w X.K X.mg X.base CX 1 "_law_held" 1 yp)(hO:PV X.prog X.w X.K X.mg X.base CX 1 "_law_held" yq)(hr:cA k' X.A)(ok:dY rows w)(an:An rows w N most r)(h1:∀ d,r=.ret d->EE X G dl e d)(h2:∀ o,r=.own o->EO X G dl e o)(qW:autoParam (1<=k') jM)(hg:autoParam (Gl X "_law_held") jp)(he:autoParam (starEach [e] X.env=(false,eval e X.env)::starEach [] X.env) jp)(jn:autoParam ((backTo pos (starEach [] X.env)).any (·.1)=false) jp):EE X G dl (.Call (.Name "_law_held" p) [e] [] pos) (hD r):=by
 rcases Gw ok an with⟨d,rfl,nd,_⟩ | ⟨f,rfl⟩
 . exact b7 hV aB hr (ae (h1 d rfl) ak he) ⟨d,rfl,nd,rfl⟩ qW rfl hg (by decide) he jn
 . exact xV (IV hO aB hr (h2 _ rfl) ⟨⟨rows.map (·.c),f,rfl,by rw[ou];exact ok.ok.le⟩,rfl⟩ qW hg (by decide) he jn)
theorem zL (hu:X.A.units+64 < cLine)(ok:dY rows w)(an:An rows w N most r)(ha:EE X G dl e (hD r))(hb:EE X G dl b (hD r)):EB X G dl (.Compare e [.NotEq] [b] wC) false:=by
 rcases Gw ok an with⟨d,rfl,_,Qs⟩ | ⟨f,rfl⟩
 . exact Lb hu ha hb Qs Qs (by show(!PyData.eqv (pd d) (pd d))=false;rw[eqv_refl _ Qs.1];rfl)
 . exact Ew hu ha hb
end
noncomputable def MT:Stmt->Scope
 | .Assign _ (.ListComp _ _ sc _) _=>sc
 | _=>default
noncomputable abbrev JO:Scope:=MT ((ax rj).getD 5 (.Pass ⟨0,0,0,0⟩))
theorem JP:wg JO (af rj) F9 ["_law_cell_here"] [] "_law_cell_here"=true:=by decide +kernel
theorem JQ (T:Txt K mg t):gu P w K mg base CX 13 t.kP t.pW ["_law_script"] (Ci K):=by
 refine jt T.vc.F BK rfl fun a6 A outer s H E G ds r hr hl hR=>?_
 obtain⟨ns,hlen,rfl,rfl⟩:=hR;have nd:=BK.nd;have Qt:(A.deeper (envOfC "law" (af rj) s.heap.objs.size t.kP a6)).units+64 < cLine:=hr.units;let JR:=ns.drop 3;obtain⟨six,Qu⟩:∃ z,z=vo ns:=⟨_,rfl⟩
 obtain⟨rows,Gx⟩:∃ z,z=m7 ns:=⟨_,rfl⟩
 obtain⟨wd,R0⟩:∃ z,z=lX ns:=⟨_,rfl⟩
 obtain⟨vz,MU⟩:∃ z,z=vo JR:=⟨_,rfl⟩
 obtain⟨lZ,CW⟩:∃ z,z=m7 JR:=⟨_,rfl⟩
 obtain⟨Gy,MV⟩:∃ z,z=lX JR:=⟨_,rfl⟩
 have zM:dY rows wd:=by rw[Gx,R0];exact Gi ns
 have CY:dY lZ Gy:=by rw[CW,MV];exact Gi JR
 have hb:=yh ns (far:=40) (by decide) (by decide);have Rm:=yh JR (far:=12) (by decide) (by decide);obtain⟨age,d0⟩:∃ age:Nat,jO ns 40=((age:Nat):Int):=⟨(jO ns 40).toNat,by omega⟩
 have Bc:age<=200:=by omega
 obtain⟨a2,Qv⟩:∃ z,z=jO JR 12:=⟨_,rfl⟩
 obtain⟨m2,IF,MW⟩:∃ m2:Nat,(if (12:Int) < a2 then (12:Int) else a2)=((m2:Nat):Int)/\m2<=200:=by
   split
   . exact⟨12,rfl,by decide⟩
   . exact⟨a2.toNat,by omega,by omega⟩
 let cs:List Int:=(ns.drop 9).take (29 - 9);obtain⟨zs,Qw⟩:∃ zs:List Int,zs=cs.map fun c=>zK c 3:=⟨_,rfl⟩
 have Vs:zs.length=cs.length:=by rw[Qw,ou]
 have lcs:cs.length<=20:=by show((ns.drop 9).take (29 - 9)).length<=20;rw[Wc];omega
 have zn:∀ j (h:j < zs.length),∃ N:Nat,zs[j]=((N:Nat):Int):=fun j h=>by
   have e:zs[j]'h=zK (cs[j]'(by omega)) 3:=by simp[Qw]
   rw[e];have:=WD (cs[j]'(by omega) % MX * 48271+3 * 69621) (show MX≠0 by decide);exact⟨(zK (cs[j]'(by omega)) 3).toNat,by unfold zK;omega⟩
 let NN:Nat->Nat:=fun j=>(zs.getD j 0).toNat
 have eN:∀ j (h:j < zs.length),zs[j]=((NN j:Nat):Int):=fun j h=>by
   obtain⟨N,hN⟩:=zn j h;show _=(((zs.getD j 0).toNat:Nat):Int);rw[Sl,Bn h,Option.getD_some,hN,WT]
 let AR:Nat->Res:=fun j=>Classical.choose (CQ zM (N:=NN j) (most:=age) Bc)
 have MY:∀ j,An rows wd (NN j) age (AR j):=fun j=>Classical.choose_spec (CQ zM (N:=NN j) (most:=age) Bc)
 let FL:Nat->List Dt:=fun k=>(Wi k).map fun j=>hD (AR j)
 have Vt:∀ k,(FL k).length=k:=fun k=>by show((Wi k).map _).length=k;rw[ou,Wo]
 let nD:Nat->Dt:=fun a=>.int ((a:Nat):Int)
 let sD:List Dt:=[.int (wy vz),.lst (lZ.map kQ),.str (tx Gy),.int a2]
 refine⟨_,.rt _,?_⟩;refine ai (Ep 1 2 3 4 nd rfl (d1:=.int (wy six)) (d2:=.lst (rows.map kQ)) (d3:=.str (tx wd)) (d4:=nD age) (a8 (b7 (Cr T) aB hr (ae (aa 0 rfl) (ae aj ak)) ⟨ns,40,rfl,⟨by decide,by decide⟩,rfl⟩) (by rw[d0,Qu,Gx,R0]))) ?_;refine ai (aw 5 nd (d:=.tup sD) (a8 (b7 (Cr T) aB hr (ae (B0 (k:=3) (aa 0 rfl) aj) (ae aj ak)) ⟨JR,12,rfl,⟨by decide,by decide⟩,rfl⟩) (by show _=Dt.tup [.int (wy vz),.lst (lZ.map kQ),.str (tx Gy),.int a2];rw[MU,CW,MV,Qv]))) ?_;refine ai (aw 6 nd (d:=t.Jr six rows wd 1) (AN (pA (Cc T) aB hr (ae (AO (sq (BY T) aB hr (ae (aa 1 rfl) (ae (lD (si T.lb (aa 2 rfl))) ak)) ⟨six,rows,rfl,zM.ok,rfl⟩)) (ae (aa 3 rfl) ak)) ⟨six,rows,wd,rfl,zM,rfl⟩))) ?_;refine pM 6 fun l1 NT R1=>?_
 refine ai (aw 7 nd (d:=t.Jr vz lZ Gy 1) (AN (pA (Cc T) aB hr (ae (AO (sq (BY T) aB hr (ae (dW (d:=.int (wy vz)) (ds:=sD) (aa 5 rfl) aj rfl) (ae (lD (si T.lb (dW (d:=.lst (lZ.map kQ)) (ds:=sD) (aa 5 rfl) aj rfl))) ak)) ⟨vz,lZ,rfl,CY.ok,rfl⟩)) (ae (dW (d:=.str (tx Gy)) (ds:=sD) (aa 5 rfl) aj rfl) ak)) ⟨vz,lZ,Gy,rfl,CY,rfl⟩))) ?_;refine pM 7 fun l2 R3 PX=>?_
 refine ai (aw 8 nd (d:=t.Jr six rows wd 1) (AN (pA (Cc T) aB hr (ae (AO (sq (BY T) aB hr (ae (aa 1 rfl) (ae (lD (si T.lb (aa 2 rfl))) ak)) ⟨six,rows,rfl,zM.ok,rfl⟩)) (ae (aa 3 rfl) ak)) ⟨six,rows,wd,rfl,zM,rfl⟩))) ?_;refine pM 8 fun l3 NU R4=>?_
 let g1:Dt:=lj t six rows wd l1 NT 1;let g2:Dt:=lj t vz lZ Gy l2 R3 1;let g3:Dt:=lj t six rows wd l3 NU 1;let D:Slot->Slot->Slot->Slot->List Slot:=fun a9 Vu Vv Vw=>[.val (.jq ns),.val (.int (wy six)),.val (.lst (rows.map kQ)),.val (.str (tx wd)),.val (nD age),.val (.tup sD),.val g1,.val g2,.val g3,a9,Vu,Vv,Vw]
 have R5:∀ j,oP t [g1,.int ((NN j:Nat):Int),nD age] (AR j):=fun j=>⟨six,rows,wd,l1,NT,1,NN j,age,rfl,zM,R1,Bc,MY j⟩
 have R6:∀ j,oP t [g3,.int ((NN j:Nat):Int),nD age] (AR j):=fun j=>⟨six,rows,wd,l3,NU,1,NN j,age,rfl,zM,R4,Bc,MY j⟩
 show iV _ _ _ (D .cz .cz .cz .cz) _ _;refine ai (dl1:=D (.own (.lst (zs.map .int))) .cz .cz .cz) (Ln (ys:=zs.map .int) 9 (N:=["_law_cell_here"]) (ix:=[]) rfl nd (HV JP) (fS (Fu (n:=9) (m:=29) (aa 0 rfl) aj aj (by decide))) Ex (fun k hk C fp s' H' G'=>?n1) ?n2 ?n3) ?_
 case n1=>
   have hk:k < cs.length:=hk;have e1:(cs.map Dt.int).getD k .b0=.int (cs[k]'hk):=by rw[Sl,VB,Bn hk];rfl
   have e2:(zs.map Dt.int).getD k .b0=.int (zK (cs[k]'hk) 3):=by
     rw[Qw,Sl,VB,VB,Bn hk];rfl
   rw[e2];exact b7 (CS T) aB hr (ae (a8 (aa 0 rfl) e1) (ae aj ak)) ⟨_,rfl,rfl⟩
 case n2=>rw[ou,Vs]
 case n3=>exact WL (yN (by show cs.length<=1000;omega))
 refine pv 9 (w:=.lst (zs.map .int)) ?_;show iV _ _ _ (D (.val (.lst (zs.map .int))) .cz .cz .cz) _ _;refine ai (dl1:=D (.val (.lst (zs.map .int))) (.own (.lst (FL 0))) .cz .cz) (j4 10 nd (wa ak AA3)) ?_;let xs:List Dt:=zs.map .int;have V2:xs.length=zs.length:=by show(zs.map Dt.int).length=_;rw[ou]
 let S:Nat->List Slot:=fun k=>D (.val (.lst (zs.map .int))) (.own (.lst (FL k))) .cz .cz
 refine ai (dl1:=S xs.length) (iY (o:=.nx (S xs.length)) (m:=xs.length) (Wi xs.length) (fun(j:Nat)=>.tup [.int j,xs.getD j .b0]) (fun(j:Nat) dl=>(dl.set 11 (.val (.int j))).set 12 (.val (xs.getD j .b0))) S rfl PassesOwn.leaving (xH rfl T.gm (ae (aa 9 rfl) ak)) (q8 (xs:=xs)) (ma rfl (cj (bh nd rfl (.inl rfl)) (cj (bh nd rfl (.inl rfl)) jU))) (fun a _=>oo) (Le.of ⟨rfl,rfl,rfl,rfl,rfl,rfl,rfl,rfl,rfl,rfl,rfl,trivial⟩) (by rw[Wo];exact O0 _) (fun k a hk ha=>?lp) (by rw[Wo];exact .all rfl)) ?_
 case lp=>
   rw[WE hk] at ha;cases ha;have DS:k < zs.length:=by omega
   have ex:xs.getD k .b0=.int ((NN k:Nat):Int):=by
     show(zs.map Dt.int).getD k .b0=_;rw[Sl,VB,Bn DS,<- eN k DS];rfl
   have ef:FL (k+1)=FL k ++ [hD (AR k)]:=by
     show(Wi (k+1)).map _=(Wi k).map _ ++ _;rw[List.range_succ,WM];rfl
   rw[ex];obtain⟨r2,NJ⟩:=CQ CY (N:=NN k) (most:=m2) MW;have R7:oP t [g2,.int ((NN k:Nat):Int),.int ((m2:Nat):Int)] r2:=⟨vz,lZ,Gy,l2,R3,1,NN k,m2,rfl,CY,PX,MW,NJ⟩
   refine .nx (ai (mx (ds:=FL k) 10 (d:=hD (AR k)) (tQ (CU T) (CV T) hr zM (MY k) (fun d e=>b7 (CT T) aB hr (ae (aa 6 rfl) (ae (aa 12 rfl) (ae (aa 4 rfl) ak))) (by rw[<- e];exact R5 k)) (fun o e=>lE (CT T) aB hr (ae (aa 6 rfl) (ae (aa 12 rfl) (ae (aa 4 rfl) ak))) (by rw[<- e];exact R5 k))) (by rw[Vt];exact WC (show k<=20 by omega) (by decide)))
     (aq ?_)) (dl':=D (.val (.lst (zs.map .int))) (.own (.lst (FL (k+1)))) (.val (.int k)) (.val (.int ((NN k:Nat):Int)))) (Le.of ⟨rfl,rfl,rfl,rfl,rfl,rfl,rfl,rfl,rfl,rfl,rfl,trivial⟩)
   rw[ef];by_cases c:((k:Nat):Int) % 3=1
   . exact aQ (u:=true) (aP (bP (cq (aa 11 rfl) aj (by decide)) aj) (decide_eq_true c)) (fun _=>aq (dE (tQ (CU T) (CV T) hr CY NJ (fun d e=>b7 (CT T) aB hr (ae (aa 7 rfl) (ae (aa 12 rfl) (ae (a8 (AQ T.xZ rfl (ae (dW (d:=.int a2) (ds:=sD) (aa 5 rfl) aj rfl) (ae aj ak))) (congrArg Dt.int IF)) ak))) (by rw[<- e];exact R7)) (fun o e=>lE (CT T) aB hr (ae (aa 7 rfl) (ae (aa 12 rfl) (ae (a8 (AQ T.xZ rfl (ae (dW (d:=.int a2) (ds:=sD) (aa 5 rfl) aj rfl) (ae aj ak))) (congrArg Dt.int IF)) ak))) (by rw[<- e];exact R7))))) (fun h=>nomatch h)
   . exact aQ (u:=false) (aP (bP (cq (aa 11 rfl) aj (by decide)) aj) (decide_eq_false c)) (fun h=>nomatch h) (fun _=>bg)
 refine pv 10 (w:=.lst (FL xs.length)) ?_;let S2:Nat->List Slot:=fun _=>D (.val (.lst (zs.map .int))) (.val (.lst (FL xs.length))) .cz .cz
 show iV _ _ _ (S2 0) _ _;have OR:(0:Int)<=((xs.length:Nat):Int)/\((xs.length:Nat):Int) < 2 ^ 30:=⟨Int.natCast_nonneg _,by omega⟩
 have Qx:(((xs.length:Nat):Int)).toNat=xs.length:=WT _;refine ai (dl1:=S2 xs.length) (iY (o:=.nx (S2 xs.length)) (m:=xs.length) (Wi (((xs.length:Nat):Int)).toNat) (fun(k:Nat)=>Dt.int (((xs.length:Nat):Int) - 1 - (k:Nat))) (fun(k:Nat) dl=>dl.set 11 (.val (.int (((xs.length:Nat):Int) - 1 - (k:Nat))))) S2 rfl PassesOwn.leaving (Ez rfl T.jc rfl T.jb (r0 (ds:=xs) T.gG (aa 9 rfl)) OR) zr (bh nd rfl (.inl rfl)) (fun a _=>su) (Le.of ⟨rfl,rfl,rfl,rfl,rfl,rfl,rfl,rfl,rfl,rfl,rfl,trivial⟩) (by rw[Wo,Qx];exact O0 _) (fun k a hk ha=>?l2) (by rw[Wo,Qx];exact .all rfl)) ?_
 case l2=>
   rw[Qx,WE hk] at ha;cases ha;obtain⟨j,hj,ej⟩:∃ j:Nat,j < zs.length/\((xs.length:Nat):Int) - 1 - ((k:Nat):Int)=((j:Nat):Int):=⟨xs.length - 1 - k,by omega,by omega⟩
   have i1:nI (zs.map Dt.int) ((j:Nat):Int)=some (.int ((NN j:Nat):Int)):=by
     refine jV ?_;rw[VB,Bn hj,<- eN j hj];rfl
   have i2:nI (FL xs.length) ((j:Nat):Int)=some (hD (AR j)):=by
     refine jV ?_;show((Wi xs.length).map _)[j]?=_;rw[VB,WE (by omega)];rfl
   rw[ej];exact .nx (aq (aQ (u:=false) (zL hr.units zM (MY j) (tQ (CU T) (CV T) hr zM (MY j) (fun d e=>b7 (CT T) aB hr (ae (aa 8 rfl) (ae (v7 (aa 9 rfl) (aa 11 rfl) i1) (ae (aa 4 rfl) ak))) (by rw[<- e];exact R6 j)) (fun o e=>lE (CT T) aB hr (ae (aa 8 rfl) (ae (v7 (aa 9 rfl) (aa 11 rfl) i1) (ae (aa 4 rfl) ak))) (by rw[<- e];exact R6 j))) (v7 (aa 10 rfl) (aa 11 rfl) i2)) (fun h=>nomatch h) (fun _=>bg))) (Le.of ⟨rfl,rfl,rfl,rfl,rfl,rfl,rfl,rfl,rfl,rfl,rfl,trivial⟩)
 exact aq (bb (Es (kds:=kc (rows.map fun r:Row=>r.c) (NR rows wd age)) Qt (xV (nz (fs:=t.bO six rows wd l3 NU 1) (aa 8 rfl) (uE (yd T)) aB hr (ae (aa 4 rfl) ak) ⟨six,rows,wd,l3,NU,1,age,rfl,zM,R4,Bc,rfl⟩)) (xV (nz (fs:=t.bO six rows wd l1 NT 1) (aa 6 rfl) (uE (yd T)) aB hr (ae (aa 4 rfl) ak) ⟨six,rows,wd,l1,NT,1,age,rfl,zM,R1,Bc,rfl⟩))))
end Pf
end
theorem ky {p:List PySem.Value->Prop}(h:p []):∀ us:List PySem.Value,us.length=0->p us
 | [],_=>h
theorem wf {p:List PySem.Value->Prop}{n:Nat}(h:∀ a us,us.length=n->p (a::us)):∀ us:List PySem.Value,us.length=n+1->p us
 | a::us,e=>h a us (Nat.succ.inj e)
namespace PySem.W.Fast
theorem tw1811580253226642900:True:=⟨⟩
theorem tw11842822384273009860:True:=⟨⟩
theorem tw10321019516985138375:True:=⟨⟩
theorem tw7191059143573435516:True:=⟨⟩
theorem tw4307252640221060498:True:=⟨⟩
theorem tw3942709979974107349:True:=⟨⟩
theorem tw6421545869200575171:True:=⟨⟩
theorem tw17519056089390130650:True:=⟨⟩
theorem tw11865912646344465607:True:=⟨⟩
theorem tw6489383840184399427:True:=⟨⟩
theorem tw7712175936221646035:True:=⟨⟩
theorem tw7027555107695453833:True:=⟨⟩
theorem tw1688173219651654099:True:=⟨⟩
theorem tw16466023779437360924:True:=⟨⟩
theorem tw6088170839214939350:True:=⟨⟩
theorem tw16063004673561389796:True:=⟨⟩
theorem tw10920245072154548795:True:=⟨⟩
theorem tw13079754963720957803:True:=⟨⟩
theorem tw11665525962725176988:True:=⟨⟩
theorem tw9183714881015882446:True:=⟨⟩
theorem tw13414694544476800544:True:=⟨⟩
theorem tw1234616263578184871:True:=⟨⟩
theorem tw6575235430432316323:True:=⟨⟩
theorem tw6842072263183209018:True:=⟨⟩
theorem tw4495397366768683916:True:=⟨⟩
theorem tw15225179524177831286:True:=⟨⟩
theorem tw5226187267965154506:True:=⟨⟩
theorem tw12117755550695917712:True:=⟨⟩
theorem tw3108104034719489266:True:=⟨⟩
theorem tw2688519261081871932:True:=⟨⟩
theorem tw2129542287358440584:True:=⟨⟩
theorem tw3704455670593633886:True:=⟨⟩
theorem tw12815403347946704738:True:=⟨⟩
theorem tw12842696922946392238:True:=⟨⟩
theorem tw1414568270208802403:True:=⟨⟩
theorem tw12856561016239512214:True:=⟨⟩
theorem tw1434982012805933930:True:=⟨⟩
theorem tw13469281157577769937:True:=⟨⟩
theorem tw13379053548595495620:True:=⟨⟩
theorem tw12969357081919181512:True:=⟨⟩
theorem tw16441576731994582146:True:=⟨⟩
theorem tw11824125323179377859:True:=⟨⟩
theorem tw2761254438833617061:True:=⟨⟩
theorem tw10728730552510218676:True:=⟨⟩
theorem tw14632473406728409661:True:=⟨⟩
theorem tw2483599874537744097:True:=⟨⟩
theorem tw14373827505724538192:True:=⟨⟩
theorem tw15358805518358465459:True:=⟨⟩
theorem tw10635948902279139848:True:=⟨⟩
theorem tw3800521671028712588:True:=⟨⟩
theorem tw12178533214794980872:True:=⟨⟩
theorem tw12257521032090328038:True:=⟨⟩
theorem tw17802007587805382852:True:=⟨⟩
theorem tw7339243355050836284:True:=⟨⟩
theorem tw8785499397088617276:True:=⟨⟩
theorem tw648257738726374611:True:=⟨⟩
theorem tw8700377754523028458:True:=⟨⟩
theorem tw1822544123484765098:True:=⟨⟩
theorem tw9997993466538079660:True:=⟨⟩
theorem tw9853905731179665999:True:=⟨⟩
theorem tw12037960099721548289:True:=⟨⟩
theorem tw18114771829386107968:True:=⟨⟩
theorem tw8275542757173984865:True:=⟨⟩
theorem tw12119584019672146497:True:=⟨⟩
theorem tw7463274191639126511:True:=⟨⟩
theorem tw11113101464598548432:True:=⟨⟩
theorem tw11504316377541859558:True:=⟨⟩
theorem tw3575127079931660506:True:=⟨⟩
theorem tw5748723516855406876:True:=⟨⟩
theorem tw4441543571957454301:True:=⟨⟩
theorem tw5182538636499371689:True:=⟨⟩
theorem tw12900079756113633449:True:=⟨⟩
theorem tw11545340639281907069:True:=⟨⟩
theorem tw13455227156416119340:True:=⟨⟩
theorem tw12676785908101942555:True:=⟨⟩
theorem tw9755259385444135837:True:=⟨⟩
theorem tw1185470699534836594:True:=⟨⟩
theorem tw3290277199817388601:True:=⟨⟩
theorem tw15177108582999959043:True:=⟨⟩
theorem tw1805980914355481882:True:=⟨⟩
theorem tw16094694539373803019:True:=⟨⟩
theorem tw9264988426228767192:True:=⟨⟩
theorem tw1129695501698387477:True:=⟨⟩
theorem tw6674299919170064029:True:=⟨⟩
theorem tw17250898315528126494:True:=⟨⟩
theorem tw5966604792339297592:True:=⟨⟩
theorem tw2709568136488582021:True:=⟨⟩
theorem tw1989424695587075314:True:=⟨⟩
theorem tw17475393375731633269:True:=⟨⟩
theorem tw10561389427706531618:True:=⟨⟩
theorem tw7786038342738240295:True:=⟨⟩
theorem tw2623964942336056387:True:=⟨⟩
theorem tw14571400443260328549:True:=⟨⟩
theorem tw11003481108213449422:True:=⟨⟩
theorem tw923985218248055731:True:=⟨⟩
theorem tw1335913523611896385:True:=⟨⟩
theorem tw10985102956094105232:True:=⟨⟩
theorem tw9885381680065437491:True:=⟨⟩
theorem tw9532360240857823953:True:=⟨⟩
theorem tw5529023314063515466:True:=⟨⟩
theorem tw17120980950308069890:True:=⟨⟩
theorem tw13731259882451282554:True:=⟨⟩
theorem tw5740777266650982495:True:=⟨⟩
theorem tw9097950292897681138:True:=⟨⟩
theorem tw14052370629200563495:True:=⟨⟩
theorem tw6869623503101837549:True:=⟨⟩
theorem tw5860226459236213366:True:=⟨⟩
theorem tw295392988395591922:True:=⟨⟩
theorem tw17645718388579227252:True:=⟨⟩
theorem tw18281944544714095799:True:=⟨⟩
theorem tw13308109158661003753:True:=⟨⟩
theorem tw3703622462607646764:True:=⟨⟩
theorem tw3608606554282528105:True:=⟨⟩
theorem tw15320180877964381340:True:=⟨⟩
theorem tw2856183755346512868:True:=⟨⟩
theorem tw5516407965695444008:True:=⟨⟩
theorem tw6670690153314371946:True:=⟨⟩
theorem tw10874400219192954762:True:=⟨⟩
theorem tw16090031546554955709:True:=⟨⟩
theorem tw9644789397264318680:True:=⟨⟩
theorem tw10690492523874778842:True:=⟨⟩
theorem tw839078253960962174:True:=⟨⟩
theorem tw16481813342907217619:True:=⟨⟩
theorem tw13485771039370454407:True:=⟨⟩
theorem tw5314311812921567068:True:=⟨⟩
theorem tw12299185206988005946:True:=⟨⟩
theorem tw3983292396116294954:True:=⟨⟩
theorem tw6244941722791950314:True:=⟨⟩
theorem tw12654534337330856365:True:=⟨⟩
theorem tw483889983951869634:True:=⟨⟩
theorem tw6368751535953805709:True:=⟨⟩
theorem tw11825138448304107546:True:=⟨⟩
theorem tw18385867246728335546:True:=⟨⟩
theorem tw1152199664231331171:True:=⟨⟩
theorem tw3579576821868352241:True:=⟨⟩
theorem tw14813462554631956254:True:=⟨⟩
theorem tw14928032310542746812:True:=⟨⟩
theorem tw4572565541249868669:True:=⟨⟩
theorem tw6785662846931254620:True:=⟨⟩
theorem tw15046041042925546272:True:=⟨⟩
theorem tw15546502176248975680:True:=⟨⟩
theorem tw13984839246118355175:True:=⟨⟩
theorem tw13190475761937074787:True:=⟨⟩
theorem tw4488155480774645243:True:=⟨⟩
theorem tw14695358258977826346:True:=⟨⟩
theorem tw7592259785843714358:True:=⟨⟩
theorem tw2449254641946359375:True:=⟨⟩
theorem tw6922977600835085467:True:=⟨⟩
theorem tw15662237538244253875:True:=⟨⟩
theorem tw18127197512032516500:True:=⟨⟩
theorem tw10237392076039445328:True:=⟨⟩
theorem tw14937843508646077102:True:=⟨⟩
theorem tw6863703490874026481:True:=⟨⟩
theorem tw14855572748318477009:True:=⟨⟩
theorem tw16090114367995890260:True:=⟨⟩
theorem tw12987601547424147557:True:=⟨⟩
theorem tw4808834613399489769:True:=⟨⟩
theorem tw4234692813115628126:True:=⟨⟩
theorem tw13161788644691850610:True:=⟨⟩
theorem tw4718006927512407790:True:=⟨⟩
theorem tw9185341117208281498:True:=⟨⟩
theorem tw3934218020769664591:True:=⟨⟩
theorem tw12138526901116473905:True:=⟨⟩
theorem tw12756511466550352954:True:=⟨⟩
theorem tw16086926767439742634:True:=⟨⟩
theorem tw6262020806504140076:True:=⟨⟩
theorem tw17090874394721043940:True:=⟨⟩
theorem tw14373983682061651179:True:=⟨⟩
theorem tw14844274479315351807:True:=⟨⟩
theorem tw14387932315371828964:True:=⟨⟩
theorem tw17050978386063757027:True:=⟨⟩
theorem tw16167876837809938035:True:=⟨⟩
theorem tw8237071817201825029:True:=⟨⟩
theorem tw12313922210377105237:True:=⟨⟩
theorem tw17956665847756968590:True:=⟨⟩
theorem tw1060965422422499034:True:=⟨⟩
theorem tw12124356836953202979:True:=⟨⟩
theorem tw10706052210797607531:True:=⟨⟩
theorem tw6862277288354793663:True:=⟨⟩
theorem tw15811867192551557270:True:=⟨⟩
theorem tw11765973791508454116:True:=⟨⟩
theorem tw1994759739607911849:True:=⟨⟩
theorem tw17927662940710670027:True:=⟨⟩
theorem tw12624303302867517468:True:=⟨⟩
end PySem.W.Fast
open PySem PySem.W PyProof.Rows
set_option maxRecDepth 100000 in
set_option maxHeartbeats 0 in
theorem PySem.Challenge.cw_strokegrow_k50_asked_in_any_order_holds : PySem.Challenge.rw_strokegrow_k50_asked_in_any_order.Holds := by
 w_on;o_law;k_head;(case hw=>w_witness2)
 k_fill
 refine L2.As (l:=PySem.Challenge.rw_strokegrow_k50_asked_in_any_order) (n:=63) (k:=13) (x:="_law_script") (CX:=Pf.CX) (sp:=fun K=>Pf.Ci K) rfl (by decide) rfl ⟨rfl,by decide,by decide⟩ (fun w h Y=>PySem.W.kIn_of Y) ?F ?S ?C
 case F=>
   intro w mg fa h KX G K1;have T:∃ t,Pf.Txt (L2.QH KX) mg t∧t.kP=fa:=by
     dsimp only [L2.QH];obtain⟨t,T,e⟩:∃ t,Pf.Txt _ mg t∧t.kP=_:=by
       refine' Pf.Jf KX G ?_ ?_ ?_ ?_ ?_ ?_ ?_ ?_ ?_ ?_ ?_ ?_ ?_ ?_ ?_ ?_ ?_ ?_ ?_ ?_ ?_ ?_ ?_ ?_ ?_ ?_ ?_ ?_ ?_ ?_ ?_ ?_ ?_ ?_ ?_ ?_ ?_ ?_ ?_ ?_ ?_ ?_ ?_ ?_ ?_ ?_ ?_ ?_ ?_ ?_ ?_ ?_ ?_ ?_ ?_ ?_ ?_ ?_ ?_ ?_ ?_ ?_ ?_ ?_ ?_ ?_ ?_ ?_ ?_ ?_ ?_ ?_ ?_ ?_ ?_ ?_ ?_ ?_ ?_ ?_ ?_ ?_ ?_ ?_ ?_ ?_ ?_ ?_ ?_ ?_
       any_goals first
        | exact Pf.Ja (by k_is) (by k_is) (by k_is) (by k_is) (by refine fun _ _ _ _ _ _=>?_;(repeat refine wf fun _=>?_);exact ky rfl)
        | exact Pf.IY (by k_is) (by k_is) (by k_is) (by refine fun _ _ _ _ _ _=>?_;(repeat refine wf fun _=>?_);exact ky rfl)
        | exact Pf.IZ (by k_is) (by k_is) (by k_is) (by refine fun _ _ _ _ _ _=>?_;(repeat refine wf fun _=>?_);exact ky rfl)
        | exact Pf.Jb (by k_is) (by k_is) (by k_is) (by k_is) (by k_is) (by k_is)
        | exact L2.Meth.mk (by k_is) (by k_is) (by k_is)
        | exact L2.Mk.mk (by k_is) (by k_is) (by k_is) (by k_is)
        | exact Sg.HD.mk (by k_is) (by k_is) (by k_is)
        | k_is
        | kernel_rfl
     refine⟨t,T,?_⟩;have e0:=K1.symm.trans (T.g T.vc.a);cases e0;rfl
   obtain⟨t,T,e⟩:=T;subst e;refine' ⟨t.pW,?b,fun base kb nb=>Pf.JQ T⟩;exact Pf.Jg T
 case S=>exact fun K H a ns hl hO hS=>Pf.Jx hl hS
 case C=>exact fun H s e s' h=>h
